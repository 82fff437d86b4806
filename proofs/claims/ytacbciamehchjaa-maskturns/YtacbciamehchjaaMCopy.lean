
/- Copies of masks, and rows appended to rows: contracts of layer 2 and of its answers. -/
import Derived.Test.YtacbciamehchjaaMFill
import Derived.Test.YtacbciamehchjaaPushL
import Derived.Test.YtacbciamehchjaaClone
namespace Go.Proofs.Ytacbciamehchjaa
open Go.RowKit

theorem pushMs_after {V w' : World} {base : Nat} {v : Value} {hs hs2 : List RH} (hown : OwnM V base v hs hs.length) (hsl : ∀ (i : Nat) (h : RH), hs2[i]? = some h → Sl V h.1 h.2.1 ∧ ∀ ad, h.1 = some ad → ad.block < V.heap.size ∧ v.ownBlock ≠ some ad.block)
    {g cap : Nat} (h1 : w'.ownsRow base 22 1 (.slice (some ⟨g, 0, none⟩) (hs.length + hs2.length) cap) (hs.length + hs2.length) (hs.map hdv ++ hs2.map hdv)) (h2 : V.grownBy w' v.ownBlock) (h3 : v.ownBlock = some g ∨ g = V.heap.size) :
    OwnM w' base (.slice (some ⟨g, 0, none⟩) (hs.length + hs2.length) cap) (hs ++ hs2) (hs ++ hs2).length := by
  have far : ∀ b, b < V.heap.size → v.ownBlock ≠ some b → w'.heap[b]? = V.heap[b]? := fun b hb hn => h2.block b hb (fun e => hn e.symm)
  have hne : ∀ b, b < V.heap.size → v.ownBlock ≠ some b → g ≠ b := by
    intro b hb hn e
    rcases h3 with h3 | h3
    · exact hn (by rw [h3, e])
    · omega
  have hsz : V.heap.size ≤ w'.heap.size := h2.size
  have get : ∀ (i : Nat) (x : RH), (hs ++ hs2)[i]? = some x → Sl V x.1 x.2.1 ∧ ∀ ad, x.1 = some ad → ad.block < V.heap.size ∧ v.ownBlock ≠ some ad.block := by
    intro i x e
    rcases Nat.lt_or_ge i hs.length with hi | hi
    · rw [List.getElem?_append_left hi] at e
      exact ⟨hown.rows i x e (by omega), hown.apart i x e (by omega)⟩
    · rw [List.getElem?_append_right hi] at e
      exact hsl _ x e
  refine ⟨?_, fun i x e _ k hk => ?_, fun i x e _ ad had => ?_⟩
  · rw [List.length_append, List.map_append]; exact h1
  · obtain ⟨s1, s2⟩ := get i x e
    obtain ⟨b, off, hb, hc⟩ := s1 k hk
    obtain ⟨l1, l2⟩ := s2 _ hb
    exact ⟨b, off, hb, (World.cell?_of_block (a := ⟨b, off + k, none⟩) (far b l1 l2)).trans hc⟩
  · have hx := (get i x e).2 ad had
    refine ⟨by omega, ?_⟩
    have := hne ad.block hx.1 hx.2
    simp only [Value.ownBlock, Option.some.injEq, ne_eq]
    exact this
/-- Rows appended to a slice of rows of the call's own. -/
theorem wpList_pushMs {ops : Array Oper} {rest : List Oper} {o : Oper} {act : Act} {Q : Exit → Act → World → Prop} (hgd : o.guard = none) (s x : Operand)
    (ho : o.op = .call { callee := .builtin .append, args := #[s, x], argTypes := #[39, 39] }) (base : Nat) (v : Value) (hs hs2 : List RH) (b2 o2 c2 : Nat) (V : World)
    (hv : act.eval s = v) (hx : act.eval x = .slice (some ⟨b2, o2, none⟩) hs2.length c2) (hcells : ∀ (j : Nat) (h : RH), hs2[j]? = some h → V.cell? ⟨b2, o2 + j, none⟩ = some (hdv h)) (hown : OwnM V base v hs hs.length)
    (hsl : ∀ (i : Nat) (h : RH), hs2[i]? = some h → Sl V h.1 h.2.1 ∧ ∀ ad, h.1 = some ad → ad.block < V.heap.size ∧ v.ownBlock ≠ some ad.block) (hl : hs.length + hs2.length ≤ 1000) (h1 : 1 ≤ hs2.length) (hbase : base ≤ V.heap.size)
    (h : ∀ v' w', OwnM w' base v' (hs ++ hs2) (hs ++ hs2).length → Below base V w' → wpList Try.prog ops Q rest (act.put o.dst v') w') : wpList Try.prog ops Q (o :: rest) act V := by
  obtain ⟨i0, hi, hz0, hz1, hz2⟩ := info_parts Try.infoRow
  refine wpList_append_lies V hgd s x 39 ho base 22 i0 (.slice none 0 0) 1 24 Try.underlying39 hi hz0 hz1 hz2 rfl (by decide) v hs.length (hs.map hdv) hv hown.own ⟨b2, o2, none⟩ hs2.length c2 (hs2.map hdv) hx (by simp) ?_ ?_ (by omega) (by unfold maxLen; omega) (by omega) hbase V.heap.size rfl ?_
  · intro j u hj
    obtain ⟨x, hx, rfl⟩ : ∃ x, hs2[j]? = some x ∧ hdv x = u := by simpa using hj
    rw [addr_add]
    exact hcells j x hx
  · intro u hu; obtain ⟨x, _, rfl⟩ := List.mem_map.1 hu; rfl
  · intro g cap w' h1 h2 h3 _
    refine h _ w' (pushMs_after hown hsl h1 h2 h3) ?_
    exact (Below.refl base V).grown h2 hbase (fun k e => (World.ownsRow.lt hown.own k e).1)
/-- No row of hs lies below B. -/
def RowsHigh (hs : List RH) (B : Nat) : Prop := ∀ (i : Nat) (h : RH), hs[i]? = some h → ∀ ad, h.1 = some ad → B ≤ ad.block
theorem RowsHigh.empties (n B : Nat) : RowsHigh (List.replicate n (none, [], 0)) B := fun i h e ad ha => by
  obtain rfl := (List.mem_replicate.1 (List.mem_of_getElem? e)).2
  cases ha
theorem RowsHigh.set {hs : List RH} {B : Nat} (h : RowsHigh hs B) (k : Nat) {x : RH} (hx : ∀ ad, x.1 = some ad → B ≤ ad.block) : RowsHigh (hs.set k x) B := by
  intro i y e ad ha
  by_cases hik : i = k
  · subst hik
    have hlt : i < hs.length := by have := (List.getElem?_eq_some_iff.1 e).1; simpa using this
    rw [List.getElem?_set_self hlt] at e
    obtain rfl : x = y := by simpa using e
    exact hx ad ha
  · rw [List.getElem?_set_ne (Ne.symm hik)] at e
    exact h i y e ad ha
theorem RowsHigh.snoc {hs : List RH} {B : Nat} (h : RowsHigh hs B) {x : RH} (hx : ∀ ad, x.1 = some ad → B ≤ ad.block) : RowsHigh (hs ++ [x]) B := by
  intro i y e ad ha
  rcases Nat.lt_trichotomy i hs.length with hi | hi | hi
  · rw [List.getElem?_append_left hi] at e; exact h i y e ad ha
  · subst hi; simp at e; subst e; exact hx ad ha
  · have := (List.getElem?_eq_some_iff.1 e).1; simp at this; omega
/-- What a function that copies a mask returns. -/
def CPost (m : List (List Int)) (w : World) (e : Ending) (w' : World) : Prop := Below w.heap.size w w' ∧ ∃ v hs, e = .returned v ∧ OwnM w' w.heap.size v hs hs.length ∧ RowsHigh hs w.heap.size ∧ rowsOf hs = m ∧ (m = [] → v = .slice none 0 0)
theorem range_rows (m : List (List Int)) : (List.range m.length).map (fun i => m[i]?.getD []) = m := by
  refine List.ext_getElem (by simp) fun i h1 h2 => ?_
  simp [h2]
set_option maxRecDepth 100000 in
set_option maxHeartbeats 400000 in
theorem mcopied_any (a : Option Addr) (m : List (List Int)) (cap : Nat) (w : World) (h1 : 1 ≤ m.length) (h6 : m.length ≤ 6) (hr : ∀ r ∈ m, 1 ≤ r.length ∧ r.length ≤ 10) (hs : Ms w a m) :
    Calls Try.prog 53 #[.slice a m.length cap] w (CPost m w) := by
  have HS := Lib.hid hs; clear hs
  have HR : Hid (∀ (i : Nat) (r : List Int), m[i]? = some r → 1 ≤ r.length ∧ r.length ≤ 10) := fun i r e => hr r (List.mem_of_getElem? e)
  clear hr
  obtain ⟨i0, hi, hz0, hz1, hz2⟩ := info_parts Try.infoRow
  go_enter Try.func53, Try.ntmps53
  go_wp2_with (with_reducible refine wpList_make_full _ rfl (.tmp 7) (.tmp 7) 39 rfl w.heap.size 22 i0 (.slice none 0 0) 1 Try.underlying39 hi hz0 hz1 .i64 .i64 (m.length : Int) (m.length : Int) m.length rfl rfl rfl rfl (by rw [hz2]; omega) (by unfold maxLen; omega) (Nat.le_refl _) ?_)
  rotate_left
  intro w4 hown hgrow
  have HB4 : Hid (Below w.heap.size w w4) := (Below.refl _ _).grown hgrow (Nat.le_refl _) (fun k e => by cases e)
  have HO4 : Hid (OwnM w4 w.heap.size (.slice (some ⟨w.heap.size, 0, none⟩) m.length m.length) (List.replicate m.length (none, [], 0)) (List.replicate m.length ((none, [], 0) : RH)).length) := OwnM.made _ (by rw [Nat.mul_one]; exact hown)
  clear hown hgrow
  go_wp2
  go_loopw [11] (fun i wr => ∃ (k : Nat) (hs : List RH), k ≤ m.length ∧ i = .int .i64 k ∧ OwnM wr w.heap.size (.slice (some ⟨w.heap.size, 0, none⟩) m.length m.length) hs hs.length ∧ FillM (fun i => m[i]?.getD []) m.length k hs ∧ RowsHigh hs w.heap.size ∧ Below w.heap.size w wr) (fun i _ => m.length - (intOf i).toNat)
  case atStart => exact ⟨0, _, Nat.zero_le _, rfl, HO4.out, FillM.start _ _, RowsHigh.empties _ _, HB4.out⟩
  case round =>
    obtain ⟨k, hs, hk, rfl, hO, hF, hH, hB⟩ := hrel
    have HH := Lib.hid hH; clear hH
    have HO := Lib.hid hO; clear hO
    have HF := Lib.hid hF; clear hF
    have HB := Lib.hid hB; clear hB
    by_cases hlt : k < m.length
    · obtain ⟨b1, o1, ai, r, ci, rfl, hcell, hsl, HX⟩ := (HS.out.below HB.out).at hlt
      obtain ⟨hr1, hr10⟩ := HR.out k r HX.out
      obtain ⟨b2, o2, x0, rfl, _, _⟩ := hsl.at (show 0 < r.length by omega)
      have HSL := Lib.hid hsl; clear hsl
      obtain ⟨hcz, hfz⟩ := HO.out.cell (HF.out.todo k (Nat.le_refl _) hlt)
      have HGS := Lib.hid HO.out.lt
      go_wp2_with fail
      refine (clone_any b2 o2 r ci _ hr1 (by omega) HSL.out).mono ?_
      rintro e w5 ⟨gr, cr, rfl, ho5, hb5⟩
      have hc5 := (hb5.cell (p := ⟨w.heap.size, k, none⟩) HGS.out.1).trans hcz
      have hf5 := (hb5.frozen (p := ⟨w.heap.size, k, none⟩) HGS.out.1).trans hfz
      clear hcz hfz hcell
      have hgne : Hid (∀ ad, (some ⟨gr, 0, none⟩ : Option Addr) = some ad → ad.block < w5.heap.size ∧ ad.block ≠ w.heap.size) := fun ad e => by
        have := ho5.lt
        have := HGS.out
        cases e
        exact ⟨by show gr < _; omega, by show gr ≠ _; omega⟩
      have HPUT := Lib.hid ((((HO.out.skip (Nat.le_refl _) k).below hb5)).put (hs.set k (some ⟨gr, 0, none⟩, r, cr)).length cr ho5.sl hgne.out)
      have HFN := Lib.hid (HF.out.next hlt (a := some ⟨gr, 0, none⟩) (r := r) (c := cr) (by rw [HX.out]; rfl))
      have HB5 : Hid (Below w.heap.size w w5) := Below.next HB.out hb5 (Nat.le_refl _)
      have HHN := Lib.hid (HH.out.set k (x := (some ⟨gr, 0, none⟩, r, cr)) (fun ad e => by cases e; have := ho5.lt; have := HB.out.size; show w.heap.size ≤ gr; omega))
      clear hb5 ho5
      go_wp2
      go_roundw
      case rel => exact ⟨k + 1, _, by omega, by go_num, HPUT.out, HFN.out, HHN.out, HB5.out.setCell (Nat.le_refl _) _⟩
      case measure => simp [intOf]; omega
    · obtain rfl : k = m.length := by omega
      have HZ := Lib.hid HF.out.all
      go_wp2
      go_ret
      exact ⟨HB.out, _, hs, rfl, HO.out, HH.out, by rw [HZ.out, range_rows], fun e => by rw [e] at h1; simp at h1⟩
theorem own_empty' (w : World) (B : Nat) (hB : B ≤ w.heap.size) : OwnI (w.alloc (.cells #[] 3)) B (.slice (some ⟨w.heap.size, 0, none⟩) 0 0) [] := by
  refine ⟨by simp, .inr ⟨w.heap.size, 0, #[], rfl, hB, ?_, by simp, by unfold maxLen; omega, by simp, by simp⟩⟩
  show (w.heap.push (.cells #[] 3))[w.heap.size]? = _
  rw [Array.getElem?_push_size]
theorem OwnM.apart_of' {w : World} {base : Nat} {v : Value} {hs : List RH} {sk : Nat} (h : OwnM w base v hs sk) {a : Option Addr} {B : Nat} (hB : w.heap.size ≤ B) (ha : ∀ ad, a = some ad → B ≤ ad.block) : ∀ ad, a = some ad → v.ownBlock ≠ some ad.block := by
  intro ad e hv
  have := (World.ownsRow.lt h.own ad.block hv).2
  have := ha ad e
  omega
end Go.Proofs.Ytacbciamehchjaa
