
/- The Walsh transform in place: what pic's transformed computes, level by level: a contract. -/
import Derived.Test.YtacbciamehchjaaPairs
import Derived.Test.YtacbciamehchjaaRound
import Derived.Test.YtacbciamehchjaaOwnW
import Derived.RangeFuncBox
namespace Go.Proofs.Ytacbciamehchjaa
open Go.RowKit Go.Shelf
attribute [local go_sem] Oper.semAt_some

/-- One pair of a level: the sum and the difference. -/
def bfly (ys : List Int) (p : Nat × Nat) : List Int := (ys.set p.1 (IntKind.i64.wrap (ys[p.1]?.getD 0 + ys[p.2]?.getD 0))).set p.2 (IntKind.i64.wrap (ys[p.1]?.getD 0 - ys[p.2]?.getD 0))
def bflies {N : Nat} (ys : List Int) (ps : List (PN N)) : List Int := ps.foldl (fun ys p => bfly ys p.1) ys
def level (N bit : Nat) (ys : List Int) : List Int := bflies ys (pairsTo N bit N)
/-- The list behind k levels. -/
def walshTo (xs : List Int) : Nat → List Int
  | 0 => xs
  | k + 1 => level xs.length (2 ^ k) (walshTo xs k)
theorem bfly_length (ys : List Int) (p : Nat × Nat) : (bfly ys p).length = ys.length := by simp [bfly]
theorem bflies_length {N : Nat} (ps : List (PN N)) : ∀ ys : List Int, (bflies ys ps).length = ys.length := by
  induction ps with
  | nil => intro ys; rfl
  | cons p ps ih => intro ys; show (bflies (bfly ys p.1) ps).length = _; rw [ih, bfly_length]
theorem bflies_snoc {N : Nat} (ys : List Int) (ps : List (PN N)) (p : PN N) : bflies ys (ps ++ [p]) = bfly (bflies ys ps) p.1 := by simp [bflies]
theorem walshTo_length (xs : List Int) (k : Nat) : (walshTo xs k).length = xs.length := by
  induction k with
  | zero => rfl
  | succ k ih => show (bflies _ _).length = _; rw [bflies_length, ih]

theorem OwnI.putObj {w : World} {base : Nat} {v : Value} {xs : List Int} (h : OwnI w base v xs) {l : Nat} {o : Obj} (o' : Obj) (hl : w.heap[l]? = some o) (ho : o.isCells = false) : OwnI (w.putObj l o') base v xs := ownsRow_putObj h o' hl ho
/-- The box's cell; the two elements' cells as long as the first store has not come up. -/
def swapS (B g i j : Nat) (bv yi yj : Value) (s : Nat) (L : Array Bool) (W : World) : Prop :=
  W.cell? ⟨B, 0, none⟩ = some bv ∧ (L.getD s false = false → W.cell? ⟨g, i, none⟩ = some yi ∧ W.cell? ⟨g, j, none⟩ = some yj)
theorem swapS_set {B g i j : Nat} {bv yi yj : Value} {s k : Nat} (h : k ≠ s) (L : Array Bool) (W : World) : swapS B g i j bv yi yj s (L.setIfInBounds k true) W ↔ swapS B g i j bv yi yj s L W := by
  unfold swapS; rw [getD_set_ne false h]

def mark (D : Nat) : Deferred := { target := .collected D, args := #[] }
/-- The marks' blocks are there, as they were laid, and beyond a bound. -/
def Marks (B : Nat) (ms : List Nat) (W : World) : Prop := ms.Nodup ∧ ∀ D, D ∈ ms → B ≤ D ∧ W.heap[D]? = some (.deferred (some []))
theorem Marks.kept {B : Nat} {ms : List Nat} {W W' : World} (h : Marks B ms W) (k : ∀ D, D ∈ ms → W'.heap[D]? = W.heap[D]?) : Marks B ms W' := ⟨h.1, fun D hD => ⟨(h.2 D hD).1, (k D hD).trans (h.2 D hD).2⟩⟩
theorem Marks.others {B : Nat} {ms : List Nat} {W W' : World} (h : Marks B ms W) (k : KeepsOthers W W') : Marks B ms W' := ⟨h.1, fun D hD => ⟨(h.2 D hD).1, k.same D _ (h.2 D hD).2 rfl⟩⟩
theorem Marks.lt {B : Nat} {ms : List Nat} {W : World} (h : Marks B ms W) {D : Nat} (hD : D ∈ ms) : D < W.heap.size := (Array.getElem?_eq_some_iff.1 (h.2 D hD).2).1
/-- At the return each mark's block is shut. -/
theorem leaves_marks {F : Fence} {n : Nat} {P : Program} {fn : Func} {tmps : Array Value} {R : Ending → World → Prop} {B : Nat} (p : World → Prop)
    (hp : ∀ W D, B ≤ D → W.heap[D]? = some (.deferred (some [])) → p W → p (W.putObj D (.deferred none))) (hR : ∀ W, p W → LeavesIn F n P fn tmps R [] .returning W) :
    ∀ (ms : List Nat) (W : World), Marks B ms W → p W → LeavesInM F n P fn tmps R (ms.map mark) .returning W := by
  intro ms
  induction ms with
  | nil => intro W _ h; exact hR W h
  | cons D ms ih =>
    intro W hM h
    have hD := hM.2 D (by simp)
    refine ⟨by simp, .inl ⟨D, W.putObj D (.deferred none), rfl, run_takeDeferred hD.2, ih _ ?_ (hp W D hD.1 hD.2 h)⟩⟩
    have hn := List.nodup_cons.1 hM.1
    exact ⟨hn.2, fun E hE => ⟨(hM.2 E (by simp [hE])).1, (World.putObj_heap_other (fun e => hn.1 (by rw [← e]; exact hE))).trans (hM.2 E (by simp [hE])).2⟩⟩

theorem powB_two {n : Nat} (h : powB n = true) : ∃ p, p ≤ 8 ∧ n = 2 ^ p := by
  simp [powB] at h
  rcases h with (((((((rfl | rfl) | rfl) | rfl) | rfl) | rfl) | rfl) | rfl) | rfl
  · exact ⟨0, by omega, rfl⟩
  · exact ⟨1, by omega, rfl⟩
  · exact ⟨2, by omega, rfl⟩
  · exact ⟨3, by omega, rfl⟩
  · exact ⟨4, by omega, rfl⟩
  · exact ⟨5, by omega, rfl⟩
  · exact ⟨6, by omega, rfl⟩
  · exact ⟨7, by omega, rfl⟩
  · exact ⟨8, by omega, rfl⟩
theorem or_gt : ∀ k : Nat, k < 256 → ∀ m : Nat, m < 8 → k &&& 2 ^ m = 0 → k < k ||| 2 ^ m := by decide +kernel
theorem pairs_ok {n k0 : Nat} (h : powB n = true) (hlt : 2 ^ k0 < n) : ∀ k, k < n → k &&& 2 ^ k0 = 0 → k < k ||| 2 ^ k0 ∧ k ||| 2 ^ k0 < n := by
  intro k hk hz
  obtain ⟨p, hp, rfl⟩ := powB_two h
  have hkp : k0 < p := (Nat.pow_lt_pow_iff_right (by omega)).1 hlt
  have h8 : 2 ^ p ≤ 2 ^ 8 := Nat.pow_le_pow_right (by omega) hp
  exact ⟨or_gt k (by omega) k0 (by omega) hz, Nat.or_lt_two_pow hk hlt⟩
theorem pow_next {n k0 : Nat} (h : powB n = true) (hlt : 2 ^ k0 < n) : 2 ^ (k0 + 1) ≤ n := by
  obtain ⟨p, hp, rfl⟩ := powB_two h
  exact Nat.pow_le_pow_right (by omega) ((Nat.pow_lt_pow_iff_right (by omega)).1 hlt)
theorem pow_end {n k0 : Nat} (hle : 2 ^ k0 ≤ n) (hn : ¬ 2 ^ k0 < n) : n = 2 ^ k0 := by omega

set_option maxRecDepth 100000 in
set_option maxHeartbeats 2000000 in
theorem transformed_in (b off : Nat) (xs : List Int) (cap : Nat) (w : World) (n : Nat) (hn : 4 ≤ n) (hp : powB xs.length = true) (hs : Sl w (some ⟨b, off, none⟩) xs) :
    CallsIn Fence.wide n Try.prog 55 #[.slice (some ⟨b, off, none⟩) xs.length cap] w fun e w' =>
      ∃ g cap' k, e = .returned (.slice (some ⟨g, 0, none⟩) xs.length cap') ∧ xs.length = 2 ^ k ∧ OwnI w' w.heap.size (.slice (some ⟨g, 0, none⟩) xs.length cap') (walshTo xs k) ∧ Below w.heap.size w w' := by
  have HS := Lib.hid hs; clear hs
  have hl := powB_le hp
  have h1 : 1 ≤ n := by omega
  refine callsIn_of_wp_marks Try.func55 rfl trivial ?_ rfl
  simp only [Try.ntmps55, List.size_toArray, List.length_cons, List.length_nil, Nat.reduceAdd, Nat.reduceSub, Array.replicate_succ, Array.replicate_zero, List.push_toArray, List.append_toArray, List.nil_append, List.cons_append]
  gi_wp2_with (refine ⟨trivial, ?_⟩; gi_at_call 56; refine (callsIn_wide.2 (clone_any b off xs cap w (by omega) (by omega) HS.out)).mono ?_; rintro e w1 ⟨g, cap', rfl, ho, hb⟩; have HO := Lib.hid ho; clear ho; have HB := Lib.hid hb; clear hb)
  have hg1 := HO.out.lt
  refine wpIn_loop (fun a' W => ∃ (k : Nat) (bit : Nat) (ms : List Nat) (u5 u6 u9 u10 u11 u12 u13 u14 u15 u16 u17 u18 u19 u20 u21 u22 u23 u24 u25 u26 u27 u28 u29 u30 u31 u32 u33 u34 u35 u36 u37 u38 u39 u40 u41 u42 u43 u44 : Value), a' = { tmps := #[.slice (some ⟨b, off, none⟩) xs.length cap, undef, .slice none 0 0, .pointer (some ⟨w1.heap.size, 0, none⟩), .int .i64 (bit : Nat), u5, u6, .slice (some ⟨b, off, none⟩) xs.length cap, .slice (some ⟨g, 0, none⟩) xs.length cap', u9, u10, u11, u12, u13, u14, u15, u16, u17, u18, u19, u20, u21, u22, u23, u24, u25, u26, u27, u28, u29, u30, u31, u32, u33, u34, u35, u36, u37, u38, u39, u40, u41, u42, u43, u44, undef], defers := ms.map mark } ∧ bit = 2 ^ k ∧ bit ≤ xs.length ∧ OwnI W w.heap.size (.slice (some ⟨g, 0, none⟩) xs.length cap') (walshTo xs k) ∧ Below w.heap.size w W ∧ W.cell? ⟨w1.heap.size, 0, none⟩ = some (.slice (some ⟨g, 0, none⟩) xs.length cap') ∧ Marks w.heap.size ms W)
    (fun a' _ => 512 - (intOf (a'.tmps.getD 4 undef)).toNat) ?start ?round
  case start =>
    exact ⟨0, 1, [], _, _, _, _, _, _, _, _, _, _, _, _, _, _, _, _, _, _, _, _, _, _, _, _, _, _, _, _, _, _, _, _, _, _, _, _, _, _, rfl, rfl, hl.1, HO.out.below ((Below.refl _ _).alloc (Nat.le_refl _) _), HB.out.trans (((Below.refl _ _).alloc HB.out.size _)), by simp, ⟨List.nodup_nil, fun D hD => by cases hD⟩⟩
  case round =>
    rintro a' W ⟨k, bit, ms, u5, u6, u9, u10, u11, u12, u13, u14, u15, u16, u17, u18, u19, u20, u21, u22, u23, u24, u25, u26, u27, u28, u29, u30, u31, u32, u33, u34, u35, u36, u37, u38, u39, u40, u41, u42, u43, u44, rfl, hbit, hbl, hO, hB, hc, hM⟩
    have HBit := Lib.hid hbit; clear hbit
    have HO := Lib.hid hO; clear hO
    have HB := Lib.hid hB; clear hB
    have HM := Lib.hid hM; clear hM
    have hgW := HO.out.lt
    have hbW := cell_lt hc
    by_cases hlt : bit < xs.length
    · gi_wp2_with (refine ⟨trivial, ?_⟩; gi_at_call 75; refine (callsIn_wide.2 (pairs_any xs.length bit W)).mono ?_; rintro e w2 ⟨rfl, rfl⟩)
      obtain ⟨V0, hV0⟩ : ∃ V0, (W.alloc (.cells #[.int .i64 (xs.length : Nat)] 3)).alloc (.cells #[.int .i64 (bit : Nat)] 3) = V0 := ⟨_, rfl⟩
      have hsz : V0.heap.size = W.heap.size + 2 := by rw [← hV0]; simp
      have hc1 : V0.cell? ⟨W.heap.size, 0, none⟩ = some (.int .i64 xs.length) := by rw [← hV0]; simp
      have hc2 : V0.cell? ⟨W.heap.size + 1, 0, none⟩ = some (.int .i64 bit) := by rw [← hV0]; simp
      have hBV : Below W.heap.size W V0 := by rw [← hV0]; exact ((Below.refl _ _).alloc (Nat.le_refl _) _).alloc (by simp) _
      rw [hV0]
      have hor : ∀ k, k < xs.length → k &&& bit = 0 → k < k ||| bit ∧ k ||| bit < xs.length := by rw [HBit.out]; exact pairs_ok hp (HBit.out ▸ hlt)
      have hI0 : OwnI V0 w.heap.size (.slice (some ⟨g, 0, none⟩) xs.length cap') (walshTo xs k) := HO.out.below hBV
      have hbox := (hBV.cell (p := ⟨w1.heap.size, 0, none⟩) (cell_lt hc)).trans hc
      have hBw : Below w.heap.size w V0 := HB.out.trans (hBV.mono HB.out.size)
      have hMs : Marks w.heap.size ms V0 := HM.out.kept (fun D hD => hBV.block D (HM.out.lt hD))
      refine wpIn_rangeFunc_ownF rfl h1 (gf := 96) (lb := #[.pointer (some ⟨W.heap.size, 0, none⟩), .pointer (some ⟨W.heap.size + 1, 0, none⟩)]) rfl trivial (enters_of Try.func96 (by kernel_rfl) rfl)
        (pairs_stops Fence.wide (n - 1) trivial rfl (by omega) W.heap.size (W.heap.size + 1) xs.length bit (by omega) (by omega) hor V0 hc1 hc2) keepC_t (keepC_b (by omega)) (Below.refl _ _) (fun _ => rfl)
        (fun pre V => OwnI V w.heap.size (.slice (some ⟨g, 0, none⟩) xs.length cap') (bflies (walshTo xs k) pre) ∧ V.cell? ⟨w1.heap.size, 0, none⟩ = some (.slice (some ⟨g, 0, none⟩) xs.length cap') ∧ Below w.heap.size w V ∧ Marks w.heap.size ms V)
        (fun _ _ _ => False) ?hI (fun _ _ _ _ _ hs _ _ => hs) ⟨hI0, hbox, hBw, hMs⟩
        (fun x => { tmps := #[Value.slice (some { block := b, off := off }) xs.length cap, undef, Value.slice none 0 0, Value.pointer (some { block := w1.heap.size, off := 0 }), Value.int IntKind.i64 ↑bit, .int .i64 (x.1.1 : Int), .int .i64 (x.1.2 : Int), Value.slice (some { block := b, off := off }) xs.length cap, Value.slice (some { block := g, off := 0 }) xs.length cap', Value.int IntKind.i64 ↑bit, Value.slice (some { block := g, off := 0 }) xs.length cap', Value.int IntKind.i64 ↑xs.length, Value.bool true, u13, u14, Value.slice (some { block := g, off := 0 }) xs.length cap', Value.int IntKind.i64 ↑xs.length, Value.int IntKind.i64 ↑bit, Value.func (Fn.func 96) #[] #[Value.pointer (some { block := W.heap.size, off := 0 }), Value.pointer (some { block := W.heap.size + 1, off := 0 })], .int .i64 (x.1.1 : Int), .int .i64 (x.1.2 : Int), u21, u22, u23, u24, u25, u26, u27, u28, u29, u30, u31, u32, u33, u34, u35, u36, u37, u38, u39, u40, u41, u42, u43, u44, undef], defers := [] }) ?assign ?body ?done ?stop
      case hI =>
        intro pre A C row hs hg hr
        obtain ⟨q1, q2, q3, q4⟩ := hs
        refine ⟨q1.kept hg ?_, cell_kept q2 hg (fun r e => (hr r e).2), q3.grown hg (by have := q3.size; omega) (fun r e => by have := (hr r e).1; have := HB.out.size; omega), q4.kept (fun D hD => hg.block D (q4.lt hD) (fun e => ?_))⟩
        · right
          intro e
          have := (hr g e.symm).1
          omega
        · have h1 := (hr D e.symm).1
          have h2 := HM.out.lt hD
          omega
      case stop => rintro D c pre V _ _ h _; exact h.elim
      case assign =>
        intro l x V K hK
        gi_wp2
        exact hK
      case body =>
        rintro l pre x V ⟨hO, hbx, hBl, hMk⟩ _
        obtain ⟨⟨i, j⟩, hi, hj⟩ := x
        have hsn := bflies_snoc (walshTo xs k) pre ⟨(i, j), hi, hj⟩
        have hln : (bflies (walshTo xs k) pre).length = xs.length := by rw [bflies_length, walshTo_length]
        dsimp only at hi hj
        obtain ⟨ci, fi⟩ := hO.cell (j := i) (by omega)
        obtain ⟨cj, fj⟩ := hO.cell (j := j) (by omega)
        have hgV := hO.lt
        rw [show bfly (bflies (walshTo xs k) pre) (i, j) = ((bflies (walshTo xs k) pre).set i (IntKind.i64.wrap ((bflies (walshTo xs k) pre)[i]?.getD 0 + (bflies (walshTo xs k) pre)[j]?.getD 0))).set j (IntKind.i64.wrap ((bflies (walshTo xs k) pre)[i]?.getD 0 - (bflies (walshTo xs k) pre)[j]?.getD 0)) from rfl] at hsn
        have HSN := Lib.hid hsn; clear hsn
        generalize (bflies (walshTo xs k) pre)[i]?.getD 0 = yi at ci HSN
        generalize (bflies (walshTo xs k) pre)[j]?.getD 0 = yj at cj HSN
        have H1 := Lib.hid hO; clear hO
        have H2 := Lib.hid hBl; clear hBl
        have H3 := Lib.hid hMk; clear hMk
        clear hbl hc hc1 hc2 hBV hI0 hbox hBw hMs hsz hV0 hln hor
        have hne : ¬ i = j := by omega
        have hne' : ¬ j = i := by omega
        have hil : i < xs.length := by omega
        have hgb : ¬ g = w1.heap.size := by omega
        have hgb' : ¬ w1.heap.size = g := by omega
        gi_wp2
        refine wpIn_region_G_round (S := swapS w1.heap.size g i j (.slice (some ⟨g, 0, none⟩) xs.length cap') (.int .i64 yi) (.int .i64 yj) 23) (by kernel_rfl) (by kernel_rfl) ?hq ⟨hbx, fun _ => ⟨ci, cj⟩⟩ (fun hc hS => ?_)
        case hq => rintro ⟨_, _, h⟩; exact h
        refine wpAnyG_take (i := 0) (oi := ?oi0) (v := ?v0) ?hi0 (by kernel_rfl) (by kernel_rfl) (by kernel_rfl) ?hQ0 (swapS_set (by decide)) hc ?hy0 hS ?rest0
        case hi0 => (simp only [List.getElem?_toArray, List.getElem?_cons_zero]; exact rfl)
        case hQ0 => exact fun _ _ _ h => h
        case hy0 => (refine Or.inl ⟨rfl, ?_⟩; (rintro w ⟨L, _, _, hb, _⟩; go_simp; (try with_reducible rfl)))
        clear hc hS; intro hc hS
        simp only [Act.put, List.setIfInBounds_toArray, List.set_cons_zero, List.set_cons_succ]
        refine wpAnyG_take (i := 1) (oi := ?oi1) (v := ?v1) ?hi1 (by kernel_rfl) (by kernel_rfl) (by kernel_rfl) ?hQ1 (swapS_set (by decide)) hc ?hy1 hS ?rest1
        case hi1 => (simp only [List.getElem?_toArray, List.getElem?_cons_succ, List.getElem?_cons_zero]; exact rfl)
        case hQ1 => exact fun _ _ _ h => h
        case hy1 => (refine Or.inl ⟨rfl, ?_⟩; (intro w _; go_simp; (try with_reducible rfl)))
        clear hc hS; intro hc hS
        simp only [Act.put, List.setIfInBounds_toArray, List.set_cons_zero, List.set_cons_succ]
        refine wpAnyG_take (i := 2) (oi := ?oi2) (v := ?v2) ?hi2 (by kernel_rfl) (by kernel_rfl) (by kernel_rfl) ?hQ2 (swapS_set (by decide)) hc ?hy2 hS ?rest2
        case hi2 => (simp only [List.getElem?_toArray, List.getElem?_cons_succ, List.getElem?_cons_zero]; exact rfl)
        case hQ2 => exact fun _ _ _ h => h
        case hy2 => (refine Or.inl ⟨rfl, ?_⟩; (rintro w ⟨L, _, _, hb, _⟩; go_simp; (try with_reducible rfl)))
        clear hc hS; intro hc hS
        simp only [Act.put, List.setIfInBounds_toArray, List.set_cons_zero, List.set_cons_succ]
        refine wpAnyG_take (i := 3) (oi := ?oi3) (v := ?v3) ?hi3 (by kernel_rfl) (by kernel_rfl) (by kernel_rfl) ?hQ3 (swapS_set (by decide)) hc ?hy3 hS ?rest3
        case hi3 => (simp only [List.getElem?_toArray, List.getElem?_cons_succ, List.getElem?_cons_zero]; exact rfl)
        case hQ3 => exact fun _ _ _ h => h
        case hy3 => (refine Or.inl ⟨rfl, ?_⟩; (intro w _; go_simp; (try with_reducible rfl)))
        clear hc hS; intro hc hS
        simp only [Act.put, List.setIfInBounds_toArray, List.set_cons_zero, List.set_cons_succ]
        refine wpAnyG_take (i := 4) (oi := ?oi4) (v := ?v4) ?hi4 (by kernel_rfl) (by kernel_rfl) (by kernel_rfl) ?hQ4 (swapS_set (by decide)) hc ?hy4 hS ?rest4
        case hi4 => (simp only [List.getElem?_toArray, List.getElem?_cons_succ, List.getElem?_cons_zero]; exact rfl)
        case hQ4 => exact fun _ _ _ h => h
        case hy4 => (refine Or.inl ⟨rfl, ?_⟩; (rintro w ⟨L, _, _, hb, _⟩; go_simp; (try with_reducible rfl)))
        clear hc hS; intro hc hS
        simp only [Act.put, List.setIfInBounds_toArray, List.set_cons_zero, List.set_cons_succ]
        refine wpAnyG_take (i := 5) (oi := ?oi5) (v := ?v5) ?hi5 (by kernel_rfl) (by kernel_rfl) (by kernel_rfl) ?hQ5 (swapS_set (by decide)) hc ?hy5 hS ?rest5
        case hi5 => (simp only [List.getElem?_toArray, List.getElem?_cons_succ, List.getElem?_cons_zero]; exact rfl)
        case hQ5 => exact fun _ _ _ h => h
        case hy5 => (refine Or.inl ⟨rfl, ?_⟩; (intro w _; go_simp; (try with_reducible rfl)))
        clear hc hS; intro hc hS
        simp only [Act.put, List.setIfInBounds_toArray, List.set_cons_zero, List.set_cons_succ]
        refine wpAnyG_take (i := 6) (oi := ?oi6) (v := ?v6) ?hi6 (by kernel_rfl) (by kernel_rfl) (by kernel_rfl) ?hQ6 (swapS_set (by decide)) hc ?hy6 hS ?rest6
        case hi6 => (simp only [List.getElem?_toArray, List.getElem?_cons_succ, List.getElem?_cons_zero]; exact rfl)
        case hQ6 => exact fun _ _ _ h => h
        case hy6 => (refine Or.inl ⟨rfl, ?_⟩; (intro w _; go_simp; (try with_reducible rfl)))
        clear hc hS; intro hc hS
        simp only [Act.put, List.setIfInBounds_toArray, List.set_cons_zero, List.set_cons_succ]
        refine wpAnyG_take (i := 7) (oi := ?oi7) (v := ?v7) ?hi7 (by kernel_rfl) (by kernel_rfl) (by kernel_rfl) ?hQ7 (swapS_set (by decide)) hc ?hy7 hS ?rest7
        case hi7 => (simp only [List.getElem?_toArray, List.getElem?_cons_succ, List.getElem?_cons_zero]; exact rfl)
        case hQ7 => exact fun _ _ _ h => h
        case hy7 => (refine Or.inl ⟨rfl, ?_⟩; (rintro w ⟨L, hsd, hL, _, hcl⟩; obtain ⟨c1, c2⟩ := hcl (hsd.not (i := 7) (by kernel_rfl) hL); clear hcl; go_simp; (try with_reducible rfl)))
        clear hc hS; intro hc hS
        simp only [Act.put, List.setIfInBounds_toArray, List.set_cons_zero, List.set_cons_succ]
        refine wpAnyG_take (i := 8) (oi := ?oi8) (v := ?v8) ?hi8 (by kernel_rfl) (by kernel_rfl) (by kernel_rfl) ?hQ8 (swapS_set (by decide)) hc ?hy8 hS ?rest8
        case hi8 => (simp only [List.getElem?_toArray, List.getElem?_cons_succ, List.getElem?_cons_zero]; exact rfl)
        case hQ8 => exact fun _ _ _ h => h
        case hy8 => (refine Or.inl ⟨rfl, ?_⟩; (rintro w ⟨L, _, _, hb, _⟩; go_simp; (try with_reducible rfl)))
        clear hc hS; intro hc hS
        simp only [Act.put, List.setIfInBounds_toArray, List.set_cons_zero, List.set_cons_succ]
        refine wpAnyG_take (i := 9) (oi := ?oi9) (v := ?v9) ?hi9 (by kernel_rfl) (by kernel_rfl) (by kernel_rfl) ?hQ9 (swapS_set (by decide)) hc ?hy9 hS ?rest9
        case hi9 => (simp only [List.getElem?_toArray, List.getElem?_cons_succ, List.getElem?_cons_zero]; exact rfl)
        case hQ9 => exact fun _ _ _ h => h
        case hy9 => (refine Or.inl ⟨rfl, ?_⟩; (intro w _; go_simp; (try with_reducible rfl)))
        clear hc hS; intro hc hS
        simp only [Act.put, List.setIfInBounds_toArray, List.set_cons_zero, List.set_cons_succ]
        refine wpAnyG_take (i := 10) (oi := ?oi10) (v := ?v10) ?hi10 (by kernel_rfl) (by kernel_rfl) (by kernel_rfl) ?hQ10 (swapS_set (by decide)) hc ?hy10 hS ?rest10
        case hi10 => (simp only [List.getElem?_toArray, List.getElem?_cons_succ, List.getElem?_cons_zero]; exact rfl)
        case hQ10 => exact fun _ _ _ h => h
        case hy10 => (refine Or.inl ⟨rfl, ?_⟩; (intro w _; go_simp; (try with_reducible rfl)))
        clear hc hS; intro hc hS
        simp only [Act.put, List.setIfInBounds_toArray, List.set_cons_zero, List.set_cons_succ]
        refine wpAnyG_take (i := 11) (oi := ?oi11) (v := ?v11) ?hi11 (by kernel_rfl) (by kernel_rfl) (by kernel_rfl) ?hQ11 (swapS_set (by decide)) hc ?hy11 hS ?rest11
        case hi11 => (simp only [List.getElem?_toArray, List.getElem?_cons_succ, List.getElem?_cons_zero]; exact rfl)
        case hQ11 => exact fun _ _ _ h => h
        case hy11 => (refine Or.inl ⟨rfl, ?_⟩; (rintro w ⟨L, hsd, hL, _, hcl⟩; obtain ⟨c1, c2⟩ := hcl (hsd.not (i := 11) (by kernel_rfl) hL); clear hcl; go_simp; (try with_reducible rfl)))
        clear hc hS; intro hc hS
        simp only [Act.put, List.setIfInBounds_toArray, List.set_cons_zero, List.set_cons_succ]
        refine wpAnyG_take (i := 12) (oi := ?oi12) (v := ?v12) ?hi12 (by kernel_rfl) (by kernel_rfl) (by kernel_rfl) ?hQ12 (swapS_set (by decide)) hc ?hy12 hS ?rest12
        case hi12 => (simp only [List.getElem?_toArray, List.getElem?_cons_succ, List.getElem?_cons_zero]; exact rfl)
        case hQ12 => exact fun _ _ _ h => h
        case hy12 => (refine Or.inl ⟨rfl, ?_⟩; (intro w _; go_simp; (try with_reducible rfl)))
        clear hc hS; intro hc hS
        simp only [Act.put, List.setIfInBounds_toArray, List.set_cons_zero, List.set_cons_succ]
        refine wpAnyG_take (i := 13) (oi := ?oi13) (v := ?v13) ?hi13 (by kernel_rfl) (by kernel_rfl) (by kernel_rfl) ?hQ13 (swapS_set (by decide)) hc ?hy13 hS ?rest13
        case hi13 => (simp only [List.getElem?_toArray, List.getElem?_cons_succ, List.getElem?_cons_zero]; exact rfl)
        case hQ13 => exact fun _ _ _ h => h
        case hy13 => (refine Or.inl ⟨rfl, ?_⟩; (rintro w ⟨L, _, _, hb, _⟩; go_simp; (try with_reducible rfl)))
        clear hc hS; intro hc hS
        simp only [Act.put, List.setIfInBounds_toArray, List.set_cons_zero, List.set_cons_succ]
        refine wpAnyG_take (i := 14) (oi := ?oi14) (v := ?v14) ?hi14 (by kernel_rfl) (by kernel_rfl) (by kernel_rfl) ?hQ14 (swapS_set (by decide)) hc ?hy14 hS ?rest14
        case hi14 => (simp only [List.getElem?_toArray, List.getElem?_cons_succ, List.getElem?_cons_zero]; exact rfl)
        case hQ14 => exact fun _ _ _ h => h
        case hy14 => (refine Or.inl ⟨rfl, ?_⟩; (intro w _; go_simp; (try with_reducible rfl)))
        clear hc hS; intro hc hS
        simp only [Act.put, List.setIfInBounds_toArray, List.set_cons_zero, List.set_cons_succ]
        refine wpAnyG_take (i := 15) (oi := ?oi15) (v := ?v15) ?hi15 (by kernel_rfl) (by kernel_rfl) (by kernel_rfl) ?hQ15 (swapS_set (by decide)) hc ?hy15 hS ?rest15
        case hi15 => (simp only [List.getElem?_toArray, List.getElem?_cons_succ, List.getElem?_cons_zero]; exact rfl)
        case hQ15 => exact fun _ _ _ h => h
        case hy15 => (refine Or.inl ⟨rfl, ?_⟩; (intro w _; go_simp; (try with_reducible rfl)))
        clear hc hS; intro hc hS
        simp only [Act.put, List.setIfInBounds_toArray, List.set_cons_zero, List.set_cons_succ]
        refine wpAnyG_take (i := 16) (oi := ?oi16) (v := ?v16) ?hi16 (by kernel_rfl) (by kernel_rfl) (by kernel_rfl) ?hQ16 (swapS_set (by decide)) hc ?hy16 hS ?rest16
        case hi16 => (simp only [List.getElem?_toArray, List.getElem?_cons_succ, List.getElem?_cons_zero]; exact rfl)
        case hQ16 => exact fun _ _ _ h => h
        case hy16 => (refine Or.inl ⟨rfl, ?_⟩; (rintro w ⟨L, hsd, hL, _, hcl⟩; obtain ⟨c1, c2⟩ := hcl (hsd.not (i := 16) (by kernel_rfl) hL); clear hcl; go_simp; (try with_reducible rfl)))
        clear hc hS; intro hc hS
        simp only [Act.put, List.setIfInBounds_toArray, List.set_cons_zero, List.set_cons_succ]
        refine wpAnyG_take (i := 17) (oi := ?oi17) (v := ?v17) ?hi17 (by kernel_rfl) (by kernel_rfl) (by kernel_rfl) ?hQ17 (swapS_set (by decide)) hc ?hy17 hS ?rest17
        case hi17 => (simp only [List.getElem?_toArray, List.getElem?_cons_succ, List.getElem?_cons_zero]; exact rfl)
        case hQ17 => exact fun _ _ _ h => h
        case hy17 => (refine Or.inl ⟨rfl, ?_⟩; (rintro w ⟨L, _, _, hb, _⟩; go_simp; (try with_reducible rfl)))
        clear hc hS; intro hc hS
        simp only [Act.put, List.setIfInBounds_toArray, List.set_cons_zero, List.set_cons_succ]
        refine wpAnyG_take (i := 18) (oi := ?oi18) (v := ?v18) ?hi18 (by kernel_rfl) (by kernel_rfl) (by kernel_rfl) ?hQ18 (swapS_set (by decide)) hc ?hy18 hS ?rest18
        case hi18 => (simp only [List.getElem?_toArray, List.getElem?_cons_succ, List.getElem?_cons_zero]; exact rfl)
        case hQ18 => exact fun _ _ _ h => h
        case hy18 => (refine Or.inl ⟨rfl, ?_⟩; (intro w _; go_simp; (try with_reducible rfl)))
        clear hc hS; intro hc hS
        simp only [Act.put, List.setIfInBounds_toArray, List.set_cons_zero, List.set_cons_succ]
        refine wpAnyG_take (i := 19) (oi := ?oi19) (v := ?v19) ?hi19 (by kernel_rfl) (by kernel_rfl) (by kernel_rfl) ?hQ19 (swapS_set (by decide)) hc ?hy19 hS ?rest19
        case hi19 => (simp only [List.getElem?_toArray, List.getElem?_cons_succ, List.getElem?_cons_zero]; exact rfl)
        case hQ19 => exact fun _ _ _ h => h
        case hy19 => (refine Or.inl ⟨rfl, ?_⟩; (intro w _; go_simp; (try with_reducible rfl)))
        clear hc hS; intro hc hS
        simp only [Act.put, List.setIfInBounds_toArray, List.set_cons_zero, List.set_cons_succ]
        refine wpAnyG_take (i := 20) (oi := ?oi20) (v := ?v20) ?hi20 (by kernel_rfl) (by kernel_rfl) (by kernel_rfl) ?hQ20 (swapS_set (by decide)) hc ?hy20 hS ?rest20
        case hi20 => (simp only [List.getElem?_toArray, List.getElem?_cons_succ, List.getElem?_cons_zero]; exact rfl)
        case hQ20 => exact fun _ _ _ h => h
        case hy20 => (refine Or.inl ⟨rfl, ?_⟩; (rintro w ⟨L, hsd, hL, _, hcl⟩; obtain ⟨c1, c2⟩ := hcl (hsd.not (i := 20) (by kernel_rfl) hL); clear hcl; go_simp; (try with_reducible rfl)))
        clear hc hS; intro hc hS
        simp only [Act.put, List.setIfInBounds_toArray, List.set_cons_zero, List.set_cons_succ]
        refine wpAnyG_take (i := 21) (oi := ?oi21) (v := ?v21) ?hi21 (by kernel_rfl) (by kernel_rfl) (by kernel_rfl) ?hQ21 (swapS_set (by decide)) hc ?hy21 hS ?rest21
        case hi21 => (simp only [List.getElem?_toArray, List.getElem?_cons_succ, List.getElem?_cons_zero]; exact rfl)
        case hQ21 => exact fun _ _ _ h => h
        case hy21 => (refine Or.inl ⟨rfl, ?_⟩; (intro w _; go_simp; (try with_reducible rfl)))
        clear hc hS; intro hc hS
        simp only [Act.put, List.setIfInBounds_toArray, List.set_cons_zero, List.set_cons_succ]
        refine wpAnyG_take (i := 22) (oi := ?oi22) (v := ?v22) ?hi22 (by kernel_rfl) (by kernel_rfl) (by kernel_rfl) ?hQ22 (swapS_set (by decide)) hc ?hy22 hS ?rest22
        case hi22 => (simp only [List.getElem?_toArray, List.getElem?_cons_succ, List.getElem?_cons_zero]; exact rfl)
        case hQ22 => exact fun _ _ _ h => h
        case hy22 => (refine Or.inl ⟨rfl, ?_⟩; (intro w _; go_simp; (try with_reducible rfl)))
        clear hc hS; intro hc hS
        simp only [Act.put, List.setIfInBounds_toArray, List.set_cons_zero, List.set_cons_succ]
        refine wpAnyG_only (i := 23) (o := ?oi23) (by kernel_rfl) ?hi23 hc ?rest23
        case hi23 => (simp only [List.getElem?_toArray, List.getElem?_cons_succ, List.getElem?_cons_zero]; exact rfl)
        clear hc; intro hc K hK; have HK := Lib.hid hK; clear hK
        go_simp
        refine HK.out _ _ ⟨by go_simp, fun h => by simp at h⟩ ?_
        clear HK K hS; intro hS
        refine wpAnyG_take (i := 24) (oi := ?oi24) (v := ?v24) ?hi24 (by kernel_rfl) (by kernel_rfl) (by kernel_rfl) ?hQ24 (swapS_set (by decide)) hc ?hy24 hS ?rest24
        case hi24 => (simp only [List.getElem?_toArray, List.getElem?_cons_succ, List.getElem?_cons_zero]; exact rfl)
        case hQ24 => exact fun _ _ _ h => h
        case hy24 => (refine Or.inl ⟨rfl, ?_⟩; (intro w _; go_simp; (try with_reducible rfl)))
        clear hc hS; intro hc hS
        simp only [Act.put, List.setIfInBounds_toArray, List.set_cons_zero, List.set_cons_succ]
        refine wpAnyG_only (i := 25) (o := ?oi25) (by kernel_rfl) ?hi25 hc ?rest25
        case hi25 => (simp only [List.getElem?_toArray, List.getElem?_cons_succ, List.getElem?_cons_zero]; exact rfl)
        clear hc; intro hc K hK; have HK := Lib.hid hK; clear hK
        go_simp
        refine HK.out _ _ ⟨by go_simp, fun h => by simp at h⟩ ?_
        clear HK K hS; intro hS
        refine wpAnyG_done (by kernel_rfl) ?_ _
        have h1 := H1.out
        have ho := ((h1.stored i (IntKind.i64.wrap (yi + yj))).stored j (IntKind.i64.wrap (yi - yj))).drew
        rw [← HSN.out] at ho
        have hko : KeepsOthers V (((V.setCell ⟨g, i, none⟩ (.int .i64 (IntKind.i64.wrap (yi + yj)))).setCell ⟨g, j, none⟩ (.int .i64 (IntKind.i64.wrap (yi - yj)))).drew) := ((KeepsOthers.setCell _ _ _).trans (KeepsOthers.setCell _ _ _)).trans (KeepsOthers.drew _)
        refine ⟨hko, ?_, ho, hS.1, ((H2.out.setCell (p := ⟨g, i, none⟩) hgV.2 _).setCell (p := ⟨g, j, none⟩) hgV.2 _).drew, H3.out.others hko⟩
        show World.cell? _ _ = _
        go_simp
      case done =>
        rintro D ys V hD rfl ⟨hO2, hbx, hBl, hMk⟩ hK
        have hO3 : OwnI V w.heap.size (.slice (some ⟨g, 0, none⟩) xs.length cap') (walshTo xs (k + 1)) := by
          show OwnI V _ _ (level xs.length (2 ^ k) (walshTo xs k))
          rw [← HBit.out]; exact hO2
        have hb2 : bit * 2 = 2 ^ (k + 1) := by rw [HBit.out, Nat.pow_succ]
        have hb1 : 1 ≤ bit := by rw [HBit.out]; exact Nat.one_le_two_pow
        have hb3 : bit * 2 ≤ xs.length := by rw [hb2]; exact pow_next hp (HBit.out ▸ hlt)
        have hM3 : Marks w.heap.size (D :: ms) V := ⟨List.nodup_cons.2 ⟨fun hm => by have := HM.out.lt hm; omega, hMk.1⟩, fun E hE => by
          rcases List.mem_cons.1 hE with rfl | hE
          · exact ⟨by have := HB.out.size; omega, hK⟩
          · exact hMk.2 E hE⟩
        have X1 := Lib.hid hO2; clear hO2
        have X2 := Lib.hid hO3; clear hO3
        have X3 := Lib.hid hb2; clear hb2
        have X4 := Lib.hid hM3; clear hM3
        have X5 := Lib.hid hMk; clear hMk
        have X6 := Lib.hid hBl; clear hBl
        have X7 := Lib.hid hK; clear hK
        clear hc1 hc2 hBV hI0 hbox hBw hMs hV0 hor
        gi_wp2
        refine ⟨?_, ?_⟩
        · refine ⟨k + 1, bit * 2, D :: ms, ?_⟩
          (repeat apply Exists.intro)
          refine ⟨?_, X3.out, hb3, X2.out, X6.out, hbx, X4.out⟩
          simp only [List.map_cons, mark]
          congr 1
        · simp [intOf]; omega
    · have HXK := Lib.hid (pow_end (k0 := k) (n := xs.length) (by rw [← HBit.out]; exact hbl) (by rw [← HBit.out]; exact hlt))
      gi_wp2
      refine leaves_marks (B := w.heap.size) (fun W' => OwnI W' w.heap.size (.slice (some ⟨g, 0, none⟩) xs.length cap') (walshTo xs k) ∧ Below w.heap.size w W') ?_ ?_ ms W HM.out ⟨HO.out, HB.out⟩
      · rintro V D hD hV ⟨q1, q2⟩
        have hsz := q2.size
        exact ⟨q1.putObj _ hV rfl, q2.grown (grownBy_putObj' V D _) hsz (fun r e => by cases e; exact hD)⟩
      · rintro V ⟨q1, q2⟩
        exact ⟨_, results_tmp rfl _ _ _, g, cap', rfl, k, HXK.out, q1, q2⟩

/-- **transformed**: the list behind all levels, in new memory; nothing older is written. -/
theorem transformed_any (b off : Nat) (xs : List Int) (cap : Nat) (w : World) (hp : powB xs.length = true) (hs : Sl w (some ⟨b, off, none⟩) xs) :
    Calls Try.prog 55 #[.slice (some ⟨b, off, none⟩) xs.length cap] w fun e w' =>
      ∃ g cap' k, e = .returned (.slice (some ⟨g, 0, none⟩) xs.length cap') ∧ xs.length = 2 ^ k ∧ OwnI w' w.heap.size (.slice (some ⟨g, 0, none⟩) xs.length cap') (walshTo xs k) ∧ Below w.heap.size w w' :=
  callsIn_wide.1 (transformed_in b off xs cap w 4 (by omega) hp hs)
end Go.Proofs.Ytacbciamehchjaa

