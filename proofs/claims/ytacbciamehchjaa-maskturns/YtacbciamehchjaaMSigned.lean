
/- copied of layer 2, each row in memory of its own; Signed: contracts. -/
import Derived.Test.YtacbciamehchjaaMCopy
import Derived.Test.YtacbciamehchjaaMPerm
namespace Go.Proofs.Ytacbciamehchjaa
open Go.RowKit

/-- Rows of the call's own behind a slice of rows: each in a block of its own. -/
structure SI (w : World) (base g : Nat) (ads : List (Nat × Nat)) (M : List (List Int)) : Prop where
  len : ads.length = M.length
  row : ∀ (i : Nat) (x : Nat × Nat) (r : List Int), ads[i]? = some x → M[i]? = some r → w.cell? ⟨g, i, none⟩ = some (.slice (some ⟨x.1, 0, none⟩) r.length x.2) ∧ OwnI w base (.slice (some ⟨x.1, 0, none⟩) r.length x.2) r
  apart : ∀ (i j : Nat) (x y : Nat × Nat), ads[i]? = some x → ads[j]? = some y → i ≠ j → x.1 ≠ y.1
  out : ∀ (i : Nat) (x : Nat × Nat), ads[i]? = some x → x.1 ≠ g ∧ base ≤ x.1
theorem SI.below {w w' : World} {base g : Nat} {ads : List (Nat × Nat)} {M : List (List Int)} (h : SI w base g ads M) (hb : Below w.heap.size w w') : SI w' base g ads M :=
  ⟨h.len, fun i x r e1 e2 => by
    obtain ⟨h1, h2⟩ := h.row i x r e1 e2
    exact ⟨(hb.cell (p := ⟨g, i, none⟩) (cell_lt h1)).trans h1, h2.below hb⟩, h.apart, h.out⟩
theorem SI.ms {w : World} {base g : Nat} {ads : List (Nat × Nat)} {M : List (List Int)} (h : SI w base g ads M) : Ms w (some ⟨g, 0, none⟩) M := by
  intro i hi
  have e1 : ads[i]? = some (ads[i]'(by rw [h.len]; exact hi)) := by simp [h.len, hi]
  have e2 : M[i]? = some M[i] := by simp [hi]
  obtain ⟨h1, h2⟩ := h.row i _ _ e1 e2
  rw [e2]
  exact ⟨g, 0, _, _, rfl, by rw [Nat.zero_add]; exact h1, h2.sl⟩
/-- A number of a row is written. -/
theorem SI.stored {w : World} {base g : Nat} {ads : List (Nat × Nat)} {M : List (List Int)} (h : SI w base g ads M) {i : Nat} {x : Nat × Nat} {r : List Int} (e1 : ads[i]? = some x) (e2 : M[i]? = some r) (j : Nat) (v : Int) :
    SI (w.setCell ⟨x.1, j, none⟩ (.int .i64 v)) base g ads (M.set i (r.set j v)) := by
  have hxg := (h.out i x e1).1
  refine ⟨by rw [List.length_set]; exact h.len, fun k y q k1 k2 => ?_, h.apart, h.out⟩
  by_cases hk : k = i
  · subst hk
    rw [e1] at k1
    obtain rfl : x = y := by simpa using k1
    have hlt := (List.getElem?_eq_some_iff.1 e2).1
    rw [List.getElem?_set_self hlt] at k2
    obtain rfl : r.set j v = q := by simpa using k2
    obtain ⟨h1, h2⟩ := h.row k x r e1 e2
    refine ⟨?_, ?_⟩
    · rw [List.length_set]; exact (cell_other _ _ _ _ (fun e => hxg e.symm)).trans h1
    · rw [List.length_set]; exact h2.stored j v
  · rw [List.getElem?_set_ne (Ne.symm hk)] at k2
    obtain ⟨h1, h2⟩ := h.row k y q k1 k2
    have hne := h.apart k i y x k1 e1 hk
    refine ⟨(cell_other _ _ _ _ (fun e => hxg e.symm)).trans h1, h2.sameBlock ?_⟩
    exact Below.heap_setCell w _ _ _ hne
/-- What the copies of the first k rows are. -/
structure CpS (w : World) (base g : Nat) (hs : List RH) (k : Nat) : Prop where
  own : ∀ (i : Nat) (h : RH), i < k → hs[i]? = some h → ∃ b, h.1 = some ⟨b, 0, none⟩ ∧ OwnI w base (hdv h) h.2.1 ∧ b < w.heap.size ∧ b ≠ g
  apart : ∀ (i j : Nat) (h h' : RH) (b b' : Nat), i < j → j < k → hs[i]? = some h → hs[j]? = some h' → h.1 = some ⟨b, 0, none⟩ → h'.1 = some ⟨b', 0, none⟩ → b < b'
theorem CpS.zero (w : World) (base g : Nat) (hs : List RH) : CpS w base g hs 0 := ⟨fun i h hi => by omega, fun i j h h' b b' _ hj => by omega⟩
theorem CpS.below {w w' : World} {base g : Nat} {hs : List RH} {k : Nat} (h : CpS w base g hs k) (hb : Below w.heap.size w w') : CpS w' base g hs k :=
  ⟨fun i x hi e => by
    obtain ⟨b, h1, h2, h3, h4⟩ := h.own i x hi e
    exact ⟨b, h1, h2.below hb, Nat.lt_of_lt_of_le h3 hb.size, h4⟩, h.apart⟩
theorem CpS.put {w : World} {base g : Nat} {hs : List RH} {k : Nat} (h : CpS w base g hs k) (u : Value) : CpS (w.setCell ⟨g, k, none⟩ u) base g hs k :=
  ⟨fun i x hi e => by
    obtain ⟨b, h1, h2, h3, h4⟩ := h.own i x hi e
    refine ⟨b, h1, ?_, by rw [World.size_setCell]; exact h3, h4⟩
    unfold hdv at h2 ⊢
    rw [h1] at h2 ⊢
    exact h2.sameBlock (Below.heap_setCell w _ _ _ h4), h.apart⟩
theorem CpS.next {w : World} {base g : Nat} {hs : List RH} {k : Nat} (h : CpS w base g hs k) (hk : k < hs.length) {b : Nat} {r : List Int} {c : Nat} (ho : OwnI w base (.slice (some ⟨b, 0, none⟩) r.length c) r) (hb : ∀ i x b', i < k → hs[i]? = some x → x.1 = some ⟨b', 0, none⟩ → b' < b) (hbs : b < w.heap.size) (hbg : b ≠ g) : CpS w base g (hs.set k (some ⟨b, 0, none⟩, r, c)) (k + 1) := by
  refine ⟨fun i x hi e => ?_, fun i j x y b1 b2 hij hj ei ej h1 h2 => ?_⟩
  · by_cases hik : i = k
    · subst hik
      rw [List.getElem?_set_self hk] at e
      obtain rfl : _ = x := by simpa using e
      exact ⟨b, rfl, ho, hbs, hbg⟩
    · rw [List.getElem?_set_ne (Ne.symm hik)] at e
      exact h.own i x (by omega) e
  · have hik : i ≠ k := by omega
    rw [List.getElem?_set_ne (Ne.symm hik)] at ei
    by_cases hjk : j = k
    · subst hjk
      rw [List.getElem?_set_self hk] at ej
      obtain rfl : _ = y := by simpa using ej
      obtain rfl : b = b2 := by simpa using h2
      exact hb i x b1 (by omega) ei h1
    · rw [List.getElem?_set_ne (Ne.symm hjk)] at ej
      exact h.apart i j x y b1 b2 hij (by omega) ei ej h1 h2
set_option maxRecDepth 100000 in
set_option maxHeartbeats 400000 in
theorem mcopiedS_any (a : Option Addr) (m : List (List Int)) (cap : Nat) (w : World) (h1 : 1 ≤ m.length) (h6 : m.length ≤ 6) (hr : ∀ r ∈ m, 1 ≤ r.length ∧ r.length ≤ 10) (hs : Ms w a m) :
    Calls Try.prog 53 #[.slice a m.length cap] w fun e w' => Below w.heap.size w w' ∧ e = .returned (.slice (some ⟨w.heap.size, 0, none⟩) m.length m.length) ∧ ∃ ads, SI w' w.heap.size w.heap.size ads m := by
  have HS := Lib.hid hs; clear hs
  have HR : Hid (∀ (i : Nat) (r : List Int), m[i]? = some r → 1 ≤ r.length ∧ r.length ≤ 10) := fun i r e => hr r (List.mem_of_getElem? e)
  clear hr
  obtain ⟨i0, hi, hz0, hz1, hz2⟩ := info_parts Try.infoRow
  go_enter Try.func53, Try.ntmps53
  go_wp2_with (with_reducible refine wpList_make_full _ rfl (.tmp 7) (.tmp 7) 39 rfl w.heap.size 22 i0 (.slice none 0 0) 1 Try.underlying39 hi hz0 hz1 .i64 .i64 (m.length : Int) (m.length : Int) m.length rfl rfl rfl rfl (by rw [hz2]; omega) (by unfold maxLen; omega) (Nat.le_refl _) ?_)
  rotate_left
  intro w4 hown hgrow
  have HB4 : Hid (Below w.heap.size w w4) := (Below.refl _ _).grown hgrow (Nat.le_refl _) (fun k e => by cases e)
  have HO4 : Hid (OwnM w4 w.heap.size (.slice (some ⟨w.heap.size, 0, none⟩) m.length m.length) (List.replicate m.length (none, [], 0)) (List.replicate m.length ((none, [], 0) : RH)).length) := OwnM.made _ (by rw [Nat.mul_one]; exact hown)
  clear hown hgrow
  go_wp2
  go_loopw [11] (fun i wr => ∃ (k : Nat) (hs : List RH), k ≤ m.length ∧ i = .int .i64 k ∧ OwnM wr w.heap.size (.slice (some ⟨w.heap.size, 0, none⟩) m.length m.length) hs hs.length ∧ FillM (fun i => m[i]?.getD []) m.length k hs ∧ CpS wr w.heap.size w.heap.size hs k ∧ Below w.heap.size w wr) (fun i _ => m.length - (intOf i).toNat)
  case atStart => exact ⟨0, _, Nat.zero_le _, rfl, HO4.out, FillM.start _ _, CpS.zero _ _ _ _, HB4.out⟩
  case round =>
    clear HO4 HB4
    obtain ⟨k, hs, hk, rfl, hO, hF, hH, hB⟩ := hrel
    have HH := Lib.hid hH; clear hH
    have HO := Lib.hid hO; clear hO
    have HF := Lib.hid hF; clear hF
    have HB := Lib.hid hB; clear hB
    by_cases hlt : k < m.length
    · obtain ⟨b1, o1, ai, r, ci, rfl, hcell, hsl, HX⟩ := (HS.out.below HB.out).at hlt
      obtain ⟨hr1, hr10⟩ := HR.out k r HX.out
      obtain ⟨b2, o2, x0, rfl, _, _⟩ := hsl.at (show 0 < r.length by omega)
      have HSL := Lib.hid hsl; clear hsl
      obtain ⟨hcz, hfz⟩ := HO.out.cell (HF.out.todo k (Nat.le_refl _) hlt)
      have HGS := Lib.hid HO.out.lt
      go_wp2_with fail
      refine (clone_any b2 o2 r ci _ hr1 (by omega) HSL.out).mono ?_
      rintro e w5 ⟨gr, cr, rfl, ho5, hb5⟩
      have hc5 := (hb5.cell (p := ⟨w.heap.size, k, none⟩) HGS.out.1).trans hcz
      have hf5 := (hb5.frozen (p := ⟨w.heap.size, k, none⟩) HGS.out.1).trans hfz
      clear hcz hfz hcell
      have hgne : Hid (∀ ad, (some ⟨gr, 0, none⟩ : Option Addr) = some ad → ad.block < w5.heap.size ∧ ad.block ≠ w.heap.size) := fun ad e => by
        have := ho5.lt
        have := HGS.out
        cases e
        exact ⟨by show gr < _; omega, by show gr ≠ _; omega⟩
      have HPUT := Lib.hid ((((HO.out.skip (Nat.le_refl _) k).below hb5)).put (hs.set k (some ⟨gr, 0, none⟩, r, cr)).length cr ho5.sl hgne.out)
      have HFN := Lib.hid (HF.out.next hlt (a := some ⟨gr, 0, none⟩) (r := r) (c := cr) (by rw [HX.out]; rfl))
      have HB5 : Hid (Below w.heap.size w w5) := Below.next HB.out hb5 (Nat.le_refl _)
      have hgr := ho5.lt
      have hgs := HGS.out
      have hkl : k < hs.length := by rw [HF.out.len]; exact hlt
      have HHP := Lib.hid (((HH.out.below hb5).put (.slice (some ⟨gr, 0, none⟩) r.length cr)).next hkl (b := gr) (r := r) (c := cr) ((ho5.mono HB.out.size).sameBlock (Below.heap_setCell w5 _ _ _ (by show gr ≠ w.heap.size; omega))) (fun i x b' hi e e1 => by
        obtain ⟨b0, h1, _, h3, _⟩ := HH.out.own i x hi e
        rw [h1] at e1
        obtain rfl : b0 = b' := by simpa using e1
        omega) (by rw [World.size_setCell]; exact hgr.1) (by omega))
      clear hb5 ho5 hgr hgs hkl
      go_wp2
      go_roundw
      case rel => exact ⟨k + 1, _, by omega, by go_num, HPUT.out, HFN.out, HHP.out, HB5.out.setCell (Nat.le_refl _) _⟩
      case measure => simp [intOf]; omega
    · obtain rfl : k = m.length := by omega
      have HZ := Lib.hid (HF.out.all.trans (range_rows m))
      go_wp2
      go_ret
      refine ⟨HB.out, rfl, hs.map (fun h => (match h.1 with | some a => a.block | none => 0, h.2.2)), ?_⟩
      have hlen := HF.out.len
      have key : ∀ (i : Nat) (x : Nat × Nat), (hs.map (fun h : RH => (match h.1 with | some a => a.block | none => 0, h.2.2)))[i]? = some x → ∃ h b, hs[i]? = some h ∧ h.1 = some ⟨b, 0, none⟩ ∧ x = (b, h.2.2) ∧ OwnI wr w.heap.size (hdv h) h.2.1 ∧ b ≠ w.heap.size ∧ w.heap.size ≤ b := by
        intro i x e
        rw [List.getElem?_map] at e
        obtain ⟨h, eh, ex⟩ := Option.map_eq_some_iff.1 e
        have hi : i < m.length := by rw [← hlen]; exact (List.getElem?_eq_some_iff.1 eh).1
        obtain ⟨b, h1, h2, h3, h4⟩ := HH.out.own i h hi eh
        have hbl : w.heap.size ≤ b := by
          have h2' := h2
          unfold hdv at h2'
          rw [h1] at h2'
          exact h2'.lt.2
        exact ⟨h, b, eh, h1, by rw [← ex, h1], h2, h4, hbl⟩
      refine ⟨by rw [List.length_map, hlen], fun i x r e1 e2 => ?_, fun i j x y e1 e2 hij => ?_, fun i x e => ?_⟩
      · obtain ⟨h, b, eh, h1, rfl, ho, _, _⟩ := key i x e1
        have er := rowsOf_get eh
        rw [HZ.out, e2] at er
        obtain rfl : r = h.2.1 := by simpa using er
        unfold hdv at ho
        rw [h1] at ho
        refine ⟨?_, ho⟩
        have hc := (HO.out.cell eh).1
        rw [h1] at hc
        exact hc
      · obtain ⟨h, b, eh, h1, rfl, _⟩ := key i x e1
        obtain ⟨h', b', eh', h1', rfl, _⟩ := key j y e2
        have hi : i < m.length := by rw [← hlen]; exact (List.getElem?_eq_some_iff.1 eh).1
        have hj : j < m.length := by rw [← hlen]; exact (List.getElem?_eq_some_iff.1 eh').1
        show b ≠ b'
        rcases Nat.lt_or_ge i j with h | h
        · have := HH.out.apart i j _ _ b b' h hj eh eh' h1 h1'; omega
        · have := HH.out.apart j i _ _ b' b (by omega) hi eh' eh h1' h1; omega
      · obtain ⟨h, b, _, _, rfl, _, h4, h5⟩ := key i x e
        exact ⟨h4, h5⟩
end Go.Proofs.Ytacbciamehchjaa
