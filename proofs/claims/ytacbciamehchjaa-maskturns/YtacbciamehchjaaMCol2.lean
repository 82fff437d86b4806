
/- Columns of masks, in layer 2 and in its answers: contracts. -/
import Derived.Test.YtacbciamehchjaaMCol
namespace Go.Proofs.Ytacbciamehchjaa
open Go.RowKit

/-- What a function that returns a list returns. -/
def RPost (ys : List Int) (w : World) (e : Ending) (w' : World) : Prop := Below w.heap.size w w' ∧ ∃ a cap, e = .returned (.slice a ys.length cap) ∧ Sl w' a ys
theorem RPost.own {w w' : World} {base : Nat} {v : Value} {ys zs : List Int} (hr : zs = ys) (hb : Below w.heap.size w w') (ho : OwnI w' base v ys) : RPost zs w (.returned v) w' := by
  obtain ⟨a, cap, rfl, hs⟩ := ho.any
  subst hr; exact ⟨hb, a, cap, rfl, hs⟩
def rowM (m : List (List Int)) (i : Nat) : List Int := m[i]?.getD []
theorem rowM_some {m : List (List Int)} {i : Nat} {r : List Int} (h : m[i]? = some r) : rowM m i = r := by unfold rowM; rw [h]; rfl
theorem colM_range (m : List (List Int)) (j : Nat) : colM m j = (List.range m.length).map fun i => gt (rowM m i) j := by
  refine List.ext_getElem (by simp [colM]) fun i h1 h2 => ?_
  have hi : i < m.length := by simpa [colM] using h1
  simp [colM, rowM, hi]
theorem readL_range (m : List (List Int)) (x : List Int) : readL m x = (List.range m.length).map fun i => dot (rowM m i) x := by
  refine List.ext_getElem (by simp [readL]) fun i h1 h2 => ?_
  have hi : i < m.length := by simpa [readL] using h1
  simp [readL, rowM, hi]
/-- The first k numbers of zs are those of f. -/
structure FillK (f : Nat → Int) (n k : Nat) (zs : List Int) : Prop where
  len : zs.length = n
  yes : ∀ j, j < k → gt zs j = f j
theorem FillK.start (f : Nat → Int) (n : Nat) (zs : List Int) (h : zs.length = n) : FillK f n 0 zs := ⟨h, fun j hj => absurd hj (by omega)⟩
theorem FillK.next {f : Nat → Int} {n k : Nat} {zs : List Int} (h : FillK f n k zs) (hk : k < n) {x : Int} (hx : x = f k) : FillK f n (k + 1) (zs.set k x) := by
  have hkz : k < zs.length := by rw [h.len]; exact hk
  refine ⟨by rw [List.length_set]; exact h.len, fun j hj => ?_⟩
  rw [gt_set hkz]
  by_cases e : j = k
  · subst e; rw [if_pos rfl, hx]
  · rw [if_neg e]; exact h.yes j (by omega)
theorem FillK.all {f : Nat → Int} {n : Nat} {zs : List Int} (h : FillK f n n zs) : zs = (List.range n).map f := by
  refine list_ext_gt (by rw [h.len]; simp) fun j hj => ?_
  rw [h.len] at hj
  rw [h.yes j hj, gt_map_range _ hj]

theorem there_any (a : Option Addr) (m : List (List Int)) (cap : Nat) (j : Int) (w : World) (hv : validM m = true) (hs : Ms w a m) :
    Calls Try.prog 64 #[.slice a m.length cap, .int .i64 j] w fun e w' => e = .returned (.bool (thereB m j)) ∧ w = w' := by
  have hm1 := (validM_of hv).1
  obtain ⟨b0, o0, a0, c0, rfl, hcell⟩ := row0 hs hm1
  have HS := Lib.hid hs; clear hs
  have HV := Lib.hid hv; clear hv
  go_enter Try.func64, Try.ntmps64
  go_wp2
  all_goals go_ret
  all_goals exact ⟨ret_bool (by first | (simp [thereB, *]; done) | (simp [thereB]; omega)), rfl⟩
set_option maxRecDepth 100000 in
theorem mcolumn_any (a : Option Addr) (m : List (List Int)) (cap : Nat) (j : Nat) (w : World) (hv : validM m = true) (hj : j < colsM m) (hs : Ms w a m) :
    Calls Try.prog 48 #[.slice a m.length cap, .int .i64 j] w (RPost (colM m j) w) := by
  obtain ⟨hm1, hm6, hc1, hc10, _⟩ := validM_of hv
  have HS := Lib.hid hs; clear hs
  have HV := Lib.hid hv; clear hv
  obtain ⟨i0, hi, hz0, hz1, hz2⟩ := info_parts Try.infoInt
  go_enter Try.func48, Try.ntmps48
  go_wp2_with (with_reducible refine wpList_make_full _ rfl (.tmp 9) (.tmp 9) 22 rfl w.heap.size 3 i0 (.int .i64 0) 1 Try.underlying22 hi hz0 hz1 .i64 .i64 (m.length : Int) (m.length : Int) m.length rfl rfl rfl rfl (by rw [hz2]; omega) (by unfold maxLen; omega) (Nat.le_refl _) ?_)
  rotate_left
  intro w4 hown hgrow
  have HO4 : Hid (OwnI w4 w.heap.size (.slice (some ⟨w.heap.size, 0, none⟩) m.length m.length) (List.replicate m.length 0)) := by
    have z := zeros_are m.length
    rw [Nat.mul_one] at z
    show w4.ownsRow _ _ _ _ _ _
    rw [List.length_replicate, ← z]; exact hown
  have HB4 : Hid (Below w.heap.size w w4) := (Below.refl _ _).grown hgrow (Nat.le_refl _) (fun k e => by cases e)
  clear hown hgrow
  go_wp2
  go_loopw [13] (fun i wr => ∃ (k : Nat) (zs : List Int), k ≤ m.length ∧ i = .int .i64 k ∧ OwnI wr w.heap.size (.slice (some ⟨w.heap.size, 0, none⟩) m.length m.length) zs ∧ FillK (fun i => gt (rowM m i) j) m.length k zs ∧ Below w.heap.size w wr) (fun i _ => m.length - (intOf i).toNat)
  case atStart => exact ⟨0, _, Nat.zero_le _, rfl, HO4.out, FillK.start _ _ _ (by simp), HB4.out⟩
  case round =>
    obtain ⟨k, zs, hk, rfl, hO, hA, hB⟩ := hrel
    have HO := Lib.hid hO; clear hO
    have HF := Lib.hid hA; clear hA
    have HB3 := Lib.hid hB; clear hB
    by_cases hlt : k < m.length
    · obtain ⟨b1, o1, ai, r, ci, rfl, hcell, hsl, HX⟩ := (HS.out.below HB3.out).at hlt
      have hrl := (validM_row HV.out HX.out).1
      obtain ⟨b2, o2, x, rfl, hcx, HY⟩ := hsl.at (k := j) (by rw [hrl]; exact hj)
      have hjr : j < r.length := by omega
      have HRL := Lib.hid hrl; clear hrl
      clear hsl
      obtain ⟨hcz, hfz⟩ := HO.out.cell (j := k) (by rw [HF.out.len]; exact hlt)
      have hgV := HO.out.lt
      go_wp2
      go_roundw
      case rel =>
        exact ⟨k + 1, zs.set k x, by omega, by go_num, HO.out.stored k _, HF.out.next hlt (by rw [rowM_some HX.out, gt_some' HY.out]), HB3.out.setCell hgV.2 _⟩
      case measure => simp [intOf]; omega
    · obtain rfl : k = m.length := by omega
      have HZ := Lib.hid HF.out.all
      go_wp2
      go_ret
      exact RPost.own (by rw [HZ.out, colM_range]) HB3.out HO.out
end Go.Proofs.Ytacbciamehchjaa
