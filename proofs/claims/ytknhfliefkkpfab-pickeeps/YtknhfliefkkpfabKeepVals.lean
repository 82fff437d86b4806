
/- What turning, mirroring, steps and sizes of a valid picture come to: plain facts. -/
import Derived.Test.YtknhfliefkkpfabSteps
namespace Go.Proofs.Ytknhfliefkkpfab
open Go.RowKit

theorem validPic_mk {W H : Nat} {xs : List Int} (h1 : 1 ≤ W ∧ W ≤ 16) (h2 : 1 ≤ H ∧ H ≤ 16) (h3 : xs.length = W * H) (h4 : allB 1000000 xs = true) : validPicB W H xs = true := by
  have e : (xs.length : Int) = (W : Int) * (H : Int) := by exact_mod_cast h3
  simp [validPicB, rangeB, e, h4]; omega
theorem movedL_all {q W H : Nat} {xs : List Int} (hq : q < 5) (hl : xs.length = W * H) (h : allB 1000000 xs = true) : allB 1000000 (movedL q W H xs) = true := by
  refine allB_yes fun j hj => ?_
  have hj' : j < W * H := by rw [movedL_len] at hj; exact hj
  have e : (movedL q W H xs)[j]?.getD 0 = gt xs (srcQ q W H j) := gt_map_range _ hj'
  have := gt_in h (k := srcQ q W H j) (by rw [hl]; exact src_lt hq hj')
  rw [e]
  simp [outB]; omega
theorem keep_turned {W H : Nat} {xs : List Int} (hv : validPicB W H xs = true) {q : Nat} (hq : q ≤ 3) :
    turnV q W H xs = ((((wideQ q W H : Nat) : Int), ((highQ q W H : Nat) : Int), movedL q W H xs), 0) ∧ validPicB (wideQ q W H : Nat) (highQ q W H : Nat) (movedL q W H xs) = true ∧ (movedL q W H xs).length = xs.length ∧
    stepsR (wideQ q W H : Nat) (highQ q W H : Nat) (movedL q W H xs) = stepsR W H xs ∧ szV (movedL q W H xs) = szV xs ∧
    turnV ((4 - q) % 4) (wideQ q W H : Nat) (highQ q W H : Nat) (movedL q W H xs) = (((W : Int), (H : Int), xs), 0) := by
  obtain ⟨w0, w1, g0, g1, hlen, hall⟩ := validPic_of hv
  have hl : xs.length = W * H := by exact_mod_cast hlen
  have hm : (movedL q W H xs).length = wideQ q W H * highQ q W H := by rw [movedL_len, area']
  have hvm : validPicB (wideQ q W H : Nat) (highQ q W H : Nat) (movedL q W H xs) = true := validPic_mk (by unfold wideQ; split <;> omega) (by unfold highQ; split <;> omega) hm (movedL_all (by omega) hl hall)
  have e1 : turnV q W H xs = ((((wideQ q W H : Nat) : Int), ((highQ q W H : Nat) : Int), movedL q W H xs), 0) := by
    rw [turnV_0 hv]
    have e : ((highQ q W H : Nat) : Int) = (if q = 1 ∨ q = 3 then (W : Int) else H) := by unfold highQ; split <;> rfl
    rw [e]
  have hml : (movedL q W H xs).length = xs.length := by rw [movedL_len, hl]
  refine ⟨e1, hvm, hml, ?_, ?_, ?_⟩
  · unfold stepsR
    rw [if_pos hv, if_pos hvm]
    show (stepsV (wideQ q W H) (highQ q W H) _, _) = (stepsV W H xs, _)
    rw [(keeps_turns hl q hq).1]
  · have l1 : validListB xs = true := by
      have : 1 ≤ W * H := Nat.mul_le_mul (show 1 ≤ W by omega) (show 1 ≤ H by omega)
      have : W * H ≤ 256 := Nat.mul_le_mul (show W ≤ 16 by omega) (show H ≤ 16 by omega)
      simp [validListB, rangeB, hall]; omega
    have l2 : validListB (movedL q W H xs) = true := by
      have : 1 ≤ W * H := Nat.mul_le_mul (show 1 ≤ W by omega) (show 1 ≤ H by omega)
      have : W * H ≤ 256 := Nat.mul_le_mul (show W ≤ 16 by omega) (show H ≤ 16 by omega)
      simp [validListB, rangeB, movedL_all (q := q) (by omega) hl hall, hml]; omega
    unfold szV
    rw [if_pos l1, if_pos l2, hm, sizeV_is, hl, sizeV_is, (keeps_turns hl q hq).2]
  · rw [turnV_0 hvm, movedL_back hl q hq]
    obtain rfl | rfl | rfl | rfl : q = 0 ∨ q = 1 ∨ q = 2 ∨ q = 3 := by omega
    all_goals simp [wideQ, highQ]
theorem keep_mirrored {W H : Nat} {xs : List Int} (hv : validPicB W H xs = true) :
    turnV 4 W H xs = (((W : Int), (H : Int), movedL 4 W H xs), 0) ∧ (movedL 4 W H xs).length = xs.length ∧
    stepsR W H (movedL 4 W H xs) = stepsR W H xs ∧ szV (movedL 4 W H xs) = szV xs ∧ turnV 4 W H (movedL 4 W H xs) = (((W : Int), (H : Int), xs), 0) := by
  obtain ⟨w0, w1, g0, g1, hlen, hall⟩ := validPic_of hv
  have hl : xs.length = W * H := by exact_mod_cast hlen
  have hml : (movedL 4 W H xs).length = xs.length := by rw [movedL_len, hl]
  have hvm : validPicB W H (movedL 4 W H xs) = true := validPic_mk (by omega) (by omega) (by rw [movedL_len]) (movedL_all (by omega) hl hall)
  have t : ∀ ys, validPicB W H ys = true → turnV 4 W H ys = (((W : Int), (H : Int), movedL 4 W H ys), 0) := fun ys h => by
    rw [turnV_0 h]; simp [wideQ]
  refine ⟨t xs hv, hml, ?_, ?_, ?_⟩
  · unfold stepsR
    rw [if_pos hv, if_pos hvm]
    show (stepsV W H _, _) = (stepsV W H xs, _)
    rw [stepsV_mirror]
  · have l1 : validListB xs = true := by
      have : 1 ≤ W * H := Nat.mul_le_mul (show 1 ≤ W by omega) (show 1 ≤ H by omega)
      have : W * H ≤ 256 := Nat.mul_le_mul (show W ≤ 16 by omega) (show H ≤ 16 by omega)
      simp [validListB, rangeB, hall]; omega
    have l2 : validListB (movedL 4 W H xs) = true := by
      have : 1 ≤ W * H := Nat.mul_le_mul (show 1 ≤ W by omega) (show 1 ≤ H by omega)
      have : W * H ≤ 256 := Nat.mul_le_mul (show W ≤ 16 by omega) (show H ≤ 16 by omega)
      simp [validListB, rangeB, movedL_all (q := 4) (by omega) hl hall, hml]; omega
    unfold szV
    rw [if_pos l1, if_pos l2, movedL_len, sizeV_is, hl, sizeV_is, sizeV_mirror]
  · rw [t _ hvm, movedL_mirrors hl]
theorem szV_ok {W H : Nat} {xs : List Int} (hv : validPicB W H xs = true) : (szV xs).2 = 0 ∧ (stepsR W H xs).2 = 0 := by
  obtain ⟨w0, w1, g0, g1, hlen, hall⟩ := validPic_of hv
  have hl : xs.length = W * H := by exact_mod_cast hlen
  have l1 : validListB xs = true := by
    have : 1 ≤ W * H := Nat.mul_le_mul (show 1 ≤ W by omega) (show 1 ≤ H by omega)
    have : W * H ≤ 256 := Nat.mul_le_mul (show W ≤ 16 by omega) (show H ≤ 16 by omega)
    simp [validListB, rangeB, hall]; omega
  unfold szV stepsR
  rw [if_pos l1, if_pos hv]; exact ⟨rfl, rfl⟩
theorem back_num (m : Int) : ((-(m.tmod 4)) % 4).toNat = (4 - (m % 4).toNat) % 4 ∧ (m % 4).toNat ≤ 3 ∧ -4 < m.tmod 4 ∧ m.tmod 4 < 4 := by
  have h1 := Int.tmod_eq_emod (a := m) (b := 4)
  split at h1 <;> omega
end Go.Proofs.Ytknhfliefkkpfab
