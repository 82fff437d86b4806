
/- What asks masks and lists for their ranges in the answers of layer 2: contracts. -/
import Derived.Test.YtknhfliefkkpfabMVal
namespace Go.Proofs.Ytknhfliefkkpfab
open Go.RowKit

theorem mwithin_any (n lo hi : Int) (w : World) :
    Calls Try.prog 70 #[.int .i64 n, .int .i64 lo, .int .i64 hi] w fun e w' => e = .returned (.bool (rangeB n lo hi)) ∧ w = w' := by
  go_enter Try.func70, Try.ntmps70
  go_wp2
  all_goals go_ret
  all_goals exact ⟨ret_bool (by first | (simp [rangeB, *]; done) | (simp [rangeB]; omega)), rfl⟩
theorem rowB_no {r : List Int} (h : allB 1 r = false) : rowB r = false := by unfold rowB; rw [h, Bool.and_false]
theorem rrow_any (a : Option Addr) (r : List Int) (cap : Nat) (w : World) (hl : r.length ≤ 9223372036854775807) (hs : Sl w a r) :
    Calls Try.prog 69 #[.slice a r.length cap] w fun e w' => e = .returned (.bool (rowB r)) ∧ w = w' := by
  have HS := Lib.hid hs; clear hs
  go_enter Try.func69, Try.ntmps69
  go_wp2
  go_loop [7] (fun i => ∃ k : Nat, k ≤ r.length ∧ i = .int .i64 k ∧ ∀ j, j < k → outB 1 (r[j]?.getD 0) = false) (fun i => r.length - (intOf i).toNat)
  case atStart => exact ⟨0, Nat.zero_le _, rfl, fun j h => by omega⟩
  case round =>
    obtain ⟨k, hk, rfl, hno⟩ := hrel
    have HN := Lib.hid hno; clear hno
    by_cases hlt : k < r.length
    · obtain ⟨b, off, x, rfl, hcell, HX⟩ := HS.out.at hlt
      cases ho : outB 1 x
      · have hr : rangeB x (-1) 1 = true := by simp [outB] at ho; simp [rangeB]; omega
        go_wp2_with (go_at_call 70; refine (mwithin_any _ _ _ _).mono ?_; rintro e w' ⟨rfl, rfl⟩)
        go_round
        case rel => exact ⟨k + 1, by omega, by go_num, fun j hj => by
            by_cases hj' : j = k
            · subst hj'; rw [HX.out]; exact ho
            · exact HN.out j (by omega)⟩
        case measure => simp [intOf]; omega
      · have hr : rangeB x (-1) 1 = false := by simp [outB] at ho; simp [rangeB]; omega
        go_wp2_with (go_at_call 70; refine (mwithin_any _ _ _ _).mono ?_; rintro e w' ⟨rfl, rfl⟩)
        go_ret
        exact ⟨ret_bool (rowB_no (allB_no HX.out ho)).symm, rfl⟩
    · have HY : Hid (rowB r = rangeB r.length 1 10) := by
        show rowB r = _
        unfold rowB; rw [allB_yes (fun j hj => HN.out j (by omega)), Bool.and_true]
      go_wp2_with (go_at_call 70; refine (mwithin_any _ _ _ _).mono ?_; rintro e w' ⟨rfl, rfl⟩)
      go_ret
      exact ⟨ret_bool HY.out.symm, rfl⟩
theorem rvalid_any (a : Option Addr) (m : List (List Int)) (cap : Nat) (w : World) (hm : MOk m) (hs : Ms w a m) :
    Calls Try.prog 40 #[.slice a m.length cap] w fun e w' => e = .returned (.bool (validM m)) ∧ w = w' := by
  have HM := Lib.hid hm
  have hml := hm.1
  clear hm
  have HS := Lib.hid hs; clear hs
  go_enter Try.func40, Try.ntmps40
  go_wp2
  go_loop [7] (fun i => ∃ k : Nat, k ≤ m.length ∧ i = .int .i64 k ∧ (∀ j, j < k → (decide ((m[j]?.getD []).length = colsM m) && rowB (m[j]?.getD [])) = true)) (fun i => m.length - (intOf i).toNat)
  case atStart => exact ⟨0, Nat.zero_le _, rfl, fun j h => by omega⟩
  case round =>
    obtain ⟨k, hk, rfl, hno⟩ := hrel
    have HN := Lib.hid hno; clear hno
    by_cases hlt : k < m.length
    · obtain ⟨b, off, ai, r, ci, rfl, hcell, hsl, HX⟩ := HS.out.at hlt
      obtain ⟨b0, o0, a0, c0, he, hcell0⟩ := row0 HS.out (by omega)
      obtain ⟨rfl, rfl⟩ : b = b0 ∧ off = o0 := by simpa using he
      clear he
      have HSL := Lib.hid hsl; clear hsl
      have hrl := (HM.out.row HX.out).1
      cases hr : rowB r
      · go_wp2_with (go_at_call 69; refine (rrow_any _ _ _ _ hrl HSL.out).mono ?_; rintro e w' ⟨rfl, rfl⟩)
        go_ret
        exact ⟨ret_bool (validM_no HX.out (by rw [hr, Bool.and_false])).symm, rfl⟩
      · by_cases hc : r.length = colsM m
        · have hb : ((r.length : Int) != (colsM m : Int)) = false := by simp [hc]
          have HC := Lib.hid hc; clear hc
          go_wp2_with (go_at_call 69; refine (rrow_any _ _ _ _ hrl HSL.out).mono ?_; rintro e w' ⟨rfl, rfl⟩)
          go_round
          case rel => exact ⟨k + 1, by omega, by go_num, fun j hj => by
              by_cases hj' : j = k
              · subst hj'; rw [HX.out]; show (decide (r.length = colsM m) && rowB r) = true; rw [hr]; simp [HC.out]
              · exact HN.out j (by omega)⟩
          case measure => simp [intOf]; omega
        · have hb : ((r.length : Int) != (colsM m : Int)) = true := by simp; omega
          have HC : Hid ((decide (r.length = colsM m) && rowB r) = false) := by show (decide (r.length = colsM m) && rowB r) = false; simp [hc]
          clear hc
          go_wp2_with (go_at_call 69; refine (rrow_any _ _ _ _ hrl HSL.out).mono ?_; rintro e w' ⟨rfl, rfl⟩)
          go_ret
          exact ⟨ret_bool (validM_no HX.out HC.out).symm, rfl⟩
    · have HY : Hid (validM m = rangeB m.length 1 6) := by
        show validM m = _
        by_cases hR : rangeB m.length 1 6 = true
        · rw [hR]; exact validM_yes hR (fun j hj => HN.out j (by omega))
        · have hR' : rangeB m.length 1 6 = false := by simpa using hR
          unfold validM; rw [hR', Bool.false_and]
      go_wp2_with (go_at_call 70; refine (mwithin_any _ _ _ _).mono ?_; rintro e w' ⟨rfl, rfl⟩)
      go_ret
      exact ⟨ret_bool HY.out.symm, rfl⟩
end Go.Proofs.Ytknhfliefkkpfab
