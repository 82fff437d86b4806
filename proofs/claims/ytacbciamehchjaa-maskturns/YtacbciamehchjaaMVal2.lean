
/- What asks masks and lists for their ranges in the answers of layer 2: contracts. -/
import Derived.Test.YtacbciamehchjaaMVal
namespace Go.Proofs.Ytacbciamehchjaa
open Go.RowKit

theorem mwithin_any (n lo hi : Int) (w : World) :
    Calls Try.prog 40 #[.int .i64 n, .int .i64 lo, .int .i64 hi] w fun e w' => e = .returned (.bool (rangeB n lo hi)) ∧ w = w' := by
  go_enter Try.func40, Try.ntmps40
  go_wp2
  all_goals go_ret
  all_goals exact ⟨ret_bool (by first | (simp [rangeB, *]; done) | (simp [rangeB]; omega)), rfl⟩
theorem rowB_no {r : List Int} (h : allB 1 r = false) : rowB r = false := by unfold rowB; rw [h, Bool.and_false]
theorem rrow_any (a : Option Addr) (r : List Int) (cap : Nat) (w : World) (hl : r.length ≤ 9223372036854775807) (hs : Sl w a r) :
    Calls Try.prog 39 #[.slice a r.length cap] w fun e w' => e = .returned (.bool (rowB r)) ∧ w = w' := by
  have HS := Lib.hid hs; clear hs
  go_enter Try.func39, Try.ntmps39
  go_wp2
  go_loop [7] (fun i => ∃ k : Nat, k ≤ r.length ∧ i = .int .i64 k ∧ ∀ j, j < k → outB 1 (r[j]?.getD 0) = false) (fun i => r.length - (intOf i).toNat)
  case atStart => exact ⟨0, Nat.zero_le _, rfl, fun j h => by omega⟩
  case round =>
    obtain ⟨k, hk, rfl, hno⟩ := hrel
    have HN := Lib.hid hno; clear hno
    by_cases hlt : k < r.length
    · obtain ⟨b, off, x, rfl, hcell, HX⟩ := HS.out.at hlt
      cases ho : outB 1 x
      · have hr : rangeB x (-1) 1 = true := by simp [outB] at ho; simp [rangeB]; omega
        go_wp2_with (go_at_call 40; refine (mwithin_any _ _ _ _).mono ?_; rintro e w' ⟨rfl, rfl⟩)
        go_round
        case rel => exact ⟨k + 1, by omega, by go_num, fun j hj => by
            by_cases hj' : j = k
            · subst hj'; rw [HX.out]; exact ho
            · exact HN.out j (by omega)⟩
        case measure => simp [intOf]; omega
      · have hr : rangeB x (-1) 1 = false := by simp [outB] at ho; simp [rangeB]; omega
        go_wp2_with (go_at_call 40; refine (mwithin_any _ _ _ _).mono ?_; rintro e w' ⟨rfl, rfl⟩)
        go_ret
        exact ⟨ret_bool (rowB_no (allB_no HX.out ho)).symm, rfl⟩
    · have HY : Hid (rowB r = rangeB r.length 1 10) := by
        show rowB r = _
        unfold rowB; rw [allB_yes (fun j hj => HN.out j (by omega)), Bool.and_true]
      go_wp2_with (go_at_call 40; refine (mwithin_any _ _ _ _).mono ?_; rintro e w' ⟨rfl, rfl⟩)
      go_ret
      exact ⟨ret_bool HY.out.symm, rfl⟩
theorem rvalid_any (a : Option Addr) (m : List (List Int)) (cap : Nat) (w : World) (hm : MOk m) (hs : Ms w a m) :
    Calls Try.prog 18 #[.slice a m.length cap] w fun e w' => e = .returned (.bool (validM m)) ∧ w = w' := by
  have HM := Lib.hid hm
  have hml := hm.1
  clear hm
  have HS := Lib.hid hs; clear hs
  go_enter Try.func18, Try.ntmps18
  go_wp2
  go_loop [7] (fun i => ∃ k : Nat, k ≤ m.length ∧ i = .int .i64 k ∧ (∀ j, j < k → (decide ((m[j]?.getD []).length = colsM m) && rowB (m[j]?.getD [])) = true)) (fun i => m.length - (intOf i).toNat)
  case atStart => exact ⟨0, Nat.zero_le _, rfl, fun j h => by omega⟩
  case round =>
    obtain ⟨k, hk, rfl, hno⟩ := hrel
    have HN := Lib.hid hno; clear hno
    by_cases hlt : k < m.length
    · obtain ⟨b, off, ai, r, ci, rfl, hcell, hsl, HX⟩ := HS.out.at hlt
      obtain ⟨b0, o0, a0, c0, he, hcell0⟩ := row0 HS.out (by omega)
      obtain ⟨rfl, rfl⟩ : b = b0 ∧ off = o0 := by simpa using he
      clear he
      have HSL := Lib.hid hsl; clear hsl
      have hrl := (HM.out.row HX.out).1
      cases hr : rowB r
      · go_wp2_with (go_at_call 39; refine (rrow_any _ _ _ _ hrl HSL.out).mono ?_; rintro e w' ⟨rfl, rfl⟩)
        go_ret
        exact ⟨ret_bool (validM_no HX.out (by rw [hr, Bool.and_false])).symm, rfl⟩
      · by_cases hc : r.length = colsM m
        · have hb : ((r.length : Int) != (colsM m : Int)) = false := by simp [hc]
          have HC := Lib.hid hc; clear hc
          go_wp2_with (go_at_call 39; refine (rrow_any _ _ _ _ hrl HSL.out).mono ?_; rintro e w' ⟨rfl, rfl⟩)
          go_round
          case rel => exact ⟨k + 1, by omega, by go_num, fun j hj => by
              by_cases hj' : j = k
              · subst hj'; rw [HX.out]; show (decide (r.length = colsM m) && rowB r) = true; rw [hr]; simp [HC.out]
              · exact HN.out j (by omega)⟩
          case measure => simp [intOf]; omega
        · have hb : ((r.length : Int) != (colsM m : Int)) = true := by simp; omega
          have HC : Hid ((decide (r.length = colsM m) && rowB r) = false) := by show (decide (r.length = colsM m) && rowB r) = false; simp [hc]
          clear hc
          go_wp2_with (go_at_call 39; refine (rrow_any _ _ _ _ hrl HSL.out).mono ?_; rintro e w' ⟨rfl, rfl⟩)
          go_ret
          exact ⟨ret_bool (validM_no HX.out HC.out).symm, rfl⟩
    · have HY : Hid (validM m = rangeB m.length 1 6) := by
        show validM m = _
        by_cases hR : rangeB m.length 1 6 = true
        · rw [hR]; exact validM_yes hR (fun j hj => HN.out j (by omega))
        · have hR' : rangeB m.length 1 6 = false := by simpa using hR
          unfold validM; rw [hR', Bool.false_and]
      go_wp2_with (go_at_call 40; refine (mwithin_any _ _ _ _).mono ?_; rintro e w' ⟨rfl, rfl⟩)
      go_ret
      exact ⟨ret_bool HY.out.symm, rfl⟩
theorem rlisted_any (a : Option Addr) (xs : List Int) (cap : Nat) (n lim : Int) (h0 : 0 ≤ lim) (h1 : lim ≤ 1000000000) (w : World) (hl : xs.length ≤ 9223372036854775807) (hs : Sl w a xs) :
    Calls Try.prog 41 #[.slice a xs.length cap, .int .i64 n, .int .i64 lim] w fun e w' => e = .returned (.int .i64 (fitsV xs n lim)) ∧ w = w' := by
  have HS := Lib.hid hs; clear hs
  by_cases hn : (xs.length : Int) = n
  · have HN : Hid (fitsV xs n lim = if allB lim xs = true then 0 else 7) := by show fitsV xs n lim = _; unfold fitsV; rw [if_pos hn]
    have hb : ((xs.length : Int) == n) = true := by simpa using hn
    have hb' : ((xs.length : Int) != n) = false := by simpa using hn
    clear hn
    go_enter Try.func41, Try.ntmps41
    go_wp2
    go_loop [15] (fun i => ∃ k : Nat, k ≤ xs.length ∧ i = .int .i64 k ∧ ∀ j, j < k → outB lim (xs[j]?.getD 0) = false) (fun i => xs.length - (intOf i).toNat)
    case atStart => exact ⟨0, Nat.zero_le _, rfl, fun j h => by omega⟩
    case round =>
      obtain ⟨k, hk, rfl, hno⟩ := hrel
      have HO := Lib.hid hno; clear hno
      by_cases hlt : k < xs.length
      · obtain ⟨b, off, x, rfl, hcell, HX⟩ := HS.out.at hlt
        cases ho : outB lim x
        · have hr : rangeB x (-lim) lim = true := by simp [outB] at ho; simp [rangeB]; omega
          go_wp2_with (go_at_call 40; refine (mwithin_any _ _ _ _).mono ?_; rintro e w' ⟨rfl, rfl⟩)
          go_round
          case rel => exact ⟨k + 1, by omega, by go_num, fun j hj => by
              by_cases hj' : j = k
              · subst hj'; rw [HX.out]; exact ho
              · exact HO.out j (by omega)⟩
          case measure => simp [intOf]; omega
        · have hr : rangeB x (-lim) lim = false := by simp [outB] at ho; simp [rangeB]; omega
          go_wp2_with (go_at_call 40; refine (mwithin_any _ _ _ _).mono ?_; rintro e w' ⟨rfl, rfl⟩)
          go_ret
          exact ⟨ret_i64 (by rw [HN.out, allB_no HX.out ho]; rfl), rfl⟩
      · have HY : Hid (fitsV xs n lim = 0) := by show fitsV xs n lim = 0; rw [HN.out, allB_yes (fun j hj => HO.out j (by omega))]; rfl
        go_wp2
        go_ret
        exact ⟨ret_i64 HY.out.symm, rfl⟩
  · have HN : Hid (fitsV xs n lim = 9) := by show fitsV xs n lim = _; unfold fitsV; rw [if_neg hn]
    have hb : ((xs.length : Int) == n) = false := by simpa using hn
    have hb' : ((xs.length : Int) != n) = true := by simpa using hn
    clear hn
    go_enter Try.func41, Try.ntmps41
    go_wp2
    go_ret
    exact ⟨ret_i64 HN.out.symm, rfl⟩
theorem rshown_any (a : Option Addr) (m : List (List Int)) (cap : Nat) (b : Option Addr) (xs : List Int) (c : Nat) (w : World) (hm : MOk m) (hl : xs.length ≤ 9223372036854775807) (hs : Ms w a m) (hx : Sl w b xs) :
    Calls Try.prog 19 #[.slice a m.length cap, .slice b xs.length c] w fun e w' => e = .returned (.bool (shownM m xs)) ∧ w = w' := by
  have HM := Lib.hid hm; clear hm
  have HS := Lib.hid hs; clear hs
  have HX := Lib.hid hx; clear hx
  have HD : Hid (shownM m xs = (validM m && decide (fitsV xs (colsM m) 1000000 = 0))) := Lib.hid rfl
  cases hv : validM m
  · rw [hv] at HD
    go_enter Try.func19, Try.ntmps19
    go_wp2_with (go_at_call 18; refine (rvalid_any _ _ _ _ HM.out HS.out).mono ?_; rintro e w' ⟨rfl, rfl⟩)
    go_ret
    exact ⟨ret_bool (by rw [HD.out]; simp), rfl⟩
  · rw [hv] at HD
    have hm1 := (validM_of hv).1
    have hm6 := (validM_of hv).2.1
    obtain ⟨b0, o0, a0, c0, rfl, hcell⟩ := row0 HS.out hm1
    obtain ⟨f, hf⟩ : ∃ f, fitsV xs (colsM m) 1000000 = f := ⟨_, rfl⟩
    have HF := Lib.hid hf; clear hf
    by_cases h0 : f = 0
    · subst h0
      go_enter Try.func19, Try.ntmps19
      go_wp2_with (first | (go_at_call 18; refine (rvalid_any _ _ _ _ HM.out HS.out).mono ?_; rintro e w' ⟨rfl, rfl⟩) | (go_at_call 41; refine (rlisted_any _ _ _ _ _ (by omega) (by omega) _ hl HX.out).mono ?_; rintro e w' ⟨rfl, rfl⟩; rw [HF.out]))
      go_ret
      exact ⟨ret_bool (by rw [HD.out, HF.out]; simp), rfl⟩
    · have e0 : (f == 0) = false := by simpa using h0
      have H0 := Lib.hid h0; clear h0
      go_enter Try.func19, Try.ntmps19
      go_wp2_with (first | (go_at_call 18; refine (rvalid_any _ _ _ _ HM.out HS.out).mono ?_; rintro e w' ⟨rfl, rfl⟩) | (go_at_call 41; refine (rlisted_any _ _ _ _ _ (by omega) (by omega) _ hl HX.out).mono ?_; rintro e w' ⟨rfl, rfl⟩; rw [HF.out]))
      go_ret
      exact ⟨ret_bool (by rw [HD.out, HF.out]; simp [H0.out]), rfl⟩
end Go.Proofs.Ytacbciamehchjaa
