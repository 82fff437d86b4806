
/- What Valid, ValidList, Power and what they ask compute (layer 1 and its answers): contracts. -/
import Derived.Test.YtacbciamehchjaaVal
namespace Go.Proofs.Ytacbciamehchjaa
open Go.RowKit

theorem vpic_f1 {wide high : Int} {xs : List Int} (h : rangeB wide 1 16 = false) : validPicB wide high xs = false := by simp [validPicB, h]
theorem vpic_f2 {wide high : Int} {xs : List Int} (h : rangeB high 1 16 = false) : validPicB wide high xs = false := by simp [validPicB, h]
theorem vpic_f3 {wide high : Int} {xs : List Int} (h : ¬ (xs.length : Int) = wide * high) : validPicB wide high xs = false := by simp [validPicB, h]
theorem vpic_t {wide high : Int} {xs : List Int} (h1 : rangeB wide 1 16 = true) (h2 : rangeB high 1 16 = true) (h : (xs.length : Int) = wide * high) : validPicB wide high xs = allB 1000000 xs := by simp [validPicB, h, h1, h2]
theorem range_bd {n lo hi : Int} (h : rangeB n lo hi = true) : lo ≤ n ∧ n ≤ hi := by simpa [rangeB] using h
theorem mul_bd {a b : Int} (ha : 1 ≤ a ∧ a ≤ 16) (hb : 1 ≤ b ∧ b ≤ 16) : 1 ≤ a * b ∧ a * b ≤ 256 := by
  obtain ⟨n, rfl⟩ := Int.eq_ofNat_of_zero_le (show 0 ≤ a by omega)
  obtain ⟨m, rfl⟩ := Int.eq_ofNat_of_zero_le (show 0 ≤ b by omega)
  have h1 : n * m ≤ 16 * 16 := Nat.mul_le_mul (by omega) (by omega)
  have h2 : 1 * 1 ≤ n * m := Nat.mul_le_mul (by omega) (by omega)
  have : ((n : Int) * (m : Int)) = ((n * m : Nat) : Int) := by simp
  rw [this]; omega

theorem valid_any (wide high : Int) (a : Option Addr) (xs : List Int) (cap : Nat) (w : World) (hl : xs.length ≤ 140737488351232) (hs : Sl w a xs) :
    Calls Try.prog 36 #[.agg #[.int .i64 wide, .int .i64 high, .slice a xs.length cap]] w fun e w' => e = .returned (.bool (validPicB wide high xs)) ∧ Below w.heap.size w w' := by
  have HS := Lib.hid (hs.alloc (.cells #[.int .i64 wide, .int .i64 high, .slice a xs.length cap] 24)); clear hs
  cases hw : rangeB wide 1 16
  · go_enter Try.func36, Try.ntmps36
    go_wp2_with (go_at_call 63; refine (side_any _ _).mono ?_; rintro e w' ⟨rfl, rfl⟩)
    go_ret
    exact ⟨ret_bool (vpic_f1 hw).symm, (Below.refl _ _).alloc (Nat.le_refl _) _⟩
  · cases hh : rangeB high 1 16
    · go_enter Try.func36, Try.ntmps36
      go_wp2_with (go_at_call 63; refine (side_any _ _).mono ?_; rintro e w' ⟨rfl, rfl⟩)
      go_ret
      exact ⟨ret_bool (vpic_f2 hh).symm, (Below.refl _ _).alloc (Nat.le_refl _) _⟩
    · have hm := mul_bd (range_bd hw) (range_bd hh)
      have hm1 := hm.1
      have hm2 := hm.2
      clear hm
      by_cases he : (xs.length : Int) = wide * high
      · have hv := vpic_t hw hh he
        have HV := Lib.hid hv; clear hv
        have hb : ((xs.length : Int) == wide * high) = true := by simpa using he
        clear he
        go_enter Try.func36, Try.ntmps36
        go_wp2_with (first | (go_at_call 63; refine (side_any _ _).mono ?_; rintro e w' ⟨rfl, rfl⟩) | (go_at_call 58; refine (within_any _ (by omega) (by omega) _ _ _ _ hl HS.out).mono ?_; rintro e w' ⟨rfl, hbel⟩))
        go_ret
        exact ⟨ret_bool HV.out.symm, ((Below.refl _ _).alloc (Nat.le_refl _) _).trans (hbel.mono (by simp))⟩
      · have hv := vpic_f3 he
        have HV := Lib.hid hv; clear hv
        have hb : ((xs.length : Int) == wide * high) = false := by simpa using he
        clear he
        go_enter Try.func36, Try.ntmps36
        go_wp2_with (first | (go_at_call 63; refine (side_any _ _).mono ?_; rintro e w' ⟨rfl, rfl⟩))
        go_ret
        exact ⟨ret_bool HV.out.symm, (Below.refl _ _).alloc (Nat.le_refl _) _⟩

theorem rvalid_any (wide high : Int) (a : Option Addr) (xs : List Int) (cap : Nat) (w : World) (hl : xs.length ≤ 140737488351232) (hs : Sl w a xs) :
    Calls Try.prog 37 #[.agg #[.int .i64 wide, .int .i64 high, .slice a xs.length cap]] w fun e w' => e = .returned (.bool (validPicB wide high xs)) ∧ Below w.heap.size w w' := by
  have HS := Lib.hid (hs.alloc (.cells #[.int .i64 wide, .int .i64 high, .slice a xs.length cap] 24)); clear hs
  cases hw : rangeB wide 1 16
  · go_enter Try.func37, Try.ntmps37
    go_wp2_with (go_at_call 35; refine (rwithin_any _ _ _ _).mono ?_; rintro e w' ⟨rfl, rfl⟩)
    go_ret
    exact ⟨ret_bool (vpic_f1 hw).symm, (Below.refl _ _).alloc (Nat.le_refl _) _⟩
  · cases hh : rangeB high 1 16
    · go_enter Try.func37, Try.ntmps37
      go_wp2_with (go_at_call 35; refine (rwithin_any _ _ _ _).mono ?_; rintro e w' ⟨rfl, rfl⟩)
      go_ret
      exact ⟨ret_bool (vpic_f2 hh).symm, (Below.refl _ _).alloc (Nat.le_refl _) _⟩
    · have hm := mul_bd (range_bd hw) (range_bd hh)
      have hm1 := hm.1
      have hm2 := hm.2
      clear hm
      by_cases he : (xs.length : Int) = wide * high
      · have hv := vpic_t hw hh he
        have HV := Lib.hid hv; clear hv
        have hb : ((xs.length : Int) == wide * high) = true := by simpa using he
        clear he
        go_enter Try.func37, Try.ntmps37
        go_wp2_with (first | (go_at_call 35; refine (rwithin_any _ _ _ _).mono ?_; rintro e w' ⟨rfl, rfl⟩) | (go_at_call 38; refine (rall_any _ (by omega) (by omega) _ _ _ _ hl HS.out).mono ?_; rintro e w' ⟨rfl, rfl⟩))
        go_ret
        exact ⟨ret_bool HV.out.symm, (Below.refl _ _).alloc (Nat.le_refl _) _⟩
      · have hv := vpic_f3 he
        have HV := Lib.hid hv; clear hv
        have hb : ((xs.length : Int) == wide * high) = false := by simpa using he
        clear he
        go_enter Try.func37, Try.ntmps37
        go_wp2_with (go_at_call 35; refine (rwithin_any _ _ _ _).mono ?_; rintro e w' ⟨rfl, rfl⟩)
        go_ret
        exact ⟨ret_bool HV.out.symm, (Below.refl _ _).alloc (Nat.le_refl _) _⟩

theorem validList_any (a : Option Addr) (xs : List Int) (cap : Nat) (w : World) (hl : xs.length ≤ 140737488351232) (hs : Sl w a xs) :
    Calls Try.prog 28 #[.slice a xs.length cap] w fun e w' => e = .returned (.bool (validListB xs)) ∧ Below w.heap.size w w' := by
  have HS := Lib.hid hs; clear hs
  by_cases h1 : 1 ≤ xs.length
  · by_cases h2 : xs.length ≤ 256
    · have HV : Hid (validListB xs = allB 1000000 xs) := by show validListB xs = allB 1000000 xs; simp [validListB, rangeB]; omega
      go_enter Try.func28, Try.ntmps28
      go_wp2_with (go_at_call 58; refine (within_any _ (by omega) (by omega) _ _ _ _ hl HS.out).mono ?_; rintro e w' ⟨rfl, hbel⟩)
      go_ret
      exact ⟨ret_bool HV.out.symm, hbel⟩
    · have HV : Hid (validListB xs = false) := by show validListB xs = false; simp [validListB, rangeB]; omega
      go_enter Try.func28, Try.ntmps28
      go_wp2
      go_ret
      exact ⟨ret_bool HV.out.symm, Below.refl _ _⟩
  · have HV : Hid (validListB xs = false) := by show validListB xs = false; simp [validListB, rangeB]; omega
    go_enter Try.func28, Try.ntmps28
    go_wp2
    go_ret
    exact ⟨ret_bool HV.out.symm, Below.refl _ _⟩

theorem rvalidList_any (a : Option Addr) (xs : List Int) (cap : Nat) (w : World) (hl : xs.length ≤ 140737488351232) (hs : Sl w a xs) :
    Calls Try.prog 17 #[.slice a xs.length cap] w fun e w' => e = .returned (.bool (validListB xs)) ∧ w = w' := by
  have HS := Lib.hid hs; clear hs
  cases hr : rangeB xs.length 1 256
  · have HV : Hid (validListB xs = false) := by show validListB xs = false; simp [validListB, hr]
    go_enter Try.func17, Try.ntmps17
    go_wp2_with (go_at_call 35; refine (rwithin_any _ _ _ _).mono ?_; rintro e w' ⟨rfl, rfl⟩)
    go_ret
    exact ⟨ret_bool HV.out.symm, rfl⟩
  · have HV : Hid (validListB xs = allB 1000000 xs) := by show validListB xs = allB 1000000 xs; simp [validListB, hr]
    go_enter Try.func17, Try.ntmps17
    go_wp2_with (first | (go_at_call 35; refine (rwithin_any _ _ _ _).mono ?_; rintro e w' ⟨rfl, rfl⟩) | (go_at_call 38; refine (rall_any _ (by omega) (by omega) _ _ _ _ hl HS.out).mono ?_; rintro e w' ⟨rfl, rfl⟩))
    go_ret
    exact ⟨ret_bool HV.out.symm, rfl⟩

/-- How many ones a number up to 256 has. -/
def popc (n : Nat) : Int := (((List.range 9).filter (fun k => n.testBit k)).length : Nat)
theorem popc_pow : ∀ n : Nat, n < 257 → (popc n == 1) = powB n := by decide +kernel
theorem powB_le {n : Nat} (h : powB n = true) : 1 ≤ n ∧ n ≤ 256 := by
  simp [powB] at h; omega
theorem ones64_any (n : Nat) (hn : n < 257) (w : World) : Calls Try.prog 105 #[.int .u64 n] w fun e w' => e = .returned (.int .i64 (popc n)) ∧ w = w' := by
  go_enter Try.func105, Try.ntmps105
  go_wp2
  go_ret
  refine ⟨ret_i64 ?_, rfl⟩
  revert n
  decide +kernel
theorem ones_any (n : Nat) (hn : n < 257) (w : World) : Calls Try.prog 95 #[.int .u64 n] w fun e w' => e = .returned (.int .i64 (popc n)) ∧ w = w' := by
  go_enter Try.func95, Try.ntmps95
  go_wp2_with (go_at_call 105; refine (ones64_any _ hn _).mono ?_; rintro e w' ⟨rfl, rfl⟩)
  go_ret
  exact ⟨rfl, rfl⟩

theorem powerLong_any (a : Option Addr) (n cap : Nat) (w : World) (hl : n ≤ 140737488351232) :
    Calls Try.prog 74 #[.slice a n cap] w fun e w' => e = .returned (.bool (powB n)) ∧ w = w' := by
  by_cases h : n ≤ 256
  · have HV := Lib.hid (popc_pow n (by omega))
    go_enter Try.func74, Try.ntmps74
    go_wp2_with (go_at_call 95; refine (ones_any n (by omega) _).mono ?_; rintro e w' ⟨rfl, rfl⟩)
    go_ret
    exact ⟨ret_bool (by simpa using HV.out), rfl⟩
  · have HV : Hid (powB n = false) := by
      show powB n = false
      cases hp : powB n
      · rfl
      · have := powB_le hp; omega
    go_enter Try.func74, Try.ntmps74
    go_wp2
    go_ret
    exact ⟨ret_bool HV.out.symm, rfl⟩

theorem rpower_fact : ∀ n : Nat, n < 257 → 1 ≤ n → (bits BinOp.and IntKind.i64 (n : Int) ((n : Int) - 1) == 0) = powB n := by decide +kernel
theorem power_any (a : Option Addr) (xs : List Int) (cap : Nat) (w : World) (hl : xs.length ≤ 140737488351232) (hs : Sl w a xs) :
    Calls Try.prog 54 #[.slice a xs.length cap] w fun e w' => e = .returned (.bool (powerB xs)) ∧ Below w.heap.size w w' := by
  have HS := Lib.hid hs; clear hs
  cases hv : validListB xs
  · have HV : Hid (powerB xs = false) := by show powerB xs = false; simp [powerB, hv]
    go_enter Try.func54, Try.ntmps54
    go_wp2_with (go_at_call 28; refine (validList_any _ _ _ _ hl HS.out).mono ?_; rintro e w' ⟨rfl, hbel⟩)
    go_ret
    exact ⟨ret_bool HV.out.symm, hbel⟩
  · have HV : Hid (powerB xs = powB xs.length) := by show powerB xs = powB xs.length; simp [powerB, hv]
    go_enter Try.func54, Try.ntmps54
    go_wp2_with (first | (go_at_call 28; refine (validList_any _ _ _ _ hl HS.out).mono ?_; rintro e w' ⟨rfl, hbel⟩) | (go_at_call 74; refine (powerLong_any _ _ _ _ hl).mono ?_; rintro e w2 ⟨rfl, rfl⟩))
    go_ret
    exact ⟨ret_bool HV.out.symm, hbel⟩

end Go.Proofs.Ytacbciamehchjaa
