
/- What the functions of layer 1 and its answers compute that ask whether numbers lie in their ranges: contracts. -/
import Derived.Test.YtacbciamehchjaaBase
import Derived.Test.YtacbciamehchjaaProg
namespace Go.Proofs.Ytacbciamehchjaa
open Go.RowKit

theorem within1_any (B : Nat) (lim n : Int) (h0 : 0 ≤ lim) (h1 : lim ≤ 1000000000) (w : World) (hc : w.cell? ⟨B, 0, none⟩ = some (.int .i64 lim)) :
    Calls Try.prog 79 #[.int .i64 n, .pointer (some ⟨B, 0, none⟩)] w fun e w' => e = .returned (.bool (outB lim n)) ∧ w = w' := by
  go_enter Try.func79, Try.ntmps79
  go_wp2
  all_goals go_ret
  · refine ⟨ret_bool ?_, rfl⟩; simp [outB]
  · refine ⟨ret_bool ?_, rfl⟩; simp [outB, *]

theorem indexFunc_any (B : Nat) (lim : Int) (h0 : 0 ≤ lim) (h1 : lim ≤ 1000000000) (a : Option Addr) (xs : List Int) (cap : Nat) (w : World) (hl : xs.length ≤ 140737488351232)
    (hc : w.cell? ⟨B, 0, none⟩ = some (.int .i64 lim)) (hs : Sl w a xs) :
    Calls Try.prog 97 #[.slice a xs.length cap, .func (.func 79) #[] #[.pointer (some ⟨B, 0, none⟩)]] w fun e w' => e = .returned (.int .i64 (firstOut lim xs)) ∧ w = w' := by
  have HS := Lib.hid hs; clear hs
  go_enter Try.func97, Try.ntmps97
  go_wp2
  go_loop [8] (fun i => ∃ k : Nat, k ≤ xs.length ∧ i = .int .i64 k ∧ ∀ j, j < k → outB lim (xs[j]?.getD 0) = false) (fun i => xs.length - (intOf i).toNat)
  case atStart => exact ⟨0, Nat.zero_le _, rfl, fun j h => by omega⟩
  case round =>
    obtain ⟨k, hk, rfl, hno⟩ := hrel
    have HN := Lib.hid hno; clear hno
    by_cases hlt : k < xs.length
    · obtain ⟨b, off, x, rfl, hcell, HX⟩ := HS.out.at hlt
      cases ho : outB lim x
      · go_wp2_with (go_at_call 79; refine (within1_any B lim _ h0 h1 _ hc).mono ?_; rintro e w' ⟨rfl, rfl⟩)
        go_round
        case rel => exact ⟨k + 1, by omega, by go_num, fun j hj => by
            by_cases hj' : j = k
            · subst hj'; rw [HX.out]; exact ho
            · exact HN.out j (by omega)⟩
        case measure => simp [intOf]; omega
      · go_wp2_with (go_at_call 79; refine (within1_any B lim _ h0 h1 _ hc).mono ?_; rintro e w' ⟨rfl, rfl⟩)
        go_ret
        exact ⟨ret_i64 (firstOut_hit HN.out HX.out ho).symm, rfl⟩
    · go_wp2
      go_ret
      exact ⟨ret_i64 (firstOut_miss (fun j hj => HN.out j (by omega))).symm, rfl⟩

theorem containsFunc_any (B : Nat) (lim : Int) (h0 : 0 ≤ lim) (h1 : lim ≤ 1000000000) (a : Option Addr) (xs : List Int) (cap : Nat) (w : World) (hl : xs.length ≤ 140737488351232)
    (hc : w.cell? ⟨B, 0, none⟩ = some (.int .i64 lim)) (hs : Sl w a xs) :
    Calls Try.prog 78 #[.slice a xs.length cap, .func (.func 79) #[] #[.pointer (some ⟨B, 0, none⟩)]] w fun e w' => e = .returned (.bool (!allB lim xs)) ∧ w = w' := by
  have HS := Lib.hid hs; clear hs
  go_enter Try.func78, Try.ntmps78
  go_wp2_with (go_at_call 97; refine (indexFunc_any B lim h0 h1 _ _ _ _ hl hc HS.out).mono ?_; rintro e w' ⟨rfl, rfl⟩)
  go_ret
  exact ⟨ret_bool (firstOut_allB lim xs), rfl⟩

theorem within_any (lim : Int) (h0 : 0 ≤ lim) (h1 : lim ≤ 1000000000) (a : Option Addr) (xs : List Int) (cap : Nat) (w : World) (hl : xs.length ≤ 140737488351232) (hs : Sl w a xs) :
    Calls Try.prog 58 #[.slice a xs.length cap, .int .i64 lim] w fun e w' => e = .returned (.bool (allB lim xs)) ∧ Below w.heap.size w w' := by
  have HS := Lib.hid (hs.alloc (.cells #[.int .i64 lim] 3)); clear hs
  go_enter Try.func58, Try.ntmps58
  go_wp2_with (go_at_call 78; refine (containsFunc_any w.heap.size lim h0 h1 _ _ _ _ hl (by simp) HS.out).mono ?_; rintro e w' ⟨rfl, rfl⟩)
  go_ret
  exact ⟨ret_bool (by simp), (Below.refl _ _).alloc (Nat.le_refl _) _⟩

theorem rwithin_any (n lo hi : Int) (w : World) :
    Calls Try.prog 35 #[.int .i64 n, .int .i64 lo, .int .i64 hi] w fun e w' => e = .returned (.bool (rangeB n lo hi)) ∧ w = w' := by
  go_enter Try.func35, Try.ntmps35
  go_wp2
  all_goals go_ret
  all_goals exact ⟨ret_bool (by first | (simp [rangeB, *]; done) | (simp [rangeB]; omega)), rfl⟩

theorem side_any (n : Int) (w : World) : Calls Try.prog 63 #[.int .i64 n] w fun e w' => e = .returned (.bool (rangeB n 1 16)) ∧ w = w' := by
  go_enter Try.func63, Try.ntmps63
  go_wp2
  all_goals go_ret
  all_goals exact ⟨ret_bool (by first | (simp [rangeB, *]; done) | (simp [rangeB]; omega)), rfl⟩

theorem rall_any (lim : Int) (h0 : 0 ≤ lim) (h1 : lim ≤ 1000000000) (a : Option Addr) (xs : List Int) (cap : Nat) (w : World) (hl : xs.length ≤ 140737488351232) (hs : Sl w a xs) :
    Calls Try.prog 38 #[.slice a xs.length cap, .int .i64 lim] w fun e w' => e = .returned (.bool (allB lim xs)) ∧ w = w' := by
  have HS := Lib.hid hs; clear hs
  go_enter Try.func38, Try.ntmps38
  go_wp2
  go_loop [9] (fun i => ∃ k : Nat, k ≤ xs.length ∧ i = .int .i64 k ∧ ∀ j, j < k → outB lim (xs[j]?.getD 0) = false) (fun i => xs.length - (intOf i).toNat)
  case atStart => exact ⟨0, Nat.zero_le _, rfl, fun j h => by omega⟩
  case round =>
    obtain ⟨k, hk, rfl, hno⟩ := hrel
    have HN := Lib.hid hno; clear hno
    by_cases hlt : k < xs.length
    · obtain ⟨b, off, x, rfl, hcell, HX⟩ := HS.out.at hlt
      cases ho : outB lim x
      · have hr : rangeB x (-lim) lim = true := by simp [outB] at ho; simp [rangeB]; omega
        go_wp2_with (go_at_call 35; refine (rwithin_any _ _ _ _).mono ?_; rintro e w' ⟨rfl, rfl⟩)
        go_round
        case rel => exact ⟨k + 1, by omega, by go_num, fun j hj => by
            by_cases hj' : j = k
            · subst hj'; rw [HX.out]; exact ho
            · exact HN.out j (by omega)⟩
        case measure => simp [intOf]; omega
      · have hr : rangeB x (-lim) lim = false := by simp [outB] at ho; simp [rangeB]; omega
        go_wp2_with (go_at_call 35; refine (rwithin_any _ _ _ _).mono ?_; rintro e w' ⟨rfl, rfl⟩)
        go_ret
        exact ⟨ret_bool (allB_no HX.out ho).symm, rfl⟩
    · go_wp2
      go_ret
      exact ⟨ret_bool (allB_yes (fun j hj => HN.out j (by omega))).symm, rfl⟩
end Go.Proofs.Ytacbciamehchjaa
