
/- Sizes of numbers: sizes and Size of layer 1, abs and Size of its answers: contracts. -/
import Derived.Test.YtacbciamehchjaaSums2
import Derived.Test.YtacbciamehchjaaHad
namespace Go.Proofs.Ytacbciamehchjaa
open Go.RowKit

/-- A number without its sign. -/
def av (x : Int) : Int := if x < -x then -x else x
/-- The first k sizes added up. -/
def szTo (xs : List Int) : Nat → Int := sumTo (fun i => av (gt xs i))
theorem szTo_bound {xs : List Int} {M : Int} (h0 : 0 ≤ M) (hall : allB M xs = true) : ∀ k, k ≤ xs.length → 0 ≤ szTo xs k ∧ szTo xs k ≤ k * M
  | 0, _ => by simp [szTo, sumTo]
  | k + 1, hk => by
    have ih := szTo_bound h0 hall k (by omega)
    have h1 : -M ≤ gt xs k ∧ gt xs k ≤ M := by
      have := allB_get hall (k := k) (x := xs[k]'(by omega)) (by simp)
      unfold gt; simpa [show k < xs.length by omega] using this
    have e : ((k + 1 : Nat) : Int) * M = k * M + M := by rw [Int.natCast_add, Int.add_mul]; simp
    rw [e]
    have h2 : 0 ≤ av (gt xs k) ∧ av (gt xs k) ≤ M := by unfold av; split <;> omega
    show 0 ≤ szTo xs k + av (gt xs k) ∧ szTo xs k + av (gt xs k) ≤ _
    omega
set_option maxRecDepth 100000 in
theorem sizes_any (a : Option Addr) (xs : List Int) (cap : Nat) (w : World) (hl : xs.length ≤ 256) (hall : allB 2000000 xs = true) (hs : Sl w a xs) :
    Calls Try.prog 29 #[.slice a xs.length cap] w fun e w' => e = .returned (.int .i64 (szTo xs xs.length)) ∧ w = w' := by
  have HS := Lib.hid hs; clear hs
  have HA := Lib.hid hall; clear hall
  go_enter Try.func29, Try.ntmps29
  go_wp2
  go_loop [3, 8] (fun s i => ∃ k : Nat, k ≤ xs.length ∧ i = .int .i64 k ∧ s = .int .i64 (szTo xs k)) (fun _ i => xs.length - (intOf i).toNat)
  case atStart => exact ⟨0, Nat.zero_le _, rfl, rfl⟩
  case round =>
    obtain ⟨k, hk, rfl, rfl⟩ := hrel
    have SB := Lib.hid (szTo_bound (by omega) HA.out k hk)
    by_cases hlt : k < xs.length
    · obtain ⟨b, off, x, rfl, hcell, HX⟩ := HS.out.at hlt
      obtain ⟨x1, x2⟩ := allB_get HA.out HX.out
      obtain ⟨s1, s2⟩ := SB.out
      have hS := Lib.hid (show szTo xs (k + 1) = szTo xs k + av x by show szTo xs k + av (gt xs k) = _; rw [gt_some' HX.out])
      generalize szTo xs k = S at *
      have s3 : S ≤ 512000000 := by omega
      clear s2 SB
      go_wp2
      go_round
      case rel => exact ⟨k + 1, by omega, by go_num, by rw [hS.out]; rfl⟩
      case measure => simp [intOf]; omega
    · obtain rfl : k = xs.length := by omega
      go_wp2
      go_ret
      exact ⟨rfl, rfl⟩
theorem abs_any (x : Int) (w : World) (h1 : -2000000 ≤ x) (h2 : x ≤ 2000000) : Calls Try.prog 30 #[.int .i64 x] w fun e w' => e = .returned (.int .i64 (av x)) ∧ w = w' := by
  go_enter Try.func30, Try.ntmps30
  go_wp2
  all_goals go_ret
  all_goals exact ⟨ret_i64 (by unfold av; split <;> omega), rfl⟩
def szV (xs : List Int) : Int × Int := if validListB xs = true then (szTo xs xs.length, 0) else (0, 1)
theorem list_256 {xs : List Int} (h : validListB xs = true) : xs.length ≤ 256 ∧ allB 1000000 xs = true := by
  simp [validListB, rangeB] at h; exact ⟨by omega, h.2⟩
theorem allB_mono {xs : List Int} {M N : Int} (h : allB M xs = true) (hMN : M ≤ N) : allB N xs = true := by
  refine allB_yes fun j hj => ?_
  have := allB_get h (k := j) (x := xs[j]) (by simp [hj])
  simp [hj, outB]; omega
theorem size_any (a : Option Addr) (xs : List Int) (cap : Nat) (w : World) (hl : xs.length ≤ 140737488351232) (hs : Sl w a xs) :
    Calls Try.prog 8 #[.slice a xs.length cap] w fun e w' => e = .returned (.tuple #[.int .i64 (szV xs).1, .int .i64 (szV xs).2]) ∧ Below w.heap.size w w' := by
  have HS := Lib.hid hs; clear hs
  cases hv : validListB xs
  · have HV : Hid (szV xs = (0, 1)) := by show szV xs = (0, 1); simp [szV, hv]
    go_enter Try.func8, Try.ntmps8
    go_wp2_with (go_at_call 28; refine (validList_any _ _ _ _ hl HS.out).mono ?_; rintro e w1 ⟨rfl, hb⟩)
    go_ret2
    exact ⟨ret_two (by rw [HV.out]) (by rw [HV.out]), hb⟩
  · have HV : Hid (szV xs = (szTo xs xs.length, 0)) := by show szV xs = _; simp [szV, hv]
    obtain ⟨h256, hall⟩ := list_256 hv
    have HA := Lib.hid (allB_mono hall (show (1000000 : Int) ≤ 2000000 by omega)); clear hall
    go_enter Try.func8, Try.ntmps8
    go_wp2_with (first | (go_at_call 28; refine (validList_any _ _ _ _ hl HS.out).mono ?_; rintro e w1 ⟨rfl, hb⟩; have HB := Lib.hid hb; clear hb) | (go_at_call 29; refine (sizes_any _ _ _ _ h256 HA.out (HS.out.below HB.out)).mono ?_; rintro e w2 ⟨rfl, rfl⟩))
    go_ret2
    exact ⟨ret_two (by rw [HV.out]) (by rw [HV.out]), HB.out⟩
set_option maxRecDepth 100000 in
theorem rsize_any (a : Option Addr) (xs : List Int) (cap : Nat) (w : World) (hl : xs.length ≤ 140737488351232) (hs : Sl w a xs) :
    Calls Try.prog 9 #[.slice a xs.length cap] w fun e w' => e = .returned (.tuple #[.int .i64 (szV xs).1, .int .i64 (szV xs).2]) ∧ w = w' := by
  have HS := Lib.hid hs; clear hs
  cases hv : validListB xs
  · have HV : Hid (szV xs = (0, 1)) := by show szV xs = (0, 1); simp [szV, hv]
    go_enter Try.func9, Try.ntmps9
    go_wp2_with (go_at_call 17; refine (rvalidList_any _ _ _ _ hl HS.out).mono ?_; rintro e w1 ⟨rfl, rfl⟩)
    go_ret2
    exact ⟨ret_two (by rw [HV.out]) (by rw [HV.out]), rfl⟩
  · have HV : Hid (szV xs = (szTo xs xs.length, 0)) := by show szV xs = _; simp [szV, hv]
    obtain ⟨h256, hall⟩ := list_256 hv
    have HA := Lib.hid hall; clear hall
    go_enter Try.func9, Try.ntmps9
    go_wp2_with (go_at_call 17; refine (rvalidList_any _ _ _ _ hl HS.out).mono ?_; rintro e w1 ⟨rfl, rfl⟩)
    go_loop [4, 12] (fun s i => ∃ k : Nat, k ≤ xs.length ∧ i = .int .i64 k ∧ s = .int .i64 (szTo xs k)) (fun _ i => xs.length - (intOf i).toNat)
    case atStart => exact ⟨0, Nat.zero_le _, rfl, rfl⟩
    case round =>
      obtain ⟨k, hk, rfl, rfl⟩ := hrel
      have SB := Lib.hid (szTo_bound (by omega) HA.out k hk)
      by_cases hlt : k < xs.length
      · obtain ⟨b, off, x, rfl, hcell, HX⟩ := HS.out.at hlt
        obtain ⟨x1, x2⟩ := allB_get HA.out HX.out
        obtain ⟨s1, s2⟩ := SB.out
        have hS := Lib.hid (show szTo xs (k + 1) = szTo xs k + av x by show szTo xs k + av (gt xs k) = _; rw [gt_some' HX.out])
        have a1 : 0 ≤ av x ∧ av x ≤ 1000000 := by unfold av; split <;> omega
        obtain ⟨a2, a3⟩ := a1
        generalize szTo xs k = S at *
        have s3 : S ≤ 512000000 := by omega
        clear s2 SB
        go_wp2_with (go_at_call 30; refine (abs_any x _ (by omega) (by omega)).mono ?_; rintro e w9 ⟨rfl, rfl⟩)
        go_round
        case rel => exact ⟨k + 1, by omega, by go_num, by rw [hS.out]⟩
        case measure => simp [intOf]; omega
      · obtain rfl : k = xs.length := by omega
        go_wp2
        go_ret2
        exact ⟨ret_two (by rw [HV.out]) (by rw [HV.out]), rfl⟩
end Go.Proofs.Ytacbciamehchjaa
