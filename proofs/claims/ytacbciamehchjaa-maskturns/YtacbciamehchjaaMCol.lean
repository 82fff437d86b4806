
/- Sums of products and columns, in layer 2 and in its answers: contracts. -/
import Derived.Test.YtacbciamehchjaaMVal2
import Derived.Test.YtacbciamehchjaaOwnW
import Derived.BigQuiet
import Derived.Deep.QuietTactic
import Derived.IntWalk
namespace Go.Proofs.Ytacbciamehchjaa
open Go.RowKit

/-- Each product of two lists is in a range. -/
def PB (xs ys : List Int) : Prop := ∀ i, i < xs.length → -100000000000000000 ≤ gt xs i * gt ys i ∧ gt xs i * gt ys i ≤ 100000000000000000
def dotTo (xs ys : List Int) : Nat → Int := sumTo (fun i => gt xs i * gt ys i)
theorem dotTo_bd {xs ys : List Int} (h : PB xs ys) {k : Nat} (hk : k ≤ xs.length) : -(k * 100000000000000000) ≤ dotTo xs ys k ∧ dotTo xs ys k ≤ k * 100000000000000000 := sumTo_bd k fun i hi => h i (by omega)
theorem PB_of {xs ys : List Int} {A B : Int} (ha : allB A xs = true) (hb : allB B ys = true) (hl : xs.length ≤ ys.length) (hAB : A * B ≤ 100000000000000000) : PB xs ys := by
  intro i hi
  have := mul_le (gt_in ha hi) (gt_in hb (show i < ys.length by omega))
  omega

set_option maxRecDepth 100000 in
theorem product_any (a : Option Addr) (xs : List Int) (ca : Nat) (b : Option Addr) (ys : List Int) (cb : Nat) (w : World) (hl : xs.length ≤ 10) (hl2 : xs.length ≤ ys.length) (hl3 : ys.length ≤ 9223372036854775807) (hp : PB xs ys) (ha : Sl w a xs) (hb : Sl w b ys) :
    Calls Try.prog 45 #[.slice a xs.length ca, .slice b ys.length cb] w fun e w' => e = .returned (.int .i64 (dot xs ys)) ∧ w = w' := by
  have HA := Lib.hid ha; clear ha
  have HB := Lib.hid hb; clear hb
  have HP := Lib.hid hp; clear hp
  go_enter Try.func45, Try.ntmps45
  go_wp2
  go_loop [5, 10] (fun s i => ∃ k : Nat, k ≤ xs.length ∧ i = .int .i64 k ∧ s = .int .i64 (dotTo xs ys k)) (fun _ i => xs.length - (intOf i).toNat)
  case atStart => exact ⟨0, Nat.zero_le _, rfl, rfl⟩
  case round =>
    obtain ⟨k, hk, rfl, rfl⟩ := hrel
    have SB := Lib.hid (dotTo_bd HP.out hk)
    by_cases hlt : k < xs.length
    · obtain ⟨b1, o1, x, rfl, hcx, HX⟩ := HA.out.at hlt
      obtain ⟨b2, o2, y, rfl, hcy, HY⟩ := HB.out.at (show k < ys.length by omega)
      have hS := Lib.hid (show dotTo xs ys (k + 1) = dotTo xs ys k + x * y by show dotTo xs ys k + gt xs k * gt ys k = _; rw [gt_some' HX.out, gt_some' HY.out])
      have hxy : -100000000000000000 ≤ x * y ∧ x * y ≤ 100000000000000000 := by have := HP.out k hlt; rw [gt_some' HX.out, gt_some' HY.out] at this; exact this
      obtain ⟨p1, p2⟩ := hxy
      obtain ⟨s1, s2⟩ := SB.out
      generalize dotTo xs ys k = S at *
      have s3 : S ≤ 1000000000000000000 := by omega
      have s4 : -1000000000000000000 ≤ S := by omega
      clear s1 s2 SB
      go_wp2
      go_round
      case rel => exact ⟨k + 1, by omega, by go_num, by rw [hS.out]⟩
      case measure => simp [intOf]; omega
    · obtain rfl : k = xs.length := by omega
      go_wp2
      go_ret
      exact ⟨rfl, rfl⟩
end Go.Proofs.Ytacbciamehchjaa
