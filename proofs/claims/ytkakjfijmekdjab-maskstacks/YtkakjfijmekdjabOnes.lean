/- Ones of a number, and the numbers that two have in common: contracts of the library, plain facts. -/
import Derived.Test.YtkakjfijmekdjabBase
import Derived.Test.YtkakjfijmekdjabProg
import Derived.IntWalk
namespace Go.Proofs.Ytkakjfijmekdjab
open Go.RowKit

theorem i64_and (a b : Nat) (ha : a < 4294967296) (hb : b < 4294967296) : bits .and .i64 (a : Int) (b : Int) = ((a &&& b : Nat) : Int) := by
  have hx : a &&& b < 2 ^ 32 := Nat.and_lt_two_pow _ (by omega)
  show IntKind.i64.wrap ((BitVec.ofInt 64 (a : Int) &&& BitVec.ofInt 64 (b : Int)).toNat : Int) = _
  rw [BitVec.toNat_and, ofInt_u64 a (by omega), ofInt_u64 b (by omega), IntWalk.i64_in _ (by omega)]
/-- How many ones a number up to 256 has. -/
def popc (n : Nat) : Int := (((List.range 9).filter (fun k => n.testBit k)).length : Nat)
theorem ones64_any (n : Nat) (hn : n < 257) (w : World) : Calls Try.prog 99 #[.int .u64 n] w fun e w' => e = .returned (.int .i64 (popc n)) ∧ w = w' := by
  go_enter Try.func99, Try.ntmps99
  go_wp2
  go_ret
  refine ⟨ret_i64 ?_, rfl⟩
  revert n
  decide +kernel
theorem ones_any (n : Nat) (hn : n < 257) (w : World) : Calls Try.prog 79 #[.int .u64 n] w fun e w' => e = .returned (.int .i64 (popc n)) ∧ w = w' := by
  go_enter Try.func79, Try.ntmps79
  go_wp2_with (go_at_call 99; refine (ones64_any _ hn _).mono ?_; rintro e w' ⟨rfl, rfl⟩)
  go_ret
  exact ⟨rfl, rfl⟩

end Go.Proofs.Ytkakjfijmekdjab
