
/- Two pairs of ints held against each other: what the operation yields. -/
import Derived.ChangeKeysEq
import Derived.Test.YtknhfliefkkpfabMPair
namespace Go.Proofs.Ytknhfliefkkpfab
open Go.RowKit

theorem plain_int : Try.prog.plainKey 3 = true := by kernel_rfl
theorem cells_int : Try.prog.cellsOf 3 = 1 := by kernel_rfl
theorem run_equal_pair (d : Nat) (a b : Int) (w : World) : (Op.equalIn (d + 2) 55 (.agg #[.int .i64 a, .int .i64 b]) (.agg #[.int .i64 a, .int .i64 b])).run Try.prog w = .ok true w := by
  obtain ⟨i0, hi, _⟩ := info_parts Try.infoInt
  rw [run_equalIn_array w (d + 1) _ _ Try.underlying55 hi, cells_int]
  have p0 := run_part_plain (P := Try.prog) w plain_int (xs := #[.int .i64 a, .int .i64 b]) (off := 0) (v := .int .i64 a) rfl
  have p1 := run_part_plain (P := Try.prog) w plain_int (xs := #[.int .i64 a, .int .i64 b]) (off := 1) (v := .int .i64 b) rfl
  have e0 := run_equalIn_int (P := Try.prog) w d 3 .i64 .i64 a a Try.underlying3
  have e1 := run_equalIn_int (P := Try.prog) w d 3 .i64 .i64 b b Try.underlying3
  show (Op.eqItems (d + 1) _ 1 _ _ [0, 1]).run _ w = _
  simp only [Op.eqItems, Sem.run_bind, Nat.zero_mul, Nat.one_mul, p0, p1, e0, e1, Result.andThen_ok, beq_self_eq_true, Bool.not_true, Bool.false_eq_true, if_false, Sem.run_pure]
theorem run_neq_pair (a b : Int) (w : World) : (binOp .neq 55 (.agg #[.int .i64 a, .int .i64 b]) (.agg #[.int .i64 a, .int .i64 b])).run Try.prog w = .ok (.bool false) w := by
  simp only [binOp]
  simp [Op.equal, Op.maxDepth, run_equal_pair 9998 a b w]
end Go.Proofs.Ytknhfliefkkpfab
