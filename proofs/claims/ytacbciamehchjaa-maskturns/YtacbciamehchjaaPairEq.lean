
/- Two pairs of ints held against each other: what the operation yields. -/
import Derived.ChangeKeysEq
import Derived.Test.YtacbciamehchjaaMPair
namespace Go.Proofs.Ytacbciamehchjaa
open Go.RowKit

theorem plain_int : Try.prog.plainKey 3 = true := by kernel_rfl
theorem cells_int : Try.prog.cellsOf 3 = 1 := by kernel_rfl
end Go.Proofs.Ytacbciamehchjaa
