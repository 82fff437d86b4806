
/- The answers' Walsh: odd, walsh by its sums, Walsh: contracts; one element appended. -/
import Derived.Test.YtacbciamehchjaaSum
import Derived.Test.YtacbciamehchjaaLong
import Derived.Test.YtacbciamehchjaaPush
namespace Go.Proofs.Ytacbciamehchjaa
open Go.RowKit

/-- The first k sums. -/
def sums (xs : List Int) (k : Nat) : List Int := (List.range k).map (fun i => wsum xs i xs.length)
theorem sums_succ (xs : List Int) (k : Nat) : sums xs (k + 1) = sums xs k ++ [wsum xs k xs.length] := by simp [sums, List.range_succ]
theorem sums_length (xs : List Int) (k : Nat) : (sums xs k).length = k := by simp [sums]
end Go.Proofs.Ytacbciamehchjaa
