
/- The answers' Walsh: odd, walsh by its sums, Walsh: contracts; one element appended. -/
import Derived.Test.YtknhfliefkkpfabSum
import Derived.Test.YtknhfliefkkpfabLong
import Derived.Test.YtknhfliefkkpfabPush
namespace Go.Proofs.Ytknhfliefkkpfab
open Go.RowKit

/-- The first k sums. -/
def sums (xs : List Int) (k : Nat) : List Int := (List.range k).map (fun i => wsum xs i xs.length)
theorem sums_succ (xs : List Int) (k : Nat) : sums xs (k + 1) = sums xs k ++ [wsum xs k xs.length] := by simp [sums, List.range_succ]
theorem sums_length (xs : List Int) (k : Nat) : (sums xs k).length = k := by simp [sums]
end Go.Proofs.Ytknhfliefkkpfab
