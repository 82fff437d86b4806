
/- Mirrored of the answers: a contract. -/
import Derived.Test.YtacbciamehchjaaTurned
import Derived.Test.YtacbciamehchjaaUntil
namespace Go.Proofs.Ytacbciamehchjaa
open Go.RowKit

theorem movedL_len (q W H : Nat) (xs : List Int) : (movedL q W H xs).length = W * H := by simp [movedL]
theorem movedL_take (q W H : Nat) (xs : List Int) {k : Nat} (h : k < W * H) : (movedL q W H xs).take (k + 1) = (movedL q W H xs).take k ++ [gt xs (srcQ q W H k)] := by
  rw [List.take_add_one]
  congr 1
  simp [movedL, h]
end Go.Proofs.Ytacbciamehchjaa
