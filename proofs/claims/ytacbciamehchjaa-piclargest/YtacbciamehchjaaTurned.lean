
/- Mirrored and Turned of layer 1: contracts. -/
import Derived.Test.YtacbciamehchjaaMoved
import Derived.Test.YtacbciamehchjaaPBox
import Derived.Test.YtacbciamehchjaaMots
import Derived.Test.YtacbciamehchjaaSums2
import Derived.Deep.RegionHeldLaw
namespace Go.Proofs.Ytacbciamehchjaa
open Go.RowKit

/-- A picture that was moved, and the error. -/
def turnV (q : Nat) (wide high : Int) (xs : List Int) : (Int × Int × List Int) × Int :=
  if validPicB wide high xs = false then ((0, 0, []), 1) else (((wideQ q wide.toNat high.toNat : Nat), (if q = 1 ∨ q = 3 then wide else high), movedL q wide.toNat high.toNat xs), 0)
theorem turnV_1 {q : Nat} {wide high : Int} {xs : List Int} (h : validPicB wide high xs = false) : turnV q wide high xs = ((0, 0, []), 1) := by simp [turnV, h]
theorem turnV_0 {q W H : Nat} {xs : List Int} (h : validPicB W H xs = true) : turnV q W H xs = ((((wideQ q W H : Nat) : Int), (if q = 1 ∨ q = 3 then (W : Int) else H), movedL q W H xs), 0) := by
  unfold turnV; rw [if_neg (by simp [h])]; rfl
end Go.Proofs.Ytacbciamehchjaa
