
/- How a string that came in is opened. Speaks of no function. -/
import Derived.Test.YtknhfliefkkpfabOpen
import Derived.ChangeMaps5
namespace Go.Proofs.Ytknhfliefkkpfab
open Go.ChangeShapes Go.WideShapes Go.ChangeAt Go.RowKit Go.Joins
section
variable {H : Type} {enc : TypeId × Value → H} {P : Program} {w : World} {base : Nat} {held : Bool}
theorem in_string {t : TypeId} {r : Reach} {b0 : Nat} {v : Value} {d : DataW H} {p : List MemPlace} {spare : Nat → Bool} (ht : P.underlying t = some .string)
    (hv : Value.okWide P w r b0 t v) (h : DataW.Trod enc P w base spare held t v d p) : ∃ s, v = .string s ∧ s.size ≤ maxLen := by
  obtain ⟨s, e, _, _, hs⟩ := ChangeMaps.open_string ht hv h
  exact ⟨s, e, hs⟩
end
end Go.Proofs.Ytknhfliefkkpfab
