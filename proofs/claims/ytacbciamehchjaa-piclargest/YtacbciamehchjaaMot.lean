
/- The motions of pictures, and moved: contracts of layer 1. -/
import Derived.Test.YtacbciamehchjaaMotMath
import Derived.Test.YtacbciamehchjaaSums2
import Derived.Deep.RegionLaw
namespace Go.Proofs.Ytacbciamehchjaa
open Go.RowKit

/-- The captured sides. -/
structure Caps (W H R B : Nat) (w : World) : Prop where
  r : w.cell? ⟨R, 0, none⟩ = some (.int .i64 ((W : Int) - 1))
  b : w.cell? ⟨B, 0, none⟩ = some (.int .i64 ((H : Int) - 1))
theorem Caps.below {W H R B : Nat} {w w' : World} (h : Caps W H R B w) {n : Nat} (hb : Below n w w') (hR : R < n) (hB : B < n) : Caps W H R B w' :=
  ⟨(hb.cell (p := ⟨R, 0, none⟩) hR).trans h.r, (hb.cell (p := ⟨B, 0, none⟩) hB).trans h.b⟩
theorem Caps.drewN {W H R B : Nat} {w : World} (h : Caps W H R B w) (n : Nat) : Caps W H R B (w.drewN n) := ⟨h.r, h.b⟩

end Go.Proofs.Ytacbciamehchjaa
