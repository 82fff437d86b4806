/-
  No cell of these rows narrows 'for every input' (looked for: loops, veiled, ifaces, maps, wideKeys, modest, calm, conditions, laid).
  DERIVED. THE GIVEN ROWS OF THIS SEAT. 3 by the template 'for every input the law returns true; each argument reads behind the call as it read before'; 0 by the template 'total and deterministic' (their statements: YtfnomiingelfaaaGreatTotals.lean).
  GIVEN WITH THE SEED: the statements are not yours to turn. If you find one false, say at which input.
  Laid BY PROGRAM, IN A SANDBOX (cutbox-rows.mjs): the forced cells as the released guide's own fill.sh prints them over the translation a7520ce9ee868731… (all of the seat's roots in one cut). By AI agents, Wed Nov 11 2026. No macro, syntax, notation, axiom, sorry.
-/
import Derived.Test.YtfnomiingelfaaaGreatChecked
import GoSem.Claim
import GoSem.ClaimJoined
import GoSem.ClaimMapViews
import Derived.JoinedTies
import Derived.KernelRfl
namespace Go.Proofs.YtfnomiingelfaaaGreat
/- THE CELL 'sum', in the pinned program and in every row, IS THE sha256 OF THE DUMP (.gsa) THAT YtfnomiingelfaaaGreatProg.lean LOADS. Nothing in Lean hashes anything: it is a label: what it is worth is what the hold of that sum in a sandbox is worth. -/
noncomputable def Tryz.pinned : Pinned := { name := "ytfnomiingelfaaagreat", sum := "a7520ce9ee8687319b639cfaeb3fccb3ae477787a75bc13fc683a2ded8eff2e2", checked := Tryz.checked }
namespace Rows
def none {H : Type} : Left H := { results := [], args := [] }

/-- 'lightsievelaw04.SparseFits': WHATEVER THE INPUT: true; the input reads as it did. -/
def sparseFitsSpec : ChangeSpec := { name := "sparseFits", fn := fun _ => fun
  | [d1, d2, d3, d4] => { results := [.lit (.bool true)], args := [d1, d2, d3, d4] }
  | _ => none }
def sparseFitsRow : OpenClaim := { program := "ytfnomiingelfaaagreat", sum := "a7520ce9ee8687319b639cfaeb3fccb3ae477787a75bc13fc683a2ded8eff2e2", func := "lightsieve/lightsievelaw04.SparseFits", spec := "sparseFits", unfollowed := true, recurses := true, apart := false }
def SparseFitsSaid : Prop := sparseFitsRow.holds Tryz.pinned (OpenSpec.ofChange sparseFitsSpec)

/-- ITS FALSE NEIGHBOUR: 'it returns false'. Refute it at one input. -/
def sparseFitsWrong : ChangeSpec := { name := "sparseFits", fn := fun _ => fun
  | [d1, d2, d3, d4] => { results := [.lit (.bool false)], args := [d1, d2, d3, d4] }
  | _ => none }
def SparseFitsWrongFalsely : Prop := sparseFitsRow.holds Tryz.pinned (OpenSpec.ofChange sparseFitsWrong)

/-- 'lightsievelaw04.SparseBounds': WHATEVER THE INPUT: true; the input reads as it did. -/
def sparseBoundsSpec : ChangeSpec := { name := "sparseBounds", fn := fun _ => fun
  | [d1, d2] => { results := [.lit (.bool true)], args := [d1, d2] }
  | _ => none }
def sparseBoundsRow : OpenClaim := { program := "ytfnomiingelfaaagreat", sum := "a7520ce9ee8687319b639cfaeb3fccb3ae477787a75bc13fc683a2ded8eff2e2", func := "lightsieve/lightsievelaw04.SparseBounds", spec := "sparseBounds", inPlace := ["math/bits.Add64"], unfollowed := true, recurses := true, apart := false }
def SparseBoundsSaid : Prop := sparseBoundsRow.holds Tryz.pinned (OpenSpec.ofChange sparseBoundsSpec)

/-- ITS FALSE NEIGHBOUR: 'it returns false'. Refute it at one input. -/
def sparseBoundsWrong : ChangeSpec := { name := "sparseBounds", fn := fun _ => fun
  | [d1, d2] => { results := [.lit (.bool false)], args := [d1, d2] }
  | _ => none }
def SparseBoundsWrongFalsely : Prop := sparseBoundsRow.holds Tryz.pinned (OpenSpec.ofChange sparseBoundsWrong)

/-- 'lightsievelaw04.SparseSmallest': WHATEVER THE INPUT: true; the input reads as it did. -/
def sparseSmallestSpec : ChangeSpec := { name := "sparseSmallest", fn := fun _ => fun
  | [d1, d2, d3, d4] => { results := [.lit (.bool true)], args := [d1, d2, d3, d4] }
  | _ => none }
def sparseSmallestRow : OpenClaim := { program := "ytfnomiingelfaaagreat", sum := "a7520ce9ee8687319b639cfaeb3fccb3ae477787a75bc13fc683a2ded8eff2e2", func := "lightsieve/lightsievelaw04.SparseSmallest", spec := "sparseSmallest", inPlace := ["math/bits.Add64"], unfollowed := true, recurses := true, apart := false }
def SparseSmallestSaid : Prop := sparseSmallestRow.holds Tryz.pinned (OpenSpec.ofChange sparseSmallestSpec)

/-- ITS FALSE NEIGHBOUR: 'it returns false'. Refute it at one input. -/
def sparseSmallestWrong : ChangeSpec := { name := "sparseSmallest", fn := fun _ => fun
  | [d1, d2, d3, d4] => { results := [.lit (.bool false)], args := [d1, d2, d3, d4] }
  | _ => none }
def SparseSmallestWrongFalsely : Prop := sparseSmallestRow.holds Tryz.pinned (OpenSpec.ofChange sparseSmallestWrong)

/- THE SECOND FORM. 'bulk': how many values and letters a reading holds, each counted each time it is reached (what is shared counts as often as it is met; a slice's spare places count too). A statement '..UptoSaid' is the law's where the arguments, and the package variables that the reading takes, are together of bulk at most 1048576: NARROWER than '..Said'. Prove '..Said' where nothing that the law and all that it calls make is longer than what came in: it says more and counts as full. Else prove '..UptoSaid'. A law counts once. -/
mutual
def uptoBulk {H : Type} : DataW H → Nat
  | .lit (.string bytes) => bytes.length + 1
  | .lit _ => 1
  | .nil => 1
  | .ptr d => uptoBulk d + 1
  | .slice elems spare => uptoBulkAll elems + uptoBulkAll spare + 1
  | .agg parts => uptoBulkAll parts + 1
  | .iface _ d => uptoBulk d + 1
  | .map entries => uptoBulkEntries entries + 1
  | .held _ => 1
def uptoBulkAll {H : Type} : List (DataW H) → Nat
  | [] => 0
  | d :: r => uptoBulk d + uptoBulkAll r
def uptoBulkEntries {H : Type} : List (Lit × DataW H) → Nat
  | [] => 0
  | x :: r => uptoBulkEntry x + uptoBulkEntries r
def uptoBulkEntry {H : Type} : Lit × DataW H → Nat
  | (.string bytes, d) => bytes.length + uptoBulk d + 1
  | (_, d) => uptoBulk d + 1
 end
def uptoSmall : (H : Type) → List (DataW H) → Bool := fun _ ds => decide (uptoBulkAll ds ≤ 1048576)
def OpenSpec.upto (s : _root_.Go.ChangeSpec) : _root_.Go.OpenSpec := { _root_.Go.OpenSpec.ofChange s with cond := some uptoSmall }

/-- 'lightsievelaw04.SparseFits', WHERE WHAT IT READS IS OF BULK AT MOST 1048576: true; the input reads as it did. -/
def sparseFitsUptoRow : OpenClaim := { program := "ytfnomiingelfaaagreat", sum := "a7520ce9ee8687319b639cfaeb3fccb3ae477787a75bc13fc683a2ded8eff2e2", func := "lightsieve/lightsievelaw04.SparseFits", spec := "sparseFits", unfollowed := true, recurses := true, apart := false, narrowed := true }
def SparseFitsUptoSaid : Prop := sparseFitsUptoRow.holds Tryz.pinned (OpenSpec.upto sparseFitsSpec)

/-- 'lightsievelaw04.SparseBounds', WHERE WHAT IT READS IS OF BULK AT MOST 1048576: true; the input reads as it did. -/
def sparseBoundsUptoRow : OpenClaim := { program := "ytfnomiingelfaaagreat", sum := "a7520ce9ee8687319b639cfaeb3fccb3ae477787a75bc13fc683a2ded8eff2e2", func := "lightsieve/lightsievelaw04.SparseBounds", spec := "sparseBounds", inPlace := ["math/bits.Add64"], unfollowed := true, recurses := true, apart := false, narrowed := true }
def SparseBoundsUptoSaid : Prop := sparseBoundsUptoRow.holds Tryz.pinned (OpenSpec.upto sparseBoundsSpec)

/-- 'lightsievelaw04.SparseSmallest', WHERE WHAT IT READS IS OF BULK AT MOST 1048576: true; the input reads as it did. -/
def sparseSmallestUptoRow : OpenClaim := { program := "ytfnomiingelfaaagreat", sum := "a7520ce9ee8687319b639cfaeb3fccb3ae477787a75bc13fc683a2ded8eff2e2", func := "lightsieve/lightsievelaw04.SparseSmallest", spec := "sparseSmallest", inPlace := ["math/bits.Add64"], unfollowed := true, recurses := true, apart := false, narrowed := true }
def SparseSmallestUptoSaid : Prop := sparseSmallestUptoRow.holds Tryz.pinned (OpenSpec.upto sparseSmallestSpec)

end Rows
end Go.Proofs.YtfnomiingelfaaaGreat
