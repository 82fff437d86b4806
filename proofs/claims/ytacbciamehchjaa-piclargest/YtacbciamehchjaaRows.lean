/-
  No cell of these rows narrows 'for every input' (looked for: loops, veiled, ifaces, maps, wideKeys, modest, calm, conditions, laid).
  DERIVED. THE GIVEN ROWS OF THIS SEAT. 3 by the template 'for every input the law returns true; each argument reads behind the call as it read before'; 0 by the template 'total and deterministic' (their statements: YtacbciamehchjaaTotals.lean).
  GIVEN WITH THE SEED: the statements are not yours to turn. If you find one false, say at which input.
  Laid BY PROGRAM, IN A SANDBOX (cutbox-rows.mjs): the forced cells as the released guide's own fill.sh prints them over the translation 84a3b6b2cfb52926… (all of the seat's roots in one cut). By AI agents, Wed Nov 11 2026. No macro, syntax, notation, axiom, sorry.
-/
import Derived.Test.YtacbciamehchjaaChecked
import GoSem.Claim
import GoSem.ClaimJoined
import GoSem.ClaimMapViews
import Derived.JoinedTies
import Derived.KernelRfl
namespace Go.Proofs.Ytacbciamehchjaa
/- THE CELL 'sum', in the pinned program and in every row, IS THE sha256 OF THE DUMP (.gsa) THAT YtacbciamehchjaaProg.lean LOADS. Nothing in Lean hashes anything: it is a label: what it is worth is what the hold of that sum in a sandbox is worth. -/
noncomputable def Try.pinned : Pinned := { name := "ytacbciamehchjaa", sum := "84a3b6b2cfb52926897b0b5a79e688851ea9d003190d09e90ab3c7f7f4e060b9", checked := Try.checked }
namespace Rows
def none {H : Type} : Left H := { results := [], args := [] }

/-- 'lightsievelaw01.PicSizes': WHATEVER THE INPUT: true; the input reads as it did. -/
def picSizesSpec : ChangeSpec := { name := "picSizes", fn := fun _ => fun
  | [d1, d2, d3] => { results := [.lit (.bool true)], args := [d1, d2, d3] }
  | _ => none }
def picSizesRow : OpenClaim := { program := "ytacbciamehchjaa", sum := "84a3b6b2cfb52926897b0b5a79e688851ea9d003190d09e90ab3c7f7f4e060b9", func := "lightsieve/lightsievelaw01.PicSizes", spec := "picSizes", unfollowed := true, recurses := true, apart := false }
def PicSizesSaid : Prop := picSizesRow.holds Try.pinned (OpenSpec.ofChange picSizesSpec)

/-- ITS FALSE NEIGHBOUR: 'it returns false'. Refute it at one input. -/
def picSizesWrong : ChangeSpec := { name := "picSizes", fn := fun _ => fun
  | [d1, d2, d3] => { results := [.lit (.bool false)], args := [d1, d2, d3] }
  | _ => none }
def PicSizesWrongFalsely : Prop := picSizesRow.holds Try.pinned (OpenSpec.ofChange picSizesWrong)

/-- 'lightsievelaw01.PicLargest': WHATEVER THE INPUT: true; the input reads as it did. -/
def picLargestSpec : ChangeSpec := { name := "picLargest", fn := fun _ => fun
  | [d1, d2] => { results := [.lit (.bool true)], args := [d1, d2] }
  | _ => none }
def picLargestRow : OpenClaim := { program := "ytacbciamehchjaa", sum := "84a3b6b2cfb52926897b0b5a79e688851ea9d003190d09e90ab3c7f7f4e060b9", func := "lightsieve/lightsievelaw01.PicLargest", spec := "picLargest", unfollowed := true, recurses := true, apart := false }
def PicLargestSaid : Prop := picLargestRow.holds Try.pinned (OpenSpec.ofChange picLargestSpec)

/-- ITS FALSE NEIGHBOUR: 'it returns false'. Refute it at one input. -/
def picLargestWrong : ChangeSpec := { name := "picLargest", fn := fun _ => fun
  | [d1, d2] => { results := [.lit (.bool false)], args := [d1, d2] }
  | _ => none }
def PicLargestWrongFalsely : Prop := picLargestRow.holds Try.pinned (OpenSpec.ofChange picLargestWrong)

/-- 'lightsievelaw02.MaskTurns': WHATEVER THE INPUT: true; the input reads as it did. -/
def maskTurnsSpec : ChangeSpec := { name := "maskTurns", fn := fun _ => fun
  | [d1, d2, d3, d4] => { results := [.lit (.bool true)], args := [d1, d2, d3, d4] }
  | _ => none }
def maskTurnsRow : OpenClaim := { program := "ytacbciamehchjaa", sum := "84a3b6b2cfb52926897b0b5a79e688851ea9d003190d09e90ab3c7f7f4e060b9", func := "lightsieve/lightsievelaw02.MaskTurns", spec := "maskTurns", unfollowed := true, recurses := true, apart := false }
def MaskTurnsSaid : Prop := maskTurnsRow.holds Try.pinned (OpenSpec.ofChange maskTurnsSpec)

/-- ITS FALSE NEIGHBOUR: 'it returns false'. Refute it at one input. -/
def maskTurnsWrong : ChangeSpec := { name := "maskTurns", fn := fun _ => fun
  | [d1, d2, d3, d4] => { results := [.lit (.bool false)], args := [d1, d2, d3, d4] }
  | _ => none }
def MaskTurnsWrongFalsely : Prop := maskTurnsRow.holds Try.pinned (OpenSpec.ofChange maskTurnsWrong)

/- THE SECOND FORM. 'bulk': how many values and letters a reading holds, each counted each time it is reached (what is shared counts as often as it is met; a slice's spare places count too). A statement '..UptoSaid' is the law's where the arguments, and the package variables that the reading takes, are together of bulk at most 1048576: NARROWER than '..Said'. Prove '..Said' where nothing that the law and all that it calls make is longer than what came in: it says more and counts as full. Else prove '..UptoSaid'. A law counts once. -/
mutual
def uptoBulk {H : Type} : DataW H → Nat
  | .lit (.string bytes) => bytes.length + 1
  | .lit _ => 1
  | .nil => 1
  | .ptr d => uptoBulk d + 1
  | .slice elems spare => uptoBulkAll elems + uptoBulkAll spare + 1
  | .agg parts => uptoBulkAll parts + 1
  | .iface _ d => uptoBulk d + 1
  | .map entries => uptoBulkEntries entries + 1
  | .held _ => 1
def uptoBulkAll {H : Type} : List (DataW H) → Nat
  | [] => 0
  | d :: r => uptoBulk d + uptoBulkAll r
def uptoBulkEntries {H : Type} : List (Lit × DataW H) → Nat
  | [] => 0
  | x :: r => uptoBulkEntry x + uptoBulkEntries r
def uptoBulkEntry {H : Type} : Lit × DataW H → Nat
  | (.string bytes, d) => bytes.length + uptoBulk d + 1
  | (_, d) => uptoBulk d + 1
 end
def uptoSmall : (H : Type) → List (DataW H) → Bool := fun _ ds => decide (uptoBulkAll ds ≤ 1048576)
def OpenSpec.upto (s : _root_.Go.ChangeSpec) : _root_.Go.OpenSpec := { _root_.Go.OpenSpec.ofChange s with cond := some uptoSmall }

/-- 'lightsievelaw01.PicSizes', WHERE WHAT IT READS IS OF BULK AT MOST 1048576: true; the input reads as it did. -/
def picSizesUptoRow : OpenClaim := { program := "ytacbciamehchjaa", sum := "84a3b6b2cfb52926897b0b5a79e688851ea9d003190d09e90ab3c7f7f4e060b9", func := "lightsieve/lightsievelaw01.PicSizes", spec := "picSizes", unfollowed := true, recurses := true, apart := false, narrowed := true }
def PicSizesUptoSaid : Prop := picSizesUptoRow.holds Try.pinned (OpenSpec.upto picSizesSpec)

/-- 'lightsievelaw01.PicLargest', WHERE WHAT IT READS IS OF BULK AT MOST 1048576: true; the input reads as it did. -/
def picLargestUptoRow : OpenClaim := { program := "ytacbciamehchjaa", sum := "84a3b6b2cfb52926897b0b5a79e688851ea9d003190d09e90ab3c7f7f4e060b9", func := "lightsieve/lightsievelaw01.PicLargest", spec := "picLargest", unfollowed := true, recurses := true, apart := false, narrowed := true }
def PicLargestUptoSaid : Prop := picLargestUptoRow.holds Try.pinned (OpenSpec.upto picLargestSpec)

/-- 'lightsievelaw02.MaskTurns', WHERE WHAT IT READS IS OF BULK AT MOST 1048576: true; the input reads as it did. -/
def maskTurnsUptoRow : OpenClaim := { program := "ytacbciamehchjaa", sum := "84a3b6b2cfb52926897b0b5a79e688851ea9d003190d09e90ab3c7f7f4e060b9", func := "lightsieve/lightsievelaw02.MaskTurns", spec := "maskTurns", unfollowed := true, recurses := true, apart := false, narrowed := true }
def MaskTurnsUptoSaid : Prop := maskTurnsUptoRow.holds Try.pinned (OpenSpec.upto maskTurnsSpec)

end Rows
end Go.Proofs.Ytacbciamehchjaa
