/-
  No cell of these rows narrows 'for every input' (looked for: loops, veiled, ifaces, maps, wideKeys, modest, calm, conditions, laid).
  DERIVED. THE GIVEN ROWS OF THIS SEAT. 5 by the template 'for every input the law returns true; each argument reads behind the call as it read before'; 0 by the template 'total and deterministic' (their statements: YteoimibefpidoaaTotals.lean).
  GIVEN WITH THE SEED: the statements are not yours to turn. If you find one false, say at which input.
  Laid BY PROGRAM, IN A SANDBOX (cutbox-rows.mjs): the forced cells as the released guide's own fill.sh prints them over the translation 9b794cd0544d0fb0… (all of the seat's roots in one cut). By AI agents, Wed Nov 11 2026. No macro, syntax, notation, axiom, sorry.
-/
import Derived.Test.YteoimibefpidoaaChecked
import GoSem.Claim
import GoSem.ClaimJoined
import GoSem.ClaimMapViews
import Derived.JoinedTies
import Derived.KernelRfl
namespace Go.Proofs.Yteoimibefpidoaa
/- THE CELL 'sum', in the pinned program and in every row, IS THE sha256 OF THE DUMP (.gsa) THAT YteoimibefpidoaaProg.lean LOADS. Nothing in Lean hashes anything: it is a label: what it is worth is what the hold of that sum in a sandbox is worth. -/
noncomputable def Try.pinned : Pinned := { name := "yteoimibefpidoaa", sum := "9b794cd0544d0fb0687faca4e803746962a9f0a550b083fedb77064c7fdb70d0", checked := Try.checked }
namespace Rows
def none {H : Type} : Left H := { results := [], args := [] }

/-- 'lightsievelaw03.LinMakes': WHATEVER THE INPUT: true; the input reads as it did. -/
def linMakesSpec : ChangeSpec := { name := "linMakes", fn := fun _ => fun
  | [d1, d2, d3] => { results := [.lit (.bool true)], args := [d1, d2, d3] }
  | _ => none }
def linMakesRow : OpenClaim := { program := "yteoimibefpidoaa", sum := "9b794cd0544d0fb0687faca4e803746962a9f0a550b083fedb77064c7fdb70d0", func := "lightsieve/lightsievelaw03.LinMakes", spec := "linMakes", inPlace := ["math/bits.Add64"], unfollowed := true, recurses := true, apart := false }
def LinMakesSaid : Prop := linMakesRow.holds Try.pinned (OpenSpec.ofChange linMakesSpec)

/-- ITS FALSE NEIGHBOUR: 'it returns false'. Refute it at one input. -/
def linMakesWrong : ChangeSpec := { name := "linMakes", fn := fun _ => fun
  | [d1, d2, d3] => { results := [.lit (.bool false)], args := [d1, d2, d3] }
  | _ => none }
def LinMakesWrongFalsely : Prop := linMakesRow.holds Try.pinned (OpenSpec.ofChange linMakesWrong)

/-- 'lightsievelaw03.LinCircuits': WHATEVER THE INPUT: true; the input reads as it did. -/
def linCircuitsSpec : ChangeSpec := { name := "linCircuits", fn := fun _ => fun
  | [d] => { results := [.lit (.bool true)], args := [d] }
  | _ => none }
def linCircuitsRow : OpenClaim := { program := "yteoimibefpidoaa", sum := "9b794cd0544d0fb0687faca4e803746962a9f0a550b083fedb77064c7fdb70d0", func := "lightsieve/lightsievelaw03.LinCircuits", spec := "linCircuits", unfollowed := true, recurses := true, apart := false }
def LinCircuitsSaid : Prop := linCircuitsRow.holds Try.pinned (OpenSpec.ofChange linCircuitsSpec)

/-- ITS FALSE NEIGHBOUR: 'it returns false'. Refute it at one input. -/
def linCircuitsWrong : ChangeSpec := { name := "linCircuits", fn := fun _ => fun
  | [d] => { results := [.lit (.bool false)], args := [d] }
  | _ => none }
def LinCircuitsWrongFalsely : Prop := linCircuitsRow.holds Try.pinned (OpenSpec.ofChange linCircuitsWrong)

/-- 'lightsievelaw03.LinKnown': WHATEVER THE INPUT: true; the input reads as it did. -/
def linKnownSpec : ChangeSpec := { name := "linKnown", fn := fun _ => fun
  | [d1, d2, d3] => { results := [.lit (.bool true)], args := [d1, d2, d3] }
  | _ => none }
def linKnownRow : OpenClaim := { program := "yteoimibefpidoaa", sum := "9b794cd0544d0fb0687faca4e803746962a9f0a550b083fedb77064c7fdb70d0", func := "lightsieve/lightsievelaw03.LinKnown", spec := "linKnown", unfollowed := true, recurses := true, apart := false }
def LinKnownSaid : Prop := linKnownRow.holds Try.pinned (OpenSpec.ofChange linKnownSpec)

/-- ITS FALSE NEIGHBOUR: 'it returns false'. Refute it at one input. -/
def linKnownWrong : ChangeSpec := { name := "linKnown", fn := fun _ => fun
  | [d1, d2, d3] => { results := [.lit (.bool false)], args := [d1, d2, d3] }
  | _ => none }
def LinKnownWrongFalsely : Prop := linKnownRow.holds Try.pinned (OpenSpec.ofChange linKnownWrong)

/-- 'lightsievelaw03.LinPossible': WHATEVER THE INPUT: true; the input reads as it did. -/
def linPossibleSpec : ChangeSpec := { name := "linPossible", fn := fun _ => fun
  | [d1, d2] => { results := [.lit (.bool true)], args := [d1, d2] }
  | _ => none }
def linPossibleRow : OpenClaim := { program := "yteoimibefpidoaa", sum := "9b794cd0544d0fb0687faca4e803746962a9f0a550b083fedb77064c7fdb70d0", func := "lightsieve/lightsievelaw03.LinPossible", spec := "linPossible", inPlace := ["math/bits.Add64"], unfollowed := true, recurses := true, apart := false }
def LinPossibleSaid : Prop := linPossibleRow.holds Try.pinned (OpenSpec.ofChange linPossibleSpec)

/-- ITS FALSE NEIGHBOUR: 'it returns false'. Refute it at one input. -/
def linPossibleWrong : ChangeSpec := { name := "linPossible", fn := fun _ => fun
  | [d1, d2] => { results := [.lit (.bool false)], args := [d1, d2] }
  | _ => none }
def LinPossibleWrongFalsely : Prop := linPossibleRow.holds Try.pinned (OpenSpec.ofChange linPossibleWrong)

/-- 'lightsievelaw03.LinDenies': WHATEVER THE INPUT: true; the input reads as it did. -/
def linDeniesSpec : ChangeSpec := { name := "linDenies", fn := fun _ => fun
  | [d1, d2, d3, d4] => { results := [.lit (.bool true)], args := [d1, d2, d3, d4] }
  | _ => none }
def linDeniesRow : OpenClaim := { program := "yteoimibefpidoaa", sum := "9b794cd0544d0fb0687faca4e803746962a9f0a550b083fedb77064c7fdb70d0", func := "lightsieve/lightsievelaw03.LinDenies", spec := "linDenies", inPlace := ["math/bits.Add64"], unfollowed := true, recurses := true, apart := false }
def LinDeniesSaid : Prop := linDeniesRow.holds Try.pinned (OpenSpec.ofChange linDeniesSpec)

/-- ITS FALSE NEIGHBOUR: 'it returns false'. Refute it at one input. -/
def linDeniesWrong : ChangeSpec := { name := "linDenies", fn := fun _ => fun
  | [d1, d2, d3, d4] => { results := [.lit (.bool false)], args := [d1, d2, d3, d4] }
  | _ => none }
def LinDeniesWrongFalsely : Prop := linDeniesRow.holds Try.pinned (OpenSpec.ofChange linDeniesWrong)

/- THE SECOND FORM. 'bulk': how many values and letters a reading holds, each counted each time it is reached (what is shared counts as often as it is met; a slice's spare places count too). A statement '..UptoSaid' is the law's where the arguments, and the package variables that the reading takes, are together of bulk at most 1048576: NARROWER than '..Said'. Prove '..Said' where nothing that the law and all that it calls make is longer than what came in: it says more and counts as full. Else prove '..UptoSaid'. A law counts once. -/
mutual
def uptoBulk {H : Type} : DataW H → Nat
  | .lit (.string bytes) => bytes.length + 1
  | .lit _ => 1
  | .nil => 1
  | .ptr d => uptoBulk d + 1
  | .slice elems spare => uptoBulkAll elems + uptoBulkAll spare + 1
  | .agg parts => uptoBulkAll parts + 1
  | .iface _ d => uptoBulk d + 1
  | .map entries => uptoBulkEntries entries + 1
  | .held _ => 1
def uptoBulkAll {H : Type} : List (DataW H) → Nat
  | [] => 0
  | d :: r => uptoBulk d + uptoBulkAll r
def uptoBulkEntries {H : Type} : List (Lit × DataW H) → Nat
  | [] => 0
  | x :: r => uptoBulkEntry x + uptoBulkEntries r
def uptoBulkEntry {H : Type} : Lit × DataW H → Nat
  | (.string bytes, d) => bytes.length + uptoBulk d + 1
  | (_, d) => uptoBulk d + 1
 end
def uptoSmall : (H : Type) → List (DataW H) → Bool := fun _ ds => decide (uptoBulkAll ds ≤ 1048576)
def OpenSpec.upto (s : _root_.Go.ChangeSpec) : _root_.Go.OpenSpec := { _root_.Go.OpenSpec.ofChange s with cond := some uptoSmall }

/-- 'lightsievelaw03.LinMakes', WHERE WHAT IT READS IS OF BULK AT MOST 1048576: true; the input reads as it did. -/
def linMakesUptoRow : OpenClaim := { program := "yteoimibefpidoaa", sum := "9b794cd0544d0fb0687faca4e803746962a9f0a550b083fedb77064c7fdb70d0", func := "lightsieve/lightsievelaw03.LinMakes", spec := "linMakes", inPlace := ["math/bits.Add64"], unfollowed := true, recurses := true, apart := false, narrowed := true }
def LinMakesUptoSaid : Prop := linMakesUptoRow.holds Try.pinned (OpenSpec.upto linMakesSpec)

/-- 'lightsievelaw03.LinCircuits', WHERE WHAT IT READS IS OF BULK AT MOST 1048576: true; the input reads as it did. -/
def linCircuitsUptoRow : OpenClaim := { program := "yteoimibefpidoaa", sum := "9b794cd0544d0fb0687faca4e803746962a9f0a550b083fedb77064c7fdb70d0", func := "lightsieve/lightsievelaw03.LinCircuits", spec := "linCircuits", unfollowed := true, recurses := true, apart := false, narrowed := true }
def LinCircuitsUptoSaid : Prop := linCircuitsUptoRow.holds Try.pinned (OpenSpec.upto linCircuitsSpec)

/-- 'lightsievelaw03.LinKnown', WHERE WHAT IT READS IS OF BULK AT MOST 1048576: true; the input reads as it did. -/
def linKnownUptoRow : OpenClaim := { program := "yteoimibefpidoaa", sum := "9b794cd0544d0fb0687faca4e803746962a9f0a550b083fedb77064c7fdb70d0", func := "lightsieve/lightsievelaw03.LinKnown", spec := "linKnown", unfollowed := true, recurses := true, apart := false, narrowed := true }
def LinKnownUptoSaid : Prop := linKnownUptoRow.holds Try.pinned (OpenSpec.upto linKnownSpec)

/-- 'lightsievelaw03.LinPossible', WHERE WHAT IT READS IS OF BULK AT MOST 1048576: true; the input reads as it did. -/
def linPossibleUptoRow : OpenClaim := { program := "yteoimibefpidoaa", sum := "9b794cd0544d0fb0687faca4e803746962a9f0a550b083fedb77064c7fdb70d0", func := "lightsieve/lightsievelaw03.LinPossible", spec := "linPossible", inPlace := ["math/bits.Add64"], unfollowed := true, recurses := true, apart := false, narrowed := true }
def LinPossibleUptoSaid : Prop := linPossibleUptoRow.holds Try.pinned (OpenSpec.upto linPossibleSpec)

/-- 'lightsievelaw03.LinDenies', WHERE WHAT IT READS IS OF BULK AT MOST 1048576: true; the input reads as it did. -/
def linDeniesUptoRow : OpenClaim := { program := "yteoimibefpidoaa", sum := "9b794cd0544d0fb0687faca4e803746962a9f0a550b083fedb77064c7fdb70d0", func := "lightsieve/lightsievelaw03.LinDenies", spec := "linDenies", inPlace := ["math/bits.Add64"], unfollowed := true, recurses := true, apart := false, narrowed := true }
def LinDeniesUptoSaid : Prop := linDeniesUptoRow.holds Try.pinned (OpenSpec.upto linDeniesSpec)

end Rows
end Go.Proofs.Yteoimibefpidoaa
