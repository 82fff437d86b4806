/-
  No cell of these rows narrows 'for every input' (looked for: loops, veiled, ifaces, maps, wideKeys, modest, calm, conditions, laid).
  DERIVED. THE GIVEN ROWS OF THIS SEAT. 7 by the template 'for every input the law returns true; each argument reads behind the call as it read before'; 0 by the template 'total and deterministic' (their statements: YtoedbbpjddjbnaaTotals.lean).
  GIVEN WITH THE SEED: the statements are not yours to turn. If you find one false, say at which input.
  Laid BY PROGRAM, IN A SANDBOX (cutbox-rows.mjs): the forced cells as the released guide's own fill.sh prints them over the translation 4f5ee9b5d232d0e4… (all of the seat's roots in one cut). By AI agents, Wed Nov 11 2026. No macro, syntax, notation, axiom, sorry.
-/
import Derived.Test.YtoedbbpjddjbnaaChecked
import GoSem.Claim
import GoSem.ClaimJoined
import GoSem.ClaimMapViews
import Derived.JoinedTies
import Derived.KernelRfl
namespace Go.Proofs.Ytoedbbpjddjbnaa
/- THE CELL 'sum', in the pinned program and in every row, IS THE sha256 OF THE DUMP (.gsa) THAT YtoedbbpjddjbnaaProg.lean LOADS. Nothing in Lean hashes anything: it is a label: what it is worth is what the hold of that sum in a sandbox is worth. -/
noncomputable def Try.pinned : Pinned := { name := "ytoedbbpjddjbnaa", sum := "4f5ee9b5d232d0e4d9fcfa59812111b45f1adad4dcf581265bc4cd3ec520a764", checked := Try.checked }
namespace Rows
def none {H : Type} : Left H := { results := [], args := [] }

/-- 'lightsievelaw07.BitFields': WHATEVER THE INPUT: true; the input reads as it did. -/
def bitFieldsSpec : ChangeSpec := { name := "bitFields", fn := fun _ => fun
  | [d1, d2, d3, d4] => { results := [.lit (.bool true)], args := [d1, d2, d3, d4] }
  | _ => none }
def bitFieldsRow : OpenClaim := { program := "ytoedbbpjddjbnaa", sum := "4f5ee9b5d232d0e4d9fcfa59812111b45f1adad4dcf581265bc4cd3ec520a764", func := "lightsieve/lightsievelaw07.BitFields", spec := "bitFields", unfollowed := true, recurses := true, apart := false }
def BitFieldsSaid : Prop := bitFieldsRow.holds Try.pinned (OpenSpec.ofChange bitFieldsSpec)

/-- ITS FALSE NEIGHBOUR: 'it returns false'. Refute it at one input. -/
def bitFieldsWrong : ChangeSpec := { name := "bitFields", fn := fun _ => fun
  | [d1, d2, d3, d4] => { results := [.lit (.bool false)], args := [d1, d2, d3, d4] }
  | _ => none }
def BitFieldsWrongFalsely : Prop := bitFieldsRow.holds Try.pinned (OpenSpec.ofChange bitFieldsWrong)

/-- 'lightsievelaw07.BitCounts': WHATEVER THE INPUT: true; the input reads as it did. -/
def bitCountsSpec : ChangeSpec := { name := "bitCounts", fn := fun _ => fun
  | [d1, d2, d3, d4] => { results := [.lit (.bool true)], args := [d1, d2, d3, d4] }
  | _ => none }
def bitCountsRow : OpenClaim := { program := "ytoedbbpjddjbnaa", sum := "4f5ee9b5d232d0e4d9fcfa59812111b45f1adad4dcf581265bc4cd3ec520a764", func := "lightsieve/lightsievelaw07.BitCounts", spec := "bitCounts", unfollowed := true, recurses := true, apart := false }
def BitCountsSaid : Prop := bitCountsRow.holds Try.pinned (OpenSpec.ofChange bitCountsSpec)

/-- ITS FALSE NEIGHBOUR: 'it returns false'. Refute it at one input. -/
def bitCountsWrong : ChangeSpec := { name := "bitCounts", fn := fun _ => fun
  | [d1, d2, d3, d4] => { results := [.lit (.bool false)], args := [d1, d2, d3, d4] }
  | _ => none }
def BitCountsWrongFalsely : Prop := bitCountsRow.holds Try.pinned (OpenSpec.ofChange bitCountsWrong)

/-- 'lightsievelaw07.BitFewer': WHATEVER THE INPUT: true; the input reads as it did. -/
def bitFewerSpec : ChangeSpec := { name := "bitFewer", fn := fun _ => fun
  | [d1, d2, d3, d4, d5] => { results := [.lit (.bool true)], args := [d1, d2, d3, d4, d5] }
  | _ => none }
def bitFewerRow : OpenClaim := { program := "ytoedbbpjddjbnaa", sum := "4f5ee9b5d232d0e4d9fcfa59812111b45f1adad4dcf581265bc4cd3ec520a764", func := "lightsieve/lightsievelaw07.BitFewer", spec := "bitFewer", unfollowed := true, recurses := true, apart := false }
def BitFewerSaid : Prop := bitFewerRow.holds Try.pinned (OpenSpec.ofChange bitFewerSpec)

/-- ITS FALSE NEIGHBOUR: 'it returns false'. Refute it at one input. -/
def bitFewerWrong : ChangeSpec := { name := "bitFewer", fn := fun _ => fun
  | [d1, d2, d3, d4, d5] => { results := [.lit (.bool false)], args := [d1, d2, d3, d4, d5] }
  | _ => none }
def BitFewerWrongFalsely : Prop := bitFewerRow.holds Try.pinned (OpenSpec.ofChange bitFewerWrong)

/-- 'lightsievelaw07.BitOwn': WHATEVER THE INPUT: true; the input reads as it did. -/
def bitOwnSpec : ChangeSpec := { name := "bitOwn", fn := fun _ => fun
  | [d1, d2, d3, d4, d5] => { results := [.lit (.bool true)], args := [d1, d2, d3, d4, d5] }
  | _ => none }
def bitOwnRow : OpenClaim := { program := "ytoedbbpjddjbnaa", sum := "4f5ee9b5d232d0e4d9fcfa59812111b45f1adad4dcf581265bc4cd3ec520a764", func := "lightsieve/lightsievelaw07.BitOwn", spec := "bitOwn", unfollowed := true, recurses := true, apart := false }
def BitOwnSaid : Prop := bitOwnRow.holds Try.pinned (OpenSpec.ofChange bitOwnSpec)

/-- ITS FALSE NEIGHBOUR: 'it returns false'. Refute it at one input. -/
def bitOwnWrong : ChangeSpec := { name := "bitOwn", fn := fun _ => fun
  | [d1, d2, d3, d4, d5] => { results := [.lit (.bool false)], args := [d1, d2, d3, d4, d5] }
  | _ => none }
def BitOwnWrongFalsely : Prop := bitOwnRow.holds Try.pinned (OpenSpec.ofChange bitOwnWrong)

/-- 'lightsievelaw07.BitHalves': WHATEVER THE INPUT: true; the input reads as it did. -/
def bitHalvesSpec : ChangeSpec := { name := "bitHalves", fn := fun _ => fun
  | [d1, d2, d3, d4, d5] => { results := [.lit (.bool true)], args := [d1, d2, d3, d4, d5] }
  | _ => none }
def bitHalvesRow : OpenClaim := { program := "ytoedbbpjddjbnaa", sum := "4f5ee9b5d232d0e4d9fcfa59812111b45f1adad4dcf581265bc4cd3ec520a764", func := "lightsieve/lightsievelaw07.BitHalves", spec := "bitHalves", unfollowed := true, recurses := true, apart := false }
def BitHalvesSaid : Prop := bitHalvesRow.holds Try.pinned (OpenSpec.ofChange bitHalvesSpec)

/-- ITS FALSE NEIGHBOUR: 'it returns false'. Refute it at one input. -/
def bitHalvesWrong : ChangeSpec := { name := "bitHalves", fn := fun _ => fun
  | [d1, d2, d3, d4, d5] => { results := [.lit (.bool false)], args := [d1, d2, d3, d4, d5] }
  | _ => none }
def BitHalvesWrongFalsely : Prop := bitHalvesRow.holds Try.pinned (OpenSpec.ofChange bitHalvesWrong)

/-- 'lightsievelaw07.BitClashes': WHATEVER THE INPUT: true; the input reads as it did. -/
def bitClashesSpec : ChangeSpec := { name := "bitClashes", fn := fun _ => fun
  | [d1, d2] => { results := [.lit (.bool true)], args := [d1, d2] }
  | _ => none }
def bitClashesRow : OpenClaim := { program := "ytoedbbpjddjbnaa", sum := "4f5ee9b5d232d0e4d9fcfa59812111b45f1adad4dcf581265bc4cd3ec520a764", func := "lightsieve/lightsievelaw07.BitClashes", spec := "bitClashes", unfollowed := true, recurses := true, apart := false }
def BitClashesSaid : Prop := bitClashesRow.holds Try.pinned (OpenSpec.ofChange bitClashesSpec)

/-- ITS FALSE NEIGHBOUR: 'it returns false'. Refute it at one input. -/
def bitClashesWrong : ChangeSpec := { name := "bitClashes", fn := fun _ => fun
  | [d1, d2] => { results := [.lit (.bool false)], args := [d1, d2] }
  | _ => none }
def BitClashesWrongFalsely : Prop := bitClashesRow.holds Try.pinned (OpenSpec.ofChange bitClashesWrong)

/-- 'lightsievelaw07.BitPlays': WHATEVER THE INPUT: true; the input reads as it did. -/
def bitPlaysSpec : ChangeSpec := { name := "bitPlays", fn := fun _ => fun
  | [d1, d2, d3, d4] => { results := [.lit (.bool true)], args := [d1, d2, d3, d4] }
  | _ => none }
def bitPlaysRow : OpenClaim := { program := "ytoedbbpjddjbnaa", sum := "4f5ee9b5d232d0e4d9fcfa59812111b45f1adad4dcf581265bc4cd3ec520a764", func := "lightsieve/lightsievelaw07.BitPlays", spec := "bitPlays", unfollowed := true, recurses := true, apart := false }
def BitPlaysSaid : Prop := bitPlaysRow.holds Try.pinned (OpenSpec.ofChange bitPlaysSpec)

/-- ITS FALSE NEIGHBOUR: 'it returns false'. Refute it at one input. -/
def bitPlaysWrong : ChangeSpec := { name := "bitPlays", fn := fun _ => fun
  | [d1, d2, d3, d4] => { results := [.lit (.bool false)], args := [d1, d2, d3, d4] }
  | _ => none }
def BitPlaysWrongFalsely : Prop := bitPlaysRow.holds Try.pinned (OpenSpec.ofChange bitPlaysWrong)

/- THE SECOND FORM. 'bulk': how many values and letters a reading holds, each counted each time it is reached (what is shared counts as often as it is met; a slice's spare places count too). A statement '..UptoSaid' is the law's where the arguments, and the package variables that the reading takes, are together of bulk at most 1048576: NARROWER than '..Said'. Prove '..Said' where nothing that the law and all that it calls make is longer than what came in: it says more and counts as full. Else prove '..UptoSaid'. A law counts once. -/
mutual
def uptoBulk {H : Type} : DataW H → Nat
  | .lit (.string bytes) => bytes.length + 1
  | .lit _ => 1
  | .nil => 1
  | .ptr d => uptoBulk d + 1
  | .slice elems spare => uptoBulkAll elems + uptoBulkAll spare + 1
  | .agg parts => uptoBulkAll parts + 1
  | .iface _ d => uptoBulk d + 1
  | .map entries => uptoBulkEntries entries + 1
  | .held _ => 1
def uptoBulkAll {H : Type} : List (DataW H) → Nat
  | [] => 0
  | d :: r => uptoBulk d + uptoBulkAll r
def uptoBulkEntries {H : Type} : List (Lit × DataW H) → Nat
  | [] => 0
  | x :: r => uptoBulkEntry x + uptoBulkEntries r
def uptoBulkEntry {H : Type} : Lit × DataW H → Nat
  | (.string bytes, d) => bytes.length + uptoBulk d + 1
  | (_, d) => uptoBulk d + 1
 end
def uptoSmall : (H : Type) → List (DataW H) → Bool := fun _ ds => decide (uptoBulkAll ds ≤ 1048576)
def OpenSpec.upto (s : _root_.Go.ChangeSpec) : _root_.Go.OpenSpec := { _root_.Go.OpenSpec.ofChange s with cond := some uptoSmall }

/-- 'lightsievelaw07.BitFields', WHERE WHAT IT READS IS OF BULK AT MOST 1048576: true; the input reads as it did. -/
def bitFieldsUptoRow : OpenClaim := { program := "ytoedbbpjddjbnaa", sum := "4f5ee9b5d232d0e4d9fcfa59812111b45f1adad4dcf581265bc4cd3ec520a764", func := "lightsieve/lightsievelaw07.BitFields", spec := "bitFields", unfollowed := true, recurses := true, apart := false, narrowed := true }
def BitFieldsUptoSaid : Prop := bitFieldsUptoRow.holds Try.pinned (OpenSpec.upto bitFieldsSpec)

/-- 'lightsievelaw07.BitCounts', WHERE WHAT IT READS IS OF BULK AT MOST 1048576: true; the input reads as it did. -/
def bitCountsUptoRow : OpenClaim := { program := "ytoedbbpjddjbnaa", sum := "4f5ee9b5d232d0e4d9fcfa59812111b45f1adad4dcf581265bc4cd3ec520a764", func := "lightsieve/lightsievelaw07.BitCounts", spec := "bitCounts", unfollowed := true, recurses := true, apart := false, narrowed := true }
def BitCountsUptoSaid : Prop := bitCountsUptoRow.holds Try.pinned (OpenSpec.upto bitCountsSpec)

/-- 'lightsievelaw07.BitFewer', WHERE WHAT IT READS IS OF BULK AT MOST 1048576: true; the input reads as it did. -/
def bitFewerUptoRow : OpenClaim := { program := "ytoedbbpjddjbnaa", sum := "4f5ee9b5d232d0e4d9fcfa59812111b45f1adad4dcf581265bc4cd3ec520a764", func := "lightsieve/lightsievelaw07.BitFewer", spec := "bitFewer", unfollowed := true, recurses := true, apart := false, narrowed := true }
def BitFewerUptoSaid : Prop := bitFewerUptoRow.holds Try.pinned (OpenSpec.upto bitFewerSpec)

/-- 'lightsievelaw07.BitOwn', WHERE WHAT IT READS IS OF BULK AT MOST 1048576: true; the input reads as it did. -/
def bitOwnUptoRow : OpenClaim := { program := "ytoedbbpjddjbnaa", sum := "4f5ee9b5d232d0e4d9fcfa59812111b45f1adad4dcf581265bc4cd3ec520a764", func := "lightsieve/lightsievelaw07.BitOwn", spec := "bitOwn", unfollowed := true, recurses := true, apart := false, narrowed := true }
def BitOwnUptoSaid : Prop := bitOwnUptoRow.holds Try.pinned (OpenSpec.upto bitOwnSpec)

/-- 'lightsievelaw07.BitHalves', WHERE WHAT IT READS IS OF BULK AT MOST 1048576: true; the input reads as it did. -/
def bitHalvesUptoRow : OpenClaim := { program := "ytoedbbpjddjbnaa", sum := "4f5ee9b5d232d0e4d9fcfa59812111b45f1adad4dcf581265bc4cd3ec520a764", func := "lightsieve/lightsievelaw07.BitHalves", spec := "bitHalves", unfollowed := true, recurses := true, apart := false, narrowed := true }
def BitHalvesUptoSaid : Prop := bitHalvesUptoRow.holds Try.pinned (OpenSpec.upto bitHalvesSpec)

/-- 'lightsievelaw07.BitClashes', WHERE WHAT IT READS IS OF BULK AT MOST 1048576: true; the input reads as it did. -/
def bitClashesUptoRow : OpenClaim := { program := "ytoedbbpjddjbnaa", sum := "4f5ee9b5d232d0e4d9fcfa59812111b45f1adad4dcf581265bc4cd3ec520a764", func := "lightsieve/lightsievelaw07.BitClashes", spec := "bitClashes", unfollowed := true, recurses := true, apart := false, narrowed := true }
def BitClashesUptoSaid : Prop := bitClashesUptoRow.holds Try.pinned (OpenSpec.upto bitClashesSpec)

/-- 'lightsievelaw07.BitPlays', WHERE WHAT IT READS IS OF BULK AT MOST 1048576: true; the input reads as it did. -/
def bitPlaysUptoRow : OpenClaim := { program := "ytoedbbpjddjbnaa", sum := "4f5ee9b5d232d0e4d9fcfa59812111b45f1adad4dcf581265bc4cd3ec520a764", func := "lightsieve/lightsievelaw07.BitPlays", spec := "bitPlays", unfollowed := true, recurses := true, apart := false, narrowed := true }
def BitPlaysUptoSaid : Prop := bitPlaysUptoRow.holds Try.pinned (OpenSpec.upto bitPlaysSpec)

end Rows
end Go.Proofs.Ytoedbbpjddjbnaa
