/-
  No cell of these rows narrows 'for every input' (looked for: loops, veiled, ifaces, maps, wideKeys, modest, calm, conditions, laid).
  DERIVED. THE GIVEN ROWS OF THIS SEAT. 6 by the template 'for every input the law returns true; each argument reads behind the call as it read before'; 0 by the template 'total and deterministic' (their statements: YtknhfliefkkpfabTotals.lean).
  GIVEN WITH THE SEED: the statements are not yours to turn. If you find one false, say at which input.
  Laid BY PROGRAM, IN A SANDBOX (cutbox-rows.mjs): the forced cells as the released guide's own fill.sh prints them over the translation c716a5058f24dd1f… (all of the seat's roots in one cut). By AI agents, Wed Nov 11 2026. No macro, syntax, notation, axiom, sorry.
-/
import Derived.Test.YtknhfliefkkpfabChecked
import GoSem.Claim
import GoSem.ClaimJoined
import GoSem.ClaimMapViews
import Derived.JoinedTies
import Derived.KernelRfl
namespace Go.Proofs.Ytknhfliefkkpfab
/- THE CELL 'sum', in the pinned program and in every row, IS THE sha256 OF THE DUMP (.gsa) THAT YtknhfliefkkpfabProg.lean LOADS. Nothing in Lean hashes anything: it is a label: what it is worth is what the hold of that sum in a sandbox is worth. -/
noncomputable def Try.pinned : Pinned := { name := "ytknhfliefkkpfab", sum := "c716a5058f24dd1f6888b2109a9c0ebc2202945b0f61aa5e7b35fa0250d04f16", checked := Try.checked }
namespace Rows
def none {H : Type} : Left H := { results := [], args := [] }

/-- 'lightsievelaw01.PicSizes': WHATEVER THE INPUT: true; the input reads as it did. -/
def picSizesSpec : ChangeSpec := { name := "picSizes", fn := fun _ => fun
  | [d1, d2, d3] => { results := [.lit (.bool true)], args := [d1, d2, d3] }
  | _ => none }
def picSizesRow : OpenClaim := { program := "ytknhfliefkkpfab", sum := "c716a5058f24dd1f6888b2109a9c0ebc2202945b0f61aa5e7b35fa0250d04f16", func := "lightsieve/lightsievelaw01.PicSizes", spec := "picSizes", unfollowed := true, recurses := true, apart := false }
def PicSizesSaid : Prop := picSizesRow.holds Try.pinned (OpenSpec.ofChange picSizesSpec)

/-- ITS FALSE NEIGHBOUR: 'it returns false'. Refute it at one input. -/
def picSizesWrong : ChangeSpec := { name := "picSizes", fn := fun _ => fun
  | [d1, d2, d3] => { results := [.lit (.bool false)], args := [d1, d2, d3] }
  | _ => none }
def PicSizesWrongFalsely : Prop := picSizesRow.holds Try.pinned (OpenSpec.ofChange picSizesWrong)

/-- 'lightsievelaw01.PicMotions': WHATEVER THE INPUT: true; the input reads as it did. -/
def picMotionsSpec : ChangeSpec := { name := "picMotions", fn := fun _ => fun
  | [d1, d2] => { results := [.lit (.bool true)], args := [d1, d2] }
  | _ => none }
def picMotionsRow : OpenClaim := { program := "ytknhfliefkkpfab", sum := "c716a5058f24dd1f6888b2109a9c0ebc2202945b0f61aa5e7b35fa0250d04f16", func := "lightsieve/lightsievelaw01.PicMotions", spec := "picMotions", unfollowed := true, recurses := true, apart := false }
def PicMotionsSaid : Prop := picMotionsRow.holds Try.pinned (OpenSpec.ofChange picMotionsSpec)

/-- ITS FALSE NEIGHBOUR: 'it returns false'. Refute it at one input. -/
def picMotionsWrong : ChangeSpec := { name := "picMotions", fn := fun _ => fun
  | [d1, d2] => { results := [.lit (.bool false)], args := [d1, d2] }
  | _ => none }
def PicMotionsWrongFalsely : Prop := picMotionsRow.holds Try.pinned (OpenSpec.ofChange picMotionsWrong)

/-- 'lightsievelaw01.PicKeeps': WHATEVER THE INPUT: true; the input reads as it did. -/
def picKeepsSpec : ChangeSpec := { name := "picKeeps", fn := fun _ => fun
  | [d1, d2] => { results := [.lit (.bool true)], args := [d1, d2] }
  | _ => none }
def picKeepsRow : OpenClaim := { program := "ytknhfliefkkpfab", sum := "c716a5058f24dd1f6888b2109a9c0ebc2202945b0f61aa5e7b35fa0250d04f16", func := "lightsieve/lightsievelaw01.PicKeeps", spec := "picKeeps", unfollowed := true, recurses := true, apart := false }
def PicKeepsSaid : Prop := picKeepsRow.holds Try.pinned (OpenSpec.ofChange picKeepsSpec)

/-- ITS FALSE NEIGHBOUR: 'it returns false'. Refute it at one input. -/
def picKeepsWrong : ChangeSpec := { name := "picKeeps", fn := fun _ => fun
  | [d1, d2] => { results := [.lit (.bool false)], args := [d1, d2] }
  | _ => none }
def PicKeepsWrongFalsely : Prop := picKeepsRow.holds Try.pinned (OpenSpec.ofChange picKeepsWrong)

/-- 'lightsievelaw01.PicLargest': WHATEVER THE INPUT: true; the input reads as it did. -/
def picLargestSpec : ChangeSpec := { name := "picLargest", fn := fun _ => fun
  | [d1, d2] => { results := [.lit (.bool true)], args := [d1, d2] }
  | _ => none }
def picLargestRow : OpenClaim := { program := "ytknhfliefkkpfab", sum := "c716a5058f24dd1f6888b2109a9c0ebc2202945b0f61aa5e7b35fa0250d04f16", func := "lightsieve/lightsievelaw01.PicLargest", spec := "picLargest", unfollowed := true, recurses := true, apart := false }
def PicLargestSaid : Prop := picLargestRow.holds Try.pinned (OpenSpec.ofChange picLargestSpec)

/-- ITS FALSE NEIGHBOUR: 'it returns false'. Refute it at one input. -/
def picLargestWrong : ChangeSpec := { name := "picLargest", fn := fun _ => fun
  | [d1, d2] => { results := [.lit (.bool false)], args := [d1, d2] }
  | _ => none }
def PicLargestWrongFalsely : Prop := picLargestRow.holds Try.pinned (OpenSpec.ofChange picLargestWrong)

/-- 'lightsievelaw02.MaskCoheres': WHATEVER THE INPUT: true; the input reads as it did. -/
def maskCoheresSpec : ChangeSpec := { name := "maskCoheres", fn := fun _ => fun
  | [d] => { results := [.lit (.bool true)], args := [d] }
  | _ => none }
def maskCoheresRow : OpenClaim := { program := "ytknhfliefkkpfab", sum := "c716a5058f24dd1f6888b2109a9c0ebc2202945b0f61aa5e7b35fa0250d04f16", func := "lightsieve/lightsievelaw02.MaskCoheres", spec := "maskCoheres", unfollowed := true, recurses := true, apart := false }
def MaskCoheresSaid : Prop := maskCoheresRow.holds Try.pinned (OpenSpec.ofChange maskCoheresSpec)

/-- ITS FALSE NEIGHBOUR: 'it returns false'. Refute it at one input. -/
def maskCoheresWrong : ChangeSpec := { name := "maskCoheres", fn := fun _ => fun
  | [d] => { results := [.lit (.bool false)], args := [d] }
  | _ => none }
def MaskCoheresWrongFalsely : Prop := maskCoheresRow.holds Try.pinned (OpenSpec.ofChange maskCoheresWrong)

/-- 'lightsievelaw02.MaskTexts': WHATEVER THE INPUT: true; the input reads as it did. -/
def maskTextsSpec : ChangeSpec := { name := "maskTexts", fn := fun _ => fun
  | [d1, d2] => { results := [.lit (.bool true)], args := [d1, d2] }
  | _ => none }
def maskTextsRow : OpenClaim := { program := "ytknhfliefkkpfab", sum := "c716a5058f24dd1f6888b2109a9c0ebc2202945b0f61aa5e7b35fa0250d04f16", func := "lightsieve/lightsievelaw02.MaskTexts", spec := "maskTexts", inPlace := ["internal/bytealg.IndexByteString", "internal/bytealg.IndexString", "internal/abi.NoEscape"], unfollowed := true, recurses := true, named := ["internal/bytealg.MaxLen"], apart := false }
def MaskTextsSaid : Prop := maskTextsRow.holds Try.pinned (OpenSpec.ofChange maskTextsSpec)

/-- ITS FALSE NEIGHBOUR: 'it returns false'. Refute it at one input. -/
def maskTextsWrong : ChangeSpec := { name := "maskTexts", fn := fun _ => fun
  | [d1, d2] => { results := [.lit (.bool false)], args := [d1, d2] }
  | _ => none }
def MaskTextsWrongFalsely : Prop := maskTextsRow.holds Try.pinned (OpenSpec.ofChange maskTextsWrong)

/- THE SECOND FORM. 'bulk': how many values and letters a reading holds, each counted each time it is reached (what is shared counts as often as it is met; a slice's spare places count too). A statement '..UptoSaid' is the law's where the arguments, and the package variables that the reading takes, are together of bulk at most 1048576: NARROWER than '..Said'. Prove '..Said' where nothing that the law and all that it calls make is longer than what came in: it says more and counts as full. Else prove '..UptoSaid'. A law counts once. -/
mutual
def uptoBulk {H : Type} : DataW H → Nat
  | .lit (.string bytes) => bytes.length + 1
  | .lit _ => 1
  | .nil => 1
  | .ptr d => uptoBulk d + 1
  | .slice elems spare => uptoBulkAll elems + uptoBulkAll spare + 1
  | .agg parts => uptoBulkAll parts + 1
  | .iface _ d => uptoBulk d + 1
  | .map entries => uptoBulkEntries entries + 1
  | .held _ => 1
def uptoBulkAll {H : Type} : List (DataW H) → Nat
  | [] => 0
  | d :: r => uptoBulk d + uptoBulkAll r
def uptoBulkEntries {H : Type} : List (Lit × DataW H) → Nat
  | [] => 0
  | x :: r => uptoBulkEntry x + uptoBulkEntries r
def uptoBulkEntry {H : Type} : Lit × DataW H → Nat
  | (.string bytes, d) => bytes.length + uptoBulk d + 1
  | (_, d) => uptoBulk d + 1
 end
def uptoSmall : (H : Type) → List (DataW H) → Bool := fun _ ds => decide (uptoBulkAll ds ≤ 1048576)
def OpenSpec.upto (s : _root_.Go.ChangeSpec) : _root_.Go.OpenSpec := { _root_.Go.OpenSpec.ofChange s with cond := some uptoSmall }

/-- 'lightsievelaw01.PicSizes', WHERE WHAT IT READS IS OF BULK AT MOST 1048576: true; the input reads as it did. -/
def picSizesUptoRow : OpenClaim := { program := "ytknhfliefkkpfab", sum := "c716a5058f24dd1f6888b2109a9c0ebc2202945b0f61aa5e7b35fa0250d04f16", func := "lightsieve/lightsievelaw01.PicSizes", spec := "picSizes", unfollowed := true, recurses := true, apart := false, narrowed := true }
def PicSizesUptoSaid : Prop := picSizesUptoRow.holds Try.pinned (OpenSpec.upto picSizesSpec)

/-- 'lightsievelaw01.PicMotions', WHERE WHAT IT READS IS OF BULK AT MOST 1048576: true; the input reads as it did. -/
def picMotionsUptoRow : OpenClaim := { program := "ytknhfliefkkpfab", sum := "c716a5058f24dd1f6888b2109a9c0ebc2202945b0f61aa5e7b35fa0250d04f16", func := "lightsieve/lightsievelaw01.PicMotions", spec := "picMotions", unfollowed := true, recurses := true, apart := false, narrowed := true }
def PicMotionsUptoSaid : Prop := picMotionsUptoRow.holds Try.pinned (OpenSpec.upto picMotionsSpec)

/-- 'lightsievelaw01.PicKeeps', WHERE WHAT IT READS IS OF BULK AT MOST 1048576: true; the input reads as it did. -/
def picKeepsUptoRow : OpenClaim := { program := "ytknhfliefkkpfab", sum := "c716a5058f24dd1f6888b2109a9c0ebc2202945b0f61aa5e7b35fa0250d04f16", func := "lightsieve/lightsievelaw01.PicKeeps", spec := "picKeeps", unfollowed := true, recurses := true, apart := false, narrowed := true }
def PicKeepsUptoSaid : Prop := picKeepsUptoRow.holds Try.pinned (OpenSpec.upto picKeepsSpec)

/-- 'lightsievelaw01.PicLargest', WHERE WHAT IT READS IS OF BULK AT MOST 1048576: true; the input reads as it did. -/
def picLargestUptoRow : OpenClaim := { program := "ytknhfliefkkpfab", sum := "c716a5058f24dd1f6888b2109a9c0ebc2202945b0f61aa5e7b35fa0250d04f16", func := "lightsieve/lightsievelaw01.PicLargest", spec := "picLargest", unfollowed := true, recurses := true, apart := false, narrowed := true }
def PicLargestUptoSaid : Prop := picLargestUptoRow.holds Try.pinned (OpenSpec.upto picLargestSpec)

/-- 'lightsievelaw02.MaskCoheres', WHERE WHAT IT READS IS OF BULK AT MOST 1048576: true; the input reads as it did. -/
def maskCoheresUptoRow : OpenClaim := { program := "ytknhfliefkkpfab", sum := "c716a5058f24dd1f6888b2109a9c0ebc2202945b0f61aa5e7b35fa0250d04f16", func := "lightsieve/lightsievelaw02.MaskCoheres", spec := "maskCoheres", unfollowed := true, recurses := true, apart := false, narrowed := true }
def MaskCoheresUptoSaid : Prop := maskCoheresUptoRow.holds Try.pinned (OpenSpec.upto maskCoheresSpec)

/-- 'lightsievelaw02.MaskTexts', WHERE WHAT IT READS IS OF BULK AT MOST 1048576: true; the input reads as it did. -/
def maskTextsUptoRow : OpenClaim := { program := "ytknhfliefkkpfab", sum := "c716a5058f24dd1f6888b2109a9c0ebc2202945b0f61aa5e7b35fa0250d04f16", func := "lightsieve/lightsievelaw02.MaskTexts", spec := "maskTexts", inPlace := ["internal/bytealg.IndexByteString", "internal/bytealg.IndexString", "internal/abi.NoEscape"], unfollowed := true, recurses := true, named := ["internal/bytealg.MaxLen"], apart := false, narrowed := true }
def MaskTextsUptoSaid : Prop := maskTextsUptoRow.holds Try.pinned (OpenSpec.upto maskTextsSpec)

end Rows
end Go.Proofs.Ytknhfliefkkpfab
