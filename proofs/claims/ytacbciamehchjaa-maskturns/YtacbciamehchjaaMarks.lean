
/- The marks that ranges over functions leave behind, and what is owed at the return. -/
import Derived.RangeFuncNested
import Derived.RangeFuncBound
import Derived.RangeFuncCalls
import Derived.RangeFuncLeaves
import Derived.RangeFuncBox
import Derived.Test.YtacbciamehchjaaOwnW
namespace Go.Proofs.Ytacbciamehchjaa
open Go.RowKit

def mark (D : Nat) : Deferred := { target := .collected D, args := #[] }
/-- The marks' blocks are there, as they were laid, and beyond a bound. -/
def Marks (B : Nat) (ms : List Nat) (W : World) : Prop := ms.Nodup ∧ ∀ D, D ∈ ms → B ≤ D ∧ W.heap[D]? = some (.deferred (some []))
theorem Marks.kept {B : Nat} {ms : List Nat} {W W' : World} (h : Marks B ms W) (k : ∀ D, D ∈ ms → W'.heap[D]? = W.heap[D]?) : Marks B ms W' := ⟨h.1, fun D hD => ⟨(h.2 D hD).1, (k D hD).trans (h.2 D hD).2⟩⟩
theorem Marks.others {B : Nat} {ms : List Nat} {W W' : World} (h : Marks B ms W) (k : KeepsOthers W W') : Marks B ms W' := ⟨h.1, fun D hD => ⟨(h.2 D hD).1, k.same D _ (h.2 D hD).2 rfl⟩⟩
theorem Marks.lt {B : Nat} {ms : List Nat} {W : World} (h : Marks B ms W) {D : Nat} (hD : D ∈ ms) : D < W.heap.size := (Array.getElem?_eq_some_iff.1 (h.2 D hD).2).1
/-- At the return each mark's block is shut. -/
theorem leaves_marks {F : Fence} {n : Nat} {P : Program} {fn : Func} {tmps : Array Value} {R : Ending → World → Prop} {B : Nat} (p : World → Prop)
    (hp : ∀ W D, B ≤ D → W.heap[D]? = some (.deferred (some [])) → p W → p (W.putObj D (.deferred none))) (hR : ∀ W, p W → LeavesIn F n P fn tmps R [] .returning W) :
    ∀ (ms : List Nat) (W : World), Marks B ms W → p W → LeavesInM F n P fn tmps R (ms.map mark) .returning W := by
  intro ms
  induction ms with
  | nil => intro W _ h; exact hR W h
  | cons D ms ih =>
    intro W hM h
    have hD := hM.2 D (by simp)
    refine ⟨by simp, .inl ⟨D, W.putObj D (.deferred none), rfl, run_takeDeferred hD.2, ih _ ?_ (hp W D hD.1 hD.2 h)⟩⟩
    have hn := List.nodup_cons.1 hM.1
    exact ⟨hn.2, fun E hE => ⟨(hM.2 E (by simp [hE])).1, (World.putObj_heap_other (fun e => hn.1 (by rw [← e]; exact hE))).trans (hM.2 E (by simp [hE])).2⟩⟩
end Go.Proofs.Ytacbciamehchjaa
