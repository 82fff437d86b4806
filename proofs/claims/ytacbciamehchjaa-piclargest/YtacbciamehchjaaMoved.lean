
/- moved of layer 1: a contract. -/
import Derived.Test.YtacbciamehchjaaMot
import Derived.Laws.ResultCell
import Derived.Deep.QuietTactic
import Derived.BigQuiet
namespace Go.Proofs.Ytacbciamehchjaa
open Go.RowKit

theorem results_cell_one {fn : Func} {p : Tmp} {ty : TypeId} (h : fn.results = #[.cell p ty]) (tmps : Array Value) (P : Program) (w : World) :
    (results fn tmps).run P w = ((asAddr (tmps.getD p undef)).run P w).andThen fun a w₁ => ((loadVar ty a).run P w₁).andThen fun v w₂ => .ok v w₂ := by
  simp only [results, h]
  simp [Sem.run_bind, Result.andThen]
  split <;> first | rfl | (split <;> rfl) | (split <;> simp_all)
/-- The boxes of a picture that is moved and of its result. -/
structure MvBox (w : World) (v0 v1 v2 : Value) (V : World) : Prop where
  c0 : V.cell? ⟨w.heap.size, 0, none⟩ = some v0
  c1 : V.cell? ⟨w.heap.size, 1, none⟩ = some v1
  c2 : V.cell? ⟨w.heap.size, 2, none⟩ = some v2
  e0 : V.cell? ⟨w.heap.size + 1, 0, none⟩ = some (.int .i64 0)
  e1 : V.cell? ⟨w.heap.size + 1, 1, none⟩ = some (.int .i64 0)
  e2 : V.cell? ⟨w.heap.size + 1, 2, none⟩ = some (.slice none 0 0)
  f0 : V.frozen? ⟨w.heap.size + 1, 0, none⟩ = false
  f1 : V.frozen? ⟨w.heap.size + 1, 1, none⟩ = false
  f2 : V.frozen? ⟨w.heap.size + 1, 2, none⟩ = false
  sz : w.heap.size + 2 ≤ V.heap.size
theorem MvBox.mk0 (w : World) (v0 v1 v2 : Value) (t s : TypeId) : MvBox w v0 v1 v2 ((w.alloc (.cells #[v0, v1, v2] t)).alloc (.cells #[.int .i64 0, .int .i64 0, .slice none 0 0] s)) := by
  have h : (w.alloc (.cells #[v0, v1, v2] t)).heap.size = w.heap.size + 1 := World.size_alloc _ _
  refine ⟨(alloc_old _ _ _ _ (by omega)).trans (alloc_cell _ _ _ _ _ rfl), (alloc_old _ _ _ _ (by omega)).trans (alloc_cell _ _ _ _ _ rfl), (alloc_old _ _ _ _ (by omega)).trans (alloc_cell _ _ _ _ _ rfl), ?_, ?_, ?_, ?_, ?_, ?_, by rw [World.size_alloc, h]; omega⟩
  · rw [← h]; exact alloc_cell _ _ _ _ _ rfl
  · rw [← h]; exact alloc_cell _ _ _ _ _ rfl
  · rw [← h]; exact alloc_cell _ _ _ _ _ rfl
  · simp
  · simp
  · simp
theorem MvBox.next {w V V' : World} {v0 v1 v2 : Value} (h : MvBox w v0 v1 v2 V) {B : Nat} (hb : Below B V V') (hB : w.heap.size + 2 ≤ B) : MvBox w v0 v1 v2 V' :=
  have k : ∀ b o, b < w.heap.size + 2 → V'.cell? ⟨b, o, none⟩ = V.cell? ⟨b, o, none⟩ := fun b o hlt => hb.cell (p := ⟨b, o, none⟩) (by show b < B; omega)
  have f : ∀ b o, b < w.heap.size + 2 → V'.frozen? ⟨b, o, none⟩ = V.frozen? ⟨b, o, none⟩ := fun b o hlt => hb.frozen (p := ⟨b, o, none⟩) (by show b < B; omega)
  ⟨(k _ _ (by omega)).trans h.c0, (k _ _ (by omega)).trans h.c1, (k _ _ (by omega)).trans h.c2, (k _ _ (by omega)).trans h.e0, (k _ _ (by omega)).trans h.e1, (k _ _ (by omega)).trans h.e2, (f _ _ (by omega)).trans h.f0, (f _ _ (by omega)).trans h.f1, (f _ _ (by omega)).trans h.f2, Nat.le_trans h.sz hb.size⟩
/-- What moved returns: a picture whose pixels are the call's own. -/
def VPost (wd hg : Int) (ys : List Int) (w : World) (e : Ending) (w' : World) : Prop := Below w.heap.size w w' ∧ ∃ base a n cap, e = .returned (.agg #[.int .i64 wd, .int .i64 hg, .slice a n cap]) ∧ n = ys.length ∧ w.heap.size ≤ base ∧ OwnI w' base (.slice a n cap) ys

end Go.Proofs.Ytacbciamehchjaa
