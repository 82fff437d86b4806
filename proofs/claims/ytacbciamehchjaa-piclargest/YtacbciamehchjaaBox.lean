
/- What new blocks hold; boxes. Speaks of no function. -/
import Derived.Test.YtacbciamehchjaaBase
namespace Go.Proofs.Ytacbciamehchjaa
open Go.RowKit

theorem alloc_cell (V : World) (vs : Array Value) (t : TypeId) (k : Nat) (v : Value) (h : vs[k]? = some v) : (V.alloc (.cells vs t)).cell? ⟨V.heap.size, k, none⟩ = some v := by
  have e : (V.alloc (.cells vs t)).heap[V.heap.size]? = some (.cells vs t) := by
    show (V.heap.push _)[V.heap.size]? = _
    simp
  unfold World.cell?
  rw [e]
  exact h
theorem alloc_old (V : World) (o : Obj) (b k : Nat) (h : b < V.heap.size) : (V.alloc o).cell? ⟨b, k, none⟩ = V.cell? ⟨b, k, none⟩ := ((Below.refl V.heap.size V).alloc (Nat.le_refl _) o).cell (p := ⟨b, k, none⟩) h
theorem alloc_lt {V : World} {o : Obj} {b : Nat} (h : b < V.heap.size) : b < (V.alloc o).heap.size := by rw [World.size_alloc]; omega
theorem alloc_lt' {V : World} {o : Obj} {b : Nat} (h : b = V.heap.size) : b < (V.alloc o).heap.size := by rw [World.size_alloc]; omega
/-- What a box holds behind two more. -/
theorem two_cells (w : World) (vs0 vs1 vs2 : Array Value) (t0 t1 t2 : TypeId) :
    (∀ k v, vs0[k]? = some v → (((w.alloc (.cells vs0 t0)).alloc (.cells vs1 t1)).alloc (.cells vs2 t2)).cell? ⟨w.heap.size, k, none⟩ = some v) ∧
    (∀ k v, vs1[k]? = some v → (((w.alloc (.cells vs0 t0)).alloc (.cells vs1 t1)).alloc (.cells vs2 t2)).cell? ⟨w.heap.size + 1, k, none⟩ = some v) ∧
    (((w.alloc (.cells vs0 t0)).alloc (.cells vs1 t1)).alloc (.cells vs2 t2)).heap.size = w.heap.size + 3 ∧ Below w.heap.size w (((w.alloc (.cells vs0 t0)).alloc (.cells vs1 t1)).alloc (.cells vs2 t2)) := by
  have e1 : (w.alloc (.cells vs0 t0)).heap.size = w.heap.size + 1 := World.size_alloc _ _
  have e2 : ((w.alloc (.cells vs0 t0)).alloc (.cells vs1 t1)).heap.size = w.heap.size + 2 := by rw [World.size_alloc, e1]
  refine ⟨fun k v h => ?_, fun k v h => ?_, by rw [World.size_alloc, e2], ?_⟩
  · rw [alloc_old _ _ _ _ (by omega), alloc_old _ _ _ _ (by omega)]; exact alloc_cell _ _ _ _ _ h
  · rw [alloc_old _ _ _ _ (by omega), ← e1]; exact alloc_cell _ _ _ _ _ h
  · exact (((Below.refl _ _).alloc (Nat.le_refl _) _).alloc (by omega) _).alloc (by omega) _
/-- A box that holds vs. -/
def Box (b : Nat) (vs : Array Value) (V : World) : Prop := b < V.heap.size ∧ ∀ k v, vs[k]? = some v → V.cell? ⟨b, k, none⟩ = some v
theorem Box.next {b : Nat} {vs : Array Value} {V V' : World} (h : Box b vs V) (hb : Below V.heap.size V V') : Box b vs V' :=
  ⟨Nat.lt_of_lt_of_le h.1 hb.size, fun k v hv => (hb.cell (p := ⟨b, k, none⟩) h.1).trans (h.2 k v hv)⟩
theorem Box.drew {b : Nat} {vs : Array Value} {V : World} (h : Box b vs V) : Box b vs V.drew := h.next ((Below.refl _ _).drew)
theorem two_boxes (w : World) (vs0 vs1 vs2 : Array Value) (t0 t1 t2 : TypeId) : let V := (((w.alloc (.cells vs0 t0)).alloc (.cells vs1 t1)).alloc (.cells vs2 t2))
    Box w.heap.size vs0 V ∧ Box (w.heap.size + 1) vs1 V ∧ Below w.heap.size w V := by
  intro V
  obtain ⟨h0, h1, h2, h3⟩ := two_cells w vs0 vs1 vs2 t0 t1 t2
  exact ⟨⟨by rw [h2]; omega, h0⟩, ⟨by rw [h2]; omega, h1⟩, h3⟩
theorem one_box (w : World) (vs0 vs1 : Array Value) (t0 t1 : TypeId) : let V := ((w.alloc (.cells vs0 t0)).alloc (.cells vs1 t1))
    Box w.heap.size vs0 V ∧ Below w.heap.size w V := by
  intro V
  have e1 : (w.alloc (.cells vs0 t0)).heap.size = w.heap.size + 1 := World.size_alloc _ _
  refine ⟨⟨alloc_lt (alloc_lt' rfl), fun k v h => ?_⟩, ((Below.refl _ _).alloc (Nat.le_refl _) _).alloc (by omega) _⟩
  rw [alloc_old _ _ _ _ (by omega)]; exact alloc_cell _ _ _ _ _ h
end Go.Proofs.Ytacbciamehchjaa
