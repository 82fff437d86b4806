
/- Pairs of pictures: matched, both, Same, Differ of layer 1 and of its answers: contracts. -/
import Derived.Test.YtacbciamehchjaaUnw
namespace Go.Proofs.Ytacbciamehchjaa
open Go.RowKit

/-- Two boxes keep their cells behind what writes nothing older. -/
structure Two (w : World) (v0 v1 v2 u0 u1 u2 : Value) (V : World) : Prop where
  c0 : V.cell? ⟨w.heap.size, 0, none⟩ = some v0
  c1 : V.cell? ⟨w.heap.size, 1, none⟩ = some v1
  c2 : V.cell? ⟨w.heap.size, 2, none⟩ = some v2
  d0 : V.cell? ⟨w.heap.size + 1, 0, none⟩ = some u0
  d1 : V.cell? ⟨w.heap.size + 1, 1, none⟩ = some u1
  d2 : V.cell? ⟨w.heap.size + 1, 2, none⟩ = some u2
  size : w.heap.size + 2 ≤ V.heap.size
  below : Below w.heap.size w V
theorem Two.mk0 (w : World) (v0 v1 v2 u0 u1 u2 : Value) (t s : TypeId) : Two w v0 v1 v2 u0 u1 u2 ((w.alloc (.cells #[v0, v1, v2] t)).alloc (.cells #[u0, u1, u2] s)) := by
  have e1 : (w.alloc (.cells #[v0, v1, v2] t)).heap.size = w.heap.size + 1 := World.size_alloc _ _
  have A : ∀ k v, #[v0, v1, v2][k]? = some v → ((w.alloc (.cells #[v0, v1, v2] t)).alloc (.cells #[u0, u1, u2] s)).cell? ⟨w.heap.size, k, none⟩ = some v := fun k v h => by
    rw [alloc_old _ _ _ _ (by omega)]; exact alloc_cell _ _ _ _ _ h
  have B : ∀ k v, #[u0, u1, u2][k]? = some v → ((w.alloc (.cells #[v0, v1, v2] t)).alloc (.cells #[u0, u1, u2] s)).cell? ⟨w.heap.size + 1, k, none⟩ = some v := fun k v h => by
    rw [← e1]; exact alloc_cell _ _ _ _ _ h
  exact ⟨A 0 _ rfl, A 1 _ rfl, A 2 _ rfl, B 0 _ rfl, B 1 _ rfl, B 2 _ rfl, by rw [World.size_alloc, e1]; exact Nat.le_refl _, ((Below.refl _ _).alloc (Nat.le_refl _) _).alloc (by omega) _⟩
theorem Two.next {w V V' : World} {v0 v1 v2 u0 u1 u2 : Value} (h : Two w v0 v1 v2 u0 u1 u2 V) {B : Nat} (hb : Below B V V') (hB : w.heap.size + 2 ≤ B) : Two w v0 v1 v2 u0 u1 u2 V' := by
  have hb' : Below (w.heap.size + 2) V V' := hb.mono hB
  exact ⟨(hb'.cell (p := ⟨w.heap.size, 0, none⟩) (by show w.heap.size < _; omega)).trans h.c0, (hb'.cell (p := ⟨w.heap.size, 1, none⟩) (by show w.heap.size < _; omega)).trans h.c1, (hb'.cell (p := ⟨w.heap.size, 2, none⟩) (by show w.heap.size < _; omega)).trans h.c2,
    (hb'.cell (p := ⟨w.heap.size + 1, 0, none⟩) (by show w.heap.size + 1 < _; omega)).trans h.d0, (hb'.cell (p := ⟨w.heap.size + 1, 1, none⟩) (by show w.heap.size + 1 < _; omega)).trans h.d1, (hb'.cell (p := ⟨w.heap.size + 1, 2, none⟩) (by show w.heap.size + 1 < _; omega)).trans h.d2,
    Nat.le_trans h.size hb.size, h.below.trans (hb'.mono (by omega))⟩

/-- What two pictures are asked first. -/
def bothV (w1 h1 : Int) (xs : List Int) (w2 h2 : Int) (ys : List Int) : Int :=
  if validPicB w1 h1 xs = false ∨ validPicB w2 h2 ys = false then 1 else if ¬ w1 = w2 ∨ ¬ h1 = h2 then 9 else 0
theorem bothV_0 {w1 h1 : Int} {xs : List Int} {w2 h2 : Int} {ys : List Int} (h : bothV w1 h1 xs w2 h2 ys = 0) : validPicB w1 h1 xs = true ∧ validPicB w2 h2 ys = true ∧ w1 = w2 ∧ h1 = h2 := by
  unfold bothV at h
  split at h
  · cases h
  · split at h
    · cases h
    · rename_i a b
      simp at a b
      exact ⟨a.1, a.2, b.1, b.2⟩

/-- The first k places at which lists differ. -/
def diffs (xs ys : List Int) (k : Nat) : List Int := ((List.range k).filter (fun i => gt xs i != gt ys i)).map (fun i : Nat => (i : Int))
theorem diffs_yes {xs ys : List Int} {k : Nat} (h : ¬ gt xs k = gt ys k) : diffs xs ys (k + 1) = diffs xs ys k ++ [(k : Int)] := by simp [diffs, List.range_succ, List.filter_append, h]
theorem diffs_no {xs ys : List Int} {k : Nat} (h : gt xs k = gt ys k) : diffs xs ys (k + 1) = diffs xs ys k := by simp [diffs, List.range_succ, List.filter_append, h]
theorem diffs_length (xs ys : List Int) (k : Nat) : (diffs xs ys k).length ≤ k := by
  have := List.length_filter_le (fun i => gt xs i != gt ys i) (List.range k)
  simpa [diffs] using this
def difV (w1 h1 : Int) (xs : List Int) (w2 h2 : Int) (ys : List Int) : List Int × Int :=
  if bothV w1 h1 xs w2 h2 ys = 0 then (diffs xs ys xs.length, 0) else ([], bothV w1 h1 xs w2 h2 ys)

end Go.Proofs.Ytacbciamehchjaa
