
/- Pairs of pictures: matched, both, Same, Differ of layer 1 and of its answers: contracts. -/
import Derived.Test.YtknhfliefkkpfabUnw
namespace Go.Proofs.Ytknhfliefkkpfab
open Go.RowKit

/-- Two boxes keep their cells behind what writes nothing older. -/
structure Two (w : World) (v0 v1 v2 u0 u1 u2 : Value) (V : World) : Prop where
  c0 : V.cell? ⟨w.heap.size, 0, none⟩ = some v0
  c1 : V.cell? ⟨w.heap.size, 1, none⟩ = some v1
  c2 : V.cell? ⟨w.heap.size, 2, none⟩ = some v2
  d0 : V.cell? ⟨w.heap.size + 1, 0, none⟩ = some u0
  d1 : V.cell? ⟨w.heap.size + 1, 1, none⟩ = some u1
  d2 : V.cell? ⟨w.heap.size + 1, 2, none⟩ = some u2
  size : w.heap.size + 2 ≤ V.heap.size
  below : Below w.heap.size w V
theorem Two.mk0 (w : World) (v0 v1 v2 u0 u1 u2 : Value) (t s : TypeId) : Two w v0 v1 v2 u0 u1 u2 ((w.alloc (.cells #[v0, v1, v2] t)).alloc (.cells #[u0, u1, u2] s)) := by
  have e1 : (w.alloc (.cells #[v0, v1, v2] t)).heap.size = w.heap.size + 1 := World.size_alloc _ _
  have A : ∀ k v, #[v0, v1, v2][k]? = some v → ((w.alloc (.cells #[v0, v1, v2] t)).alloc (.cells #[u0, u1, u2] s)).cell? ⟨w.heap.size, k, none⟩ = some v := fun k v h => by
    rw [alloc_old _ _ _ _ (by omega)]; exact alloc_cell _ _ _ _ _ h
  have B : ∀ k v, #[u0, u1, u2][k]? = some v → ((w.alloc (.cells #[v0, v1, v2] t)).alloc (.cells #[u0, u1, u2] s)).cell? ⟨w.heap.size + 1, k, none⟩ = some v := fun k v h => by
    rw [← e1]; exact alloc_cell _ _ _ _ _ h
  exact ⟨A 0 _ rfl, A 1 _ rfl, A 2 _ rfl, B 0 _ rfl, B 1 _ rfl, B 2 _ rfl, by rw [World.size_alloc, e1]; exact Nat.le_refl _, ((Below.refl _ _).alloc (Nat.le_refl _) _).alloc (by omega) _⟩
theorem Two.next {w V V' : World} {v0 v1 v2 u0 u1 u2 : Value} (h : Two w v0 v1 v2 u0 u1 u2 V) {B : Nat} (hb : Below B V V') (hB : w.heap.size + 2 ≤ B) : Two w v0 v1 v2 u0 u1 u2 V' := by
  have hb' : Below (w.heap.size + 2) V V' := hb.mono hB
  exact ⟨(hb'.cell (p := ⟨w.heap.size, 0, none⟩) (by show w.heap.size < _; omega)).trans h.c0, (hb'.cell (p := ⟨w.heap.size, 1, none⟩) (by show w.heap.size < _; omega)).trans h.c1, (hb'.cell (p := ⟨w.heap.size, 2, none⟩) (by show w.heap.size < _; omega)).trans h.c2,
    (hb'.cell (p := ⟨w.heap.size + 1, 0, none⟩) (by show w.heap.size + 1 < _; omega)).trans h.d0, (hb'.cell (p := ⟨w.heap.size + 1, 1, none⟩) (by show w.heap.size + 1 < _; omega)).trans h.d1, (hb'.cell (p := ⟨w.heap.size + 1, 2, none⟩) (by show w.heap.size + 1 < _; omega)).trans h.d2,
    Nat.le_trans h.size hb.size, h.below.trans (hb'.mono (by omega))⟩

/-- What two pictures are asked first. -/
def bothV (w1 h1 : Int) (xs : List Int) (w2 h2 : Int) (ys : List Int) : Int :=
  if validPicB w1 h1 xs = false ∨ validPicB w2 h2 ys = false then 1 else if ¬ w1 = w2 ∨ ¬ h1 = h2 then 9 else 0
theorem bothV_0 {w1 h1 : Int} {xs : List Int} {w2 h2 : Int} {ys : List Int} (h : bothV w1 h1 xs w2 h2 ys = 0) : validPicB w1 h1 xs = true ∧ validPicB w2 h2 ys = true ∧ w1 = w2 ∧ h1 = h2 := by
  unfold bothV at h
  split at h
  · cases h
  · split at h
    · cases h
    · rename_i a b
      simp at a b
      exact ⟨a.1, a.2, b.1, b.2⟩

/-- Same of a picture and one with the same sides and numbers. -/
theorem same_any (w1 h1 : Int) (a : Option Addr) (xs : List Int) (ca : Nat) (b : Option Addr) (cb : Nat) (w : World) (hx : xs.length ≤ 140737488351232) (ha : Sl w a xs) (hb : Sl w b xs) :
    Calls Try.prog 22 #[.agg #[.int .i64 w1, .int .i64 h1, .slice a xs.length ca], .agg #[.int .i64 w1, .int .i64 h1, .slice b xs.length cb]] w fun e w' => e = .returned (.bool true) ∧ Below w.heap.size w w' := by
  have HA := Lib.hid ha; clear ha
  have HB := Lib.hid hb; clear hb
  have T0 := Lib.hid (Two.mk0 w (.int .i64 w1) (.int .i64 h1) (.slice a xs.length ca) (.int .i64 w1) (.int .i64 h1) (.slice b xs.length cb) 24 24)
  go_enter Try.func22, Try.ntmps22
  go_wp2_with fail
  refine (sameInts_any a xs ca b xs cb _ hx hx (HA.out.below T0.out.below) (HB.out.below T0.out.below)).mono ?_
  rintro e v5 ⟨rfl, n5, rfl⟩
  rw [decide_eq_true (rfl : xs = xs)]
  go_wp2
  go_ret
  exact ⟨rfl, below_drewN T0.out.below _⟩

/-- The first k places at which lists differ. -/
def diffs (xs ys : List Int) (k : Nat) : List Int := ((List.range k).filter (fun i => gt xs i != gt ys i)).map (fun i : Nat => (i : Int))
theorem diffs_yes {xs ys : List Int} {k : Nat} (h : ¬ gt xs k = gt ys k) : diffs xs ys (k + 1) = diffs xs ys k ++ [(k : Int)] := by simp [diffs, List.range_succ, List.filter_append, h]
theorem diffs_no {xs ys : List Int} {k : Nat} (h : gt xs k = gt ys k) : diffs xs ys (k + 1) = diffs xs ys k := by simp [diffs, List.range_succ, List.filter_append, h]
theorem diffs_length (xs ys : List Int) (k : Nat) : (diffs xs ys k).length ≤ k := by
  have := List.length_filter_le (fun i => gt xs i != gt ys i) (List.range k)
  simpa [diffs] using this
def difV (w1 h1 : Int) (xs : List Int) (w2 h2 : Int) (ys : List Int) : List Int × Int :=
  if bothV w1 h1 xs w2 h2 ys = 0 then (diffs xs ys xs.length, 0) else ([], bothV w1 h1 xs w2 h2 ys)

end Go.Proofs.Ytknhfliefkkpfab
