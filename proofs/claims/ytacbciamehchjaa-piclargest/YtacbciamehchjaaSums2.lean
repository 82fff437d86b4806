
/- Added of layer 1 and of its answers: contracts. -/
import Derived.Test.YtacbciamehchjaaSums1
import Derived.StillTailTactics
import Derived.Laws.ResultCell
namespace Go.Proofs.Ytacbciamehchjaa
open Go.RowKit

/-- What a function that returns a picture and an error returns. -/
def PPost (r : (Int × Int × List Int) × Int) (w : World) (e : Ending) (w' : World) : Prop :=
  Below w.heap.size w w' ∧ ∃ a cap, e = .returned (.tuple #[.agg #[.int .i64 r.1.1, .int .i64 r.1.2.1, .slice a r.1.2.2.length cap], .int .i64 r.2]) ∧ Sl w' a r.1.2.2
theorem PPost.err {w w' : World} (n : Int) {r : (Int × Int × List Int) × Int} (hr : r = ((0, 0, []), n)) (hb : Below w.heap.size w w') : PPost r w (.returned (.tuple #[.agg #[.int .i64 0, .int .i64 0, .slice none 0 0], .int .i64 n])) w' := by
  subst hr; exact ⟨hb, none, 0, rfl, Sl.none _⟩
theorem PPost.ok {w w' : World} {base n cap : Nat} {a : Option Addr} {wd hg : Int} {ys : List Int} {r : (Int × Int × List Int) × Int} (hr : r = ((wd, hg, ys), 0)) (hb : Below w.heap.size w w') (ho : OwnI w' base (.slice a n cap) ys) (hn : n = ys.length) : PPost r w (.returned (.tuple #[.agg #[.int .i64 wd, .int .i64 hg, .slice a n cap], .int .i64 0])) w' := by
  subst hr hn; exact ⟨hb, a, cap, rfl, ho.sl⟩
def addL (xs ys : List Int) (k : Nat) : List Int := (List.range k).map (fun i => gt xs i + gt ys i)
theorem addL_length (xs ys : List Int) (k : Nat) : (addL xs ys k).length = k := by simp [addL]
theorem addL_succ (xs ys : List Int) (k : Nat) : addL xs ys (k + 1) = addL xs ys k ++ [gt xs k + gt ys k] := by simp [addL, List.range_succ]
def addV (w1 h1 : Int) (xs : List Int) (w2 h2 : Int) (ys : List Int) : (Int × Int × List Int) × Int :=
  if bothV w1 h1 xs w2 h2 ys = 0 then (if allB 1000000 (addL xs ys xs.length) = true then ((w1, h1, addL xs ys xs.length), 0) else ((0, 0, []), 4)) else ((0, 0, []), bothV w1 h1 xs w2 h2 ys)
/-- The first k numbers of zs are the sums. -/
structure AddK (xs ys : List Int) (k : Nat) (zs : List Int) : Prop where
  len : zs.length = xs.length
  yes : ∀ j, j < k → gt zs j = gt xs j + gt ys j
theorem AddK.next {xs ys zs : List Int} {k : Nat} (h : AddK xs ys k zs) (hk : k < xs.length) {x : Int} (hx : x = gt xs k + gt ys k) : AddK xs ys (k + 1) (zs.set k x) := by
  have hkz : k < zs.length := by rw [h.len]; exact hk
  refine ⟨by rw [List.length_set]; exact h.len, fun j hj => ?_⟩
  rw [gt_set hkz]
  by_cases e : j = k
  · subst e; rw [if_pos rfl, hx]
  · rw [if_neg e]; exact h.yes j (by omega)
theorem AddK.all {xs ys zs : List Int} (h : AddK xs ys xs.length zs) : zs = addL xs ys xs.length := by
  refine list_ext_gt (by rw [h.len, addL_length]) fun j hj => ?_
  rw [h.len] at hj
  rw [h.yes j hj]
  unfold addL
  rw [gt_map_range _ hj]
/-- Two boxes and a third one, of the result. -/
structure Three (w : World) (v0 v1 v2 u0 u1 u2 r0 r1 r2 : Value) (V : World) : Prop where
  two : Two w v0 v1 v2 u0 u1 u2 V
  size : w.heap.size + 3 ≤ V.heap.size
  e0 : V.cell? ⟨w.heap.size + 2, 0, none⟩ = some r0
  e1 : V.cell? ⟨w.heap.size + 2, 1, none⟩ = some r1
  e2 : V.cell? ⟨w.heap.size + 2, 2, none⟩ = some r2
  f0 : V.frozen? ⟨w.heap.size + 2, 0, none⟩ = false
  f1 : V.frozen? ⟨w.heap.size + 2, 1, none⟩ = false
  f2 : V.frozen? ⟨w.heap.size + 2, 2, none⟩ = false
theorem Three.mk0 (w : World) (v0 v1 v2 u0 u1 u2 r0 r1 r2 : Value) (t s r : TypeId) : Three w v0 v1 v2 u0 u1 u2 r0 r1 r2 (((w.alloc (.cells #[v0, v1, v2] t)).alloc (.cells #[u0, u1, u2] s)).alloc (.cells #[r0, r1, r2] r)) := by
  have T := Two.mk0 w v0 v1 v2 u0 u1 u2 t s
  have e1 : ((w.alloc (.cells #[v0, v1, v2] t)).alloc (.cells #[u0, u1, u2] s)).heap.size = w.heap.size + 2 := by rw [World.size_alloc, World.size_alloc]
  generalize (w.alloc (.cells #[v0, v1, v2] t)).alloc (.cells #[u0, u1, u2] s) = V at *
  have B : ∀ k v, #[r0, r1, r2][k]? = some v → (V.alloc (.cells #[r0, r1, r2] r)).cell? ⟨w.heap.size + 2, k, none⟩ = some v := fun k v h => by
    rw [← e1]; exact alloc_cell _ _ _ _ _ h
  refine ⟨T.next ((Below.refl (w.heap.size + 2) V).alloc (by omega) _) (Nat.le_refl _), by rw [World.size_alloc, e1]; exact Nat.le_refl _, B 0 _ rfl, B 1 _ rfl, B 2 _ rfl, ?_, ?_, ?_⟩
  all_goals (rw [← e1]; simp)
theorem Three.next {w V V' : World} {v0 v1 v2 u0 u1 u2 r0 r1 r2 : Value} (h : Three w v0 v1 v2 u0 u1 u2 r0 r1 r2 V) {B : Nat} (hb : Below B V V') (hB : w.heap.size + 3 ≤ B) : Three w v0 v1 v2 u0 u1 u2 r0 r1 r2 V' := by
  have hb' : Below (w.heap.size + 3) V V' := hb.mono hB
  exact ⟨h.two.next hb (by omega), Nat.le_trans h.size hb.size, (hb'.cell (p := ⟨w.heap.size + 2, 0, none⟩) (by show w.heap.size + 2 < _; omega)).trans h.e0, (hb'.cell (p := ⟨w.heap.size + 2, 1, none⟩) (by show w.heap.size + 2 < _; omega)).trans h.e1, (hb'.cell (p := ⟨w.heap.size + 2, 2, none⟩) (by show w.heap.size + 2 < _; omega)).trans h.e2,
    (hb'.frozen (p := ⟨w.heap.size + 2, 0, none⟩) (by show w.heap.size + 2 < _; omega)).trans h.f0, (hb'.frozen (p := ⟨w.heap.size + 2, 1, none⟩) (by show w.heap.size + 2 < _; omega)).trans h.f1, (hb'.frozen (p := ⟨w.heap.size + 2, 2, none⟩) (by show w.heap.size + 2 < _; omega)).trans h.f2⟩

theorem set3 {w V : World} (h : Below w.heap.size w V) {R : Nat} (hR : w.heap.size ≤ R) (a b c : Value) : Below w.heap.size w (((V.setCell ⟨R, 0, none⟩ a).setCell ⟨R, 1, none⟩ b).setCell ⟨R, 2, none⟩ c) :=
  ((h.setCell (p := ⟨R, 0, none⟩) hR _).setCell (p := ⟨R, 1, none⟩) hR _).setCell (p := ⟨R, 2, none⟩) hR _
theorem set3_heap (V : World) {R g : Nat} (hg : g ≠ R) (a b c : Value) : (((V.setCell ⟨R, 0, none⟩ a).setCell ⟨R, 1, none⟩ b).setCell ⟨R, 2, none⟩ c).heap[g]? = V.heap[g]? :=
  (Below.heap_setCell _ _ _ g hg).trans ((Below.heap_setCell _ _ _ g hg).trans (Below.heap_setCell _ _ _ g hg))

end Go.Proofs.Ytacbciamehchjaa
