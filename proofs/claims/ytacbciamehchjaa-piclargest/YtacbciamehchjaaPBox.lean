
/- A picture that a call makes, in its box. -/
import Derived.Test.YtacbciamehchjaaUntil
import Derived.Test.YtacbciamehchjaaMoved
namespace Go.Proofs.Ytacbciamehchjaa
open Go.RowKit

/-- A picture in the making, in its box. -/
structure PBox (O : Nat) (wd hg : Int) (v : Value) (V : World) : Prop where
  o0 : V.cell? ⟨O, 0, none⟩ = some (.int .i64 wd)
  o1 : V.cell? ⟨O, 1, none⟩ = some (.int .i64 hg)
  o2 : V.cell? ⟨O, 2, none⟩ = some v
  f0 : V.frozen? ⟨O, 0, none⟩ = false
  f1 : V.frozen? ⟨O, 1, none⟩ = false
  f2 : V.frozen? ⟨O, 2, none⟩ = false
theorem PBox.later {O : Nat} {wd hg : Int} {v : Value} {W W' : World} (h : PBox O wd hg v W) {n : Nat} (hb : Below n W W') (hO : O < n) : PBox O wd hg v W' :=
  ⟨(hb.cell (p := ⟨O, 0, none⟩) hO).trans h.o0, (hb.cell (p := ⟨O, 1, none⟩) hO).trans h.o1, (hb.cell (p := ⟨O, 2, none⟩) hO).trans h.o2, (hb.frozen (p := ⟨O, 0, none⟩) hO).trans h.f0, (hb.frozen (p := ⟨O, 1, none⟩) hO).trans h.f1, (hb.frozen (p := ⟨O, 2, none⟩) hO).trans h.f2⟩
theorem PBox.made (V : World) (wd hg : Int) (v : Value) (t : TypeId) {O : Nat} (hO : O = V.heap.size) : PBox O wd hg v (V.alloc (.cells #[.int .i64 wd, .int .i64 hg, v] t)) := by
  subst hO
  exact ⟨alloc_cell _ _ _ _ _ rfl, alloc_cell _ _ _ _ _ rfl, alloc_cell _ _ _ _ _ rfl, by simp, by simp, by simp⟩
theorem PBox.kept {O : Nat} {wd hg : Int} {v : Value} {W W' : World} (h : PBox O wd hg v W) (hb : W'.heap[O]? = W.heap[O]?) : PBox O wd hg v W' :=
  ⟨(World.cell?_of_block (a := ⟨O, 0, none⟩) hb).trans h.o0, (World.cell?_of_block (a := ⟨O, 1, none⟩) hb).trans h.o1, (World.cell?_of_block (a := ⟨O, 2, none⟩) hb).trans h.o2, (World.frozen?_of_block (a := ⟨O, 0, none⟩) hb).trans h.f0, (World.frozen?_of_block (a := ⟨O, 1, none⟩) hb).trans h.f1, (World.frozen?_of_block (a := ⟨O, 2, none⟩) hb).trans h.f2⟩
theorem PBox.pix {O : Nat} {wd hg : Int} {v : Value} {W : World} (h : PBox O wd hg v W) (u : Value) : PBox O wd hg u (W.setCell ⟨O, 2, none⟩ u) := by
  obtain ⟨o0, o1, o2, f0, f1, f2⟩ := h
  refine ⟨?_, ?_, ?_, ?_, ?_, ?_⟩ <;> go_simp
theorem PBox.over {O : Nat} {wd hg : Int} {v : Value} {W : World} (h : PBox O wd hg v W) (wd' hg' : Int) (u : Value) : PBox O wd' hg' u (((W.setCell ⟨O, 0, none⟩ (.int .i64 wd')).setCell ⟨O, 1, none⟩ (.int .i64 hg')).setCell ⟨O, 2, none⟩ u) := by
  obtain ⟨o0, o1, o2, f0, f1, f2⟩ := h
  refine ⟨?_, ?_, ?_, ?_, ?_, ?_⟩ <;> go_simp
theorem OwnI.row {w : World} {base : Nat} {v : Value} {xs : List Int} (h : OwnI w base v xs) : ∃ a c, v = .slice a xs.length c ∧ Sl w a xs ∧ ∀ ad, a = some ad → ad.block < w.heap.size ∧ base ≤ ad.block := by
  have h' := h
  obtain ⟨hx, ⟨rfl, h0⟩ | ⟨g, cap, cur, rfl, _⟩⟩ := h
  · have : xs = [] := List.eq_nil_of_length_eq_zero h0
    subst this
    exact ⟨none, 0, rfl, Sl.none _, fun ad e => by cases e⟩
  · refine ⟨some ⟨g, 0, none⟩, cap, rfl, h'.sl, fun ad e => ?_⟩
    cases e
    exact h'.lt
/-- What a function that returns a picture of its own and an error returns: the pixels lie in new memory. -/
def FPost (r : (Int × Int × List Int) × Int) (w : World) (e : Ending) (w' : World) : Prop :=
  Below w.heap.size w w' ∧ ∃ a cap, e = .returned (.tuple #[.agg #[.int .i64 r.1.1, .int .i64 r.1.2.1, .slice a r.1.2.2.length cap], .int .i64 r.2]) ∧ Sl w' a r.1.2.2 ∧ ∀ ad, a = some ad → w.heap.size ≤ ad.block
theorem FPost.err {w w' : World} (n : Int) {r : (Int × Int × List Int) × Int} (hr : r = ((0, 0, []), n)) (hb : Below w.heap.size w w') : FPost r w (.returned (.tuple #[.agg #[.int .i64 0, .int .i64 0, .slice none 0 0], .int .i64 n])) w' := by
  subst hr; exact ⟨hb, none, 0, rfl, Sl.none _, fun ad e => by cases e⟩
theorem FPost.ok {w w' : World} {base n cap : Nat} {a : Option Addr} {wd hg : Int} {ys : List Int} {r : (Int × Int × List Int) × Int} (hr : r = ((wd, hg, ys), 0)) (hb : Below w.heap.size w w') (ho : OwnI w' base (.slice a n cap) ys) (hn : n = ys.length) (hbase : w.heap.size ≤ base := by omega) : FPost r w (.returned (.tuple #[.agg #[.int .i64 wd, .int .i64 hg, .slice a n cap], .int .i64 0])) w' := by
  subst hr hn
  obtain ⟨a', c', e, hs, hlt⟩ := ho.row
  obtain ⟨rfl, rfl⟩ : a = a' ∧ cap = c' := by simpa using e
  exact ⟨hb, a, cap, rfl, hs, fun ad e => Nat.le_trans hbase (hlt ad e).2⟩
end Go.Proofs.Ytacbciamehchjaa
