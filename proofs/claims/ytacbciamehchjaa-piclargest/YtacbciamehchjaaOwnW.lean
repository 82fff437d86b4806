
/- Slices of ints in new memory: what keeps, reads and writes them. -/
import Derived.Test.YtacbciamehchjaaPush
import Derived.Test.YtacbciamehchjaaPlain
namespace Go.Proofs.Ytacbciamehchjaa
open Go.RowKit

theorem OwnI.stored {w : World} {base g cap n : Nat} {xs : List Int} (h : OwnI w base (.slice (some ⟨g, 0, none⟩) n cap) xs) (j : Nat) (x : Int) : OwnI (w.setCell ⟨g, j, none⟩ (.int .i64 x)) base (.slice (some ⟨g, 0, none⟩) n cap) (xs.set j x) := by
  unfold OwnI at *
  obtain rfl : n = xs.length := by
    obtain ⟨_, ⟨e, _⟩ | ⟨_, _, _, e, _⟩⟩ := h
    · cases e
    · simpa using congrArg (fun v => match v with | .slice _ n _ => n | _ => 0) e
  rw [List.length_set, List.map_set]
  exact (World.ownsRow.stored h j _).1
theorem OwnI.drew {w : World} {base : Nat} {v : Value} {xs : List Int} (h : OwnI w base v xs) : OwnI w.drew base v xs := h
theorem OwnI.below {w w' : World} {base : Nat} {v : Value} {xs : List Int} (h : OwnI w base v xs) (hb : Below w.heap.size w w') : OwnI w' base v xs := by
  obtain ⟨h0, h1 | ⟨g, cap, cur, e, hg, hh, rest⟩⟩ := h
  · exact ⟨h0, .inl h1⟩
  · exact ⟨h0, .inr ⟨g, cap, cur, e, hg, (hb.block g (Array.getElem?_eq_some_iff.1 hh).1).trans hh, rest⟩⟩
theorem OwnI.sameBlock {w w' : World} {base g n cap : Nat} {xs : List Int} (h : OwnI w base (.slice (some ⟨g, 0, none⟩) n cap) xs) (hb : w'.heap[g]? = w.heap[g]?) : OwnI w' base (.slice (some ⟨g, 0, none⟩) n cap) xs := by
  obtain ⟨h0, ⟨e, _⟩ | ⟨g', cap', cur, e, hg, hh, rest⟩⟩ := h
  · cases e
  · obtain rfl : g = g' := by simpa using congrArg (fun v => match v with | .slice (some a) _ _ => a.block | _ => 0) e
    exact ⟨h0, .inr ⟨g, cap', cur, e, hg, hb.trans hh, rest⟩⟩
theorem cell_other (w : World) (a : Addr) (v : Value) (o : Nat) {b : Nat} (hb : b ≠ a.block) : (w.setCell a v).cell? ⟨b, o, none⟩ = w.cell? ⟨b, o, none⟩ := World.cell?_of_block (Below.heap_setCell w a v b hb)
theorem wrap_is (n : Int) : wrap64 n = IntKind.i64.wrap n := by rw [IntKind.wrap_i64]; unfold wrap64; omega
theorem OwnI.mono {w : World} {base base' : Nat} {v : Value} {xs : List Int} (h : OwnI w base v xs) (hb : base' ≤ base) : OwnI w base' v xs := by
  obtain ⟨h0, h1 | ⟨g, cap, cur, e, hg, rest⟩⟩ := h
  · exact ⟨h0, .inl h1⟩
  · exact ⟨h0, .inr ⟨g, cap, cur, e, Nat.le_trans hb hg, rest⟩⟩
theorem OwnI.cap_le {w : World} {base g n cap : Nat} {xs : List Int} (h : OwnI w base (.slice (some ⟨g, 0, none⟩) n cap) xs) : n ≤ cap := by
  obtain ⟨h0, ⟨e, _⟩ | ⟨g', cap', cur, e, hg, hh, hle, _⟩⟩ := h
  · cases e
  · have e1 : n = xs.length := by simpa using congrArg (fun v => match v with | .slice _ n _ => n | _ => 0) e
    have e2 : cap = cap' := by simpa using congrArg (fun v => match v with | .slice _ _ c => c | _ => 0) e
    omega
theorem OwnI.lt {w : World} {base : Nat} {g n cap : Nat} {xs : List Int} (h : OwnI w base (.slice (some ⟨g, 0, none⟩) n cap) xs) : g < w.heap.size ∧ base ≤ g := by
  obtain ⟨_, ⟨e, _⟩ | ⟨g', _, _, e, hg, hh, _⟩⟩ := h
  · cases e
  · obtain ⟨rfl, _⟩ : g = g' ∧ _ := by simpa using e
    exact ⟨(Array.getElem?_eq_some_iff.1 hh).1, hg⟩
theorem OwnI.cell {w : World} {base g n cap : Nat} {xs : List Int} (h : OwnI w base (.slice (some ⟨g, 0, none⟩) n cap) xs) {j : Nat} (hj : j < xs.length) :
    w.cell? ⟨g, j, none⟩ = some (.int .i64 (xs[j]?.getD 0)) ∧ w.frozen? ⟨g, j, none⟩ = false := by
  have hs := h.sl
  obtain ⟨b, off, e, h2⟩ := hs j hj
  obtain ⟨rfl, rfl⟩ : g = b ∧ 0 = off := by simpa using e
  rw [Nat.zero_add] at h2
  refine ⟨h2, ?_⟩
  obtain rfl : n = xs.length := by
    obtain ⟨_, ⟨e, _⟩ | ⟨_, _, _, e, _⟩⟩ := h
    · cases e
    · simpa using congrArg (fun v => match v with | .slice _ n _ => n | _ => 0) e
  exact World.ownsRow.frozenAt h j

theorem OwnI.any {w : World} {base : Nat} {v : Value} {xs : List Int} (h : OwnI w base v xs) : ∃ a cap, v = .slice a xs.length cap ∧ Sl w a xs := by
  have h' := h
  obtain ⟨hx, ⟨rfl, h0⟩ | ⟨g, cap, cur, rfl, _⟩⟩ := h
  · have : xs = [] := List.eq_nil_of_length_eq_zero h0
    subst this
    exact ⟨none, 0, rfl, Sl.none _⟩
  · exact ⟨some ⟨g, 0, none⟩, cap, rfl, h'.sl⟩
theorem LPost.own {w w' : World} {base : Nat} {v : Value} {ys : List Int} {r : List Int × Int} (hr : r = (ys, 0)) (hb : Below w.heap.size w w') (ho : OwnI w' base v ys) : LPost r w (.returned (.tuple #[v, .int .i64 0])) w' := by
  obtain ⟨a, cap, rfl, hs⟩ := ho.any
  subst hr; exact ⟨hb, a, cap, rfl, hs⟩
theorem OwnI.drewN {w : World} {base : Nat} {v : Value} {xs : List Int} (h : OwnI w base v xs) (n : Nat) : OwnI (w.drewN n) base v xs := h
theorem zeros_are (n : Nat) : (madeCells (Value.int .i64 0).cells (n * 1)).toList = (List.replicate n (0 : Int)).map (Value.int .i64) := by
  rw [Nat.mul_one]
  show (madeCells #[Value.int .i64 0] n).toList = _
  rw [toList_madeCells_one]; simp
theorem OwnI.setBelow {w : World} {base : Nat} {v : Value} {xs : List Int} (h : OwnI w base v xs) {p : Addr} (hp : p.block < base) (u : Value) : OwnI (w.setCell p u) base v xs := ownsRow_setCell_below h hp u
end Go.Proofs.Ytacbciamehchjaa
