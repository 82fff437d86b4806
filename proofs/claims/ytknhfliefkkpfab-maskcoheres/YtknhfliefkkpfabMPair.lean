
/- Slices of pairs of ints in new memory: words, and one pair appended. -/
import Derived.Test.YtknhfliefkkpfabOwnW
namespace Go.Proofs.Ytknhfliefkkpfab
open Go.RowKit

theorem Try.infoPair : (Try.prog.info? 55).map (fun i => (i.zero, i.size, i.bytes)) = some (some (.agg #[.int .i64 0, .int .i64 0]), 2, 16) := by kernel_rfl
/-- The cells of pairs. -/
def pcs (ps : List (Int × Int)) : List Value := ps.flatMap fun p => [.int .i64 p.1, .int .i64 p.2]
theorem pcs_length (ps : List (Int × Int)) : (pcs ps).length = ps.length * 2 := by
  induction ps with
  | nil => rfl
  | cons p ps ih => simp only [pcs, List.flatMap_cons, List.length_append, List.length_cons, List.length_nil] at ih ⊢; omega
theorem pcs_snoc (ps : List (Int × Int)) (p : Int × Int) : pcs (ps ++ [p]) = pcs ps ++ [.int .i64 p.1, .int .i64 p.2] := by simp [pcs]
theorem pcs_get {ps : List (Int × Int)} {k : Nat} {p : Int × Int} (h : ps[k]? = some p) : (pcs ps)[k * 2]? = some (.int .i64 p.1) ∧ (pcs ps)[k * 2 + 1]? = some (.int .i64 p.2) := by
  induction ps generalizing k with
  | nil => simp at h
  | cons q ps ih =>
    cases k with
    | zero => simp at h; subst h; simp [pcs]
    | succ k =>
      have := ih (k := k) (by simpa using h)
      have e : pcs (q :: ps) = .int .i64 q.1 :: .int .i64 q.2 :: pcs ps := by simp [pcs]
      rw [e, show (k + 1) * 2 = k * 2 + 1 + 1 by omega]
      simpa using this
/-- A slice value in the call's own memory that holds the pairs ps. -/
def OwnQ (w : World) (base : Nat) (v : Value) (ps : List (Int × Int)) : Prop := w.ownsRow base 55 2 v ps.length (pcs ps)
/-- The cells behind a slice's address read as pairs. -/
def Qs (w : World) (a : Option Addr) (ps : List (Int × Int)) : Prop :=
  ∀ k p, ps[k]? = some p → ∃ b off, a = some ⟨b, off, none⟩ ∧ w.cell? ⟨b, off + k * 2, none⟩ = some (.int .i64 p.1) ∧ w.cell? ⟨b, off + k * 2 + 1, none⟩ = some (.int .i64 p.2)
theorem Qs.below {w w' : World} {a : Option Addr} {ps : List (Int × Int)} (h : Qs w a ps) (hb : Below w.heap.size w w') : Qs w' a ps := by
  intro k p e
  obtain ⟨b, off, ha, h1, h2⟩ := h k p e
  exact ⟨b, off, ha, (hb.cell (p := ⟨b, off + k * 2, none⟩) (cell_lt h1)).trans h1, (hb.cell (p := ⟨b, off + k * 2 + 1, none⟩) (cell_lt h2)).trans h2⟩
theorem qs_none (w : World) : Qs w none [] := fun k p e => by simp at e
theorem OwnQ.nil (w : World) (base : Nat) : OwnQ w base (.slice none 0 0) [] := World.ownsRow_nil _ _ _ _
theorem OwnQ.any {w : World} {base : Nat} {v : Value} {ps : List (Int × Int)} (h : OwnQ w base v ps) : ∃ a cap, v = .slice a ps.length cap ∧ Qs w a ps := by
  have h' := h
  obtain ⟨hx, ⟨rfl, h0⟩ | ⟨g, cap, cur, rfl, hg, hh, hle, hm, hs, ht⟩⟩ := h
  · have : ps = [] := List.eq_nil_of_length_eq_zero h0
    subst this
    exact ⟨none, 0, rfl, qs_none _⟩
  · refine ⟨some ⟨g, 0, none⟩, cap, rfl, fun k p e => ⟨g, 0, rfl, ?_, ?_⟩⟩
    · have := World.ownsRow.cells h' (g := g) rfl _ _ (pcs_get e).1
      rw [addr_add, Nat.zero_add] at this; rw [Nat.zero_add]; exact this
    · have := World.ownsRow.cells h' (g := g) rfl _ _ (pcs_get e).2
      rw [addr_add, Nat.zero_add] at this; rw [Nat.zero_add]; exact this
theorem OwnQ.below {w w' : World} {base : Nat} {v : Value} {ps : List (Int × Int)} (h : OwnQ w base v ps) (hb : Below w.heap.size w w') : OwnQ w' base v ps := by
  obtain ⟨h0, h1 | ⟨g, cap, cur, e, hg, hh, rest⟩⟩ := h
  · exact ⟨h0, .inl h1⟩
  · exact ⟨h0, .inr ⟨g, cap, cur, e, hg, (hb.block g (Array.getElem?_eq_some_iff.1 hh).1).trans hh, rest⟩⟩
theorem OwnQ.drewN {w : World} {base : Nat} {v : Value} {ps : List (Int × Int)} (h : OwnQ w base v ps) (n : Nat) : OwnQ (w.drewN n) base v ps := h
/-- Where the slice's block lies. -/
theorem OwnQ.lt {w : World} {base : Nat} {v : Value} {ps : List (Int × Int)} (h : OwnQ w base v ps) : ∀ k, v.ownBlock = some k → base ≤ k ∧ k < w.heap.size := World.ownsRow.lt h
/-- One pair appended to a slice of the call's own. -/
theorem wpList_pushQ {ops : Array Oper} {rest : List Oper} {o : Oper} {a : Act} {Q : Exit → Act → World → Prop} (hgd : o.guard = none) (s x : Operand)
    (ho : o.op = .call { callee := .builtin .append, args := #[s, x], argTypes := #[52, 52] }) (base : Nat) (v : Value) (ps : List (Int × Int)) (i j : Int) (V : World) (B : Nat) (t : TypeId)
    (hs : a.eval s = v) (hx : a.eval x = .slice (some ⟨B, 0, none⟩) 1 1) (hB : B = V.heap.size) (hown : OwnQ V base v ps) (hl : ps.length ≤ 100000) (hbase : base ≤ V.heap.size)
    (h : ∀ v' w', OwnQ w' base v' (ps ++ [(i, j)]) → V.heap.size < w'.heap.size → (V.alloc (.cells #[.int .i64 i, .int .i64 j] t)).grownBy w' v.ownBlock → wpList Try.prog ops Q rest (a.put o.dst v') w') : wpList Try.prog ops Q (o :: rest) a (V.alloc (.cells #[.int .i64 i, .int .i64 j] t)) := by
  obtain ⟨i0, hi, hz0, hz1, hz2⟩ := info_parts Try.infoPair
  subst hB
  refine wpList_append_own (V.alloc (.cells #[.int .i64 i, .int .i64 j] t)) hgd s x 52 ho base 55 i0 (.agg #[.int .i64 0, .int .i64 0]) 2 16 Try.underlying52 hi hz0 hz1 hz2 rfl (by decide) v ps.length (pcs ps) hs (World.ownsRow.alloc hown _) ⟨V.heap.size, 0, none⟩ 1 1 [.int .i64 i, .int .i64 j] hx rfl ?_ ?_ (by unfold maxLen; omega) (by omega) (by rw [World.size_alloc]; omega) ?_
  · intro k u hj
    match k, hj with
    | 0, hj =>
      simp at hj; subst hj
      rw [addr_add]
      exact alloc_cell V #[.int .i64 i, .int .i64 j] t 0 _ rfl
    | 1, hj =>
      simp at hj; subst hj
      rw [addr_add]
      exact alloc_cell V #[.int .i64 i, .int .i64 j] t 1 _ rfl
    | k + 2, hj => simp at hj
  · intro u hu; simp at hu; rcases hu with rfl | rfl <;> rfl
  · intro v' w' h1 h2 h3
    refine h v' w' ?_ ?_ h2
    · have e : (ps ++ [(i, j)]).length = ps.length + 1 := by simp
      unfold OwnQ; rw [e, pcs_snoc]; exact h1
    · have := h2.size; rw [World.size_alloc] at this; omega
theorem pushQ_below {V w' : World} {base : Nat} {v : Value} {ps : List (Int × Int)} {o : Obj} (hown : OwnQ V base v ps) (hbase : base ≤ V.heap.size) (h2 : (V.alloc o).grownBy w' v.ownBlock) : Below base V w' :=
  ((Below.refl base V).alloc hbase _).grown h2 (by rw [World.size_alloc]; omega) (fun k e => (World.ownsRow.lt hown k e).1)
/-- What a function that returns pairs and an error returns. -/
def PsPost (r : List (Int × Int) × Int) (w : World) (e : Ending) (w' : World) : Prop :=
  Below w.heap.size w w' ∧ ∃ a cap, e = .returned (.tuple #[.slice a r.1.length cap, .int .i64 r.2]) ∧ Qs w' a r.1
theorem PsPost.err {w w' : World} (n : Int) {r : List (Int × Int) × Int} (hr : r = ([], n)) (hb : Below w.heap.size w w') : PsPost r w (.returned (.tuple #[.slice none 0 0, .int .i64 n])) w' := by
  subst hr; exact ⟨hb, none, 0, rfl, qs_none _⟩
theorem PsPost.own {w w' : World} {base : Nat} {v : Value} {ps : List (Int × Int)} {r : List (Int × Int) × Int} (hr : r = (ps, 0)) (hb : Below w.heap.size w w') (ho : OwnQ w' base v ps) : PsPost r w (.returned (.tuple #[v, .int .i64 0])) w' := by
  obtain ⟨a, cap, rfl, hs⟩ := ho.any
  subst hr; exact ⟨hb, a, cap, rfl, hs⟩
end Go.Proofs.Ytknhfliefkkpfab
