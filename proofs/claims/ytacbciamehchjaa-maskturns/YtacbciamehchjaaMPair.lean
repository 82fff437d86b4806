
/- Slices of pairs of ints in new memory: words, and one pair appended. -/
import Derived.Test.YtacbciamehchjaaOwnW
namespace Go.Proofs.Ytacbciamehchjaa
open Go.RowKit

/-- The cells of pairs. -/
def pcs (ps : List (Int × Int)) : List Value := ps.flatMap fun p => [.int .i64 p.1, .int .i64 p.2]
theorem pcs_length (ps : List (Int × Int)) : (pcs ps).length = ps.length * 2 := by
  induction ps with
  | nil => rfl
  | cons p ps ih => simp only [pcs, List.flatMap_cons, List.length_append, List.length_cons, List.length_nil] at ih ⊢; omega
theorem pcs_snoc (ps : List (Int × Int)) (p : Int × Int) : pcs (ps ++ [p]) = pcs ps ++ [.int .i64 p.1, .int .i64 p.2] := by simp [pcs]
theorem pcs_get {ps : List (Int × Int)} {k : Nat} {p : Int × Int} (h : ps[k]? = some p) : (pcs ps)[k * 2]? = some (.int .i64 p.1) ∧ (pcs ps)[k * 2 + 1]? = some (.int .i64 p.2) := by
  induction ps generalizing k with
  | nil => simp at h
  | cons q ps ih =>
    cases k with
    | zero => simp at h; subst h; simp [pcs]
    | succ k =>
      have := ih (k := k) (by simpa using h)
      have e : pcs (q :: ps) = .int .i64 q.1 :: .int .i64 q.2 :: pcs ps := by simp [pcs]
      rw [e, show (k + 1) * 2 = k * 2 + 1 + 1 by omega]
      simpa using this
/-- The cells behind a slice's address read as pairs. -/
def Qs (w : World) (a : Option Addr) (ps : List (Int × Int)) : Prop :=
  ∀ k p, ps[k]? = some p → ∃ b off, a = some ⟨b, off, none⟩ ∧ w.cell? ⟨b, off + k * 2, none⟩ = some (.int .i64 p.1) ∧ w.cell? ⟨b, off + k * 2 + 1, none⟩ = some (.int .i64 p.2)
theorem Qs.below {w w' : World} {a : Option Addr} {ps : List (Int × Int)} (h : Qs w a ps) (hb : Below w.heap.size w w') : Qs w' a ps := by
  intro k p e
  obtain ⟨b, off, ha, h1, h2⟩ := h k p e
  exact ⟨b, off, ha, (hb.cell (p := ⟨b, off + k * 2, none⟩) (cell_lt h1)).trans h1, (hb.cell (p := ⟨b, off + k * 2 + 1, none⟩) (cell_lt h2)).trans h2⟩
theorem qs_none (w : World) : Qs w none [] := fun k p e => by simp at e
/-- What a function that returns pairs and an error returns. -/
def PsPost (r : List (Int × Int) × Int) (w : World) (e : Ending) (w' : World) : Prop :=
  Below w.heap.size w w' ∧ ∃ a cap, e = .returned (.tuple #[.slice a r.1.length cap, .int .i64 r.2]) ∧ Qs w' a r.1
theorem PsPost.err {w w' : World} (n : Int) {r : List (Int × Int) × Int} (hr : r = ([], n)) (hb : Below w.heap.size w w') : PsPost r w (.returned (.tuple #[.slice none 0 0, .int .i64 n])) w' := by
  subst hr; exact ⟨hb, none, 0, rfl, qs_none _⟩
end Go.Proofs.Ytacbciamehchjaa
