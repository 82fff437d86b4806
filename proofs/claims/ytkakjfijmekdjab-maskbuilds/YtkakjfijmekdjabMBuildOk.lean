/- Masks that are rolled, of Walsh rows or seeded hold what an int and a slice may: plain facts. -/
import Derived.Test.YtkakjfijmekdjabMRoll
import Derived.Test.YtkakjfijmekdjabMSeedMath
namespace Go.Proofs.Ytkakjfijmekdjab
open Go.RowKit

theorem rollM_ok {r : List Int} (n : Nat) (h : rowB r = true) (hn : n ≤ 6) : MOk (rollM r n) := by
  obtain ⟨h1, h2⟩ := rowB_len h
  have ha : allB 1 r = true := by unfold rowB at h; simp only [Bool.and_eq_true] at h; exact h.2
  refine MOk_of (by simp [rollM]; omega) fun x hx => ?_
  obtain ⟨i, _, rfl⟩ := List.mem_map.1 hx
  refine ⟨by simp [rollRow]; omega, ?_⟩
  unfold allB at ha ⊢
  rw [List.all_eq_true] at ha ⊢
  intro y hy
  have hm : y ∈ r := by
    rcases List.mem_append.1 hy with h | h
    · exact List.mem_of_mem_drop h
    · exact List.mem_of_mem_take h
  have := ha y hm
  simp [outB] at this ⊢; omega
theorem nil_ok : MOk [] := ⟨by simp, fun r h => by cases h⟩
theorem rolledV_mok (r : List Int) (n : Int) : MOk (rolledV r n).1 := by
  unfold rolledV
  split
  · rename_i h
    split
    · rename_i h2
      exact rollM_ok _ h (by simp [rangeB] at h2; omega)
    · exact nil_ok
  · exact nil_ok
theorem walshV_mok (p : Int) (rows : List Int) : MOk (walshV p rows).1 := by
  unfold walshV
  split
  · rename_i h
    have hw := walshM_is h
    show MOk (walshM p.toNat rows)
    refine MOk_of (by have := hw.len; omega) fun x hx => ?_
    obtain ⟨i, hi, rfl⟩ := List.mem_iff_getElem.1 hx
    have := hw.row i _ (List.getElem?_eq_some_iff.2 ⟨hi, rfl⟩)
    exact ⟨by omega, allB_more this.2 (by omega)⟩
  · exact nil_ok
theorem seededV_mok (s r p : Int) : MOk (seededV s r p).1 := by
  unfold seededV
  split
  · rename_i h
    have := seedOk_parts h
    exact seedM_ok (by omega) (by omega)
  · exact nil_ok
end Go.Proofs.Ytkakjfijmekdjab
