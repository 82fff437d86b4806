
/- What is written of a mask is read back: plain facts. -/
import Derived.Test.YtknhfliefkkpfabMParse2
namespace Go.Proofs.Ytknhfliefkkpfab
open Go.RowKit

theorem sgn_ne (x : Int) : (sgn x == 10) = false := by
  unfold sgn; split
  · decide
  split <;> decide
theorem sgnB_sgn {x : Int} (h : -1 ≤ x ∧ x ≤ 1) : sgnB (sgn x) = x := by
  have : x = -1 ∨ x = 0 ∨ x = 1 := by omega
  rcases this with rfl | rfl | rfl <;> decide
theorem rowL_line {r : List Int} (h : allB 1 r = true) : rowL (r.map sgn) = r := by
  unfold rowL
  rw [List.map_map]
  refine List.ext_getElem (by simp) fun k h1 h2 => ?_
  rw [List.getElem_map]
  have := allB_get h (k := k) (x := r[k]) (by simp [h2])
  exact sgnB_sgn this
theorem idx_line (r : List Int) (l : List UInt8) : Lib.indexByte (lineM r ++ l) 10 = r.length := by
  unfold lineM
  induction r with
  | nil => simp [Lib.indexByte]
  | cons x r ih =>
    simp only [List.map_cons, List.cons_append]
    unfold Lib.indexByte
    rw [sgn_ne, if_neg (by decide), ih, if_neg (by simp), List.length_cons]
    omega
theorem take_line (r : List Int) (l : List UInt8) : (lineM r ++ l).take r.length = r.map sgn := by
  unfold lineM
  rw [List.append_assoc, List.take_left' (by simp)]
theorem drop_line (r : List Int) (l : List UInt8) : (lineM r ++ l).drop (r.length + 1) = l := by
  rw [List.drop_left' (by simp [lineM])]
theorem validM_take {m : List (List Int)} (h : validM m = true) {j : Nat} (h1 : 1 ≤ j) (hj : j ≤ m.length) : validM (m.take j) = true := by
  have hv := validM_of h
  have hc : colsM (m.take j) = colsM m := by
    unfold colsM
    rw [List.getElem?_take, if_pos (by omega)]
  refine validM_yes ?_ fun i hi => ?_
  · rw [List.length_take]
    simp only [rangeB, Bool.and_eq_true, decide_eq_true_eq]
    have h6 := hv.2.1
    omega
  · rw [List.length_take] at hi
    have hi' : i < m.length := by omega
    rw [List.getElem?_take, if_pos (by omega), hc]
    have e : m[i]? = some m[i] := by simp [hi']
    rw [e]
    obtain ⟨q1, q2⟩ := validM_row h e
    show (decide ((m[i]).length = colsM m) && rowB m[i]) = true
    rw [decide_eq_true q1, Bool.true_and]
    simp only [rowB, rangeB, Bool.and_eq_true, decide_eq_true_eq]
    rw [q1]
    exact ⟨⟨by omega, by omega⟩, q2⟩
theorem fmtM_cons (r : List Int) (m : List (List Int)) : fmtM (r :: m) = lineM r ++ fmtM m := by simp [fmtM]
theorem parse_drop {m : List (List Int)} (h : validM m = true) : ∀ (n k f : Nat), k + n = m.length → n < f → (k = 0 → 0 < n) → parseF f (fmtM (m.drop k)) (m.take k) = (m, 0, 0)
  | 0, k, f, hk, hf, h0 => by
    obtain ⟨g, rfl⟩ : ∃ g, f = g + 1 := ⟨f - 1, by omega⟩
    have e : m.drop k = [] := List.drop_eq_nil_of_le (by omega)
    have e2 : m.take k = m := List.take_of_length_le (by omega)
    rw [e, e2]
    refine parseF_end ?_
    intro e
    have := (validM_of h).1
    rw [e] at this; simp at this
  | n + 1, k, f, hk, hf, _ => by
    obtain ⟨g, rfl⟩ : ∃ g, f = g + 1 := ⟨f - 1, by omega⟩
    have hkm : k < m.length := by omega
    have e : m[k]? = some m[k] := by simp [hkm]
    have ed : m.drop k = m[k] :: m.drop (k + 1) := List.drop_eq_getElem_cons hkm
    have hr := (validM_row h e).2
    have et : m.take (k + 1) = m.take k ++ [m[k]] := by rw [List.take_succ_eq_append_getElem hkm]
    rw [ed, fmtM_cons]
    have hne : ¬ (lineM m[k] ++ fmtM (m.drop (k + 1)) = [] ∧ m.take k ≠ []) := fun h => by
      have := congrArg List.length h.1
      simp [lineM] at this
    have hv : validM (m.take k ++ [rowL ((lineM m[k] ++ fmtM (m.drop (k + 1))).take m[k].length)]) = true := by
      rw [take_line, rowL_line hr, ← et]
      exact validM_take h (by omega) (by omega)
    rw [parseF_next hne (idx_line _ _) hv, take_line, rowL_line hr, ← et, drop_line]
    exact parse_drop h n (k + 1) g (by omega) (by omega) (by omega)
theorem fmtM_ge : ∀ m : List (List Int), m.length ≤ (fmtM m).length
  | [] => by simp
  | r :: m => by
    have := fmtM_ge m
    rw [fmtM_cons, List.length_append, List.length_cons]
    simp only [lineM, List.length_append, List.length_map, List.length_cons, List.length_nil]; omega
/-- P2.6. -/
theorem parse_fmt {m : List (List Int)} (h : validM m = true) : parseV (fmtV m) = (m, 0, 0) := by
  have hv := validM_of h
  have e : fmtV m = fmtM m := by unfold fmtV; rw [if_pos h]
  have hl := fmtM_len (m := m) (fun r hr => by have := hv.2.2.2.2 r hr; omega)
  rw [e]
  unfold parseV
  rw [if_neg (by omega)]
  have := parse_drop h m.length 0 ((fmtM m).length + 1) (by omega) (by have := fmtM_ge m; omega) (by omega)
  simpa using this
theorem fmtV_len (m : List (List Int)) : (fmtV m).length ≤ 66 := by
  unfold fmtV
  split
  · rename_i h
    have hv := validM_of h
    have := fmtM_len (m := m) (fun r hr => by have := hv.2.2.2.2 r hr; omega)
    omega
  · simp
end Go.Proofs.Ytknhfliefkkpfab
