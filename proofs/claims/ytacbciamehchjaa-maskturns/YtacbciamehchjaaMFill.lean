
/- Slices of rows that are filled row by row: plain words. -/
import Derived.Test.YtacbciamehchjaaMRows
namespace Go.Proofs.Ytacbciamehchjaa
open Go.RowKit

/-- The first k rows are F's, the others are empty. -/
structure FillM (F : Nat → List Int) (n k : Nat) (hs : List RH) : Prop where
  len : hs.length = n
  done : ∀ i, i < k → ∃ h, hs[i]? = some h ∧ h.2.1 = F i
  todo : ∀ i, k ≤ i → i < n → hs[i]? = some (none, [], 0)
theorem FillM.start (F : Nat → List Int) (n : Nat) : FillM F n 0 (List.replicate n (none, [], 0)) :=
  ⟨by simp, fun i hi => absurd hi (by omega), fun i _ hi => by simp [hi]⟩
theorem FillM.next {F : Nat → List Int} {n k : Nat} {hs : List RH} (h : FillM F n k hs) (hk : k < n) {a : Option Addr} {r : List Int} {c : Nat} (hr : r = F k) : FillM F n (k + 1) (hs.set k (a, r, c)) := by
  have hl := h.len
  refine ⟨by rw [List.length_set]; exact hl, fun i hi => ?_, fun i hi hn => ?_⟩
  · by_cases e : i = k
    · subst e
      exact ⟨_, List.getElem?_set_self (by omega), hr⟩
    · rw [List.getElem?_set_ne (Ne.symm e)]
      exact h.done i (by omega)
  · rw [List.getElem?_set_ne (by omega)]
    exact h.todo i (by omega) hn
theorem FillM.all {F : Nat → List Int} {n : Nat} {hs : List RH} (h : FillM F n n hs) : rowsOf hs = (List.range n).map F := by
  refine List.ext_getElem (by rw [rowsOf_length, h.len]; simp) fun i h1 h2 => ?_
  rw [rowsOf_length, h.len] at h1
  obtain ⟨x, e, hx⟩ := h.done i h1
  have e2 := rowsOf_get e
  obtain ⟨hi, e3⟩ := List.getElem?_eq_some_iff.1 e2
  rw [e3, hx]; simp
theorem OwnM.fill {w : World} {base : Nat} {v : Value} {hs : List RH} {k : Nat} (h : OwnM w base v hs k) (sk : Nat) {x : RH} (e : hs[k]? = some x) (hs' : Sl w x.1 x.2.1) (ha : ∀ ad, x.1 = some ad → ad.block < w.heap.size ∧ v.ownBlock ≠ some ad.block) : OwnM w base v hs sk := by
  refine ⟨h.own, fun i y ey _ => ?_, fun i y ey _ => ?_⟩
  · by_cases hi : i = k
    · subst hi; rw [e] at ey; obtain rfl : x = y := by simpa using ey
      exact hs'
    · exact h.rows i y ey hi
  · by_cases hi : i = k
    · subst hi; rw [e] at ey; obtain rfl : x = y := by simpa using ey
      exact ha
    · exact h.apart i y ey hi
theorem below_base {w V : World} {B0 : Nat} (h : Below B0 w V) (hB : B0 ≤ w.heap.size) : B0 ≤ V.heap.size := Nat.le_trans hB h.size
theorem take_range_succ (f : Nat → List Int) {n k : Nat} (hk : k < n) : ((List.range n).map f).take (k + 1) = ((List.range n).map f).take k ++ [f k] := by
  rw [List.take_succ_eq_append_getElem (by simpa using hk)]
  congr 2
  simp
theorem take_range_succ' (f : Nat → Int) {n k : Nat} (hk : k < n) : ((List.range n).map f).take (k + 1) = ((List.range n).map f).take k ++ [f k] := by
  rw [List.take_succ_eq_append_getElem (by simpa using hk)]
  congr 2
  simp
end Go.Proofs.Ytacbciamehchjaa
