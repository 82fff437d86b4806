
/- Masks as lists of lists of numbers: the plain words of layer 2. Speaks of no program. -/
import Derived.Test.YtacbciamehchjaaPlain
namespace Go.Proofs.Ytacbciamehchjaa
open Go.RowKit

def rowB (r : List Int) : Bool := rangeB r.length 1 10 && allB 1 r
/-- The number of columns of a mask, by its first row. -/
def colsM (m : List (List Int)) : Nat := (m[0]?.getD []).length
def validM (m : List (List Int)) : Bool := rangeB m.length 1 6 && m.all fun r => decide (r.length = colsM m) && rowB r
def dot (a b : List Int) : Int := sumTo (fun i => gt a i * gt b i) a.length
def readL (m : List (List Int)) (x : List Int) : List Int := m.map fun r => dot r x
def colM (m : List (List Int)) (j : Nat) : List Int := m.map fun r => gt r j
def backL (m : List (List Int)) (y : List Int) : List Int := (List.range (colsM m)).map fun j => dot (colM m j) y
/-- What asks a list for its length and its numbers for their sizes answers. -/
def fitsV (l : List Int) (n lim : Int) : Int := if (l.length : Int) = n then (if allB lim l = true then 0 else 7) else 9
def readV (m : List (List Int)) (x : List Int) : List Int × Int := if validM m = true then (if fitsV x (colsM m) 1000000 = 0 then (readL m x, 0) else ([], fitsV x (colsM m) 1000000)) else ([], 1)
def backV (m : List (List Int)) (y : List Int) : List Int × Int := if validM m = true then (if fitsV y m.length 1000000000 = 0 then (backL m y, 0) else ([], fitsV y m.length 1000000000)) else ([], 1)
def shownM (m : List (List Int)) (x : List Int) : Bool := validM m && decide (fitsV x (colsM m) 1000000 = 0)
def thereB (m : List (List Int)) (j : Int) : Bool := decide (0 ≤ j) && decide (j < colsM m)

theorem validM_of {m : List (List Int)} (h : validM m = true) : 1 ≤ m.length ∧ m.length ≤ 6 ∧ 1 ≤ colsM m ∧ colsM m ≤ 10 ∧ ∀ r ∈ m, r.length = colsM m ∧ allB 1 r = true := by
  simp only [validM, Bool.and_eq_true, rangeB, decide_eq_true_eq, List.all_eq_true, rowB] at h
  obtain ⟨⟨h1, h2⟩, h3⟩ := h
  have h0 : m[0]? = some (m[0]'(by omega)) := by simp
  have hc := h3 (m[0]'(by omega)) (List.getElem_mem _)
  refine ⟨by omega, by omega, ?_, ?_, fun r hr => ⟨(h3 r hr).1, (h3 r hr).2.2⟩⟩
  · have := hc.2.1.1; rw [hc.1] at this; omega
  · have := hc.2.1.2; rw [hc.1] at this; omega
theorem validM_row {m : List (List Int)} (h : validM m = true) {i : Nat} {r : List Int} (e : m[i]? = some r) : r.length = colsM m ∧ allB 1 r = true := (validM_of h).2.2.2.2 r (List.mem_of_getElem? e)
theorem validM_no {m : List (List Int)} {i : Nat} {r : List Int} (e : m[i]? = some r) (h : (decide (r.length = colsM m) && rowB r) = false) : validM m = false := by
  unfold validM
  have : (m.all fun r => decide (r.length = colsM m) && rowB r) = false := by
    rw [List.all_eq_false]; exact ⟨r, List.mem_of_getElem? e, by simp [h]⟩
  rw [this, Bool.and_false]
theorem validM_yes {m : List (List Int)} (h : rangeB m.length 1 6 = true) (ha : ∀ i, i < m.length → (decide ((m[i]?.getD []).length = colsM m) && rowB (m[i]?.getD [])) = true) : validM m = true := by
  unfold validM
  rw [h, Bool.true_and, List.all_eq_true]
  intro r hr
  obtain ⟨i, hi, rfl⟩ := List.mem_iff_getElem.1 hr
  have := ha i hi
  simpa [hi] using this
theorem mul_le {a b x y : Int} (ha : -x ≤ a ∧ a ≤ x) (hb : -y ≤ b ∧ b ≤ y) : -(x * y) ≤ a * b ∧ a * b ≤ x * y := by
  obtain ⟨a1, a2⟩ := ha
  obtain ⟨b1, b2⟩ := hb
  have hx : 0 ≤ x := by omega
  have hy : 0 ≤ y := by omega
  have h : (a * b).natAbs ≤ (x * y).natAbs := by
    rw [Int.natAbs_mul, Int.natAbs_mul]; exact Nat.mul_le_mul (by omega) (by omega)
  have hxy : 0 ≤ x * y := Int.mul_nonneg hx hy
  omega
theorem sumTo_bd {f : Nat → Int} {M : Int} : ∀ n, (∀ i, i < n → -M ≤ f i ∧ f i ≤ M) → -(n * M) ≤ sumTo f n ∧ sumTo f n ≤ n * M
  | 0, _ => by simp [sumTo]
  | n + 1, h => by
    have ih := sumTo_bd n (fun i hi => h i (by omega))
    have h1 := h n (by omega)
    have e : ((n + 1 : Nat) : Int) * M = n * M + M := by rw [Int.natCast_add, Int.add_mul]; simp
    rw [e]; simp only [sumTo]; omega
theorem gt_in {xs : List Int} {M : Int} (h : allB M xs = true) {k : Nat} (hk : k < xs.length) : -M ≤ gt xs k ∧ gt xs k ≤ M := by
  have e : xs[k]? = some (xs[k]) := by simp
  have := allB_get h e
  unfold gt; rw [e]; exact this

/-- The first k products added up, and their bounds. -/
theorem dots_bd {a b : List Int} {A B : Int} (ha : allB A a = true) (hb : allB B b = true) (hl : a.length ≤ b.length) {k : Nat} (hk : k ≤ a.length) : -(k * (A * B)) ≤ sumTo (fun i => gt a i * gt b i) k ∧ sumTo (fun i => gt a i * gt b i) k ≤ k * (A * B) :=
  sumTo_bd k fun i hi => mul_le (gt_in ha (by omega)) (gt_in hb (by omega))
theorem colM_length (m : List (List Int)) (j : Nat) : (colM m j).length = m.length := by simp [colM]
theorem readL_length (m : List (List Int)) (x : List Int) : (readL m x).length = m.length := by simp [readL]
theorem backL_length (m : List (List Int)) (y : List Int) : (backL m y).length = colsM m := by simp [backL]
theorem colM_all {m : List (List Int)} (h : validM m = true) {j : Nat} (hj : j < colsM m) : allB 1 (colM m j) = true := by
  unfold allB; rw [List.all_eq_true]
  intro x hx
  obtain ⟨r, hr, rfl⟩ := List.mem_map.1 hx
  obtain ⟨h1, h2⟩ := (validM_of h).2.2.2.2 r hr
  have := gt_in h2 (k := j) (by omega)
  simp [outB]; omega
end Go.Proofs.Ytacbciamehchjaa
