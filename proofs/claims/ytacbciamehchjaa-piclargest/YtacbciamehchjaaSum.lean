
/- The transform by its sums: each value is a sum with signs; plain facts that speak of no program. -/
import Derived.Test.YtacbciamehchjaaHad
import Derived.Test.YtacbciamehchjaaWal
namespace Go.Proofs.Ytacbciamehchjaa
open Go.RowKit

/-- Whether a number has an odd number of ones. -/
def par (n : Nat) : Bool := decide ((popc n).tmod 2 = 1)
def sg (i j : Nat) (x : Int) : Int := if par (i &&& j) then -x else x
theorem j_facts : ∀ k, k < 8 → ∀ j, j < 2 ^ k → 2 ^ k ||| j = 2 ^ k + j ∧ 2 ^ k &&& j = 0 ∧ par (2 ^ k + j) = !par j ∧ 2 ^ k ||| j < 256 := by decide +kernel
theorem i_facts : ∀ k, k < 8 → ∀ i, i < 256 → i &&& 2 ^ k = (if i.testBit k then 2 ^ k else 0) ∧ (i.testBit k = false → 2 ^ (k + 1) * (i / 2 ^ (k + 1)) = 2 ^ k * (i / 2 ^ k) ∧ 2 ^ k * ((i ^^^ 2 ^ k) / 2 ^ k) = 2 ^ k * (i / 2 ^ k) + 2 ^ k) ∧
    (i.testBit k = true → 2 ^ (k + 1) * (i / 2 ^ (k + 1)) = 2 ^ k * ((i ^^^ 2 ^ k) / 2 ^ k) ∧ 2 ^ k * (i / 2 ^ k) = 2 ^ k * ((i ^^^ 2 ^ k) / 2 ^ k) + 2 ^ k) := by decide +kernel
theorem sg_flip {k i j : Nat} (hk : k < 8) (hj : j < 2 ^ k) (x : Int) : sg (i ^^^ 2 ^ k) j x = sg i j x := by
  unfold sg; rw [Nat.and_xor_distrib_right, (j_facts k hk j hj).2.1, Nat.xor_zero]
theorem sg_high {k i j : Nat} (hk : k < 8) (hi : i < 256) (hj : j < 2 ^ k) (x : Int) : sg i (2 ^ k + j) x = if i.testBit k then - sg i j x else sg i j x := by
  have h1 := (j_facts k hk j hj).1
  have h2 := (i_facts k hk i hi).1
  have hm : i &&& j < 2 ^ k := Nat.lt_of_le_of_lt Nat.and_le_right hj
  have h3 := j_facts k hk (i &&& j) hm
  unfold sg
  rw [← h1, Nat.and_or_distrib_left, h2]
  cases i.testBit k
  · simp
  · simp only [if_true]
    rw [h3.1, h3.2.2.1]
    cases par (i &&& j) <;> simp
theorem par_0 : par 0 = false := by decide +kernel
theorem Wf_sum (f : Nat → Int) : ∀ k, k ≤ 8 → ∀ i, i < 256 → Wf f k i = sumTo (fun j => sg i j (f (2 ^ k * (i / 2 ^ k) + j))) (2 ^ k)
  | 0, _, i, _ => by simp [Wf, sumTo, sg, par_0]
  | k + 1, hk, i, hi => by
    have ih := Wf_sum f k (by omega)
    have hx : i ^^^ 2 ^ k < 256 := xor_lt (p := 8) (by omega) hi
    obtain ⟨_, h0, h1⟩ := i_facts k (by omega) i hi
    have e : 2 ^ (k + 1) = 2 ^ k + 2 ^ k := by rw [Nat.pow_succ]; omega
    show Bk k (Wf f k) i = _
    unfold Bk
    rw [ih i hi, ih _ hx]
    conv => rhs; rw [show sumTo (fun j => sg i j (f (2 ^ (k + 1) * (i / 2 ^ (k + 1)) + j))) (2 ^ (k + 1)) = sumTo (fun j => sg i j (f (2 ^ (k + 1) * (i / 2 ^ (k + 1)) + j))) (2 ^ k + 2 ^ k) from by rw [e], sumTo_split]
    cases hb : i.testBit k
    · obtain ⟨a1, a2⟩ := h0 hb
      simp only [Bool.false_eq_true, if_false]
      rw [a1, a2]
      congr 1
      refine sumTo_congr _ fun j hj => ?_
      rw [sg_flip (by omega) hj, sg_high (by omega) hi hj, hb, Nat.add_assoc]
      simp
    · obtain ⟨a1, a2⟩ := h1 hb
      simp only [if_true]
      rw [a1, a2]
      generalize 2 ^ k * ((i ^^^ 2 ^ k) / 2 ^ k) = c
      have e1 : sumTo (fun j => sg (i ^^^ 2 ^ k) j (f (c + j))) (2 ^ k) = sumTo (fun j => sg i j (f (c + j))) (2 ^ k) := sumTo_congr _ fun j hj => by rw [sg_flip (by omega) hj]
      have e2 : sumTo (fun j => sg i (2 ^ k + j) (f (c + (2 ^ k + j)))) (2 ^ k) = sumTo (fun j => (-1) * sg i j (f (c + 2 ^ k + j))) (2 ^ k) := sumTo_congr _ fun j hj => by
        rw [sg_high (by omega) hi hj, hb, Nat.add_assoc]; simp
      rw [e1, e2, sumTo_mul]; omega
/-- One value, by its sum. -/
def wsum (xs : List Int) (i : Nat) : Nat → Int := sumTo (fun j => sg i j (gt xs j))
/-- The list behind all levels is the list of the sums. -/
theorem walshTo_sums {xs : List Int} (hpw : powB xs.length = true) {M : Int} (hM : M ≤ 1000000000000) (hall : allB M xs = true) : walshTo xs (lg xs.length) = (List.range xs.length).map (fun i => wsum xs i xs.length) := by
  obtain ⟨p, hp8, hx⟩ := powB_two hpw
  have hle := powB_le hpw
  have hlg : lg xs.length = p := lg_pow hpw hx
  rw [hlg]
  have hb : ∀ i, i < 2 ^ p → -M ≤ gt xs i ∧ gt xs i ≤ M := fun i hi => by
    have := allB_get hall (k := i) (x := xs[i]'(by omega)) (by simp)
    unfold gt; simpa [show i < xs.length by omega] using this
  have G := walshTo_get (by omega) xs hx hM hb p (Nat.le_refl _)
  refine list_ext_gt (by rw [walshTo_length]; simp) fun k hk => ?_
  rw [walshTo_length] at hk
  rw [gt_map_range _ hk, (G k (by omega)).1, Wf_sum _ _ hp8 k (by omega)]
  unfold wsum
  rw [hx]
  refine sumTo_congr _ fun j hj => ?_
  rw [Nat.div_eq_of_lt (by omega)]; simp
theorem sg_bound {i j : Nat} {x M : Int} (h : -M ≤ x ∧ x ≤ M) : -M ≤ sg i j x ∧ sg i j x ≤ M := by unfold sg; split <;> omega
theorem wsum_bound {xs : List Int} {M : Int} (h0 : 0 ≤ M) (hall : allB M xs = true) (i : Nat) : ∀ k, k ≤ xs.length → -(k * M) ≤ wsum xs i k ∧ wsum xs i k ≤ k * M
  | 0, _ => by simp [wsum, sumTo]
  | k + 1, hk => by
    have ih := wsum_bound h0 hall i k (by omega)
    have h1 : -M ≤ gt xs k ∧ gt xs k ≤ M := by
      have := allB_get hall (k := k) (x := xs[k]'(by omega)) (by simp)
      unfold gt; simpa [show k < xs.length by omega] using this
    have h2 := sg_bound (i := i) (j := k) h1
    have e : ((k + 1 : Nat) : Int) * M = k * M + M := by rw [Int.natCast_add, Int.add_mul]; simp
    rw [e]
    show -(k * M + M) ≤ wsum xs i k + sg i k (gt xs k) ∧ wsum xs i k + sg i k (gt xs k) ≤ k * M + M
    omega
end Go.Proofs.Ytacbciamehchjaa
