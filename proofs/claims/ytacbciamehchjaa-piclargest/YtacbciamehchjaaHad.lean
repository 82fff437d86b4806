
/- The transform behind all levels as a function of indexes: undone by itself, its squares; plain facts that speak of no program. -/
import Derived.Test.YtacbciamehchjaaTrans
import Derived.Test.YtacbciamehchjaaPlain
namespace Go.Proofs.Ytacbciamehchjaa
open Go.RowKit

/-- One level on a function of indexes. -/
def Bk (k : Nat) (f : Nat → Int) (i : Nat) : Int := if i.testBit k then f (i ^^^ 2 ^ k) - f i else f i + f (i ^^^ 2 ^ k)
def Wf (f : Nat → Int) : Nat → Nat → Int
  | 0 => f
  | k + 1 => Bk k (Wf f k)
theorem tb_same (i k : Nat) : (i ^^^ 2 ^ k).testBit k = !i.testBit k := by simp [Nat.testBit_xor]
theorem tb_other {j k : Nat} (i : Nat) (h : j ≠ k) : (i ^^^ 2 ^ j).testBit k = i.testBit k := by simp [Nat.testBit_xor, h]
theorem xx (i b : Nat) : i ^^^ b ^^^ b = i := by rw [Nat.xor_assoc, Nat.xor_self, Nat.xor_zero]
theorem xc (i a b : Nat) : i ^^^ a ^^^ b = i ^^^ b ^^^ a := by rw [Nat.xor_assoc, Nat.xor_comm a b, Nat.xor_assoc]
theorem Bk_twice (k : Nat) (f : Nat → Int) : Bk k (Bk k f) = fun i => 2 * f i := by
  funext i
  simp only [Bk, tb_same, xx]
  cases h : i.testBit k <;> simp <;> omega
theorem Bk_comm {j k : Nat} (h : j ≠ k) (f : Nat → Int) : Bk j (Bk k f) = Bk k (Bk j f) := by
  funext i
  simp only [Bk, tb_other _ h, tb_other _ (Ne.symm h), xc i (2 ^ k) (2 ^ j)]
  cases h1 : i.testBit k <;> cases h2 : i.testBit j <;> simp <;> omega
theorem Bk_Wf (f : Nat → Int) (j : Nat) : ∀ k, k ≤ j → Bk j (Wf f k) = Wf (Bk j f) k
  | 0, _ => rfl
  | k + 1, h => by
    show Bk j (Bk k (Wf f k)) = Bk k (Wf (Bk j f) k)
    rw [Bk_comm (by omega), Bk_Wf f j k (by omega)]
theorem Bk_mul (k : Nat) (c : Int) (f : Nat → Int) : Bk k (fun i => c * f i) = fun i => c * Bk k f i := by
  funext i
  simp only [Bk]
  cases i.testBit k <;> simp [Int.mul_add, Int.mul_sub]
theorem Wf_mul (c : Int) (f : Nat → Int) : ∀ k, Wf (fun i => c * f i) k = fun i => c * Wf f k i
  | 0 => rfl
  | k + 1 => by
    show Bk k (Wf (fun i => c * f i) k) = fun i => c * Bk k (Wf f k) i
    rw [Wf_mul c f k, Bk_mul]
/-- Twice the transform: the length times the list. -/
theorem Wf_twice (f : Nat → Int) : ∀ k, Wf (Wf f k) k = fun i => 2 ^ k * f i
  | 0 => by funext i; simp [Wf]
  | k + 1 => by
    show Bk k (Wf (Bk k (Wf f k)) k) = _
    rw [← Bk_Wf _ _ _ (Nat.le_refl k), Bk_twice, Wf_twice f k]
    funext i
    show 2 * (2 ^ k * f i) = 2 ^ (k + 1) * f i
    rw [← Int.mul_assoc, Int.pow_succ, Int.mul_comm 2]
theorem Bk_add (k : Nat) (f g : Nat → Int) : Bk k (fun i => f i + g i) = fun i => Bk k f i + Bk k g i := by
  funext i
  simp only [Bk]
  cases i.testBit k <;> simp <;> omega
theorem Wf_add (f g : Nat → Int) : ∀ k, Wf (fun i => f i + g i) k = fun i => Wf f k i + Wf g k i
  | 0 => rfl
  | k + 1 => by
    show Bk k (Wf (fun i => f i + g i) k) = fun i => Bk k (Wf f k) i + Bk k (Wf g k) i
    rw [Wf_add f g k, Bk_add]

theorem xor_top : ∀ p, p < 9 → ∀ i, i < 2 ^ p → i ^^^ 2 ^ p = 2 ^ p + i := by decide +kernel
theorem xor_lt {p k i : Nat} (hk : k < p) (h : i < 2 ^ p) : i ^^^ 2 ^ k < 2 ^ p := Nat.xor_lt_two_pow h (Nat.pow_lt_pow_right (by omega) hk)
/-- Values at flipped places add up to the same. -/
theorem sumTo_flip (k : Nat) : ∀ p, p < 9 → k < p → ∀ g : Nat → Int, sumTo (fun i => g (i ^^^ 2 ^ k)) (2 ^ p) = sumTo g (2 ^ p)
  | 0, _, h, _ => absurd h (by omega)
  | p + 1, hp, h, g => by
    have e : 2 ^ (p + 1) = 2 ^ p + 2 ^ p := by rw [Nat.pow_succ]; omega
    rw [e, sumTo_split, sumTo_split]
    by_cases hk : k = p
    · subst hk
      have e1 : sumTo (fun i => g (i ^^^ 2 ^ k)) (2 ^ k) = sumTo (fun i => g (2 ^ k + i)) (2 ^ k) := sumTo_congr _ fun i hi => by
        show g (i ^^^ 2 ^ k) = g (2 ^ k + i)
        rw [xor_top k (by omega) i hi]
      have e2 : sumTo (fun i => g ((2 ^ k + i) ^^^ 2 ^ k)) (2 ^ k) = sumTo g (2 ^ k) := sumTo_congr _ fun i hi => by
        show g ((2 ^ k + i) ^^^ 2 ^ k) = g i
        rw [← xor_top k (by omega) i hi, xx]
      rw [e1, e2]; omega
    · have e1 := sumTo_flip k p (by omega) (by omega) g
      have e2 : sumTo (fun i => g ((2 ^ p + i) ^^^ 2 ^ k)) (2 ^ p) = sumTo (fun i => g (2 ^ p + (i ^^^ 2 ^ k))) (2 ^ p) := sumTo_congr _ fun i hi => by
        show g ((2 ^ p + i) ^^^ 2 ^ k) = g (2 ^ p + (i ^^^ 2 ^ k))
        rw [← xor_top p (by omega) i hi, xc, xor_top p (by omega) _ (xor_lt (by omega) hi)]
      have e3 := sumTo_flip k p (by omega) (by omega) (fun i => g (2 ^ p + i))
      rw [e1, e2, e3]
theorem sq_add (a b : Int) : (a + b) * (a + b) = a * a + b * b + 2 * (a * b) := by
  rw [Int.add_mul, Int.mul_add, Int.mul_add, Int.mul_comm b a]; omega
theorem sq_sub (a b : Int) : (a - b) * (a - b) = a * a + b * b - 2 * (a * b) := by
  rw [Int.sub_mul, Int.mul_sub, Int.mul_sub, Int.mul_comm b a]; omega
/-- One level doubles the squares. -/
theorem squares_Bk {k p : Nat} (hp : p < 9) (h : k < p) (f : Nat → Int) : sumTo (fun i => Bk k f i * Bk k f i) (2 ^ p) = 2 * sumTo (fun i => f i * f i) (2 ^ p) := by
  have e : (fun i => Bk k f i * Bk k f i) = fun i => (f i * f i + f (i ^^^ 2 ^ k) * f (i ^^^ 2 ^ k)) + 2 * (if i.testBit k then -(f i * f (i ^^^ 2 ^ k)) else f i * f (i ^^^ 2 ^ k)) := by
    funext i
    simp only [Bk]
    cases i.testBit k
    · simp only [Bool.false_eq_true, if_false]; rw [sq_add]
    · simp only [if_true]; rw [sq_sub, Int.mul_comm (f (i ^^^ 2 ^ k)) (f i)]; omega
  have c := sumTo_flip k p hp h (fun i => if i.testBit k then -(f i * f (i ^^^ 2 ^ k)) else f i * f (i ^^^ 2 ^ k))
  have c' : sumTo (fun i => (fun i => if i.testBit k then -(f i * f (i ^^^ 2 ^ k)) else f i * f (i ^^^ 2 ^ k)) (i ^^^ 2 ^ k)) (2 ^ p) = sumTo (fun i => (-1) * (if i.testBit k then -(f i * f (i ^^^ 2 ^ k)) else f i * f (i ^^^ 2 ^ k))) (2 ^ p) := sumTo_congr _ fun i _ => by
    simp only [tb_same, xx, Int.mul_comm (f (i ^^^ 2 ^ k)) (f i)]
    cases i.testBit k <;> simp
  rw [c', sumTo_mul] at c
  have s := sumTo_flip k p hp h (fun i => f i * f i)
  rw [e, sumTo_add, sumTo_mul, sumTo_add, s]
  omega
theorem squares_Wf (f : Nat → Int) {p : Nat} (hp : p < 9) : ∀ k, k ≤ p → sumTo (fun i => Wf f k i * Wf f k i) (2 ^ p) = 2 ^ k * sumTo (fun i => f i * f i) (2 ^ p)
  | 0, _ => by simp [Wf]
  | k + 1, h => by
    show sumTo (fun i => Bk k (Wf f k) i * Bk k (Wf f k) i) (2 ^ p) = _
    rw [squares_Bk hp (by omega), squares_Wf f hp k (by omega), ← Int.mul_assoc, Int.pow_succ, Int.mul_comm 2]

theorem bit_facts : ∀ k, k < 8 → ∀ i, i < 256 → (i.testBit k = !decide (i &&& 2 ^ k = 0)) ∧ (i &&& 2 ^ k = 0 → i ||| 2 ^ k = i ^^^ 2 ^ k ∧ i < i ^^^ 2 ^ k) := by decide +kernel
theorem pair_yes {p k i : Nat} (hp : p < 9) (hk : k < p) (hi : i < 2 ^ p) (h : i.testBit k = false) : ∃ q, pairAt (2 ^ p) (2 ^ k) i = some q ∧ q.1 = (i, i ^^^ 2 ^ k) := by
  have hp8 : 2 ^ p ≤ 2 ^ 8 := Nat.pow_le_pow_right (by omega) (by omega)
  obtain ⟨h1, h2⟩ := bit_facts k (by omega) i (by omega)
  have h0 : i &&& 2 ^ k = 0 := by rw [h] at h1; simpa using h1.symm
  obtain ⟨h3, h4⟩ := h2 h0
  have h5 := xor_lt hk hi
  unfold pairAt
  rw [dif_pos ⟨h0, by omega, by omega⟩]
  exact ⟨_, rfl, by rw [← h3]⟩
theorem pair_no {p k i : Nat} (hp : p < 9) (hk : k < p) (hi : i < 2 ^ p) (h : i.testBit k = true) : pairAt (2 ^ p) (2 ^ k) i = none := by
  have hp8 : 2 ^ p ≤ 2 ^ 8 := Nat.pow_le_pow_right (by omega) (by omega)
  obtain ⟨h1, h2⟩ := bit_facts k (by omega) i (by omega)
  unfold pairAt
  rw [dif_neg]
  rintro ⟨h0, _⟩
  rw [h, h0] at h1
  simp at h1
/-- The lesser place of a place's pair. -/
def low (k i : Nat) : Nat := if i.testBit k then i ^^^ 2 ^ k else i
theorem level_part {p k : Nat} (hp : p < 9) (hk : k < p) (ys : List Int) (hy : ys.length = 2 ^ p) : ∀ n, n ≤ 2 ^ p → ∀ i, i < 2 ^ p →
    gt (bflies ys (pairsTo (2 ^ p) (2 ^ k) n)) i = if low k i < n then IntKind.i64.wrap (Bk k (gt ys) i) else gt ys i
  | 0, _, i, _ => by simp [pairsTo, bflies]
  | n + 1, hn, i, hi => by
    have ih := level_part hp hk ys hy n (by omega)
    cases hb : n.testBit k
    · obtain ⟨q, hq, hq1⟩ := pair_yes hp hk (show n < 2 ^ p by omega) hb
      have hx := xor_lt hk (show n < 2 ^ p by omega)
      have hne : n ^^^ 2 ^ k ≠ n := fun e => by have := tb_same n k; rw [e] at this; simp at this
      have l1 : low k n = n := by simp [low, hb]
      have l2 : low k (n ^^^ 2 ^ k) = n := by simp [low, hb, xx]
      have i1 := ih n (by omega)
      have i2 := ih (n ^^^ 2 ^ k) hx
      rw [l1, if_neg (by omega)] at i1
      rw [l2, if_neg (by omega)] at i2
      have hlen : (bflies ys (pairsTo (2 ^ p) (2 ^ k) n)).length = 2 ^ p := by rw [bflies_length, hy]
      rw [pairsTo_succ, hq]
      show gt (bflies ys (pairsTo (2 ^ p) (2 ^ k) n ++ [q])) i = _
      rw [bflies_snoc]
      unfold bfly
      rw [hq1]
      dsimp only
      rw [gt_set (by simp [hlen]; exact hx), gt_set (by omega)]
      have i1' : (bflies ys (pairsTo (2 ^ p) (2 ^ k) n))[n]?.getD 0 = gt ys n := i1
      have i2' : (bflies ys (pairsTo (2 ^ p) (2 ^ k) n))[n ^^^ 2 ^ k]?.getD 0 = gt ys (n ^^^ 2 ^ k) := i2
      rw [i1', i2']
      by_cases c1 : i = n ^^^ 2 ^ k
      · rw [if_pos c1, c1, l2, if_pos (by omega)]
        simp [Bk, hb, xx]
      · rw [if_neg c1]
        by_cases c2 : i = n
        · rw [if_pos c2, c2, l1, if_pos (by omega)]
          simp [Bk, hb]
        · rw [if_neg c2, ih i hi]
          have hl : low k i ≠ n := by
            unfold low
            cases ht : i.testBit k
            · simpa using c2
            · intro e
              simp only [if_true] at e
              exact c1 (by rw [← e, xx])
          by_cases c3 : low k i < n
          · rw [if_pos c3, if_pos (by omega)]
          · rw [if_neg c3, if_neg (by omega)]
    · rw [pairsTo_succ, pair_no hp hk (by omega) hb]
      show gt (bflies ys (pairsTo (2 ^ p) (2 ^ k) n ++ [])) i = _
      rw [List.append_nil, ih i hi]
      have hl : low k i ≠ n := by
        unfold low
        cases ht : i.testBit k
        · simp only [Bool.false_eq_true, if_false]; rintro rfl; rw [ht] at hb; cases hb
        · simp only [if_true]; intro e; rw [← e, tb_same, ht] at hb; cases hb
      by_cases c3 : low k i < n
      · rw [if_pos c3, if_pos (by omega)]
      · rw [if_neg c3, if_neg (by omega)]
theorem low_lt {p k i : Nat} (hk : k < p) (hi : i < 2 ^ p) : low k i < 2 ^ p := by
  unfold low; cases i.testBit k
  · simpa using hi
  · simpa using xor_lt hk hi
theorem level_get {p k : Nat} (hp : p < 9) (hk : k < p) (ys : List Int) (hy : ys.length = 2 ^ p) {i : Nat} (hi : i < 2 ^ p) : gt (level (2 ^ p) (2 ^ k) ys) i = IntKind.i64.wrap (Bk k (gt ys) i) := by
  unfold level
  rw [level_part hp hk ys hy _ (Nat.le_refl _) i hi, if_pos (low_lt hk hi)]
theorem Bk_congr {p k : Nat} (hk : k < p) {f g : Nat → Int} (h : ∀ i, i < 2 ^ p → f i = g i) {i : Nat} (hi : i < 2 ^ p) : Bk k f i = Bk k g i := by
  unfold Bk; rw [h i hi, h _ (xor_lt hk hi)]
theorem Bk_bound {p k : Nat} (hk : k < p) {f : Nat → Int} {M : Int} (h : ∀ i, i < 2 ^ p → -M ≤ f i ∧ f i ≤ M) {i : Nat} (hi : i < 2 ^ p) : -(2 * M) ≤ Bk k f i ∧ Bk k f i ≤ 2 * M := by
  have h1 := h i hi
  have h2 := h _ (xor_lt hk hi)
  unfold Bk; split <;> omega
/-- The list behind k levels, as a function: nothing wraps round. -/
theorem walshTo_get {p : Nat} (hp : p < 9) (xs : List Int) (hx : xs.length = 2 ^ p) {M : Int} (hM : M ≤ 1000000000000) (hb : ∀ i, i < 2 ^ p → -M ≤ gt xs i ∧ gt xs i ≤ M) : ∀ k, k ≤ p → ∀ i, i < 2 ^ p →
    gt (walshTo xs k) i = Wf (gt xs) k i ∧ -(2 ^ k * M) ≤ Wf (gt xs) k i ∧ Wf (gt xs) k i ≤ 2 ^ k * M
  | 0, _, i, hi => by simpa [walshTo, Wf] using hb i hi
  | k + 1, h, i, hi => by
    have ih := walshTo_get hp xs hx hM hb k (by omega)
    have hB := Bk_bound (p := p) (k := k) (by omega) (fun i hi => (ih i hi).2) hi
    have e : (2 : Int) ^ (k + 1) * M = 2 * (2 ^ k * M) := by rw [Int.pow_succ, Int.mul_comm ((2 : Int) ^ k) 2, Int.mul_assoc]
    have h0 : 0 ≤ M := by have := hb i hi; omega
    have hc : (2 : Int) ^ k * M ≤ 2 ^ 8 * M := Int.mul_le_mul_of_nonneg_right (by
      have : (2 : Nat) ^ k ≤ 2 ^ 8 := Nat.pow_le_pow_right (by omega) (by omega)
      exact_mod_cast this) h0
    have hW : Wf (gt xs) (k + 1) i = Bk k (Wf (gt xs) k) i := rfl
    rw [e, hW]
    refine ⟨?_, hB⟩
    show gt (level xs.length (2 ^ k) (walshTo xs k)) i = _
    rw [hx, level_get hp (by omega) _ (by rw [walshTo_length, hx]) hi, Bk_congr (by omega) (fun i hi => (ih i hi).1) hi]
    exact IntWalk.i64_in _ (by omega)
end Go.Proofs.Ytacbciamehchjaa
