
/- The coherence of columns: the greatest of fractions in lowest terms, and when it is 1: plain facts. -/
import Derived.Test.YtacbciamehchjaaMLike
namespace Go.Proofs.Ytacbciamehchjaa
open Go.RowKit

--BEGIN
theorem sumTo_null {f : Nat → Int} : ∀ n, (∀ i, i < n → 0 ≤ f i) → sumTo f n = 0 → ∀ i, i < n → f i = 0
  | 0, _, _, i, hi => by omega
  | n + 1, h, hs, i, hi => by
    have h1 := sumTo_nonneg n (fun i hi => h i (by omega))
    have h2 := h n (by omega)
    simp only [sumTo] at hs
    rcases Nat.lt_or_ge i n with g | g
    · exact sumTo_null n (fun i hi => h i (by omega)) (by omega) i g
    · obtain rfl : i = n := by omega
      omega
theorem mul4 (a b c d : Int) : a * b * (c * d) = a * c * (b * d) := by rw [Int.mul_assoc, Int.mul_assoc, ← Int.mul_assoc b, Int.mul_comm b c, Int.mul_assoc c]
theorem sq_sub (a b c d : Int) : (a * d - b * c) * (a * d - b * c) = d * d * (a * a) + (-(2 * (b * d))) * (a * c) + b * b * (c * c) := by
  have e1 : a * d * (a * d) = d * d * (a * a) := by rw [mul4, Int.mul_comm]
  have e2 : b * c * (b * c) = b * b * (c * c) := mul4 _ _ _ _
  have e3 : a * d * (b * c) = b * d * (a * c) := by rw [Int.mul_comm a d, mul4 d a b c, Int.mul_comm d b]
  have e4 : b * c * (a * d) = b * d * (a * c) := by rw [Int.mul_comm (b * c)]; exact e3
  rw [Int.sub_mul, Int.mul_sub, Int.mul_sub, e1, e2, e3, e4, Int.neg_mul, Int.mul_assoc 2]
  omega
/-- The product of the sums of squares less the square of the sum of products. -/
def lag (f g : Nat → Int) (n : Nat) : Int := sumTo (fun i => f i * f i) n * sumTo (fun i => g i * g i) n - sumTo (fun i => f i * g i) n * sumTo (fun i => f i * g i) n
theorem lag_succ (f g : Nat → Int) (n : Nat) : lag f g (n + 1) = lag f g n + sumTo (fun i => (f i * g n - f n * g i) * (f i * g n - f n * g i)) n := by
  have e : sumTo (fun i => (f i * g n - f n * g i) * (f i * g n - f n * g i)) n = g n * g n * sumTo (fun i => f i * f i) n + (-(2 * (f n * g n))) * sumTo (fun i => f i * g i) n + f n * f n * sumTo (fun i => g i * g i) n := by
    rw [sumTo_congr n (g := fun i => (g n * g n * (f i * f i) + (-(2 * (f n * g n))) * (f i * g i)) + f n * f n * (g i * g i)) (fun i _ => by rw [sq_sub]), sumTo_add, sumTo_add, sumTo_mul, sumTo_mul, sumTo_mul]
  rw [e]
  unfold lag
  simp only [sumTo]
  generalize sumTo (fun i => f i * f i) n = A
  generalize sumTo (fun i => g i * g i) n = B
  generalize sumTo (fun i => f i * g i) n = C
  have e1 : (A + f n * f n) * (B + g n * g n) = A * B + g n * g n * A + f n * f n * B + f n * f n * (g n * g n) := by
    rw [Int.add_mul, Int.mul_add, Int.mul_add, Int.mul_comm A (g n * g n)]; omega
  have e2 : (C + f n * g n) * (C + f n * g n) = C * C + 2 * (f n * g n) * C + f n * f n * (g n * g n) := by
    rw [Int.add_mul, Int.mul_add, Int.mul_add, Int.mul_comm C (f n * g n), mul4 (f n) (g n) (f n) (g n), Int.mul_assoc 2]; omega
  rw [e1, e2, Int.neg_mul]
  omega
theorem sq_pos' (x : Int) : 0 ≤ x * x := by
  rcases Int.le_total 0 x with h | h
  · exact Int.mul_nonneg h h
  · have := Int.mul_nonneg (show 0 ≤ -x by omega) (show 0 ≤ -x by omega); rwa [Int.neg_mul_neg] at this
theorem lag_nonneg (f g : Nat → Int) : ∀ n, 0 ≤ lag f g n
  | 0 => by simp [lag, sumTo]
  | n + 1 => by
    rw [lag_succ]
    have := lag_nonneg f g n
    have := sumTo_nonneg (f := fun i => (f i * g n - f n * g i) * (f i * g n - f n * g i)) n (fun i _ => sq_pos' _)
    omega
theorem sq_zero {x : Int} (h : x * x = 0) : x = 0 := by
  rcases Int.mul_eq_zero.1 h with h | h <;> exact h
theorem lag_zero (f g : Nat → Int) : ∀ n, lag f g n = 0 → ∀ i j, i < n → j < n → f i * g j = f j * g i
  | 0, _, i, _, hi, _ => by omega
  | n + 1, h, i, j, hi, hj => by
    rw [lag_succ] at h
    have h1 := lag_nonneg f g n
    have h2 := sumTo_nonneg (f := fun i => (f i * g n - f n * g i) * (f i * g n - f n * g i)) n (fun i _ => sq_pos' _)
    have h3 := sumTo_null (f := fun i => (f i * g n - f n * g i) * (f i * g n - f n * g i)) n (fun i _ => sq_pos' _) (by omega)
    have key : ∀ k, k < n → f k * g n = f n * g k := fun k hk => by have := sq_zero (h3 k hk); omega
    by_cases e1 : i = n
    · by_cases e2 : j = n
      · rw [e1, e2]
      · rw [e1]; exact (key j (by omega)).symm
    · by_cases e2 : j = n
      · rw [e2]; exact key i (by omega)
      · exact lag_zero f g n (by omega) i j (by omega) (by omega)
theorem dot_cs {a b : List Int} (hl : a.length = b.length) : dot a b * dot a b ≤ dot a a * dot b b := by
  have := lag_nonneg (gt a) (gt b) a.length
  unfold lag at this
  unfold dot
  rw [← hl]
  omega
theorem trit_cases {x : Int} (h : -1 ≤ x ∧ x ≤ 1) : x = -1 ∨ x = 0 ∨ x = 1 := by omega
/-- Columns of ones are alike exactly if the square of their product is the product of their squares. -/
theorem dot_alike {a b : List Int} (hl : a.length = b.length) (ha : allB 1 a = true) (hb : allB 1 b = true) (h0 : dot a a * dot b b ≠ 0) :
    dot a b * dot a b = dot a a * dot b b ↔ ((∀ k, k < a.length → gt a k = gt b k) ∨ (∀ k, k < a.length → gt a k = -gt b k)) := by
  constructor
  · intro h
    have hz : lag (gt a) (gt b) a.length = 0 := by
      unfold lag; unfold dot at h; rw [← hl] at h; omega
    have hp := lag_zero (gt a) (gt b) a.length hz
    -- a place where b is not 0
    have hb0 : ∃ k, k < a.length ∧ gt b k ≠ 0 := by
      apply Classical.byContradiction
      intro hn
      apply h0
      have : dot b b = 0 := by
        unfold dot
        rw [sumTo_congr _ (g := fun _ => 0) (fun i hi => by
          have : gt b i = 0 := Classical.byContradiction fun g => hn ⟨i, by omega, g⟩
          rw [this]; rfl)]
        clear h0 hn h hz hp
        induction b.length with
        | zero => rfl
        | succ n ih => simp only [sumTo, ih]; rfl
      rw [this, Int.mul_zero]
    obtain ⟨k, hk, hbk⟩ := hb0
    have tb := trit_cases (gt_in hb (k := k) (by omega))
    have ta := trit_cases (gt_in ha hk)
    rcases ta with ea | ea | ea
    · rcases tb with eb | eb | eb
      · left; intro i hi; have := hp i k hi hk; rw [ea, eb] at this; omega
      · exact absurd eb hbk
      · right; intro i hi; have := hp i k hi hk; rw [ea, eb] at this; omega
    · exfalso
      apply h0
      have : dot a a = 0 := by
        unfold dot
        rw [sumTo_congr _ (g := fun _ => 0) (fun i hi => by
          have e := hp i k hi hk
          rw [ea, Int.zero_mul] at e
          rcases Int.mul_eq_zero.1 e with g | g
          · rw [g]; rfl
          · exact absurd g hbk)]
        clear h0 h hz hp hk ea ha
        induction a.length with
        | zero => rfl
        | succ n ih => simp only [sumTo, ih]; rfl
      rw [this, Int.zero_mul]
    · rcases tb with eb | eb | eb
      · right; intro i hi; have := hp i k hi hk; rw [ea, eb] at this; omega
      · exact absurd eb hbk
      · left; intro i hi; have := hp i k hi hk; rw [ea, eb] at this; omega
  · rintro (h | h)
    · have e1 : dot a b = dot a a := sumTo_congr _ fun i hi => by rw [← h i hi]
      have e2 : dot b b = dot a a := by
        unfold dot; rw [← hl]; exact sumTo_congr _ fun i hi => by rw [← h i hi]
      rw [e1, e2]
    · have e1 : dot a b = -dot a a := by
        have := sumTo_mul (-1) (fun i => gt a i * gt a i) a.length
        unfold dot
        rw [sumTo_congr (g := fun i => -1 * (gt a i * gt a i)) _ (fun i hi => by rw [h i hi, Int.neg_mul_neg, Int.neg_mul, Int.neg_mul, Int.one_mul]), this]; omega
      have e2 : dot b b = dot a a := by
        unfold dot; rw [← hl]; exact sumTo_congr _ fun i hi => by rw [h i hi, Int.neg_mul_neg]
      rw [e1, e2, Int.neg_mul_neg]
/-! ### The greatest of fractions -/
def bestF (c r : Int × Int) : Int × Int := if c.1 * r.2 < r.1 * c.2 then r else c
def bestL (L : List (Int × Int)) : Int × Int := L.foldl bestF (0, 1)
/-- A fraction in lowest terms, not below 0. -/
def Red (r : Int × Int) : Prop := 0 ≤ r.1 ∧ 1 ≤ r.2 ∧ Nat.gcd r.1.toNat r.2.toNat = 1
theorem le_trans_frac {a b c : Int × Int} (hb : 1 ≤ b.2) (ha : 1 ≤ a.2) (hc : 1 ≤ c.2) (h1 : a.1 * b.2 ≤ b.1 * a.2) (h2 : b.1 * c.2 ≤ c.1 * b.2) : a.1 * c.2 ≤ c.1 * a.2 := by
  have e1 : a.1 * b.2 * c.2 ≤ b.1 * a.2 * c.2 := Int.mul_le_mul_of_nonneg_right h1 (by omega)
  have e2 : b.1 * c.2 * a.2 ≤ c.1 * b.2 * a.2 := Int.mul_le_mul_of_nonneg_right h2 (by omega)
  have e3 : a.1 * c.2 * b.2 ≤ c.1 * a.2 * b.2 := by
    rw [Int.mul_right_comm a.1, Int.mul_right_comm c.1]
    have : b.1 * a.2 * c.2 = b.1 * c.2 * a.2 := Int.mul_right_comm _ _ _
    omega
  exact Int.le_of_mul_le_mul_right e3 (by omega)
theorem bestL_is (L : List (Int × Int)) (hL : ∀ r ∈ L, 1 ≤ r.2) : ∀ c : Int × Int, 1 ≤ c.2 → (1 ≤ (L.foldl bestF c).2 ∧ (L.foldl bestF c = c ∨ L.foldl bestF c ∈ L) ∧ c.1 * (L.foldl bestF c).2 ≤ (L.foldl bestF c).1 * c.2 ∧ ∀ r ∈ L, r.1 * (L.foldl bestF c).2 ≤ (L.foldl bestF c).1 * r.2) := by
  induction L with
  | nil => intro c hc; exact ⟨hc, .inl rfl, Int.le_refl _, fun r hr => by cases hr⟩
  | cons x L ih =>
    intro c hc
    have hx := hL x (List.mem_cons_self ..)
    have hL' : ∀ r ∈ L, 1 ≤ r.2 := fun r hr => hL r (List.mem_cons_of_mem _ hr)
    have hb : 1 ≤ (bestF c x).2 ∧ c.1 * (bestF c x).2 ≤ (bestF c x).1 * c.2 ∧ x.1 * (bestF c x).2 ≤ (bestF c x).1 * x.2 := by
      unfold bestF; split
      · exact ⟨hx, by omega, Int.le_refl _⟩
      · exact ⟨hc, Int.le_refl _, by omega⟩
    obtain ⟨i1, i2, i3, i4⟩ := ih hL' (bestF c x) hb.1
    show 1 ≤ (L.foldl bestF (bestF c x)).2 ∧ _
    refine ⟨i1, ?_, le_trans_frac hb.1 hc i1 hb.2.1 i3, fun r hr => ?_⟩
    · rcases i2 with e | e
      · show L.foldl bestF (bestF c x) = c ∨ L.foldl bestF (bestF c x) ∈ x :: L
        rw [e]; unfold bestF; split
        · exact .inr (List.mem_cons_self ..)
        · exact .inl rfl
      · exact .inr (List.mem_cons_of_mem _ e)
    · rcases List.mem_cons.1 hr with rfl | hr
      · exact le_trans_frac hb.1 hx i1 hb.2.2 i3
      · exact i4 r hr
theorem red_eq {r s : Int × Int} (hr : Red r) (hs : Red s) (h : r.1 * s.2 = s.1 * r.2) : r = s := by
  obtain ⟨r1, r2, r3⟩ := hr
  obtain ⟨s1, s2, s3⟩ := hs
  obtain ⟨a, ha⟩ := Int.eq_ofNat_of_zero_le r1
  obtain ⟨b, hb⟩ := Int.eq_ofNat_of_zero_le (show 0 ≤ r.2 by omega)
  obtain ⟨c, hc⟩ := Int.eq_ofNat_of_zero_le s1
  obtain ⟨d, hd⟩ := Int.eq_ofNat_of_zero_le (show 0 ≤ s.2 by omega)
  rw [ha, hb] at r3
  rw [hc, hd] at s3
  rw [ha, hb, hc, hd] at h
  have h' : a * d = c * b := by exact_mod_cast h
  simp only [Int.ofNat_eq_natCast, Int.toNat_natCast] at r3 s3
  have d1 : b ∣ d := by
    have hcop : Nat.Coprime b a := by unfold Nat.Coprime; rw [Nat.gcd_comm]; exact r3
    exact hcop.dvd_of_dvd_mul_left (⟨c, by rw [h', Nat.mul_comm]⟩)
  have d2 : d ∣ b := by
    have hcop : Nat.Coprime d c := by unfold Nat.Coprime; rw [Nat.gcd_comm]; exact s3
    exact hcop.dvd_of_dvd_mul_left (⟨a, by rw [← h', Nat.mul_comm]⟩)
  have e : b = d := Nat.dvd_antisymm d1 d2
  subst e
  have hb1 : 0 < b := by omega
  have e2 : a = c := Nat.eq_of_mul_eq_mul_right hb1 h'
  subst e2
  exact Prod.ext (by rw [ha, hc]) (by rw [hb, hd])
theorem bestL_same {L M : List (Int × Int)} (hL : ∀ r ∈ L, Red r) (h : ∀ r, r ∈ L ↔ r ∈ M) : bestL L = bestL M := by
  have hM : ∀ r ∈ M, Red r := fun r hr => hL r ((h r).2 hr)
  have r0 : Red (0, 1) := ⟨by decide, by decide, by decide⟩
  obtain ⟨a1, a2, a3, a4⟩ := bestL_is L (fun r hr => (hL r hr).2.1) (0, 1) (by decide)
  obtain ⟨b1, b2, b3, b4⟩ := bestL_is M (fun r hr => (hM r hr).2.1) (0, 1) (by decide)
  have ra : Red (bestL L) := by rcases a2 with e | e
                                · have g : bestL L = (0, 1) := e
                                  rw [g]; exact r0
                                · exact hL _ e
  have rb : Red (bestL M) := by rcases b2 with e | e
                                · have g : bestL M = (0, 1) := e
                                  rw [g]; exact r0
                                · exact hM _ e
  refine red_eq ra rb ?_
  have l1 : (bestL L).1 * (bestL M).2 ≤ (bestL M).1 * (bestL L).2 := by
    rcases a2 with e | e
    · show (List.foldl bestF (0, 1) L).1 * _ ≤ _ * (List.foldl bestF (0, 1) L).2
      rw [e]; exact b3
    · exact b4 _ ((h _).1 e)
  have l2 : (bestL M).1 * (bestL L).2 ≤ (bestL L).1 * (bestL M).2 := by
    rcases b2 with e | e
    · show (List.foldl bestF (0, 1) M).1 * _ ≤ _ * (List.foldl bestF (0, 1) M).2
      rw [e]; exact a3
    · exact a4 _ ((h _).2 e)
  omega
theorem bestL_one {L : List (Int × Int)} (hL : ∀ r ∈ L, Red r ∧ r.1 ≤ r.2) : bestL L = (1, 1) ↔ (1, 1) ∈ L := by
  obtain ⟨a1, a2, a3, a4⟩ := bestL_is L (fun r hr => (hL r hr).1.2.1) (0, 1) (by decide)
  constructor
  · intro e
    rcases a2 with g | g
    · have : bestL L = (0, 1) := g
      rw [this] at e; cases e
    · have : bestL L ∈ L := g
      rwa [e] at this
  · intro e
    have h := a4 _ e
    have h' : (bestL L).2 ≤ (bestL L).1 := by have : (1 : Int) * (bestL L).2 ≤ (bestL L).1 * 1 := h; omega
    have r0 : Red (0, 1) := ⟨by decide, by decide, by decide⟩
    have ra : Red (bestL L) ∧ (bestL L).1 ≤ (bestL L).2 := by
      rcases a2 with g | g
      · have : bestL L = (0, 1) := g
        rw [this] at h'; exact absurd h' (by decide)
      · exact hL _ g
    exact red_eq ra.1 ⟨by decide, by decide, by decide⟩ (by show _ * 1 = 1 * _; omega)
--END
end Go.Proofs.Ytacbciamehchjaa
