
/- The k numbers of the greatest sizes: those that fewer than k are ahead of, and the first k behind a sort: plain facts. -/
import Derived.Test.YtacbciamehchjaaSortMath
namespace Go.Proofs.Ytacbciamehchjaa
open Go.RowKit

--BEGIN
theorem psum_zero : ∀ n, sumTo (fun _ => 0) n = 0
  | 0 => rfl
  | n + 1 => by simp only [sumTo, psum_zero n]; rfl
theorem psum_nonneg {f : Nat → Int} : ∀ n, (∀ i, i < n → 0 ≤ f i) → 0 ≤ sumTo f n
  | 0, _ => Int.le_refl _
  | n + 1, h => by
    have := psum_nonneg n (fun i hi => h i (by omega))
    have := h n (by omega)
    simp only [sumTo]; omega
theorem psum_null {f : Nat → Int} : ∀ n, (∀ i, i < n → 0 ≤ f i) → sumTo f n = 0 → ∀ i, i < n → f i = 0
  | 0, _, _, i, hi => by omega
  | n + 1, h, hs, i, hi => by
    have h1 := psum_nonneg n (fun i hi => h i (by omega))
    have h2 := h n (by omega)
    simp only [sumTo] at hs
    rcases Nat.lt_or_ge i n with g | g
    · exact psum_null n (fun i hi => h i (by omega)) (by omega) i g
    · obtain rfl : i = n := by omega
      omega
theorem psum_swap (f : Nat → Nat → Int) (n : Nat) : ∀ m, sumTo (fun i => sumTo (fun j => f i j) n) m = sumTo (fun j => sumTo (fun i => f i j) m) n
  | 0 => by simp only [sumTo]; exact (psum_zero n).symm
  | m + 1 => by
    simp only [sumTo]
    rw [psum_swap f n m, sumTo_add (fun j => sumTo (fun i => f i j) m) (fun j => f m j)]
def pind (p : Nat → Nat) (j k : Nat) : Int := if p k = j then 1 else 0
theorem pind_le (p : Nat → Nat) (j : Nat) : ∀ n, (∀ a b, a < n → b < n → p a = p b → a = b) → 0 ≤ sumTo (pind p j) n ∧ sumTo (pind p j) n ≤ 1 ∧ (sumTo (pind p j) n = 0 → ∀ k, k < n → p k ≠ j) ∧ (sumTo (pind p j) n ≠ 0 → ∃ k, k < n ∧ p k = j)
  | 0, _ => ⟨by simp [sumTo], by simp [sumTo], fun _ k hk => by omega, fun h => absurd rfl h⟩
  | n + 1, h => by
    obtain ⟨h1, h2, h3, h4⟩ := pind_le p j n (fun a b ha hb => h a b (by omega) (by omega))
    simp only [sumTo]
    by_cases e : p n = j
    · have : pind p j n = 1 := by unfold pind; rw [if_pos e]
      rw [this]
      have h0 : sumTo (pind p j) n = 0 := by
        apply Classical.byContradiction
        intro hne
        obtain ⟨k, hk, hk2⟩ := h4 hne
        have := h k n (by omega) (by omega) (by rw [hk2, e])
        omega
      rw [h0]
      exact ⟨by omega, by omega, fun h => by omega, fun _ => ⟨n, by omega, e⟩⟩
    · have : pind p j n = 0 := by unfold pind; rw [if_neg e]
      rw [this, Int.add_zero]
      refine ⟨h1, h2, fun h0 k hk => ?_, fun hne => ?_⟩
      · rcases Nat.lt_or_ge k n with g | g
        · exact h3 h0 k g
        · obtain rfl : k = n := by omega
          exact e
      · obtain ⟨k, hk, hk2⟩ := h4 hne
        exact ⟨k, by omega, hk2⟩
theorem pind_pick (f : Nat → Int) (x : Nat) : ∀ n, x < n → sumTo (fun j => (if x = j then 1 else 0) * f j) n = f x
  | 0, h => by omega
  | n + 1, h => by
    simp only [sumTo]
    by_cases e : x = n
    · subst e
      rw [if_pos rfl, Int.one_mul]
      rw [sumTo_congr x (g := fun _ => 0) (fun j hj => by rw [if_neg (by omega), Int.zero_mul]), psum_zero, Int.zero_add]
    · rw [if_neg e, Int.zero_mul, Int.add_zero]
      exact pind_pick f x n (by omega)
theorem psum_ones : ∀ n : Nat, sumTo (fun _ => (1 : Int)) n = n
  | 0 => rfl
  | n + 1 => by simp only [sumTo, psum_ones n]; omega
theorem pind_full (p : Nat → Nat) (n : Nat) (hp : ∀ k, k < n → p k < n) (hi : ∀ a b, a < n → b < n → p a = p b → a = b) : ∀ j, j < n → sumTo (pind p j) n = 1 := by
  have tot : sumTo (fun j => sumTo (fun k => pind p j k) n) n = n := by
    rw [← psum_swap (fun k j => pind p j k) n n]
    rw [sumTo_congr n (g := fun _ => 1) (fun k hk => by
      have := pind_pick (fun _ => 1) (p k) n (hp k hk)
      simpa [pind] using this), psum_ones]
  have hz : sumTo (fun j => 1 - sumTo (pind p j) n) n = 0 := by
    have h1 := sumTo_add (fun j => 1 - sumTo (pind p j) n) (fun j => sumTo (pind p j) n) n
    rw [sumTo_congr n (g := fun _ => 1) (fun j _ => by omega), psum_ones] at h1
    have : sumTo (fun j => sumTo (pind p j) n) n = n := tot
    omega
  intro j hj
  have := psum_null n (fun i _ => by have := (pind_le p i n hi).2.1; omega) hz j hj
  omega
theorem psum_perm (p : Nat → Nat) (f : Nat → Int) (n : Nat) (hp : ∀ k, k < n → p k < n) (hi : ∀ a b, a < n → b < n → p a = p b → a = b) : sumTo (fun k => f (p k)) n = sumTo f n := by
  rw [sumTo_congr n (g := fun k => sumTo (fun j => pind p j k * f j) n) (fun k hk => (pind_pick f (p k) n (hp k hk)).symm)]
  rw [psum_swap (fun k j => pind p j k * f j) n n]
  refine sumTo_congr n fun j hj => ?_
  rw [sumTo_congr n (g := fun k => f j * pind p j k) (fun k _ => Int.mul_comm _ _), sumTo_mul]
  have : sumTo (fun k => pind p j k) n = 1 := pind_full p n hp hi j hj
  rw [this, Int.mul_one]
/-- 1 if j comes ahead of i. -/
def aheadI (L : List Int) (i j : Nat) : Int := if av (gt L i) < av (gt L j) ∨ (av (gt L j) = av (gt L i) ∧ j < i) then 1 else 0
def aheadTo (L : List Int) (i : Nat) : Nat → Int := sumTo (aheadI L i)
theorem aheadTo_in (L : List Int) (i : Nat) : ∀ j, 0 ≤ aheadTo L i j ∧ aheadTo L i j ≤ j
  | 0 => ⟨Int.le_refl _, Int.le_refl _⟩
  | j + 1 => by
    have := aheadTo_in L i j
    have h : 0 ≤ aheadI L i j ∧ aheadI L i j ≤ 1 := by unfold aheadI; split <;> omega
    show 0 ≤ aheadTo L i j + aheadI L i j ∧ aheadTo L i j + aheadI L i j ≤ _
    omega
def topTo (L : List Int) (k : Int) : Nat → List Int
  | 0 => []
  | i + 1 => if aheadTo L i L.length < k then topTo L k i ++ [(i : Int)] else topTo L k i
theorem topTo_len (L : List Int) (k : Int) : ∀ i, (topTo L k i).length ≤ i
  | 0 => Nat.le_refl _
  | i + 1 => by
    have := topTo_len L k i
    unfold topTo; split
    · rw [List.length_append, List.length_singleton]; omega
    · omega
theorem topTo_mem {L : List Int} {k v : Int} : ∀ i, v ∈ topTo L k i ↔ ∃ j, j < i ∧ v = (j : Int) ∧ aheadTo L j L.length < k
  | 0 => ⟨fun h => (by cases h), fun ⟨j, hj, _⟩ => (by omega)⟩
  | i + 1 => by
    have ih := topTo_mem (L := L) (k := k) (v := v) i
    unfold topTo
    split
    · rename_i h
      rw [List.mem_append, ih, List.mem_singleton]
      constructor
      · rintro (⟨j, h1, h2, h3⟩ | rfl)
        · exact ⟨j, by omega, h2, h3⟩
        · exact ⟨i, by omega, rfl, h⟩
      · rintro ⟨j, h1, h2, h3⟩
        by_cases e : j = i
        · subst e; exact .inr h2
        · exact .inl ⟨j, by omega, h2, h3⟩
    · rename_i h
      rw [ih]
      constructor
      · rintro ⟨j, h1, h2, h3⟩; exact ⟨j, by omega, h2, h3⟩
      · rintro ⟨j, h1, h2, h3⟩
        by_cases e : j = i
        · subst e; exact absurd h3 h
        · exact ⟨j, by omega, h2, h3⟩
theorem topTo_asc (L : List Int) (k : Int) : ∀ i, (topTo L k i).Pairwise (· < ·)
  | 0 => List.Pairwise.nil
  | i + 1 => by
    have ih := topTo_asc L k i
    unfold topTo
    split
    · rw [List.pairwise_append]
      refine ⟨ih, List.pairwise_singleton _ _, fun x hx y hy => ?_⟩
      obtain ⟨j, h1, h2, _⟩ := (topTo_mem i).1 hx
      have : y = (i : Int) := by simpa using hy
      omega
    · exact ih
theorem asc_ext : ∀ (xs ys : List Int), xs.Pairwise (· < ·) → ys.Pairwise (· < ·) → (∀ v, v ∈ xs ↔ v ∈ ys) → xs = ys
  | [], [], _, _, _ => rfl
  | [], y :: ys, _, _, h => absurd ((h y).2 (List.mem_cons_self ..)) (by simp)
  | x :: xs, [], _, _, h => absurd ((h x).1 (List.mem_cons_self ..)) (by simp)
  | x :: xs, y :: ys, hx, hy, h => by
    obtain ⟨hx1, hx2⟩ := List.pairwise_cons.1 hx
    obtain ⟨hy1, hy2⟩ := List.pairwise_cons.1 hy
    have e : x = y := by
      rcases List.mem_cons.1 ((h x).1 (List.mem_cons_self ..)) with e | e
      · exact e
      · rcases List.mem_cons.1 ((h y).2 (List.mem_cons_self ..)) with e2 | e2
        · exact e2.symm
        · have := hx1 y e2; have := hy1 x e; omega
    subst e
    rw [asc_ext xs ys hx2 hy2 fun v => ?_]
    constructor
    · intro hv
      rcases List.mem_cons.1 ((h v).1 (List.mem_cons_of_mem _ hv)) with e | e
      · have := hx1 v hv; omega
      · exact e
    · intro hv
      rcases List.mem_cons.1 ((h v).2 (List.mem_cons_of_mem _ hv)) with e | e
      · have := hy1 v hv; omega
      · exact e
/-- The numbers in the sorted list, and how many are ahead of each. -/
theorem sorted_ahead {L ys xs : List Int} (hn : xs.length = L.length) (hid : ∀ k, k < xs.length → gt xs k = (k : Int)) (hr : Rearr 0 xs.length xs ys) (hs : Srt L 0 xs.length ys) {p : Nat} (hp : p < L.length) :
    0 ≤ gt ys p ∧ gt ys p < L.length ∧ aheadTo L (gt ys p).toNat L.length = p := by
  have hval : ∀ q, q < L.length → 0 ≤ gt ys q ∧ gt ys q < L.length := fun q hq => by
    obtain ⟨k, _, k2, e⟩ := (hr.set (gt ys q)).1 ⟨q, Nat.zero_le _, by omega, rfl⟩
    rw [hid k k2] at e
    omega
  have hlt : ∀ q r, q < L.length → r < L.length → (bef L (gt ys q) (gt ys r) ↔ q < r) := fun q r hq hr' => by
    rcases Nat.lt_trichotomy q r with g | g | g
    · exact ⟨fun _ => g, fun _ => hs q r (Nat.zero_le _) g (by omega)⟩
    · subst g; exact ⟨fun h => absurd h (fun h => bef_irr h), fun h => by omega⟩
    · have := hs r q (Nat.zero_le _) g (by omega)
      exact ⟨fun h => absurd h (fun h => bef_asym h this), fun h => by omega⟩
  refine ⟨(hval p hp).1, (hval p hp).2, ?_⟩
  unfold aheadTo
  rw [← psum_perm (fun q => (gt ys q).toNat) (aheadI L (gt ys p).toNat) L.length (fun q hq => by have := hval q hq; omega) (fun q r hq hr' e => by
    have h1 := hval q hq
    have h2 := hval r hr'
    rcases Nat.lt_trichotomy q r with g | g | g
    · exfalso; have := (hlt q r hq hr').2 g; rw [show gt ys q = gt ys r by omega] at this; exact bef_irr this
    · exact g
    · exfalso; have := (hlt r q hr' hq).2 g; rw [show gt ys q = gt ys r by omega] at this; exact bef_irr this)]
  have e : ∀ q, q < L.length → aheadI L (gt ys p).toNat (gt ys q).toNat = if q < p then 1 else 0 := fun q hq => by
    have h1 := hval q hq
    have h2 := hval p hp
    have h3 := hlt q p hq hp
    unfold aheadI
    unfold bef keyL at h3
    by_cases g : q < p
    · have := h3.2 g
      rw [if_pos g, if_pos (by rcases this with t | t
                               · exact .inl t
                               · exact .inr ⟨t.1.symm, by omega⟩)]
    · have hneg : ¬ _ := fun t => g (h3.1 t)
      rw [if_neg g, if_neg (fun t => hneg (by rcases t with t | t
                                              · exact .inl t
                                              · exact .inr ⟨t.1.symm, by omega⟩))]
  rw [sumTo_congr L.length e]
  have cnt : ∀ n, sumTo (fun q => if q < p then (1 : Int) else 0) n = if n < p then (n : Int) else p := by
    intro n
    induction n with
    | zero => simp only [sumTo]; split <;> omega
    | succ n ih =>
      simp only [sumTo, ih]
      by_cases h1 : n + 1 < p
      · rw [if_pos (by omega), if_pos (by omega), if_pos h1]; omega
      · by_cases h2 : n < p
        · rw [if_pos h2, if_pos h2, if_neg h1]; omega
        · rw [if_neg h2, if_neg h2, if_neg h1]; omega
  rw [cnt, if_neg (by omega)]
theorem gt_mem_take {ys : List Int} {k : Nat} {v : Int} (hk : k ≤ ys.length) : v ∈ ys.take k ↔ ∃ p, p < k ∧ gt ys p = v := by
  rw [List.mem_iff_getElem]
  constructor
  · rintro ⟨i, hi, e⟩
    rw [List.length_take] at hi
    refine ⟨i, by omega, ?_⟩
    rw [List.getElem_take] at e
    unfold gt; rw [List.getElem?_eq_getElem (by omega), Option.getD_some]; exact e
  · rintro ⟨p, hp, e⟩
    refine ⟨p, by rw [List.length_take]; omega, ?_⟩
    rw [List.getElem_take]
    unfold gt at e; rw [List.getElem?_eq_getElem (by omega), Option.getD_some] at e; exact e
/-- The first k behind the sort, ascending, are those that fewer than k are ahead of. -/
theorem top_is {L ys xs : List Int} (hn : xs.length = L.length) (hid : ∀ k, k < xs.length → gt xs k = (k : Int)) (hr : Rearr 0 xs.length xs ys) (hs : Srt L 0 xs.length ys) {k : Nat} (hk : k ≤ L.length) :
    (ys.take k).mergeSort (fun x y => decide (x ≤ y)) = topTo L k L.length := by
  have hyl : ys.length = L.length := hr.len.trans hn
  have ha := fun p hp => sorted_ahead hn hid hr hs (p := p) hp
  refine asc_ext _ _ ?_ (topTo_asc _ _ _) fun v => ?_
  · have h1 : ((ys.take k).mergeSort (fun x y => decide (x ≤ y))).Pairwise (fun x y => decide (x ≤ y) = true) :=
      List.pairwise_mergeSort (fun a b c h1 h2 => by simp at h1 h2 ⊢; omega) (fun a b => by simp; omega) _
    have h2 : (ys.take k).Nodup := by
      rw [List.Nodup, List.pairwise_iff_getElem]
      intro i j hi hj hij e
      rw [List.length_take] at hi hj
      rw [List.getElem_take, List.getElem_take] at e
      have b := hs i j (Nat.zero_le _) hij (by omega)
      unfold gt at b
      rw [List.getElem?_eq_getElem (by omega), List.getElem?_eq_getElem (by omega), Option.getD_some, Option.getD_some, e] at b
      exact bef_irr b
    have h3 : ((ys.take k).mergeSort (fun x y => decide (x ≤ y))).Nodup := (List.mergeSort_perm _ _).nodup_iff.2 h2
    exact (h1.and h3).imp fun {a b} h => by have := h.1; simp at this; have := h.2; omega
  · rw [(List.mergeSort_perm _ _).mem_iff, gt_mem_take (by omega), topTo_mem]
    constructor
    · rintro ⟨p, hp, e⟩
      obtain ⟨a1, a2, a3⟩ := ha p (by omega)
      refine ⟨(gt ys p).toNat, by omega, by omega, by rw [a3]; omega⟩
    · rintro ⟨j, h1, h2, h3⟩
      obtain ⟨p, _, hp, e⟩ := (hr.set (j : Int)).2 ⟨j, Nat.zero_le _, by omega, hid j (by omega)⟩
      obtain ⟨a1, a2, a3⟩ := ha p (by omega)
      rw [e, Int.toNat_natCast] at a3
      exact ⟨p, by omega, by rw [e, h2]⟩
--END
end Go.Proofs.Ytacbciamehchjaa
