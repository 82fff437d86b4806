
/- No k numbers have a greater size together than the k largest: the plain fact; slices of truths of the call's own. -/
import Derived.Test.YtacbciamehchjaaTopMath
import Derived.Test.YtacbciamehchjaaOwnW
namespace Go.Proofs.Ytacbciamehchjaa
open Go.RowKit

--BEGIN
def idL (n : Nat) : List Int := (List.range n).map fun i : Nat => (i : Int)
def leB (L : List Int) (u v : Int) : Bool := decide (keyL L v < keyL L u ∨ (keyL L v = keyL L u ∧ u ≤ v))
theorem gt_idL {n k : Nat} (h : k < n) : gt (idL n) k = (k : Int) := gt_map_range _ h
theorem idL_len (n : Nat) : (idL n).length = n := by simp [idL]
theorem gt_mem_all {ys : List Int} {v : Int} : v ∈ ys ↔ ∃ p, p < ys.length ∧ gt ys p = v := by
  have := gt_mem_take (ys := ys) (k := ys.length) (v := v) (Nat.le_refl _)
  rwa [List.take_length] at this
/-- There is a list in the order of the comparison. -/
theorem exists_sorted (L : List Int) : ∃ ys, Rearr 0 (idL L.length).length (idL L.length) ys ∧ Srt L 0 (idL L.length).length ys := by
  refine ⟨(idL L.length).mergeSort (leB L), ⟨List.length_mergeSort _, fun k hk => ?_, fun v => ?_⟩, fun p q _ h2 h3 => ?_⟩
  · have hk' : (idL L.length).length ≤ k := by omega
    unfold gt
    rw [List.getElem?_eq_none (by rw [List.length_mergeSort]; exact hk'), List.getElem?_eq_none hk']
  · have h1 := gt_mem_all (ys := (idL L.length).mergeSort (leB L)) (v := v)
    have h2 := gt_mem_all (ys := idL L.length) (v := v)
    have h3 := (List.mergeSort_perm (idL L.length) (leB L)).mem_iff (a := v)
    rw [List.length_mergeSort] at h1
    constructor
    · rintro ⟨k, _, k2, e⟩
      obtain ⟨q, q1, q2⟩ := h2.1 (h3.1 (h1.2 ⟨k, k2, e⟩))
      exact ⟨q, Nat.zero_le _, q1, q2⟩
    · rintro ⟨k, _, k2, e⟩
      obtain ⟨q, q1, q2⟩ := h1.1 (h3.2 (h2.2 ⟨k, k2, e⟩))
      exact ⟨q, Nat.zero_le _, q1, q2⟩
  · have hs : ((idL L.length).mergeSort (leB L)).Pairwise (fun a b => leB L a b = true) :=
      List.pairwise_mergeSort (fun a b c h1 h2 => by unfold leB at *; simp only [decide_eq_true_eq] at *; omega) (fun a b => by unfold leB; simp only [Bool.or_eq_true, decide_eq_true_eq]; omega) _
    have hnd0 : (idL L.length).Nodup := by
      rw [List.Nodup, List.pairwise_iff_getElem]
      intro i j hi hj hij e
      simp [idL] at e
      omega
    have hnd := (List.mergeSort_perm (idL L.length) (leB L)).nodup_iff.2 hnd0
    have hlen : ((idL L.length).mergeSort (leB L)).length = (idL L.length).length := List.length_mergeSort _
    have a1 := (List.pairwise_iff_getElem.1 hs) p q (by omega) (by omega) h2
    have a2 := (List.pairwise_iff_getElem.1 hnd) p q (by omega) (by omega) h2
    unfold gt
    rw [List.getElem?_eq_getElem (by omega), List.getElem?_eq_getElem (by omega), Option.getD_some, Option.getD_some]
    obtain ⟨u, hu⟩ : ∃ u, ((idL L.length).mergeSort (leB L))[p]'(by omega) = u := ⟨_, rfl⟩
    obtain ⟨v, hv⟩ : ∃ v, ((idL L.length).mergeSort (leB L))[q]'(by omega) = v := ⟨_, rfl⟩
    rw [hu, hv] at a1 a2 ⊢
    clear hu hv
    unfold leB at a1
    simp only [decide_eq_true_eq] at a1
    unfold bef
    rcases a1 with h | ⟨h, h'⟩
    · exact .inl h
    · exact .inr ⟨h, by omega⟩
def inTop (L : List Int) (k : Int) (i : Nat) : Int := if aheadTo L i L.length < k then 1 else 0
theorem topTo_count (L : List Int) (k : Int) : ∀ i, ((topTo L k i).length : Int) = sumTo (inTop L k) i
  | 0 => rfl
  | i + 1 => by
    have ih := topTo_count L k i
    simp only [sumTo]
    unfold topTo inTop
    split
    · rw [List.length_append, List.length_singleton]
      have : sumTo (inTop L k) i = sumTo (fun i => if aheadTo L i L.length < k then (1 : Int) else 0) i := rfl
      omega
    · have : sumTo (inTop L k) i = sumTo (fun i => if aheadTo L i L.length < k then (1 : Int) else 0) i := rfl
      omega
/-- The order's places: which number stands where, and what that means for the largest. -/
theorem top_places (L : List Int) : ∃ π : Nat → Nat, (∀ q, q < L.length → π q < L.length) ∧ (∀ a b, a < L.length → b < L.length → π a = π b → a = b) ∧ (∀ q, q < L.length → aheadTo L (π q) L.length = q) ∧ (∀ p q, p < q → q < L.length → av (gt L (π q)) ≤ av (gt L (π p))) := by
  obtain ⟨ys, hr, hs⟩ := exists_sorted L
  have ha := fun p hp => sorted_ahead (L := L) (xs := idL L.length) (idL_len _) (fun k hk => gt_idL (by rw [idL_len] at hk; exact hk)) hr hs (p := p) hp
  refine ⟨fun q => (gt ys q).toNat, fun q hq => by have := ha q hq; show (gt ys q).toNat < _; omega, fun a b h1 h2 e => ?_, fun q hq => (ha q hq).2.2, fun p q h1 h2 => ?_⟩
  · have e1 := (ha a h1).2.2
    have e2 := (ha b h2).2.2
    dsimp only at e
    rw [e] at e1
    omega
  · have b := hs p q (Nat.zero_le _) h1 (by rw [idL_len]; exact h2)
    unfold bef keyL at b
    show av (gt L (gt ys q).toNat) ≤ av (gt L (gt ys p).toNat)
    omega
theorem psum_sub (f g : Nat → Int) : ∀ n, sumTo (fun i => f i - g i) n = sumTo f n - sumTo g n
  | 0 => rfl
  | n + 1 => by simp only [sumTo, psum_sub f g n]; omega
theorem psum_le {f g : Nat → Int} : ∀ n, (∀ i, i < n → f i ≤ g i) → sumTo f n ≤ sumTo g n
  | 0, _ => Int.le_refl _
  | n + 1, h => by
    have := psum_le n (fun i hi => h i (by omega))
    have := h n (by omega)
    simp only [sumTo]; omega
theorem top_length (L : List Int) {k : Nat} (hk : k ≤ L.length) : (topTo L k L.length).length = k := by
  obtain ⟨π, h1, h2, h3, _⟩ := top_places L
  have e := topTo_count L k L.length
  rw [← psum_perm π (inTop L k) L.length h1 h2] at e
  rw [sumTo_congr L.length (g := fun q => if q < k then (1 : Int) else 0) (fun q hq => by
    unfold inTop; rw [h3 q hq]
    by_cases g : q < k
    · rw [if_pos (by omega), if_pos g]
    · rw [if_neg (by omega), if_neg g])] at e
  have cnt : ∀ n, sumTo (fun q => if q < k then (1 : Int) else 0) n = if n < k then (n : Int) else k := by
    intro n
    induction n with
    | zero => simp only [sumTo]; split <;> omega
    | succ n ih =>
      simp only [sumTo, ih]
      by_cases h1 : n + 1 < k
      · rw [if_pos (by omega), if_pos (by omega), if_pos h1]; omega
      · by_cases h2 : n < k
        · rw [if_pos h2, if_pos h2, if_neg h1]; omega
        · rw [if_neg h2, if_neg h2, if_neg h1]; omega
  rw [cnt, if_neg (by omega)] at e
  omega
/-! ### Chosen ones -/
def chI (bs : List Bool) (i : Nat) : Int := if bs[i]?.getD false = true then 1 else 0
def chS (L : List Int) (bs : List Bool) (i : Nat) : Int := if bs[i]?.getD false = true then av (gt L i) else 0
theorem psum_one {f g : Nat → Int} {j : Nat} : ∀ n, (∀ i, i < n → i ≠ j → f i = g i) → sumTo f n = sumTo g n + if j < n then f j - g j else 0
  | 0, _ => by rw [if_neg (by omega)]; rfl
  | n + 1, h => by
    have ih := psum_one n (fun i hi => h i (by omega))
    simp only [sumTo]
    rw [ih]
    by_cases e : j = n
    · subst e; rw [if_neg (by omega), if_pos (by omega)]; omega
    · rw [h n (by omega) (fun e' => e e'.symm)]
      by_cases g : j < n
      · rw [if_pos g, if_pos (by omega)]; omega
      · rw [if_neg g, if_neg (by omega)]; omega
theorem ch_set {L : List Int} {bs : List Bool} {j n : Nat} (hj : j < n) (hl : bs.length = n) (h : bs[j]?.getD false = false) : sumTo (chI (bs.set j true)) n = sumTo (chI bs) n + 1 ∧ sumTo (chS L (bs.set j true)) n = sumTo (chS L bs) n + av (gt L j) := by
  have hne : ∀ i, i ≠ j → (bs.set j true)[i]?.getD false = bs[i]?.getD false := fun i hi => by rw [List.getElem?_set_ne (fun e => hi e.symm)]
  have hat : (bs.set j true)[j]?.getD false = true := by rw [List.getElem?_set_self (by omega)]; rfl
  constructor
  · rw [psum_one (f := chI (bs.set j true)) (g := chI bs) (j := j) n (fun i _ hi => by unfold chI; rw [hne i hi]), if_pos hj]
    unfold chI; rw [hat, h]; simp
  · rw [psum_one (f := chS L (bs.set j true)) (g := chS L bs) (j := j) n (fun i _ hi => by unfold chS; rw [hne i hi]), if_pos hj]
    unfold chS; rw [hat, h]; simp
theorem ch_in {L : List Int} {bs : List Bool} (hall : allB 1000000 L = true) : ∀ n, n ≤ L.length → 0 ≤ sumTo (chI bs) n ∧ sumTo (chI bs) n ≤ n ∧ 0 ≤ sumTo (chS L bs) n ∧ sumTo (chS L bs) n ≤ n * 1000000
  | 0, _ => by simp [sumTo]
  | n + 1, h => by
    have ih := ch_in (bs := bs) hall n (by omega)
    have hx := gt_in hall (k := n) (by omega)
    have h1 : 0 ≤ chI bs n ∧ chI bs n ≤ 1 := by unfold chI; split <;> omega
    have h2 : 0 ≤ chS L bs n ∧ chS L bs n ≤ 1000000 := by
      unfold chS; split
      · unfold av; split <;> omega
      · omega
    simp only [sumTo]
    omega
/-- The sizes of a list of indexes, added up. -/
def tsum (L zs : List Int) : Nat → Int := sumTo fun p => av (gt L (gt zs p).toNat)
theorem tsum_snoc (L zs : List Int) (v : Int) : tsum L (zs ++ [v]) (zs.length + 1) = tsum L zs zs.length + av (gt L v.toNat) := by
  unfold tsum
  simp only [sumTo]
  congr 1
  · refine sumTo_congr _ fun p hp => ?_
    unfold gt; rw [List.getElem?_append_left hp]
  · unfold gt; rw [List.getElem?_append_right (Nat.le_refl _), Nat.sub_self]; rfl
theorem tsum_top (L : List Int) (k : Int) : ∀ i, tsum L (topTo L k i) (topTo L k i).length = sumTo (fun j => inTop L k j * av (gt L j)) i
  | 0 => rfl
  | i + 1 => by
    have ih := tsum_top L k i
    simp only [sumTo]
    unfold topTo
    by_cases h : aheadTo L i L.length < k
    · rw [if_pos h, List.length_append, List.length_singleton, tsum_snoc, ih, Int.toNat_natCast]
      unfold inTop; rw [if_pos h, Int.one_mul]
    · rw [if_neg h, ih]
      have : inTop L k i = 0 := by unfold inTop; rw [if_neg h]
      rw [this, Int.zero_mul, Int.add_zero]
/-- P1.5. -/
theorem top_most {L : List Int} {bs : List Bool} {k : Nat} (hk : k ≤ L.length) (hc : sumTo (chI bs) L.length = k) : sumTo (chS L bs) L.length ≤ tsum L (topTo L k L.length) (topTo L k L.length).length := by
  rw [tsum_top]
  have hlen := topTo_count L k L.length
  rw [top_length L hk] at hlen
  obtain ⟨π, h1, h2, h3, h4⟩ := top_places L
  -- a size that parts the largest from the others
  obtain ⟨τ, t1, t2⟩ : ∃ τ : Int, (∀ i, i < L.length → inTop L k i = 1 → τ ≤ av (gt L i)) ∧ (∀ i, i < L.length → inTop L k i = 0 → av (gt L i) ≤ τ ∨ sumTo (chI bs) L.length = 0) := by
    have onto : ∀ i, i < L.length → ∃ q, q < L.length ∧ π q = i := fun i hi => (pind_le π i L.length h2).2.2.2 (by rw [pind_full π L.length h1 h2 i hi]; decide)
    by_cases hk0 : k = 0
    · exact ⟨0, fun i _ h => by
        have := (aheadTo_in L i L.length).1
        unfold inTop at h; rw [if_neg (by omega)] at h; omega, fun i _ _ => .inr (by rw [hc, hk0]; rfl)⟩
    · refine ⟨av (gt L (π (k - 1))), fun i hi h => ?_, fun i hi h => .inl ?_⟩
      · obtain ⟨q, hq, rfl⟩ := onto i hi
        have hq2 : q < k := by
          unfold inTop at h; rw [h3 q hq] at h
          split at h <;> omega
        by_cases e : q = k - 1
        · rw [e]; exact Int.le_refl _
        · exact h4 q (k - 1) (by omega) (by omega)
      · obtain ⟨q, hq, rfl⟩ := onto i hi
        have hq2 : k ≤ q := by
          unfold inTop at h; rw [h3 q hq] at h
          split at h <;> omega
        exact h4 (k - 1) q (by omega) hq
  by_cases h0 : sumTo (chI bs) L.length = 0
  · have hz : sumTo (chS L bs) L.length = 0 := by
      have hn := psum_null L.length (fun i _ => by unfold chI; split <;> omega) h0
      rw [sumTo_congr L.length (g := fun _ => 0) (fun i hi => by
        have := hn i hi
        unfold chI at this
        unfold chS
        split at this
        · omega
        · rename_i h; rw [if_neg h]), psum_zero]
    rw [hz]
    exact psum_nonneg _ fun i _ => Int.mul_nonneg (by unfold inTop; split <;> omega) (by unfold av; split <;> omega)
  · have key : sumTo (fun i => chS L bs i - inTop L k i * av (gt L i)) L.length ≤ sumTo (fun i => τ * chI bs i - τ * inTop L k i) L.length := by
      refine psum_le _ fun i hi => ?_
      have hi01 : inTop L k i = 0 ∨ inTop L k i = 1 := by unfold inTop; split <;> omega
      have hcs : (chI bs i = 1 ∧ chS L bs i = av (gt L i)) ∨ (chI bs i = 0 ∧ chS L bs i = 0) := by unfold chI chS; split <;> simp
      rcases hi01 with e | e
      · have := t2 i hi e
        rcases hcs with ⟨c1, c2⟩ | ⟨c1, c2⟩
        · rw [e, c1, c2]; omega
        · rw [e, c1, c2]; omega
      · have := t1 i hi e
        rcases hcs with ⟨c1, c2⟩ | ⟨c1, c2⟩
        · rw [e, c1, c2]; omega
        · rw [e, c1, c2]; omega
    rw [psum_sub, psum_sub, sumTo_mul, sumTo_mul, hc, ← hlen] at key
    omega
--END
/-! ### Slices of truths -/
def OwnT (w : World) (base g n : Nat) (bs : List Bool) : Prop := w.ownsRow base 4 1 (.slice (some ⟨g, 0, none⟩) n n) n (bs.map Value.bool)
theorem OwnT.lt {w : World} {base g n : Nat} {bs : List Bool} (h : OwnT w base g n bs) : g < w.heap.size ∧ base ≤ g := by
  obtain ⟨_, ⟨e, _⟩ | ⟨g', _, _, e, hg, hh, _⟩⟩ := h
  · cases e
  · obtain ⟨rfl, _⟩ : g = g' ∧ _ := by simpa using e
    exact ⟨(Array.getElem?_eq_some_iff.1 hh).1, hg⟩
theorem OwnT.cell {w : World} {base g n : Nat} {bs : List Bool} (h : OwnT w base g n bs) (hl : bs.length = n) {j : Nat} (hj : j < n) : w.cell? ⟨g, j, none⟩ = some (.bool (bs[j]?.getD false)) ∧ w.frozen? ⟨g, j, none⟩ = false := by
  have h2 := World.ownsRow.cellAt h j (by omega)
  refine ⟨?_, World.ownsRow.frozenAt h j⟩
  rw [h2]; simp [show j < bs.length by omega]
theorem OwnT.stored {w : World} {base g n : Nat} {bs : List Bool} (h : OwnT w base g n bs) (j : Nat) (x : Bool) : OwnT (w.setCell ⟨g, j, none⟩ (.bool x)) base g n (bs.set j x) := by
  unfold OwnT at *
  rw [List.map_set]
  exact (World.ownsRow.stored h j _).1
theorem OwnT.drewN {w : World} {base g n : Nat} {bs : List Bool} (h : OwnT w base g n bs) (m : Nat) : OwnT (w.drewN m) base g n bs := h
theorem Try.infoBool : (Try.prog.info? 4).map (fun i => (i.zero, i.size, i.bytes)) = some (some (.bool false), 1, 1) := by kernel_rfl
theorem falses_are (n : Nat) : (madeCells (Value.bool false).cells (n * 1)).toList = (List.replicate n false).map Value.bool := by
  rw [Nat.mul_one]
  show (madeCells #[Value.bool false] n).toList = _
  rw [toList_madeCells_one]; simp
end Go.Proofs.Ytacbciamehchjaa
