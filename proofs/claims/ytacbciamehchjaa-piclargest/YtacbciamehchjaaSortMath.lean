
/- Sorting by a comparison that leaves equal sizes in the order of their indexes: plain facts on lists of whole numbers. -/
import Derived.Test.YtacbciamehchjaaSize
import Derived.Test.YtacbciamehchjaaSwap
import Derived.Test.YtacbciamehchjaaCmpF
namespace Go.Proofs.Ytacbciamehchjaa
open Go.RowKit

--BEGIN
def keyL (L : List Int) (v : Int) : Int := av (gt L v.toNat)
/-- u comes ahead of v: its size is greater, or as great and its index less. -/
def bef (L : List Int) (u v : Int) : Prop := keyL L v < keyL L u ∨ (keyL L v = keyL L u ∧ u < v)
theorem bef_trans {L : List Int} {u v x : Int} (h1 : bef L u v) (h2 : bef L v x) : bef L u x := by unfold bef at *; omega
theorem bef_tot {L : List Int} {u v : Int} (h : u ≠ v) : bef L u v ∨ bef L v u := by unfold bef; omega
theorem bef_irr {L : List Int} {u : Int} (h : bef L u u) : False := by unfold bef at h; omega
theorem bef_asym {L : List Int} {u v : Int} (h : bef L u v) (h2 : bef L v u) : False := bef_irr (bef_trans h h2)
/-- What the comparison of two indexes tells, u the lesser one. -/
theorem cmp_less {L : List Int} {u v : Int} (h : u < v) : cmpI (keyL L u) (keyL L v) < 0 ↔ bef L v u := by
  unfold cmpI bef
  split
  · omega
  · split <;> omega
def Srt (L : List Int) (lo hi : Nat) (xs : List Int) : Prop := ∀ p q, lo ≤ p → p < q → q < hi → bef L (gt xs p) (gt xs q)
/-- The numbers from lo below hi are the same ones in another order, all others stay. -/
structure Rearr (lo hi : Nat) (xs ys : List Int) : Prop where
  len : ys.length = xs.length
  out : ∀ k, (k < lo ∨ hi ≤ k) → gt ys k = gt xs k
  set : ∀ v, (∃ k, lo ≤ k ∧ k < hi ∧ gt ys k = v) ↔ (∃ k, lo ≤ k ∧ k < hi ∧ gt xs k = v)
theorem Rearr.refl (lo hi : Nat) (xs : List Int) : Rearr lo hi xs xs := ⟨rfl, fun _ _ => rfl, fun _ => Iff.rfl⟩
theorem Rearr.trans {lo hi : Nat} {xs ys zs : List Int} (h : Rearr lo hi xs ys) (k : Rearr lo hi ys zs) : Rearr lo hi xs zs :=
  ⟨k.len.trans h.len, fun i hi' => (k.out i hi').trans (h.out i hi'), fun v => (k.set v).trans (h.set v)⟩
theorem Rearr.wide {lo hi lo' hi' : Nat} {xs ys : List Int} (h : Rearr lo hi xs ys) (h1 : lo' ≤ lo) (h2 : hi ≤ hi') : Rearr lo' hi' xs ys := by
  refine ⟨h.len, fun k hk => h.out k (by omega), fun v => ⟨?_, ?_⟩⟩
  · rintro ⟨k, k1, k2, e⟩
    by_cases hk : lo ≤ k ∧ k < hi
    · obtain ⟨q, q1, q2, e2⟩ := (h.set v).1 ⟨k, hk.1, hk.2, e⟩
      exact ⟨q, by omega, by omega, e2⟩
    · exact ⟨k, k1, k2, (h.out k (by omega)).symm.trans e⟩
  · rintro ⟨k, k1, k2, e⟩
    by_cases hk : lo ≤ k ∧ k < hi
    · obtain ⟨q, q1, q2, e2⟩ := (h.set v).2 ⟨k, hk.1, hk.2, e⟩
      exact ⟨q, by omega, by omega, e2⟩
    · exact ⟨k, k1, k2, (h.out k (by omega)).trans e⟩
theorem Rearr.all {lo hi : Nat} {xs ys : List Int} (h : Rearr lo hi xs ys) {P : Int → Prop} (hp : ∀ k, lo ≤ k → k < hi → P (gt xs k)) : ∀ k, lo ≤ k → k < hi → P (gt ys k) := fun k k1 k2 => by
  obtain ⟨q, q1, q2, e⟩ := (h.set (gt ys k)).1 ⟨k, k1, k2, rfl⟩
  rw [← e]; exact hp q q1 q2
theorem Rearr.every {lo hi : Nat} {xs ys : List Int} (h : Rearr lo hi xs ys) {P : Int → Prop} (hh : hi ≤ xs.length) (hp : ∀ k, k < xs.length → P (gt xs k)) : ∀ k, k < ys.length → P (gt ys k) := fun k hk => by
  by_cases hk2 : lo ≤ k ∧ k < hi
  · exact h.all (fun q q1 q2 => hp q (by omega)) k hk2.1 hk2.2
  · rw [h.out k (by omega)]; exact hp k (by rw [← h.len]; exact hk)
def swp (xs : List Int) (i j : Nat) : List Int := (xs.set i (gt xs j)).set j (gt xs i)
theorem swp_len (xs : List Int) (i j : Nat) : (swp xs i j).length = xs.length := by simp [swp]
theorem gt_swp {xs : List Int} {i j k : Nat} (hi : i < xs.length) (hj : j < xs.length) : gt (swp xs i j) k = if k = j then gt xs i else if k = i then gt xs j else gt xs k := by
  unfold swp
  rw [gt_set (by rw [List.length_set]; exact hj), gt_set hi]
theorem rearr_swp {xs : List Int} {lo hi i j : Nat} (h1 : lo ≤ i) (h2 : i < hi) (h3 : lo ≤ j) (h4 : j < hi) (hl : hi ≤ xs.length) : Rearr lo hi xs (swp xs i j) := by
  have hg := fun k => gt_swp (xs := xs) (i := i) (j := j) (k := k) (by omega) (by omega)
  refine ⟨swp_len _ _ _, fun k hk => by rw [hg, if_neg (by omega), if_neg (by omega)], fun v => ⟨?_, ?_⟩⟩
  · rintro ⟨k, k1, k2, e⟩
    rw [hg] at e
    split at e
    · exact ⟨i, h1, h2, e⟩
    · split at e
      · exact ⟨j, h3, h4, e⟩
      · exact ⟨k, k1, k2, e⟩
  · rintro ⟨k, k1, k2, e⟩
    by_cases e1 : k = i
    · subst e1; exact ⟨j, h3, h4, by rw [hg, if_pos rfl]; exact e⟩
    · by_cases e2 : k = j
      · subst e2
        refine ⟨i, h1, h2, ?_⟩
        rw [hg]
        by_cases e3 : i = k
        · rw [if_pos e3, ← e, e3]
        · rw [if_neg e3, if_pos rfl]; exact e
      · exact ⟨k, k1, k2, by rw [hg, if_neg e2, if_neg e1]; exact e⟩
/-! ### Insertion -/
/-- While number v is carried down from i: it stands at j. -/
structure Ins (L : List Int) (a i j : Nat) (v : Int) (xs ys : List Int) : Prop where
  re : Rearr a (i + 1) xs ys
  at_ : gt ys j = v
  srt : ∀ p q, a ≤ p → p < q → q ≤ i → p ≠ j → q ≠ j → bef L (gt ys p) (gt ys q)
  up : ∀ q, j < q → q ≤ i → bef L v (gt ys q)
  less : ∀ k, a ≤ k → k ≤ i → k ≠ j → gt ys k < v
theorem Ins.start {L : List Int} {a i : Nat} {xs : List Int} (hs : Srt L a i xs) (hl : ∀ k, a ≤ k → k < i → gt xs k < gt xs i) : Ins L a i i (gt xs i) xs xs :=
  ⟨Rearr.refl _ _ _, rfl, fun p q h1 h2 h3 _ h5 => hs p q h1 h2 (by omega), fun q h1 h2 => by omega, fun k h1 h2 h3 => hl k h1 (by omega)⟩
theorem Ins.step {L : List Int} {a i j : Nat} {v : Int} {xs ys : List Int} (h : Ins L a i j v xs ys) (hj : a < j) (hji : j ≤ i) (hil : i < xs.length) (hb : bef L v (gt ys (j - 1))) : Ins L a i (j - 1) v xs (swp ys j (j - 1)) := by
  have hl := h.re.len
  have hg := fun k => gt_swp (xs := ys) (i := j) (j := j - 1) (k := k) (by omega) (by omega)
  refine ⟨h.re.trans (rearr_swp (by omega) (by omega) (by omega) (by omega) (by omega)), by rw [hg, if_pos rfl, h.at_], ?_, ?_, ?_⟩
  · intro p q h1 h2 h3 h4 h5
    rw [hg, hg, if_neg h4, if_neg h5]
    by_cases ep : p = j
    · rw [if_pos ep, if_neg (by omega)]
      exact h.srt (j - 1) q (by omega) (by omega) h3 (by omega) (by omega)
    · rw [if_neg ep]
      by_cases eq : q = j
      · rw [if_pos eq]; exact h.srt p (j - 1) h1 (by omega) (by omega) ep (by omega)
      · rw [if_neg eq]; exact h.srt p q h1 h2 h3 ep eq
  · intro q h1 h2
    rw [hg, if_neg (by omega)]
    by_cases eq : q = j
    · rw [if_pos eq]; exact hb
    · rw [if_neg eq]; exact h.up q (by omega) h2
  · intro k h1 h2 h3
    rw [hg, if_neg h3]
    by_cases ek : k = j
    · rw [if_pos ek]; exact h.less (j - 1) (by omega) (by omega) (by omega)
    · rw [if_neg ek]; exact h.less k h1 h2 ek
theorem Ins.done {L : List Int} {a i j : Nat} {v : Int} {xs ys : List Int} (h : Ins L a i j v xs ys) (haj : a ≤ j) (hji : j ≤ i) (hb : j = a ∨ ¬ bef L v (gt ys (j - 1))) : Srt L a (i + 1) ys := by
  have low : ∀ p, a ≤ p → p < j → bef L (gt ys p) v := by
    intro p h1 h2
    rcases hb with rfl | hb
    · omega
    · have hne := h.less (j - 1) (by omega) (by omega) (by omega)
      have hb2 : bef L (gt ys (j - 1)) v := by
        rcases bef_tot (L := L) (show gt ys (j - 1) ≠ v by omega) with g | g
        · exact g
        · exact absurd g hb
      by_cases e : p = j - 1
      · rw [e]; exact hb2
      · exact bef_trans (h.srt p (j - 1) h1 (by omega) (by omega) (by omega) (by omega)) hb2
  intro p q h1 h2 h3
  by_cases e1 : p = j
  · rw [e1, h.at_]; exact h.up q (by omega) (by omega)
  · by_cases e2 : q = j
    · rw [e2, h.at_]; exact low p h1 (by omega)
    · exact h.srt p q h1 h2 (by omega) e1 e2
/-! ### One number moved -/
/-- The number at a moved up to k, one place at a time. -/
def upTo (xs : List Int) (a k : Nat) : List Int := (List.range xs.length).map fun p => if a ≤ p ∧ p < k then gt xs (p + 1) else if p = k then gt xs a else gt xs p
theorem upTo_len (xs : List Int) (a k : Nat) : (upTo xs a k).length = xs.length := by simp [upTo]
theorem gt_upTo {xs : List Int} {a k p : Nat} (hp : p < xs.length) : gt (upTo xs a k) p = if a ≤ p ∧ p < k then gt xs (p + 1) else if p = k then gt xs a else gt xs p := gt_map_range _ hp
theorem upTo_start (xs : List Int) (a : Nat) : upTo xs a a = xs := by
  refine list_ext_gt (upTo_len _ _ _) fun p hp => ?_
  rw [upTo_len] at hp
  rw [gt_upTo hp, if_neg (by omega)]
  split
  · rename_i h; rw [h]
  · rfl
theorem upTo_step {xs : List Int} {a k : Nat} (h : a ≤ k) (hk : k + 1 < xs.length) : swp (upTo xs a k) k (k + 1) = upTo xs a (k + 1) := by
  refine list_ext_gt (by rw [swp_len, upTo_len, upTo_len]) fun p hp => ?_
  rw [swp_len, upTo_len] at hp
  rw [gt_swp (by rw [upTo_len]; omega) (by rw [upTo_len]; omega), gt_upTo hp, gt_upTo hp, gt_upTo (by omega), gt_upTo (by omega)]
  by_cases e1 : p = k + 1
  · subst e1
    rw [if_pos rfl, if_neg (by omega), if_pos rfl, if_neg (by omega), if_pos rfl]
  · rw [if_neg e1]
    by_cases e2 : p = k
    · subst e2
      rw [if_pos rfl, if_neg (by omega), if_neg (by omega), if_pos (by omega)]
    · rw [if_neg e2, if_neg e1]
      by_cases h3 : a ≤ p ∧ p < k
      · rw [if_pos h3, if_pos (by omega)]
      · rw [if_neg h3, if_neg e2, if_neg (by omega)]
theorem rearr_upTo {xs : List Int} {a : Nat} : ∀ k, a ≤ k → k < xs.length → Rearr a (k + 1) xs (upTo xs a k)
  | 0, h, hk => by
    obtain rfl : a = 0 := by omega
    rw [upTo_start]; exact Rearr.refl _ _ _
  | k + 1, h, hk => by
    by_cases e : a = k + 1
    · subst e; rw [upTo_start]; exact Rearr.refl _ _ _
    · rw [← upTo_step (by omega) hk]
      exact ((rearr_upTo k (by omega) (by omega)).wide (Nat.le_refl _) (by omega)).trans (rearr_swp (by omega) (by omega) (by omega) (by omega) (by rw [upTo_len]; omega))
/-- The number at m moved down to k. -/
def dnTo (xs : List Int) (m k : Nat) : List Int := (List.range xs.length).map fun p => if k < p ∧ p ≤ m then gt xs (p - 1) else if p = k then gt xs m else gt xs p
theorem dnTo_len (xs : List Int) (a k : Nat) : (dnTo xs a k).length = xs.length := by simp [dnTo]
theorem gt_dnTo {xs : List Int} {m k p : Nat} (hp : p < xs.length) : gt (dnTo xs m k) p = if k < p ∧ p ≤ m then gt xs (p - 1) else if p = k then gt xs m else gt xs p := gt_map_range _ hp
theorem dnTo_start (xs : List Int) (m : Nat) : dnTo xs m m = xs := by
  refine list_ext_gt (dnTo_len _ _ _) fun p hp => ?_
  rw [dnTo_len] at hp
  rw [gt_dnTo hp, if_neg (by omega)]
  split
  · rename_i h; rw [h]
  · rfl
theorem dnTo_step {xs : List Int} {m k : Nat} (h : k + 1 ≤ m) (hk : m < xs.length) : swp (dnTo xs m (k + 1)) (k + 1) k = dnTo xs m k := by
  refine list_ext_gt (by rw [swp_len, dnTo_len, dnTo_len]) fun p hp => ?_
  rw [swp_len, dnTo_len] at hp
  rw [gt_swp (by rw [dnTo_len]; omega) (by rw [dnTo_len]; omega), gt_dnTo hp, gt_dnTo hp, gt_dnTo (by omega), gt_dnTo (by omega)]
  by_cases e1 : p = k
  · subst e1
    rw [if_pos rfl, if_neg (by omega), if_pos rfl, if_neg (by omega), if_pos rfl]
  · rw [if_neg e1]
    by_cases e2 : p = k + 1
    · subst e2
      rw [if_pos rfl, if_neg (by omega), if_neg (by omega), if_pos (by omega), Nat.add_sub_cancel]
    · rw [if_neg e2, if_neg e1]
      by_cases h3 : k + 1 < p ∧ p ≤ m
      · rw [if_pos h3, if_pos (by omega)]
      · rw [if_neg h3, if_neg e2, if_neg (by omega)]
theorem rearr_dnTo {xs : List Int} {m : Nat} (hm : m < xs.length) : ∀ d k, m = k + d → Rearr k (m + 1) xs (dnTo xs m k)
  | 0, k, h => by
    obtain rfl : m = k := by omega
    rw [dnTo_start]; exact Rearr.refl _ _ _
  | d + 1, k, h => by
    rw [← dnTo_step (by omega) hm]
    exact ((rearr_dnTo hm d (k + 1) (by omega)).wide (by omega) (Nat.le_refl _)).trans (rearr_swp (by omega) (by omega) (by omega) (by omega) (by rw [dnTo_len]; omega))
/-! ### Rotation -/
def rotL (xs : List Int) (m i j : Nat) : List Int := (List.range xs.length).map fun k => if m - i ≤ k ∧ k < m + j then (if k < m - i + j then gt xs (k + i) else gt xs (k - j)) else gt xs k
theorem rotL_len (xs : List Int) (m i j : Nat) : (rotL xs m i j).length = xs.length := by simp [rotL]
theorem gt_rotL {xs : List Int} {m i j k : Nat} (hk : k < xs.length) : gt (rotL xs m i j) k = if m - i ≤ k ∧ k < m + j then (if k < m - i + j then gt xs (k + i) else gt xs (k - j)) else gt xs k := gt_map_range _ hk
theorem rot_more {xs : List Int} {m i j : Nat} (hj : j < i) (him : i ≤ m) (hl : m + j ≤ xs.length) : rotL (swapTo xs (m - i) m j) m (i - j) j = rotL xs m i j := by
  refine list_ext_gt (by rw [rotL_len, swapTo_len, rotL_len]) fun k hk => ?_
  rw [rotL_len, swapTo_len] at hk
  rw [gt_rotL (by rw [swapTo_len]; exact hk), gt_rotL hk]
  by_cases h1 : m - i ≤ k ∧ k < m + j
  · rw [if_pos h1]
    by_cases h2 : m - (i - j) ≤ k ∧ k < m + j
    · rw [if_pos h2]
      by_cases h3 : k < m - (i - j) + j
      · rw [if_pos h3, swapTo_gt (by omega), if_neg (by omega), if_pos (by omega), if_neg (by omega)]
        congr 1; omega
      · rw [if_neg h3, swapTo_gt (by omega), if_neg (by omega), if_neg (by omega), if_neg (by omega)]
    · rw [if_neg h2, swapTo_gt hk, if_pos (by omega), if_pos (by omega)]
      congr 1; omega
  · rw [if_neg h1, if_neg (by omega), swapTo_gt hk, if_neg (by omega), if_neg (by omega)]
theorem rot_less {xs : List Int} {m i j : Nat} (hj : i < j) (him : i ≤ m) (hl : m + j ≤ xs.length) : rotL (swapTo xs (m - i) (m + j - i) i) m i (j - i) = rotL xs m i j := by
  refine list_ext_gt (by rw [rotL_len, swapTo_len, rotL_len]) fun k hk => ?_
  rw [rotL_len, swapTo_len] at hk
  rw [gt_rotL (by rw [swapTo_len]; exact hk), gt_rotL hk]
  by_cases h1 : m - i ≤ k ∧ k < m + j
  · rw [if_pos h1]
    by_cases h2 : m - i ≤ k ∧ k < m + (j - i)
    · rw [if_pos h2]
      by_cases h3 : k < m - i + (j - i)
      · rw [if_pos h3, if_pos (by omega), swapTo_gt (by omega), if_neg (by omega), if_neg (by omega)]
      · rw [if_neg h3, swapTo_gt (by omega), if_pos (by omega)]
        by_cases h4 : k < m - i + j
        · rw [if_pos h4]; congr 1; omega
        · exfalso; omega
    · rw [if_neg h2, swapTo_gt hk, if_neg (by omega), if_pos (by omega), if_neg (by omega)]
      congr 1; omega
  · rw [if_neg h1, if_neg (by omega), swapTo_gt hk, if_neg (by omega), if_neg (by omega)]
theorem rot_same {xs : List Int} {m i : Nat} (him : i ≤ m) : swapTo xs (m - i) m i = rotL xs m i i := by
  refine list_ext_gt (by rw [swapTo_len, rotL_len]) fun k hk => ?_
  rw [swapTo_len] at hk
  rw [gt_rotL hk, swapTo_gt hk]
  by_cases h1 : m - i ≤ k ∧ k < m - i + i
  · rw [if_pos h1, if_pos (by omega), if_pos (by omega)]; congr 1; omega
  · rw [if_neg h1]
    by_cases h2 : m ≤ k ∧ k < m + i
    · rw [if_pos h2, if_pos (by omega), if_neg (by omega)]; congr 1; omega
    · rw [if_neg h2, if_neg (by omega)]
theorem rearr_rotL {xs : List Int} {m i j : Nat} (him : i ≤ m) (hl : m + j ≤ xs.length) : Rearr (m - i) (m + j) xs (rotL xs m i j) := by
  refine ⟨rotL_len _ _ _ _, fun k hk => ?_, fun v => ⟨?_, ?_⟩⟩
  · by_cases hk2 : k < xs.length
    · rw [gt_rotL hk2, if_neg (by omega)]
    · unfold gt; rw [List.getElem?_eq_none (by rw [rotL_len]; omega), List.getElem?_eq_none (by omega)]
  · rintro ⟨k, k1, k2, e⟩
    rw [gt_rotL (by omega), if_pos ⟨k1, k2⟩] at e
    split at e
    · exact ⟨k + i, by omega, by omega, e⟩
    · exact ⟨k - j, by omega, by omega, e⟩
  · rintro ⟨k, k1, k2, e⟩
    by_cases h : k < m
    · exact ⟨k + j, by omega, by omega, by rw [gt_rotL (by omega), if_pos (by omega), if_neg (by omega), Nat.add_sub_cancel]; exact e⟩
    · exact ⟨k - i, by omega, by omega, by rw [gt_rotL (by omega), if_pos (by omega), if_pos (by omega), Nat.sub_add_cancel (by omega)]; exact e⟩
--END
end Go.Proofs.Ytacbciamehchjaa
