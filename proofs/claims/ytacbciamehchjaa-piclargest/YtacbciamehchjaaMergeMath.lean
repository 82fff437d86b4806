
/- Merging two sorted neighbours by halves: plain facts. -/
import Derived.Test.YtacbciamehchjaaSortMath
namespace Go.Proofs.Ytacbciamehchjaa
open Go.RowKit

--BEGIN
structure Mg (L : List Int) (a m b : Nat) (xs : List Int) : Prop where
  lo : Srt L a m xs
  hi : Srt L m b xs
  lt : ∀ p q, a ≤ p → p < m → m ≤ q → q < b → gt xs p < gt xs q
theorem Srt.le {L : List Int} {a b : Nat} {xs : List Int} (h : Srt L a b xs) {p q : Nat} (h1 : a ≤ p) (h2 : p ≤ q) (h3 : q < b) : gt xs p = gt xs q ∨ bef L (gt xs p) (gt xs q) := by
  rcases Nat.lt_or_ge p q with g | g
  · exact .inr (h p q h1 g h3)
  · obtain rfl : p = q := by omega
    exact .inl rfl
theorem bef_le {L : List Int} {u v x : Int} (h1 : u = v ∨ bef L u v) (h2 : bef L v x) : bef L u x := by
  rcases h1 with rfl | h
  · exact h2
  · exact bef_trans h h2
theorem le_bef {L : List Int} {u v x : Int} (h1 : bef L u v) (h2 : v = x ∨ bef L v x) : bef L u x := by
  rcases h2 with rfl | h
  · exact h1
  · exact bef_trans h1 h
theorem merge_one {L : List Int} {a b k : Nat} {xs : List Int} (hs : Srt L (a + 1) b xs) (hk : a ≤ k) (hb : k < b) (hl : b ≤ xs.length) (h1 : ∀ q, a < q → q ≤ k → bef L (gt xs q) (gt xs a)) (h2 : ∀ q, k < q → q < b → bef L (gt xs a) (gt xs q)) : Srt L a b (upTo xs a k) ∧ Rearr a b xs (upTo xs a k) := by
  refine ⟨fun p q hp hpq hq => ?_, (rearr_upTo k hk (by omega)).wide (Nat.le_refl _) (by omega)⟩
  rw [gt_upTo (by omega), gt_upTo (by omega)]
  by_cases e1 : p < k
  · rw [if_pos (by omega)]
    by_cases e2 : q < k
    · rw [if_pos (by omega)]; exact hs _ _ (by omega) (by omega) (by omega)
    · rw [if_neg (by omega)]
      by_cases e3 : q = k
      · rw [if_pos e3]; exact h1 _ (by omega) (by omega)
      · rw [if_neg e3]; exact hs _ _ (by omega) (by omega) (by omega)
  · rw [if_neg (by omega)]
    by_cases e2 : p = k
    · rw [if_pos e2, if_neg (by omega), if_neg (by omega)]; exact h2 _ (by omega) (by omega)
    · rw [if_neg e2, if_neg (by omega), if_neg (by omega)]; exact hs _ _ (by omega) (by omega) (by omega)
theorem merge_last {L : List Int} {a m k : Nat} {xs : List Int} (hs : Srt L a m xs) (ha : a ≤ k) (hk : k ≤ m) (hl : m < xs.length) (h1 : ∀ q, a ≤ q → q < k → bef L (gt xs q) (gt xs m)) (h2 : ∀ q, k ≤ q → q < m → bef L (gt xs m) (gt xs q)) : Srt L a (m + 1) (dnTo xs m k) ∧ Rearr a (m + 1) xs (dnTo xs m k) := by
  refine ⟨fun p q hp hpq hq => ?_, (rearr_dnTo hl (m - k) k (by omega)).wide (by omega) (Nat.le_refl _)⟩
  rw [gt_dnTo (by omega), gt_dnTo (by omega)]
  by_cases e1 : p < k
  · rw [if_neg (by omega), if_neg (by omega)]
    by_cases e2 : q < k
    · rw [if_neg (by omega), if_neg (by omega)]; exact hs _ _ hp hpq (by omega)
    · by_cases e3 : q = k
      · rw [if_neg (by omega), if_pos e3]; exact h1 _ hp e1
      · rw [if_pos (by omega)]; exact hs _ _ hp (by omega) (by omega)
  · by_cases e2 : p = k
    · rw [if_neg (by omega), if_pos e2, if_pos (by omega)]; exact h2 _ (by omega) (by omega)
    · rw [if_pos (by omega), if_pos (by omega)]; exact hs _ _ (by omega) (by omega) (by omega)
/-! ### By halves -/
structure Half (L : List Int) (a m b mid s e : Nat) (xs : List Int) : Prop where
  as_ : a ≤ s
  sm : s ≤ m
  me : m ≤ e
  eb : e ≤ b
  smid : s ≤ mid
  mide : mid ≤ e
  sum : s + e = mid + m
  c1 : a < s → e < b → bef L (gt xs (s - 1)) (gt xs e)
  c2 : s < m → m < e → bef L (gt xs (e - 1)) (gt xs s)
def hlf (xs : List Int) (m s e : Nat) : List Int := rotL xs m (m - s) (e - m)
theorem hlf_gt {L : List Int} {a m b mid s e : Nat} {xs : List Int} (h : Half L a m b mid s e xs) (hl : b ≤ xs.length) {k : Nat} (hk : k < b) : gt (hlf xs m s e) k = if k < s then gt xs k else if k < mid then gt xs (k + (m - s)) else if k < e then gt xs (k - (e - m)) else gt xs k := by
  obtain ⟨h1, h2, h3, h4, h5, h6, h7, _, _⟩ := h
  unfold hlf
  rw [gt_rotL (by omega)]
  by_cases e1 : k < s
  · rw [if_neg (by omega), if_pos e1]
  · rw [if_neg e1]
    by_cases e2 : k < mid
    · rw [if_pos (by omega), if_pos (by omega), if_pos e2]
    · rw [if_neg e2]
      by_cases e3 : k < e
      · rw [if_pos (by omega), if_neg (by omega), if_pos e3]
      · rw [if_neg (by omega), if_neg e3]
theorem hlf_none {L : List Int} {a m b mid s e : Nat} {xs : List Int} (h : Half L a m b mid s e xs) (hn : ¬ (s < m ∧ m < e)) : hlf xs m s e = xs := by
  obtain ⟨h1, h2, h3, h4, h5, h6, h7, _, _⟩ := h
  refine list_ext_gt (rotL_len _ _ _ _) fun k hk => ?_
  unfold hlf at hk ⊢
  rw [rotL_len] at hk
  rw [gt_rotL hk]
  by_cases e1 : m - (m - s) ≤ k ∧ k < m + (e - m)
  · rw [if_pos e1]
    split
    · congr 1; omega
    · congr 1; omega
  · rw [if_neg e1]
theorem hlf_len (xs : List Int) (m s e : Nat) : (hlf xs m s e).length = xs.length := rotL_len _ _ _ _
theorem hlf_rearr {L : List Int} {a m b mid s e : Nat} {xs : List Int} (h : Half L a m b mid s e xs) (hl : b ≤ xs.length) : Rearr a b xs (hlf xs m s e) := by
  obtain ⟨h1, h2, h3, h4, h5, h6, h7, _, _⟩ := h
  exact (rearr_rotL (by omega) (by omega)).wide (by omega) (by omega)
theorem half_left {L : List Int} {a m b mid s e : Nat} {xs : List Int} (h : Half L a m b mid s e xs) (hm : Mg L a m b xs) (hl : b ≤ xs.length) : Mg L a s mid (hlf xs m s e) := by
  have hg := fun k hk => hlf_gt h hl (k := k) hk
  obtain ⟨h1, h2, h3, h4, h5, h6, h7, _, _⟩ := h
  refine ⟨fun p q p1 p2 p3 => ?_, fun p q p1 p2 p3 => ?_, fun p q p1 p2 p3 p4 => ?_⟩
  · rw [hg p (by omega), hg q (by omega), if_pos (by omega), if_pos (by omega)]; exact hm.lo _ _ p1 p2 (by omega)
  · rw [hg p (by omega), hg q (by omega), if_neg (by omega), if_pos (by omega), if_neg (by omega), if_pos (by omega)]; exact hm.hi _ _ (by omega) (by omega) (by omega)
  · rw [hg p (by omega), hg q (by omega), if_pos (by omega), if_neg (by omega), if_pos (by omega)]; exact hm.lt _ _ p1 (by omega) (by omega) (by omega)
theorem half_right {L : List Int} {a m b mid s e : Nat} {xs : List Int} (h : Half L a m b mid s e xs) (hm : Mg L a m b xs) (hl : b ≤ xs.length) : Mg L mid e b (hlf xs m s e) := by
  have hg := fun k hk => hlf_gt h hl (k := k) hk
  obtain ⟨h1, h2, h3, h4, h5, h6, h7, _, _⟩ := h
  refine ⟨fun p q p1 p2 p3 => ?_, fun p q p1 p2 p3 => ?_, fun p q p1 p2 p3 p4 => ?_⟩
  · rw [hg p (by omega), hg q (by omega), if_neg (by omega), if_neg (by omega), if_pos (by omega), if_neg (by omega), if_neg (by omega), if_pos (by omega)]; exact hm.lo _ _ (by omega) (by omega) (by omega)
  · rw [hg p (by omega), hg q (by omega), if_neg (by omega), if_neg (by omega), if_neg (by omega), if_neg (by omega), if_neg (by omega), if_neg (by omega)]; exact hm.hi _ _ (by omega) (by omega) (by omega)
  · rw [hg p (by omega), hg q (by omega), if_neg (by omega), if_neg (by omega), if_pos (by omega), if_neg (by omega), if_neg (by omega), if_neg (by omega)]; exact hm.lt _ _ (by omega) (by omega) (by omega) (by omega)
theorem half_across {L : List Int} {a m b mid s e : Nat} {xs : List Int} (h : Half L a m b mid s e xs) (hm : Mg L a m b xs) (hl : b ≤ xs.length) : ∀ p q, a ≤ p → p < mid → mid ≤ q → q < b → bef L (gt (hlf xs m s e) p) (gt (hlf xs m s e) q) := by
  have hg := fun k hk => hlf_gt h hl (k := k) hk
  obtain ⟨h1, h2, h3, h4, h5, h6, h7, c1, c2⟩ := h
  intro p q p1 p2 p3 p4
  rw [hg p (by omega), hg q (by omega)]
  by_cases e1 : p < s
  · rw [if_pos e1, if_neg (by omega), if_neg (by omega)]
    by_cases e2 : q < e
    · rw [if_pos e2]; exact hm.lo _ _ p1 (by omega) (by omega)
    · rw [if_neg e2]
      exact bef_le (hm.lo.le p1 (show p ≤ s - 1 by omega) (by omega)) (le_bef (c1 (by omega) (by omega)) (hm.hi.le (by omega) (show e ≤ q by omega) p4))
  · rw [if_neg e1, if_pos p2, if_neg (by omega), if_neg (by omega)]
    by_cases e2 : q < e
    · rw [if_pos e2]
      exact bef_le (hm.hi.le (by omega) (show p + (m - s) ≤ e - 1 by omega) (by omega)) (le_bef (c2 (by omega) (by omega)) (hm.lo.le (by omega) (show s ≤ q - (e - m) by omega) (by omega)))
    · rw [if_neg e2]; exact hm.hi _ _ (by omega) (by omega) (by omega)
theorem half_done {L : List Int} {a m b mid s e : Nat} {xs zs us : List Int} (h : Half L a m b mid s e xs) (hm : Mg L a m b xs) (hl : b ≤ xs.length)
    (hz : Rearr a mid (hlf xs m s e) zs) (sz : Srt L a mid zs) (hu : Rearr mid b zs us) (su : Srt L mid b us) : Srt L a b us ∧ Rearr a b xs us := by
  have hab := half_across h hm hl
  have hr := hlf_rearr h hl
  obtain ⟨h1, h2, h3, h4, h5, h6, h7, _, _⟩ := h
  refine ⟨fun p q p1 p2 p3 => ?_, (hr.trans (hz.wide (Nat.le_refl _) (by omega))).trans (hu.wide (by omega) (Nat.le_refl _))⟩
  by_cases e1 : q < mid
  · rw [hu.out p (by omega), hu.out q (by omega)]; exact sz p q p1 p2 e1
  · by_cases e2 : mid ≤ p
    · exact su p q e2 p2 p3
    · rw [hu.out p (by omega)]
      refine hu.all (P := fun v => bef L (gt zs p) v) (fun k k1 k2 => ?_) q (by omega) p3
      rw [hz.out k (by omega)]
      exact hz.all (P := fun v => bef L v (gt (hlf xs m s e) k)) (fun j j1 j2 => hab j k j1 j2 k1 k2) p p1 (by omega)
theorem half_next {L : List Int} {a m b mid s e : Nat} {xs zs : List Int} (h : Half L a m b mid s e xs) (hm : Mg L a m b xs) (hl : b ≤ xs.length) (hz : Rearr a mid (hlf xs m s e) zs) : Mg L mid e b zs := by
  have k := half_right h hm hl
  obtain ⟨h1, h2, h3, h4, h5, h6, h7, _, _⟩ := h
  refine ⟨fun p q p1 p2 p3 => ?_, fun p q p1 p2 p3 => ?_, fun p q p1 p2 p3 p4 => ?_⟩
  · rw [hz.out p (by omega), hz.out q (by omega)]; exact k.lo p q p1 p2 p3
  · rw [hz.out p (by omega), hz.out q (by omega)]; exact k.hi p q p1 p2 p3
  · rw [hz.out p (by omega), hz.out q (by omega)]; exact k.lt p q p1 p2 p3 p4
theorem half_skip1 {L : List Int} {a m b mid s e : Nat} {xs : List Int} (h : Half L a m b mid s e xs) (hm : Mg L a m b xs) (hl : b ≤ xs.length) (hn : ¬ (a < s ∧ s < mid)) : Srt L a mid (hlf xs m s e) := by
  have k := half_left h hm hl
  obtain ⟨h1, h2, h3, h4, h5, h6, h7, _, _⟩ := h
  by_cases e1 : s = a
  · subst e1; exact k.hi
  · obtain rfl : s = mid := by omega
    exact k.lo
theorem half_skip2 {L : List Int} {a m b mid s e : Nat} {xs zs : List Int} (h : Half L a m b mid s e xs) (hm : Mg L a m b xs) (hl : b ≤ xs.length) (hz : Rearr a mid (hlf xs m s e) zs) (hn : ¬ (mid < e ∧ e < b)) : Srt L mid b zs := by
  have k := half_next h hm hl hz
  obtain ⟨h1, h2, h3, h4, h5, h6, h7, _, _⟩ := h
  by_cases e1 : e = mid
  · subst e1; exact k.hi
  · obtain rfl : e = b := by omega
    exact k.lo
/-- The search for where to part the two ranges. -/
structure Find (L : List Int) (lo hi n s r : Nat) (xs : List Int) : Prop where
  a : lo ≤ s
  b : s ≤ r
  c : r ≤ hi
  l : ∀ c, lo ≤ c → c < s → bef L (gt xs c) (gt xs (n - 1 - c))
  r : ∀ c, r ≤ c → c < hi → bef L (gt xs (n - 1 - c)) (gt xs c)
theorem Find.start (L : List Int) {lo hi : Nat} (n : Nat) (xs : List Int) (h : lo ≤ hi) : Find L lo hi n lo hi xs := ⟨Nat.le_refl _, h, Nat.le_refl _, fun c h1 h2 => by omega, fun c h1 h2 => by omega⟩
theorem find_half {L : List Int} {a m b mid lo hi s : Nat} {xs : List Int} (h1 : a < m) (h2 : m < b) (hmid : mid = (a + b) / 2) (hc : (mid < m ∧ lo = mid + m - b ∧ hi = mid) ∨ (m ≤ mid ∧ lo = a ∧ hi = m)) (f : Find L lo hi (mid + m) s s xs) : Half L a m b mid s (mid + m - s) xs := by
  obtain ⟨f1, f2, f3, f4, f5⟩ := f
  refine ⟨by omega, by omega, by omega, by omega, by omega, by omega, by omega, fun g1 g2 => ?_, fun g1 g2 => ?_⟩
  · have := f4 (s - 1) (by omega) (by omega)
    rwa [show mid + m - 1 - (s - 1) = mid + m - s by omega] at this
  · have := f5 s (Nat.le_refl _) (by omega)
    rwa [show mid + m - 1 - s = mid + m - s - 1 by omega] at this
theorem Find.up {L : List Int} {a m b mid lo hi s r c : Nat} {xs : List Int} (hm : Mg L a m b xs) (h2 : m < b) (hmid : mid = (a + b) / 2) (hc : (mid < m ∧ lo = mid + m - b ∧ hi = mid) ∨ (m ≤ mid ∧ lo = a ∧ hi = m)) (f : Find L lo hi (mid + m) s r xs) (h3 : s ≤ c) (h4 : c < r) (hb : bef L (gt xs c) (gt xs (mid + m - 1 - c))) : Find L lo hi (mid + m) (c + 1) r xs := by
  obtain ⟨f1, f2, f3, f4, f5⟩ := f
  refine ⟨by omega, by omega, f3, fun d d1 d2 => ?_, f5⟩
  exact bef_le (hm.lo.le (by omega) (show d ≤ c by omega) (by omega)) (le_bef hb (hm.hi.le (by omega) (show mid + m - 1 - c ≤ mid + m - 1 - d by omega) (by omega)))
theorem Find.dn {L : List Int} {a m b mid lo hi s r c : Nat} {xs : List Int} (hm : Mg L a m b xs) (h2 : m < b) (hmid : mid = (a + b) / 2) (hc : (mid < m ∧ lo = mid + m - b ∧ hi = mid) ∨ (m ≤ mid ∧ lo = a ∧ hi = m)) (f : Find L lo hi (mid + m) s r xs) (h3 : s ≤ c) (h4 : c < r) (hb : bef L (gt xs (mid + m - 1 - c)) (gt xs c)) : Find L lo hi (mid + m) s c xs := by
  obtain ⟨f1, f2, f3, f4, f5⟩ := f
  refine ⟨f1, h3, by omega, f4, fun d d1 d2 => ?_⟩
  exact bef_le (hm.hi.le (by omega) (show mid + m - 1 - d ≤ mid + m - 1 - c by omega) (by omega)) (le_bef hb (hm.lo.le (by omega) (show c ≤ d by omega) (by omega)))
--END
end Go.Proofs.Ytacbciamehchjaa
