/- What is transformed is undone: plain facts on the transforms of a power. -/
import Derived.Test.YtibopjfmcdcgbaaUnl
namespace Go.Proofs.Ytibopjfmcdcgbaa
open Go.RowKit

theorem gt_bd {xs : List Int} {M : Int} (h : allB M xs = true) {k : Nat} (hk : k < xs.length) : -M ≤ gt xs k ∧ gt xs k ≤ M := by
  have := allB_get h (k := k) (x := xs[k]) (by simp [hk])
  unfold gt; simpa [hk] using this
theorem allB_of {xs : List Int} {M : Int} (h : ∀ k, k < xs.length → -M ≤ gt xs k ∧ gt xs k ≤ M) : allB M xs = true := by
  refine allB_yes fun j hj => ?_
  have := h j hj
  unfold gt at this
  simp [outB]; omega
theorem valid_all {xs : List Int} (h : validListB xs = true) : allB 1000000 xs = true := by simp [validListB] at h; exact h.2
/-- Walsh is undone by Unwalsh. -/
theorem unwalsh_back {xs : List Int} (h : powerB xs = true) : unwV (walshTo xs (lg xs.length)) = (xs, 0) := by
  obtain ⟨hv, hpw⟩ := powerB_of h
  obtain ⟨p, hp8, hx⟩ := powB_two hpw
  have hle := powB_le hpw
  have hall := valid_all hv
  have hc : (2 : Int) ^ p = (xs.length : Int) := by rw [hx]; simp
  have hwl : (walshTo xs (lg xs.length)).length = xs.length := walshTo_length _ _
  have G := walshTo_get (p := p) (by omega) xs hx (M := 1000000) (by omega) (fun i hi => gt_bd hall (by omega)) p (Nat.le_refl _)
  have hlg : lg xs.length = p := lg_pow hpw hx
  rw [hlg] at hwl ⊢
  have hwb : ∀ i, i < xs.length → -256000000 ≤ gt (walshTo xs p) i ∧ gt (walshTo xs p) i ≤ 256000000 := fun i hi => by
    obtain ⟨e, h1, h2⟩ := G i (by omega)
    rw [hc] at h1 h2
    rw [e]; omega
  have hA : allB 256000000 (walshTo xs p) = true := allB_of (by rw [hwl]; exact hwb)
  have G2 := walshTo_get (p := p) (by omega) (walshTo xs p) (by rw [hwl, hx]) (M := 256000000) (by omega) (fun i hi => hwb i (by omega)) p (Nat.le_refl _)
  have cong : ∀ j, j ≤ p → ∀ i, i < 2 ^ p → Wf (gt (walshTo xs p)) j i = Wf (Wf (gt xs) p) j i := by
    intro j
    induction j with
    | zero => intro _ i hi; exact (G i hi).1
    | succ j ih => intro hj i hi; exact Bk_congr (by omega) (ih (by omega)) hi
  have hz : ∀ i, i < xs.length → gt (walshTo (walshTo xs p) p) i = gt xs i * xs.length := fun i hi => by
    rw [(G2 i (by omega)).1, cong p (Nat.le_refl _) i (by omega), Wf_twice, hc, Int.mul_comm]
  have hzl : (walshTo (walshTo xs p) p).length = xs.length := by rw [walshTo_length, hwl]
  have hn0 : (xs.length : Int) ≠ 0 := by omega
  have hD : Div (walshTo (walshTo xs p) (lg (walshTo xs p).length)) (walshTo xs p).length (walshTo xs p).length xs := by
    rw [hwl, hlg]
    refine ⟨hzl.symm, fun j hj => ?_, fun j hj => ?_⟩
    · rw [hz j hj]
      exact ⟨Int.mul_tmod_left _ _, (Int.mul_tdiv_cancel _ hn0).symm⟩
    · unfold gt
      rw [List.getElem?_eq_none (by omega), List.getElem?_eq_none (by omega)]
  have := unwV_4 (xs := walshTo xs p) (by rw [hwl]; exact hpw) hA hD
  rw [this, if_pos hall]
/-- A split's numbers, where nothing wraps round. -/
theorem join_split {m : Nat} {ys : List Int} (hm : m ≤ 128) (hy : 2 * m ≤ ys.length) (hb : ∀ i, i < 2 * m → -1000000 ≤ gt ys i ∧ gt ys i ≤ 1000000) : joinL m (splitL m ys) = ys := by
  have S := split_is hm hy
  have hl : (splitL m ys).length = ys.length := splitL_length _ _
  have J := join_is (ys := splitL m ys) hm (by rw [hl]; exact hy)
  refine J.uniq ⟨hl.symm, fun j hj => ?_, fun j hj => ?_⟩
  · have b1 := hb (2 * j) (by omega)
    have b2 := hb (2 * j + 1) (by omega)
    have w1 : IntKind.i64.wrap (gt ys (2 * j) + gt ys (2 * j + 1)) = gt ys (2 * j) + gt ys (2 * j + 1) := IntWalk.i64_in _ (by omega)
    have w2 : IntKind.i64.wrap (gt ys (2 * j) - gt ys (2 * j + 1)) = gt ys (2 * j) - gt ys (2 * j + 1) := IntWalk.i64_in _ (by omega)
    have hB : jnB (splitL m ys) m j = gt ys (2 * j + 1) := by
      unfold jnB
      rw [S.a j hj, S.b j hj]
      unfold spA spB
      rw [w1, w2, IntWalk.i64_in _ (by omega)]; omega
    refine ⟨?_, hB.symm⟩
    unfold jnA
    rw [hB, S.b j hj]
    unfold spB
    rw [w2, IntWalk.i64_in _ (by omega)]; omega
  · rw [S.rest j (by omega)]
/-- How great a lift's numbers are. -/
theorem lift_bd {xs : List Int} {p : Nat} (hp : p ≤ 8) (hx : xs.length = 2 ^ p) (hall : allB 1000000 xs = true) : ∀ j, j ≤ p →
    (∀ i, i < 2 ^ (p - j) → -1000000 ≤ gt (liftTo xs j) i ∧ gt (liftTo xs j) i ≤ 1000000) ∧ (∀ i, i < xs.length → -2000000 ≤ gt (liftTo xs j) i ∧ gt (liftTo xs j) i ≤ 2000000)
  | 0, _ => ⟨fun i hi => gt_bd hall (by simpa [hx] using hi), fun i hi => by have := gt_bd hall hi; show -2000000 ≤ gt xs i ∧ gt xs i ≤ 2000000; omega⟩
  | j + 1, hj => by
    obtain ⟨h1, h2⟩ := lift_bd hp hx hall j (by omega)
    have e0 : xs.length / 2 ^ (j + 1) = 2 ^ (p - (j + 1)) := by rw [hx, Nat.pow_div hj (by omega)]
    have e2 : 2 ^ (p - j) = 2 ^ (p - (j + 1)) * 2 := by rw [← Nat.pow_succ]; congr 1; omega
    have e3 : 2 ^ (p - (j + 1)) ≤ 2 ^ 7 := Nat.pow_le_pow_right (by omega) (by omega)
    have e4 : 2 ^ (p - j) ≤ 2 ^ p := Nat.pow_le_pow_right (by omega) (by omega)
    have hL : liftTo xs (j + 1) = splitL (2 ^ (p - (j + 1))) (liftTo xs j) := by show splitL (xs.length / 2 ^ (j + 1)) _ = _; rw [e0]
    rw [hL]
    generalize 2 ^ (p - (j + 1)) = m at *
    have hll : (liftTo xs j).length = xs.length := liftTo_length _ _
    have S := split_is (m := m) (ys := liftTo xs j) (by omega) (by rw [hll, hx]; omega)
    have A : ∀ i, i < m → -1000000 ≤ gt (splitL m (liftTo xs j)) i ∧ gt (splitL m (liftTo xs j)) i ≤ 1000000 := fun i hi => by
      have b1 := h1 (2 * i) (by omega)
      have b2 := h1 (2 * i + 1) (by omega)
      rw [S.a i hi]; unfold spA
      rw [IntWalk.i64_in _ (by omega)]; omega
    refine ⟨A, fun i hi => ?_⟩
    rcases Nat.lt_or_ge i m with c | c
    · have := A i c; omega
    · rcases Nat.lt_or_ge i (2 * m) with c2 | c2
      · obtain ⟨q, rfl⟩ : ∃ q, i = m + q := ⟨i - m, by omega⟩
        have b1 := h1 (2 * q) (by omega)
        have b2 := h1 (2 * q + 1) (by omega)
        rw [S.b q (by omega)]; unfold spB
        rw [IntWalk.i64_in _ (by omega)]; omega
      · rw [S.rest i (by omega)]; exact h2 i hi
/-- Lift is undone by Unlift. -/
theorem unlift_back {xs : List Int} (h : powerB xs = true) : unlV (liftTo xs (lg xs.length)) = (xs, 0) := by
  obtain ⟨hv, hpw⟩ := powerB_of h
  obtain ⟨p, hp8, hx⟩ := powB_two hpw
  have hall := valid_all hv
  have hlg : lg xs.length = p := lg_pow hpw hx
  have hll : ∀ j, (liftTo xs j).length = xs.length := fun j => liftTo_length _ _
  have B := lift_bd hp8 hx hall
  have hback : ∀ k, k ≤ p → unlTo (liftTo xs p) k = liftTo xs (p - k) := by
    intro k
    induction k with
    | zero => intro _; rfl
    | succ k ih =>
      intro hk
      show joinL (2 ^ k) (unlTo (liftTo xs p) k) = _
      rw [ih (by omega)]
      obtain ⟨j, hj⟩ : ∃ j, p - k = j + 1 := ⟨p - k - 1, by omega⟩
      have e1 : p - (k + 1) = j := by omega
      have e2 : p - (j + 1) = k := by omega
      have e0 : xs.length / 2 ^ (j + 1) = 2 ^ k := by rw [hx, Nat.pow_div (by omega) (by omega), e2]
      rw [hj, e1]
      show joinL (2 ^ k) (splitL (xs.length / 2 ^ (j + 1)) (liftTo xs j)) = _
      rw [e0]
      have e3 : 2 ^ k ≤ 2 ^ 7 := Nat.pow_le_pow_right (by omega) (by omega)
      have e4 : 2 * 2 ^ k = 2 ^ (p - j) := by rw [show p - j = k + 1 by omega, Nat.pow_succ, Nat.mul_comm]
      have e5 : 2 ^ (p - j) ≤ 2 ^ p := Nat.pow_le_pow_right (by omega) (by omega)
      exact join_split (by omega) (by rw [hll, hx]; omega) (fun i hi => (B j (by omega)).1 i (by omega))
  have := unlV_4 (xs := liftTo xs p) (by rw [hll]; exact hpw) (allB_of (by rw [hll]; exact (B p (Nat.le_refl _)).2)) (by rw [hll]; exact hx)
  rw [hback p (Nat.le_refl _), Nat.sub_self] at this
  rw [hlg, this]
  show (if allB 1000000 xs = true then (xs, 0) else ([], 4)) = _
  rw [if_pos hall]
/-- The transform of a sum. -/
theorem walsh_sum {xs ys zs : List Int} (hx : powerB xs = true) (hy : powerB ys = true) (hz : powerB zs = true) (h1 : ys.length = xs.length) (h2 : zs.length = xs.length) (hs : ∀ i, i < xs.length → gt zs i = gt xs i + gt ys i) :
    ∀ i, i < xs.length → gt (walshTo zs (lg zs.length)) i = gt (walshTo xs (lg xs.length)) i + gt (walshTo ys (lg ys.length)) i ∧ (-256000000 ≤ gt (walshTo xs (lg xs.length)) i ∧ gt (walshTo xs (lg xs.length)) i ≤ 256000000) ∧ (-256000000 ≤ gt (walshTo ys (lg ys.length)) i ∧ gt (walshTo ys (lg ys.length)) i ≤ 256000000) := by
  obtain ⟨vx, hpw⟩ := powerB_of hx
  obtain ⟨p, hp8, hxl⟩ := powB_two hpw
  have hle := powB_le hpw
  have hlg : lg xs.length = p := lg_pow hpw hxl
  have ax := valid_all vx
  have ay := valid_all (powerB_of hy).1
  have az := valid_all (powerB_of hz).1
  have hc : (2 : Int) ^ p = (xs.length : Int) := by rw [hxl]; simp
  rw [h1, h2, hlg]
  have GX := walshTo_get (p := p) (by omega) xs hxl (M := 1000000) (by omega) (fun i hi => gt_bd ax (by omega)) p (Nat.le_refl _)
  have GY := walshTo_get (p := p) (by omega) ys (by omega) (M := 1000000) (by omega) (fun i hi => gt_bd ay (by omega)) p (Nat.le_refl _)
  have GZ := walshTo_get (p := p) (by omega) zs (by omega) (M := 1000000) (by omega) (fun i hi => gt_bd az (by omega)) p (Nat.le_refl _)
  have cong : ∀ j, j ≤ p → ∀ i, i < 2 ^ p → Wf (gt zs) j i = Wf (fun i => gt xs i + gt ys i) j i := by
    intro j
    induction j with
    | zero => intro _ i hi; exact hs i (by omega)
    | succ j ih => intro hj i hi; exact Bk_congr (by omega) (ih (by omega)) hi
  intro i hi
  obtain ⟨e1, b1, b2⟩ := GX i (by omega)
  obtain ⟨e2, b3, b4⟩ := GY i (by omega)
  rw [hc] at b1 b2 b3 b4
  rw [(GZ i (by omega)).1, cong p (Nat.le_refl _) i (by omega), Wf_add, e1, e2]
  exact ⟨rfl, by omega, by omega⟩
end Go.Proofs.Ytibopjfmcdcgbaa
