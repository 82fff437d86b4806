/- Unlift of layer 1 and of its answers: contracts. -/
import Derived.Test.YtibopjfmcdcgbaaLifts
namespace Go.Proofs.Ytibopjfmcdcgbaa
open Go.RowKit

/-- The list behind k undone steps. -/
def unlTo (xs : List Int) : Nat → List Int
  | 0 => xs
  | k + 1 => joinL (2 ^ k) (unlTo xs k)
theorem joinL_length (m : Nat) (ys : List Int) : (joinL m ys).length = ys.length := joins_length _ _ _ _
theorem unlTo_length (xs : List Int) (k : Nat) : (unlTo xs k).length = xs.length := by
  induction k with
  | zero => rfl
  | succ k ih => show (joinL _ _).length = _; rw [joinL_length, ih]
def unlV (xs : List Int) : List Int × Int :=
  if powB xs.length = true ∧ allB 2000000 xs = true then
    (if allB 1000000 (unlTo xs (lg xs.length)) = true then (unlTo xs (lg xs.length), 0) else ([], 4))
  else ([], 1)
theorem unlV_len {xs : List Int} {n : Nat} (h : xs.length ≤ n) : (unlV xs).1.length ≤ n := by
  unfold unlV; split
  · split
    · rw [unlTo_length]; exact h
    · exact Nat.zero_le _
  · exact Nat.zero_le _
theorem unlV_4 {xs : List Int} (hp : powB xs.length = true) (ha : allB 2000000 xs = true) {p : Nat} (hx : xs.length = 2 ^ p) : unlV xs = if allB 1000000 (unlTo xs p) = true then (unlTo xs p, 0) else ([], 4) := by
  unfold unlV
  rw [if_pos ⟨hp, ha⟩, lg_pow hp hx]

set_option maxRecDepth 100000 in
set_option maxHeartbeats 1000000 in
theorem unlift_any (a : Option Addr) (xs : List Int) (cap : Nat) (w : World) (hl : xs.length ≤ 140737488351232) (hs : Sl w a xs) :
    Calls Try.prog 49 #[.slice a xs.length cap] w (LPost (unlV xs) w) := by
  have HS := Lib.hid hs; clear hs
  cases hp : powB xs.length
  · have HP := Lib.hid hp; clear hp
    go_enter Try.func49, Try.ntmps49
    go_wp2_with (go_at_call 55; refine (powerLong_any _ _ _ _ hl).mono ?_; rintro e w5 ⟨rfl, rfl⟩; rw [HP.out])
    go_ret2
    exact LPost.err 1 (by simp [unlV, HP.out]) (Below.refl _ _)
  · cases ha : allB 2000000 xs
    · have HP := Lib.hid hp; clear hp
      have HA := Lib.hid ha; clear ha
      go_enter Try.func49, Try.ntmps49
      go_wp2_with (first | (go_at_call 55; refine (powerLong_any _ _ _ _ hl).mono ?_; rintro e w5 ⟨rfl, rfl⟩; rw [HP.out]) | (go_at_call 53; refine (within_any 2000000 (by omega) (by omega) _ _ _ _ hl HS.out).mono ?_; rintro e w1 ⟨rfl, hb1⟩; have hB1 := Lib.hid hb1; clear hb1; rw [HA.out]))
      go_ret2
      exact LPost.err 1 (by simp [unlV, HA.out]) hB1.out
    · obtain ⟨hpos, hle2⟩ := powB_le hp
      obtain ⟨p, hp8, hxp⟩ := powB_two hp
      have HP := Lib.hid hp; clear hp
      have HA := Lib.hid ha; clear ha
      have HX := Lib.hid hxp; clear hxp
      obtain ⟨b, off, rfl⟩ := some_of HS.out hpos
      go_enter Try.func49, Try.ntmps49
      go_wp2_with (first | (go_at_call 55; refine (powerLong_any _ _ _ _ hl).mono ?_; rintro e w5 ⟨rfl, rfl⟩; rw [HP.out]) | (go_at_call 53; refine (within_any 2000000 (by omega) (by omega) _ _ _ _ hl HS.out).mono ?_; rintro e w1 ⟨rfl, hb1⟩; have hB1 := Lib.hid hb1; clear hb1; rw [HA.out]) | (go_at_call 70; refine (clone_any b off xs cap _ (by omega) (by omega) (HS.out.below hB1.out)).mono ?_; rintro e w2 ⟨g, cap', rfl, ho, hb2⟩; have HO2 := Lib.hid (ho.mono hB1.out.size); clear ho; have HB2 := Lib.hid (hB1.out.trans (hb2.mono hB1.out.size)); clear hb2))
      go_loopw [5] (fun i wr => ∃ k n : Nat, k ≤ p ∧ n = 2 ^ (k + 1) ∧ i = .int .i64 n ∧ OwnI wr w.heap.size (.slice (some ⟨g, 0, none⟩) xs.length cap') (unlTo xs k) ∧ Below w.heap.size w wr) (fun i _ => 600 - (intOf i).toNat)
      case atStart => exact ⟨0, 2, Nat.zero_le _, rfl, rfl, HO2.out, HB2.out⟩
      case round =>
        obtain ⟨k, n, hk, hn, rfl, hO, hB⟩ := hrel
        have hn512 : n ≤ 512 := by
          have : 2 ^ (k + 1) ≤ 2 ^ 9 := Nat.pow_le_pow_right (by omega) (by omega)
          omega
        obtain ⟨m, hm⟩ : ∃ m, m = 2 ^ k := ⟨_, rfl⟩
        have hnm : n = 2 * m := by rw [hn, hm, Nat.pow_succ, Nat.mul_comm]
        have HN := Lib.hid hn; clear hn
        have HM := Lib.hid hm
        have hm1 : 1 ≤ m := by rw [hm]; exact Nat.one_le_two_pow
        clear hm
        subst hnm
        have HO3 := Lib.hid hO; clear hO
        have HB3 := Lib.hid hB; clear hB
        have hBs := HB3.out.size
        by_cases hgt : 2 * m ≤ xs.length
        · have hkp : k < p := by
            rcases Nat.lt_or_ge k p with h | h
            · exact h
            · have h1 : 2 ^ p ≤ 2 ^ k := Nat.pow_le_pow_right (by omega) h
              have h2 := HM.out
              have h3 := HX.out
              omega
          have hm4 : m ≤ 128 := by omega
          have hll : (unlTo xs k).length = xs.length := unlTo_length xs k
          have HLL := Lib.hid hll; clear hll
          have hcap : xs.length ≤ cap' := HO3.out.cap_le
          have hm2 : 2 * m ≤ cap' := by omega
          have hm3 : 2 * (m : Int) ≤ (cap' : Int) := by omega
          go_wp2_with (go_at_call 73; refine (join_any w.heap.size g xs.length cap' m (unlTo xs k) _ hm1 hm4 (by rw [HLL.out]; exact hgt) HB3.out.size HO3.out).mono ?_; rintro e w4 ⟨⟨v, rfl⟩, ho, hb⟩; have HO4 := Lib.hid ho; clear ho; have HB4 := Lib.hid hb; clear hb)
          go_roundw
          case rel =>
            refine ⟨k + 1, 2 * m * 2, by omega, by rw [HN.out, Nat.pow_succ 2 (k + 1)], by go_num, ?_, ?_⟩
            · show OwnI _ _ _ (joinL (2 ^ k) (unlTo xs k))
              rw [← HM.out]
              exact HO4.out
            · exact HB3.out.trans HB4.out
          case measure => simp [intOf]; omega
        · have hkp : Hid (k = p) := by
            show k = p
            rcases Nat.lt_or_ge k p with h | h
            · have h1 : 2 ^ (k + 1) ≤ 2 ^ p := Nat.pow_le_pow_right (by omega) (by omega)
              have h2 := HN.out
              have h3 := HX.out
              omega
            · omega
          have hll : (unlTo xs k).length = xs.length := unlTo_length xs k
          have HLL := Lib.hid hll; clear hll
          have HV := Lib.hid (unlV_4 HP.out HA.out HX.out)
          rw [← hkp.out] at HV
          have HSL3 := Lib.hid HO3.out.sl
          generalize unlTo xs k = ys at *
          have hvl : Hid (validListB ys = allB 1000000 ys) := by
            show validListB ys = allB 1000000 ys
            have : rangeB ys.length 1 256 = true := by rw [HLL.out]; simp [rangeB]; omega
            simp [validListB, this]
          have hgn : ¬ (2 * (m : Int) ≤ (xs.length : Int)) := by omega
          cases hy : allB 1000000 ys
          · have HY := Lib.hid hy; clear hy
            go_wp2_with fail
            have hwi := within_any 1000000 (by omega) (by omega) _ ys cap' wr (by rw [HLL.out]; exact hl) HSL3.out
            rw [HLL.out, HY.out] at hwi
            refine hwi.mono ?_
            rintro e w4 ⟨rfl, hb4⟩
            go_wp2
            go_ret2
            exact LPost.err 4 (by rw [HV.out, HY.out]; rfl) (HB3.out.trans (hb4.mono HB3.out.size))
          · have HY := Lib.hid hy; clear hy
            go_wp2_with fail
            have hwi := within_any 1000000 (by omega) (by omega) _ ys cap' wr (by rw [HLL.out]; exact hl) HSL3.out
            rw [HLL.out, HY.out] at hwi
            refine hwi.mono ?_
            rintro e w4 ⟨rfl, hb4⟩
            go_wp2
            go_ret2
            exact LPost.ok (ys := ys) (by rw [HV.out, HY.out]; rfl) (HB3.out.trans (hb4.mono HB3.out.size)) (HO3.out.below hb4) HLL.out.symm

set_option maxRecDepth 100000 in
set_option maxHeartbeats 1000000 in
theorem runlift_any (a : Option Addr) (xs : List Int) (cap : Nat) (w : World) (hl : xs.length ≤ 140737488351232) (hs : Sl w a xs) :
    Calls Try.prog 50 #[.slice a xs.length cap] w (LPost (unlV xs) w) := by
  have HS := Lib.hid hs; clear hs
  cases hp : powB xs.length
  · have HP := Lib.hid hp; clear hp
    go_enter Try.func50, Try.ntmps50
    go_wp2_with (go_at_call 56; refine (rpower_any _ _ hl).mono ?_; rintro e w5 ⟨rfl, rfl⟩; rw [HP.out])
    go_ret2
    exact LPost.err 1 (by simp [unlV, HP.out]) (Below.refl _ _)
  · cases ha : allB 2000000 xs
    · have HP := Lib.hid hp; clear hp
      have HA := Lib.hid ha; clear ha
      go_enter Try.func50, Try.ntmps50
      go_wp2_with (first | (go_at_call 56; refine (rpower_any _ _ hl).mono ?_; rintro e w5 ⟨rfl, rfl⟩; rw [HP.out]) | (go_at_call 54; refine (rall_any 2000000 (by omega) (by omega) _ _ _ _ hl HS.out).mono ?_; rintro e w1 ⟨rfl, rfl⟩; rw [HA.out]))
      go_ret2
      exact LPost.err 1 (by simp [unlV, HA.out]) (Below.refl _ _)
    · obtain ⟨hpos, hle2⟩ := powB_le hp
      obtain ⟨p, hp8, hxp⟩ := powB_two hp
      have HP := Lib.hid hp; clear hp
      have HA := Lib.hid ha; clear ha
      have HX := Lib.hid hxp; clear hxp
      obtain ⟨b, off, rfl⟩ := some_of HS.out hpos
      go_enter Try.func50, Try.ntmps50
      go_wp2_with (first | (go_at_call 56; refine (rpower_any _ _ hl).mono ?_; rintro e w5 ⟨rfl, rfl⟩; rw [HP.out]) | (go_at_call 54; refine (rall_any 2000000 (by omega) (by omega) _ _ _ _ hl HS.out).mono ?_; rintro e w1 ⟨rfl, rfl⟩; rw [HA.out]) | (at_builtin; go_must (refine wpList_copied (.tmp 20) (.tmp 21) w.heap.size w w.heap.size b off xs.length cap xs rfl rfl rfl rfl rfl rfl HS.out (by omega) (Nat.le_refl _) ?_); intro v' w2 ho hb2; obtain ⟨g, cap', rfl, hgb⟩ := ho.shape (by omega); have HO2 := Lib.hid ho; clear ho; have HB2 := Lib.hid hb2; clear hb2))
      go_loopw [5] (fun i wr => ∃ k n : Nat, k ≤ p ∧ n = 2 ^ (k + 1) ∧ i = .int .i64 n ∧ OwnI wr w.heap.size (.slice (some ⟨g, 0, none⟩) xs.length cap') (unlTo xs k) ∧ Below w.heap.size w wr) (fun i _ => 600 - (intOf i).toNat)
      case atStart => exact ⟨0, 2, Nat.zero_le _, rfl, rfl, HO2.out, HB2.out⟩
      case round =>
        obtain ⟨k, n, hk, hn, rfl, hO, hB⟩ := hrel
        have hn512 : n ≤ 512 := by
          have : 2 ^ (k + 1) ≤ 2 ^ 9 := Nat.pow_le_pow_right (by omega) (by omega)
          omega
        obtain ⟨m, hm⟩ : ∃ m, m = 2 ^ k := ⟨_, rfl⟩
        have hnm : n = 2 * m := by rw [hn, hm, Nat.pow_succ, Nat.mul_comm]
        have HN := Lib.hid hn; clear hn
        have HM := Lib.hid hm
        have hm1 : 1 ≤ m := by rw [hm]; exact Nat.one_le_two_pow
        clear hm
        subst hnm
        have HO3 := Lib.hid hO; clear hO
        have HB3 := Lib.hid hB; clear hB
        have hBs := HB3.out.size
        by_cases hgt : 2 * m ≤ xs.length
        · have hkp : k < p := by
            rcases Nat.lt_or_ge k p with h | h
            · exact h
            · have h1 : 2 ^ p ≤ 2 ^ k := Nat.pow_le_pow_right (by omega) h
              have h2 := HM.out
              have h3 := HX.out
              omega
          have hm4 : m ≤ 128 := by omega
          have hll : (unlTo xs k).length = xs.length := unlTo_length xs k
          have HLL := Lib.hid hll; clear hll
          generalize hys : unlTo xs k = ys at *
          have HYS := Lib.hid hys; clear hys
          have HSL3 := Lib.hid HO3.out.sl
          go_wp2_with (at_builtin; go_must (refine wpList_copied (.tmp 29) (.tmp 30) wr.heap.size wr wr.heap.size g 0 xs.length cap' ys rfl rfl rfl rfl rfl HLL.out.symm HSL3.out (by rw [HLL.out]; omega) (Nat.le_refl _) ?_); intro v' w4 ho hb4; obtain ⟨go, capo, rfl, hgo⟩ := ho.shape (by rw [HLL.out]; omega); rw [HLL.out] at ho ⊢; have HOO := Lib.hid ho; clear ho; have HB4 := Lib.hid hb4; clear hb4)
          have hgl := HO3.out.lt
          go_loopw [7] (fun i wq => ∃ (j : Nat) (zs : List Int), j ≤ m ∧ i = .int .i64 j ∧ OwnI wq w.heap.size (.slice (some ⟨g, 0, none⟩) xs.length cap') zs ∧ JnK m ys j zs ∧ OwnI wq wr.heap.size (.slice (some ⟨go, 0, none⟩) xs.length capo) ys ∧ Below w.heap.size w wq) (fun i _ => m - (intOf i).toNat)
          case atStart => exact ⟨0, ys, Nat.zero_le _, rfl, HO3.out.below HB4.out, JnK.start _ _, HOO.out, HB3.out.trans (HB4.out.mono hBs)⟩
          case round =>
            obtain ⟨j, zs, hj, rfl, hq1, hq2, hq3, hq4⟩ := hrel
            have Q1 := Lib.hid hq1; clear hq1
            have Q2 := Lib.hid hq2; clear hq2
            have Q3 := Lib.hid hq3; clear hq3
            have Q4 := Lib.hid hq4; clear hq4
            by_cases hjm : j < m
            · obtain ⟨ca, _⟩ := Q3.out.cell (j := j) (by rw [HLL.out]; omega)
              obtain ⟨cb, _⟩ := Q3.out.cell (j := m + j) (by rw [HLL.out]; omega)
              obtain ⟨cz, fz⟩ := Q1.out.cell (j := 2 * j + 1) (by rw [Q2.out.len, HLL.out]; omega)
              obtain ⟨cy, fy⟩ := Q1.out.cell (j := 2 * j) (by rw [Q2.out.len, HLL.out]; omega)
              have hsx := Lib.hid (Q2.out.next hjm (by rw [HLL.out]; omega) (x := jnB ys m j) (y := jnA ys m j) rfl rfl)
              have hA : jnB ys m j = IntKind.i64.wrap (ys[j]?.getD 0 - ys[m + j]?.getD 0 / 2) := rfl
              have hB2 : jnA ys m j = IntKind.i64.wrap (IntKind.i64.wrap (ys[j]?.getD 0 - ys[m + j]?.getD 0 / 2) + ys[m + j]?.getD 0) := rfl
              have HA2 := Lib.hid hA; clear hA
              have HBB := Lib.hid hB2; clear hB2
              generalize ys[j]?.getD 0 = x at ca HA2 HBB
              generalize ys[m + j]?.getD 0 = y at cb HA2 HBB
              generalize zs[2 * j + 1]?.getD 0 = z1 at cz
              generalize zs[2 * j]?.getD 0 = z2 at cy
              have hylen : ys.length = xs.length := HLL.out
              have t1 : (2 * (j : Int)).toNat = 2 * j := by omega
              have t2 : (2 * (j : Int) + 1).toNat = 2 * j + 1 := by omega
              have t3 : ((m : Int) + (j : Int)).toNat = m + j := by omega
              have hgq := Q1.out.lt
              have ne1 : ¬ 2 * j + 1 = 2 * j := by omega
              have ne2 : ¬ 2 * j = 2 * j + 1 := by omega
              go_wp2
              go_quiet (fail)
              go_wp2_with (go_at_call 72; refine (half_any _ _).mono ?_; rintro e w9 ⟨rfl, rfl⟩)
              go_roundw
              case rel =>
                refine ⟨j + 1, (zs.set (2 * j + 1) (jnB ys m j)).set (2 * j) (jnA ys m j), by omega, by go_num, ?_, hsx.out, ?_, ?_⟩
                · rw [HA2.out, HBB.out]
                  (try rw [wrap_is]); (try rw [wrap_is])
                  exact ((Q1.out.drawN _).stored (2 * j + 1) _).stored (2 * j) _
                · refine Q3.out.sameBlock ?_
                  exact (Below.heap_setCell _ _ _ go (by show go ≠ g; omega)).trans (Below.heap_setCell _ _ _ go (by show go ≠ g; omega))
                · exact ((below_drewN Q4.out _).setCell (p := ⟨g, 2 * j + 1, none⟩) hgq.2 _).setCell (p := ⟨g, 2 * j, none⟩) hgq.2 _
              case measure => simp [intOf]; omega
            · obtain rfl : j = m := by omega
              go_wp2
              go_roundw
              case rel =>
                refine ⟨k + 1, 2 * j * 2, by omega, by rw [HN.out, Nat.pow_succ 2 (k + 1)], by go_num, ?_, ?_⟩
                · show OwnI _ _ _ (joinL (2 ^ k) (unlTo xs k))
                  rw [HYS.out, ← HM.out, (join_is hm4 (by rw [HLL.out]; omega)).uniq Q2.out]
                  exact Q1.out
                · exact Q4.out
              case measure => simp [intOf]; omega
        · have hkp : Hid (k = p) := by
            show k = p
            rcases Nat.lt_or_ge k p with h | h
            · have h1 : 2 ^ (k + 1) ≤ 2 ^ p := Nat.pow_le_pow_right (by omega) (by omega)
              have h2 := HN.out
              have h3 := HX.out
              omega
            · omega
          have hll : (unlTo xs k).length = xs.length := unlTo_length xs k
          have HLL := Lib.hid hll; clear hll
          have HV := Lib.hid (unlV_4 HP.out HA.out HX.out)
          rw [← hkp.out] at HV
          have HSL3 := Lib.hid HO3.out.sl
          generalize unlTo xs k = ys at *
          have hvl : Hid (validListB ys = allB 1000000 ys) := by
            show validListB ys = allB 1000000 ys
            have : rangeB ys.length 1 256 = true := by rw [HLL.out]; simp [rangeB]; omega
            simp [validListB, this]
          have hgn : ¬ (2 * (m : Int) ≤ (xs.length : Int)) := by omega
          cases hy : allB 1000000 ys
          · have HY := Lib.hid hy; clear hy
            go_wp2_with fail
            have hwi := rvalidList_any _ ys cap' wr (by rw [HLL.out]; exact hl) HSL3.out
            rw [HLL.out, hvl.out, HY.out] at hwi
            refine hwi.mono ?_
            rintro e w4 ⟨rfl, rfl⟩
            go_wp2
            go_ret2
            exact LPost.err 4 (by rw [HV.out, HY.out]; rfl) HB3.out
          · have HY := Lib.hid hy; clear hy
            go_wp2_with fail
            have hwi := rvalidList_any _ ys cap' wr (by rw [HLL.out]; exact hl) HSL3.out
            rw [HLL.out, hvl.out, HY.out] at hwi
            refine hwi.mono ?_
            rintro e w4 ⟨rfl, rfl⟩
            go_wp2
            go_ret2
            exact LPost.ok (ys := ys) (by rw [HV.out, HY.out]; rfl) HB3.out HO3.out HLL.out.symm
end Go.Proofs.Ytibopjfmcdcgbaa
