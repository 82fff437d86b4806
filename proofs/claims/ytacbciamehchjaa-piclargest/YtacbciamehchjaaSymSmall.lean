
/- The merge of two sorted neighbours, by the comparison of Largest: a contract. -/
import Derived.Test.YtacbciamehchjaaInsert
import Derived.Test.YtacbciamehchjaaRotate
import Derived.Test.YtacbciamehchjaaMergeMath
import Derived.Deep.RegionHeldLaw
import Derived.Deep.RegionLaw
namespace Go.Proofs.Ytacbciamehchjaa
open Go.RowKit

set_option maxRecDepth 100000 in
set_option maxHeartbeats 3200000 in
theorem sym_one (g cap B : Nat) (a : Option Addr) (L : List Int) (lc : Nat) (hl : L.length ≤ 256) (hall : allB 1000000 L = true) (lo m hi : Nat) (xs : List Int) (w : World) (h1 : lo < m) (h2 : m < hi) (h3 : hi ≤ xs.length) (hx : xs.length ≤ 256) (hr : ∀ k, k < xs.length → 0 ≤ gt xs k ∧ gt xs k < L.length) (hm : Mg L lo m hi xs) (ho : OwnI w g (Dat g xs.length cap) xs) (hc : Clo B a L lc g w) (hm1 : m - lo = 1) :
    Calls Try.prog 81 #[Dat g xs.length cap, .int .i64 lo, .int .i64 m, .int .i64 hi, Clv B] w fun e w' => ∃ ys, SPost g xs.length cap ys w e w' ∧ Rearr lo hi xs ys ∧ Srt L lo hi ys := by
  have HM1 : Hid (m = lo + 1) := by show _ = _; omega
  have d0 : (m : Int) - (lo : Int) = 1 := by omega
  have HO := Lib.hid ho; clear ho
  have HC := Lib.hid hc; clear hc
  have HA := Lib.hid hall; clear hall
  have HR := Lib.hid hr; clear hr
  have HM := Lib.hid hm; clear hm
  unfold Dat Clv
  go_enter Try.func81, Try.ntmps81
  go_wp2
  go_loopw [10, 11] (fun i j wr => ∃ p q : Nat, i = .int .i64 p ∧ j = .int .i64 q ∧ m ≤ p ∧ p ≤ q ∧ q ≤ hi ∧ OwnI wr g (Dat g xs.length cap) xs ∧ Below g w wr ∧ Hid (∀ c, m ≤ c → c < p → bef L (gt xs c) (gt xs lo)) ∧ Hid (∀ c, q ≤ c → c < hi → bef L (gt xs lo) (gt xs c))) (fun i j _ => (intOf j).toNat - (intOf i).toNat)
  case atStart => exact ⟨m, hi, rfl, rfl, Nat.le_refl _, by omega, Nat.le_refl _, HO.out, Below.refl _ _, fun c h1 h2 => by omega, fun c h1 h2 => by omega⟩
  case round =>
    obtain ⟨p, q, rfl, rfl, hp1, hpq, hq1, hO, hB, I1, I2⟩ := hrel
    have HOR := Lib.hid hO; clear hO HO
    have HB := Lib.hid hB; clear hB
    by_cases hlt : p < q
    · obtain ⟨h, hh⟩ : ∃ h, (p + q) / 2 = h := ⟨_, rfl⟩
      have hb1 : p ≤ h := by omega
      have hb2 : h < q := by omega
      have hbin : ((p : Int) + (q : Int)) / 2 = (h : Int) := by omega
      clear hh
      have g2 : (h : Int) < (xs.length : Int) := by omega
      have g4 : (lo : Int) < (xs.length : Int) := by omega
      have g1 : 0 ≤ (h : Int) := by omega
      have g3 : 0 ≤ (lo : Int) := by omega
      obtain ⟨c1, f1⟩ := HOR.out.at' (j := h) (by omega)
      obtain ⟨c2, f2⟩ := HOR.out.at' (j := lo) (by omega)
      obtain ⟨u, hu⟩ : ∃ u, gt xs h = u := ⟨_, rfl⟩
      obtain ⟨v, hv⟩ : ∃ v, gt xs lo = v := ⟨_, rfl⟩
      have ru : 0 ≤ u ∧ u < L.length := by rw [← hu]; exact HR.out _ (by omega)
      have rv : 0 ≤ v ∧ v < L.length := by rw [← hv]; exact HR.out _ (by omega)
      have hvu : v < u := by rw [← hu, ← hv]; exact HM.out.lt _ _ (by omega) (by omega) (by omega) (by omega)
      have HCM : Hid (cmpI (keyL L v) (keyL L u) < 0 ↔ bef L u v) := cmp_less hvu
      have HNE : Hid (u ≠ v) := by show _ ≠ _; omega
      have HCC := Lib.hid (HC.out.below HB.out.drew)
      have hs := HOR.out.size_lt
      rw [hu] at c1
      rw [hv] at c2
      have HU := Lib.hid hu
      have HV := Lib.hid hv
      clear hvu hu hv
      go_wp2
      go_region_held_law (fun w' => w'.cell? ⟨g, h, none⟩ = some (.int .i64 u) ∧ w'.cell? ⟨g, lo, none⟩ = some (.int .i64 v)) (first | exact ⟨by assumption, by assumption⟩ | go_keep | exact ⟨(hb1.cell (p := ⟨g, h, none⟩) hs).trans (by assumption), (hb1.cell (p := ⟨g, lo, none⟩) hs).trans (by assumption)⟩) (first | (go_at_call 32; with_reducible refine (clo_any hl HA.out HCC.out u v ru rv).mono ?_; rintro e w1 ⟨rfl, hb1⟩))
      rename_i hHeld; clear hHeld c1 c2 f1 f2 ru rv
      have HO1 := Lib.hid (HOR.out.drew.below hb1)
      have HB1 := Lib.hid (HB.out.drew.trans (hb1.mono (Nat.le_of_lt hs)))
      clear hb1 HOR HB HCC hs
      obtain ⟨cc, hcc⟩ : ∃ cc, cmpI (keyL L v) (keyL L u) = cc := ⟨_, rfl⟩
      rw [hcc] at HCM
      rw [hcc]
      clear hcc
      by_cases hlt0 : cc < 0
      · have HI1 : Hid (∀ c, m ≤ c → c < h + 1 → bef L (gt xs c) (gt xs lo)) := fun c k1 k2 => bef_le (HM.out.hi.le k1 (show c ≤ h by omega) (by omega)) (by rw [HU.out, HV.out]; exact HCM.out.1 hlt0)
        clear I1
        go_wp2
        go_roundw
        case rel => exact ⟨h + 1, q, by go_num, rfl, by omega, by omega, hq1, HO1.out, HB1.out, HI1, I2⟩
        case measure => simp [intOf]; omega
      · have HI2 : Hid (∀ c, h ≤ c → c < hi → bef L (gt xs lo) (gt xs c)) := fun c k1 k2 => by
          have hb : bef L v u := by
            rcases bef_tot (L := L) HNE.out with k | k
            · exact absurd (HCM.out.2 k) hlt0
            · exact k
          rw [← HU.out, ← HV.out] at hb
          exact le_bef hb (HM.out.hi.le (by omega) (show h ≤ c by omega) k2)
        clear I2
        go_wp2
        go_roundw
        case rel => exact ⟨p, h, rfl, by go_num, hp1, hb1, by omega, HO1.out, HB1.out, I1, HI2⟩
        case measure => simp [intOf]; omega
    · obtain rfl : p = q := by omega
      obtain ⟨t, ht⟩ : ∃ t, p - 1 = t := ⟨_, rfl⟩
      have dt : (p : Int) - 1 = (t : Int) := by omega
      have HF : Hid (Srt L lo hi (upTo xs lo t) ∧ Rearr lo hi xs (upTo xs lo t)) := merge_one (k := t) (by have := HM.out.hi; rwa [HM1.out] at this) (by omega) (by omega) (by omega) (fun c k1 k2 => I1.out c (by omega) (by omega)) (fun c k1 k2 => I2.out c (by omega) k2)
      have hp6 : p ≤ 256 := by omega
      have hlt' : lo ≤ t := by omega
      have htl : t + 1 ≤ xs.length := by omega
      have htp : t + 1 = p := by omega
      clear I1 I2 hlt ht
      go_wp2
      go_loopw [13] (fun i wr => ∃ k : Nat, i = .int .i64 k ∧ lo ≤ k ∧ k ≤ t ∧ OwnI wr g (Dat g xs.length cap) (upTo xs lo k) ∧ Below g w wr) (fun i _ => t - (intOf i).toNat)
      case atStart => exact ⟨lo, rfl, Nat.le_refl _, hlt', by rw [upTo_start]; exact HOR.out, HB.out⟩
      case round =>
        clear HOR HB
        obtain ⟨k, rfl, hk1, hk2, hO, hB⟩ := hrel
        have HOR := Lib.hid hO; clear hO
        have HB := Lib.hid hB; clear hB
        by_cases hlt : k < t
        · have hkl : k + 1 < xs.length := by omega
          obtain ⟨c1, f1⟩ := HOR.out.at' (j := k) (by rw [upTo_len]; omega)
          obtain ⟨c2, f2⟩ := HOR.out.at' (j := k + 1) (by rw [upTo_len]; omega)
          obtain ⟨x, hx⟩ : ∃ x, gt (upTo xs lo k) k = x := ⟨_, rfl⟩
          obtain ⟨y, hy⟩ : ∃ y, gt (upTo xs lo k) (k + 1) = y := ⟨_, rfl⟩
          have HN : Hid (((upTo xs lo k).set k y).set (k + 1) x = upTo xs lo (k + 1)) := by show _ = _; rw [← upTo_step hk1 hkl, ← hx, ← hy]; rfl
          rw [hx] at c1
          rw [hy] at c2
          have g1 : 0 ≤ (k : Int) + 1 := by omega
          have g2 : (k : Int) + 1 < (xs.length : Int) := by omega
          have g3 : 0 ≤ (k : Int) := by omega
          have g4 : (k : Int) < (xs.length : Int) := by omega
          have t1 : ((k : Int) + 1).toNat = k + 1 := by omega
          have z1 : IntKind.i64.wrap ((k : Int) + 1) = (k : Int) + 1 := IntWalk.i64_in _ (by omega)
          have hne : ¬ (k = k + 1) := by omega
          have hne' : ¬ (k + 1 = k) := by omega
          clear hx hy
          have HST2 := Lib.hid ((HOR.out.stored k y).stored (k + 1) x).drew
          have HBW := Lib.hid ((HB.out.setCell (p := ⟨g, k, none⟩) (Nat.le_refl _) (.int .i64 y)).setCell (p := ⟨g, (k + 1), none⟩) (Nat.le_refl _) (.int .i64 x)).drew
          clear HOR HB
          go_wp2
          go_region_law (fail)
          all_goals
            go_wp2
            go_roundw
            case rel => exact ⟨k + 1, by go_num, by omega, by omega, by rw [← HN.out]; exact HST2.out, HBW.out⟩
            case measure => simp [intOf]; omega
        · obtain rfl : k = t := by omega
          have HL : Hid ((upTo xs lo k).length = xs.length) := upTo_len _ _ _
          go_wp2
          (try simp only [Exit.inBlock, Exit.then])
          refine bodyPost_ret (results_none rfl _ _ _) rfl ?_
          exact ⟨_, ⟨rfl, HB.out, HOR.out, HL.out⟩, HF.out.2, HF.out.1⟩

set_option maxRecDepth 100000 in
set_option maxHeartbeats 3200000 in
theorem sym_last (g cap B : Nat) (a : Option Addr) (L : List Int) (lc : Nat) (hl : L.length ≤ 256) (hall : allB 1000000 L = true) (lo m hi : Nat) (xs : List Int) (w : World) (h1 : lo < m) (h2 : m < hi) (h3 : hi ≤ xs.length) (hx : xs.length ≤ 256) (hr : ∀ k, k < xs.length → 0 ≤ gt xs k ∧ gt xs k < L.length) (hm : Mg L lo m hi xs) (ho : OwnI w g (Dat g xs.length cap) xs) (hc : Clo B a L lc g w) (hm0 : 2 ≤ m - lo) (hm1 : hi - m = 1) :
    Calls Try.prog 81 #[Dat g xs.length cap, .int .i64 lo, .int .i64 m, .int .i64 hi, Clv B] w fun e w' => ∃ ys, SPost g xs.length cap ys w e w' ∧ Rearr lo hi xs ys ∧ Srt L lo hi ys := by
  obtain ⟨dd, hdd⟩ : ∃ dd, m - lo = dd := ⟨_, rfl⟩
  have d0 : (m : Int) - (lo : Int) = (dd : Int) := by omega
  have d9 : ((dd : Int) == 1) = false := by simp; omega
  have d8 : (hi : Int) - (m : Int) = 1 := by omega
  clear hdd
  have HO := Lib.hid ho; clear ho
  have HC := Lib.hid hc; clear hc
  have HA := Lib.hid hall; clear hall
  have HR := Lib.hid hr; clear hr
  have HM := Lib.hid hm; clear hm
  unfold Dat Clv
  go_enter Try.func81, Try.ntmps81
  go_wp2
  go_loopw [14, 15] (fun i j wr => ∃ p q : Nat, i = .int .i64 p ∧ j = .int .i64 q ∧ lo ≤ p ∧ p ≤ q ∧ q ≤ m ∧ OwnI wr g (Dat g xs.length cap) xs ∧ Below g w wr ∧ Hid (∀ c, lo ≤ c → c < p → bef L (gt xs c) (gt xs m)) ∧ Hid (∀ c, q ≤ c → c < m → bef L (gt xs m) (gt xs c))) (fun i j _ => (intOf j).toNat - (intOf i).toNat)
  case atStart => exact ⟨lo, m, rfl, rfl, Nat.le_refl _, by omega, Nat.le_refl _, HO.out, Below.refl _ _, fun c h1 h2 => by omega, fun c h1 h2 => by omega⟩
  case round =>
    obtain ⟨p, q, rfl, rfl, hp1, hpq, hq1, hO, hB, I1, I2⟩ := hrel
    have HOR := Lib.hid hO; clear hO HO
    have HB := Lib.hid hB; clear hB
    by_cases hlt : p < q
    · obtain ⟨h, hh⟩ : ∃ h, (p + q) / 2 = h := ⟨_, rfl⟩
      have hb1 : p ≤ h := by omega
      have hb2 : h < q := by omega
      have hbin : ((p : Int) + (q : Int)) / 2 = (h : Int) := by omega
      clear hh
      have g2 : (h : Int) < (xs.length : Int) := by omega
      have g4 : (m : Int) < (xs.length : Int) := by omega
      have g1 : 0 ≤ (h : Int) := by omega
      have g3 : 0 ≤ (m : Int) := by omega
      obtain ⟨c1, f1⟩ := HOR.out.at' (j := m) (by omega)
      obtain ⟨c2, f2⟩ := HOR.out.at' (j := h) (by omega)
      obtain ⟨u, hu⟩ : ∃ u, gt xs m = u := ⟨_, rfl⟩
      obtain ⟨v, hv⟩ : ∃ v, gt xs h = v := ⟨_, rfl⟩
      have ru : 0 ≤ u ∧ u < L.length := by rw [← hu]; exact HR.out _ (by omega)
      have rv : 0 ≤ v ∧ v < L.length := by rw [← hv]; exact HR.out _ (by omega)
      have hvu : v < u := by rw [← hu, ← hv]; exact HM.out.lt _ _ (by omega) (by omega) (by omega) (by omega)
      have HCM : Hid (cmpI (keyL L v) (keyL L u) < 0 ↔ bef L u v) := cmp_less hvu
      have HNE : Hid (u ≠ v) := by show _ ≠ _; omega
      have HCC := Lib.hid (HC.out.below HB.out.drew)
      have hs := HOR.out.size_lt
      rw [hu] at c1
      rw [hv] at c2
      have HU := Lib.hid hu
      have HV := Lib.hid hv
      clear hvu hu hv
      go_wp2
      go_region_held_law (fun w' => w'.cell? ⟨g, m, none⟩ = some (.int .i64 u) ∧ w'.cell? ⟨g, h, none⟩ = some (.int .i64 v)) (first | exact ⟨by assumption, by assumption⟩ | go_keep | exact ⟨(hb1.cell (p := ⟨g, m, none⟩) hs).trans (by assumption), (hb1.cell (p := ⟨g, h, none⟩) hs).trans (by assumption)⟩) (first | (go_at_call 32; with_reducible refine (clo_any hl HA.out HCC.out u v ru rv).mono ?_; rintro e w1 ⟨rfl, hb1⟩))
      rename_i hHeld; clear hHeld c1 c2 f1 f2 ru rv
      have HO1 := Lib.hid (HOR.out.drew.below hb1)
      have HB1 := Lib.hid (HB.out.drew.trans (hb1.mono (Nat.le_of_lt hs)))
      clear hb1 HOR HB HCC hs
      obtain ⟨cc, hcc⟩ : ∃ cc, cmpI (keyL L v) (keyL L u) = cc := ⟨_, rfl⟩
      rw [hcc] at HCM
      rw [hcc]
      clear hcc
      by_cases hlt0 : cc < 0
      · have hb0 : (!decide (cc < 0)) = false := by simpa using hlt0
        rw [hb0]
        have HI2 : Hid (∀ c, h ≤ c → c < m → bef L (gt xs m) (gt xs c)) := fun c k1 k2 => le_bef (by rw [HU.out, HV.out]; exact HCM.out.1 hlt0) (HM.out.lo.le (by omega) (show h ≤ c by omega) k2)
        clear I2
        go_wp2
        go_roundw
        case rel => exact ⟨p, h, rfl, by go_num, hp1, hb1, by omega, HO1.out, HB1.out, I1, HI2⟩
        case measure => simp [intOf]; omega
      · have hb0 : (!decide (cc < 0)) = true := by simpa using hlt0
        rw [hb0]
        have HI1 : Hid (∀ c, lo ≤ c → c < h + 1 → bef L (gt xs c) (gt xs m)) := fun c k1 k2 => by
          have hb : bef L v u := by
            rcases bef_tot (L := L) HNE.out with k | k
            · exact absurd (HCM.out.2 k) hlt0
            · exact k
          rw [← HU.out, ← HV.out] at hb
          exact bef_le (HM.out.lo.le k1 (show c ≤ h by omega) (by omega)) hb
        clear I1
        go_wp2
        go_roundw
        case rel => exact ⟨h + 1, q, by go_num, rfl, by omega, by omega, hq1, HO1.out, HB1.out, HI1, I2⟩
        case measure => simp [intOf]; omega
    · obtain rfl : p = q := by omega
      have HF : Hid (Srt L lo hi (dnTo xs m p) ∧ Rearr lo hi xs (dnTo xs m p)) := by
        have := merge_last (k := p) (L := L) (a := lo) (m := m) (xs := xs) HM.out.lo hp1 hq1 (by omega) I1.out I2.out
        rw [show m + 1 = hi by omega] at this
        exact this
      have hp6 : p ≤ 256 := by omega
      clear I1 I2 hlt
      go_wp2
      go_loopw [17] (fun i wr => ∃ k : Nat, i = .int .i64 k ∧ p ≤ k ∧ k ≤ m ∧ OwnI wr g (Dat g xs.length cap) (dnTo xs m k) ∧ Below g w wr) (fun i _ => (intOf i).toNat)
      case atStart => exact ⟨m, rfl, hq1, Nat.le_refl _, by rw [dnTo_start]; exact HOR.out, HB.out⟩
      case round =>
        clear HOR HB
        obtain ⟨k, rfl, hk1, hk2, hO, hB⟩ := hrel
        have HOR := Lib.hid hO; clear hO
        have HB := Lib.hid hB; clear hB
        by_cases hlt : p < k
        · obtain ⟨r, hr⟩ : ∃ r, k = r + 1 := ⟨k - 1, by omega⟩
          obtain ⟨c1, f1⟩ := HOR.out.at' (j := k) (by rw [dnTo_len]; omega)
          obtain ⟨c2, f2⟩ := HOR.out.at' (j := r) (by rw [dnTo_len]; omega)
          obtain ⟨x, hx⟩ : ∃ x, gt (dnTo xs m k) k = x := ⟨_, rfl⟩
          obtain ⟨y, hy⟩ : ∃ y, gt (dnTo xs m k) r = y := ⟨_, rfl⟩
          have HN : Hid (((dnTo xs m k).set k y).set r x = dnTo xs m r) := by
            show _ = _
            have h := dnTo_step (xs := xs) (m := m) (k := r) (by omega) (by omega)
            rw [← hr] at h
            rw [← h, ← hx, ← hy]; rfl
          rw [hx] at c1
          rw [hy] at c2
          have g1 : 0 ≤ (k : Int) := by omega
          have g2 : (k : Int) < (xs.length : Int) := by omega
          have g3 : 0 ≤ (r : Int) := by omega
          have g4 : (r : Int) < (xs.length : Int) := by omega
          have d1 : (k : Int) - 1 = (r : Int) := by omega
          have d4 : IntKind.i64.wrap (r : Int) = (r : Int) := IntWalk.i64_in _ (by omega)
          have hne : ¬ (k = r) := by omega
          have hne' : ¬ (r = k) := by omega
          have hpr : p ≤ r := by omega
          have hrm : r ≤ m := by omega
          have hrk : r < k := by omega
          clear hx hy hr
          have HST2 := Lib.hid ((HOR.out.stored k y).stored r x).drew
          have HBW := Lib.hid ((HB.out.setCell (p := ⟨g, k, none⟩) (Nat.le_refl _) (.int .i64 y)).setCell (p := ⟨g, r, none⟩) (Nat.le_refl _) (.int .i64 x)).drew
          clear HOR HB
          go_wp2
          go_region_law (fail)
          all_goals
            go_wp2
            go_roundw
            case rel => exact ⟨r, by go_num, hpr, hrm, by rw [← HN.out]; exact HST2.out, HBW.out⟩
            case measure => simp [intOf]; omega
        · obtain rfl : p = k := by omega
          have HL : Hid ((dnTo xs m p).length = xs.length) := dnTo_len _ _ _
          go_wp2
          (try simp only [Exit.inBlock, Exit.then])
          refine bodyPost_ret (results_none rfl _ _ _) rfl ?_
          exact ⟨_, ⟨rfl, HB.out, HOR.out, HL.out⟩, HF.out.2, HF.out.1⟩

end Go.Proofs.Ytacbciamehchjaa
