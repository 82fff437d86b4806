
/- Insertion of one number after the other, by the comparison of Largest: a contract. -/
import Derived.Test.YtacbciamehchjaaSortMath
import Derived.Deep.RegionHeldLaw
import Derived.Deep.RegionLaw
namespace Go.Proofs.Ytacbciamehchjaa
open Go.RowKit

/-- The closure that compares. -/
def Clv (B : Nat) : Value := .func (.func 32) #[] #[.pointer (some ⟨B, 0, none⟩)]
/-- What the closure needs, in blocks that the sorting leaves alone. -/
structure Clo (B : Nat) (a : Option Addr) (L : List Int) (lc g : Nat) (w : World) : Prop where
  box : w.cell? ⟨B, 0, none⟩ = some (.slice a L.length lc)
  sl : Sl w a L
  hB : B < g
  low : ∀ ad, a = some ad → ad.block < g
theorem Clo.below {B : Nat} {a : Option Addr} {L : List Int} {lc g : Nat} {w w' : World} (h : Clo B a L lc g w) (hb : Below g w w') : Clo B a L lc g w' :=
  ⟨(hb.cell (p := ⟨B, 0, none⟩) h.hB).trans h.box, fun k hk => by
    obtain ⟨b, off, e, hc⟩ := h.sl k hk
    exact ⟨b, off, e, (hb.cell (p := ⟨b, off + k, none⟩) (show b < g from h.low _ e)).trans hc⟩, h.hB, h.low⟩
theorem keyL_nat (L : List Int) (i : Nat) : keyL L (i : Int) = av (gt L i) := by unfold keyL; rw [Int.toNat_natCast]
/-- The closure called: u against v. -/
theorem clo_any {B : Nat} {a : Option Addr} {L : List Int} {lc g : Nat} {w : World} (hl : L.length ≤ 256) (hall : allB 1000000 L = true) (h : Clo B a L lc g w) (u v : Int) (hu : 0 ≤ u ∧ u < L.length) (hv : 0 ≤ v ∧ v < L.length) :
    Calls Try.prog 32 #[.int .i64 u, .int .i64 v, .pointer (some ⟨B, 0, none⟩)] w fun e w' => e = .returned (.int .i64 (cmpI (keyL L v) (keyL L u))) ∧ Below w.heap.size w w' := by
  obtain ⟨i, rfl⟩ := Int.eq_ofNat_of_zero_le hu.1
  obtain ⟨j, rfl⟩ := Int.eq_ofNat_of_zero_le hv.1
  rw [keyL_nat, keyL_nat]
  exact larger_any B a L lc i j w hl hall (by omega) (by omega) h.box h.sl
theorem OwnI.size_lt {w : World} {g n cap : Nat} {xs : List Int} (h : OwnI w g (Dat g n cap) xs) : g < w.heap.size := (OwnI.lt h).1
set_option maxRecDepth 100000 in
set_option maxHeartbeats 1600000 in
theorem insertion_any (g cap lo hi : Nat) (B : Nat) (a : Option Addr) (L : List Int) (lc : Nat) (xs : List Int) (w : World) (h1 : lo ≤ hi) (h2 : hi ≤ xs.length) (hl : L.length ≤ 256) (hall : allB 1000000 L = true) (hx : xs.length ≤ 256)
    (hr : ∀ k, k < xs.length → 0 ≤ gt xs k ∧ gt xs k < L.length) (hasc : ∀ p q, lo ≤ p → p < q → q < hi → gt xs p < gt xs q)
    (ho : OwnI w g (Dat g xs.length cap) xs) (hc : Clo B a L lc g w) :
    Calls Try.prog 80 #[Dat g xs.length cap, .int .i64 lo, .int .i64 hi, Clv B] w fun e w' => ∃ ys, SPost g xs.length cap ys w e w' ∧ Rearr lo hi xs ys ∧ Srt L lo hi ys := by
  have HO := Lib.hid ho; clear ho
  have HC := Lib.hid hc; clear hc
  have HA := Lib.hid hall; clear hall
  have HR := Lib.hid hr; clear hr
  have HASC := Lib.hid hasc; clear hasc
  unfold Dat Clv
  go_enter Try.func80, Try.ntmps80
  go_wp2
  go_loopw [8] (fun i wr => ∃ (k : Nat) (ys : List Int), lo < k ∧ (k ≤ hi ∨ (k = lo + 1 ∧ ys = xs)) ∧ i = .int .i64 k ∧ OwnI wr g (Dat g xs.length cap) ys ∧ Below g w wr ∧ Rearr lo k xs ys ∧ Srt L lo k ys ∧ ∀ q, k ≤ q → gt ys q = gt xs q) (fun i _ => hi - (intOf i).toNat)
  case atStart => exact ⟨lo + 1, xs, by omega, .inr ⟨rfl, rfl⟩, by go_num, HO.out, Below.refl _ _, Rearr.refl _ _ _, fun p q h1 h2 h3 => by omega, fun _ _ => rfl⟩
  case round =>
    obtain ⟨k, ys, hk1, hk2, rfl, hO, hB, hRe, hSr, hOut⟩ := hrel
    have HOR := Lib.hid hO; clear hO
    have HB := Lib.hid hB; clear hB
    have HRE := Lib.hid hRe; clear hRe
    have HSR := Lib.hid hSr; clear hSr
    have HOUT := Lib.hid hOut; clear hOut
    have hyl : ys.length = xs.length := HRE.out.len
    have HYL := Lib.hid hyl; clear hyl
    by_cases hlt : k < hi
    · have HST : Hid (Ins L lo k k (gt ys k) ys ys) := Ins.start HSR.out (fun q q1 q2 => by
        rw [HOUT.out k (Nat.le_refl _)]
        exact HRE.out.all (P := fun z => z < gt xs k) (fun p p1 p2 => HASC.out p k p1 p2 hlt) q q1 q2)
      have HRY : Hid (∀ q, q < ys.length → 0 ≤ gt ys q ∧ gt ys q < L.length) := HRE.out.every (P := fun z => 0 ≤ z ∧ z < L.length) (by omega) HR.out
      obtain ⟨v, hv⟩ : ∃ v, gt ys k = v := ⟨_, rfl⟩
      rw [hv] at HST
      have HVV := Lib.hid hv; clear hv
      have hk100 : k < 256 := by omega
      go_wp2
      go_loopw [9] (fun j wq => ∃ (q : Nat) (zs : List Int), lo ≤ q ∧ q ≤ k ∧ j = .int .i64 q ∧ OwnI wq g (Dat g xs.length cap) zs ∧ Below g w wq ∧ Ins L lo k q v ys zs) (fun j _ => (intOf j).toNat)
      case atStart => exact ⟨k, ys, by omega, Nat.le_refl _, rfl, HOR.out, HB.out, HST.out⟩
      case round =>
        clear HOR HB HST
        obtain ⟨q, zs, hq1, hq2, rfl, hO, hB, hI⟩ := hrel
        have HOR := Lib.hid hO; clear hO
        have HB := Lib.hid hB; clear hB
        have HI := Lib.hid hI; clear hI
        have hzl : zs.length = xs.length := HI.out.re.len.trans HYL.out
        have HZL := Lib.hid hzl; clear hzl
        by_cases hgt : lo < q
        · obtain ⟨r, hr⟩ : ∃ r, q = r + 1 := ⟨q - 1, by omega⟩
          obtain ⟨c1, f1⟩ := HOR.out.at' (j := q) (by have := HZL.out; omega)
          obtain ⟨c2, f2⟩ := HOR.out.at' (j := r) (by have := HZL.out; omega)
          have HRZ : Hid (∀ q, q < zs.length → 0 ≤ gt zs q ∧ gt zs q < L.length) := HI.out.re.every (P := fun z => 0 ≤ z ∧ z < L.length) (by have := HYL.out; omega) HRY.out
          have ru := HRZ.out q (by have := HZL.out; omega)
          have rv := HRZ.out r (by have := HZL.out; omega)
          have hat := HI.out.at_
          have hless := HI.out.less r (by omega) (by omega) (by omega)
          rw [hat] at c1 ru
          obtain ⟨u, hu⟩ : ∃ u, gt zs r = u := ⟨_, rfl⟩
          rw [hu] at c2 rv hless
          have e0 : q - 1 = r := by omega
          have HCM : Hid (cmpI (keyL L u) (keyL L v) < 0 ↔ bef L v u) := cmp_less hless
          have HSTEP : Hid (bef L v u → Ins L lo k r v ys (swp zs q r)) := fun hb => by
            have := HI.out.step (by omega) hq2 (by have := HYL.out; omega) (by rw [e0, hu]; exact hb)
            rwa [e0] at this
          have HDONE : Hid (¬ bef L v u → Srt L lo (k + 1) zs) := fun hb => HI.out.done (by omega) hq2 (.inr (by rw [e0, hu]; exact hb))
          have HSW : Hid (swp zs q r = (zs.set q u).set r v) := by show _ = _; unfold swp; rw [hu, hat]
          have HRQ := Lib.hid hr
          have d1 : (q : Int) - 1 = r := by omega
          have d4 : IntKind.i64.wrap (r : Int) = (r : Int) := IntWalk.i64_in _ (by omega)
          have g1 : 0 ≤ (q : Int) := by omega
          have g3 : 0 ≤ (r : Int) := by omega
          have d2 : decide ((lo : Int) < (q : Int)) = true := by simp; omega
          have d3 : (lo : Int) < (q : Int) := by omega
          have g2 : (q : Int) < (xs.length : Int) := by omega
          have g4 : (r : Int) < (xs.length : Int) := by omega
          have HCC := Lib.hid (HC.out.below HB.out.drew)
          have hs := HOR.out.size_lt
          have HU := Lib.hid hu
          clear hless hat hu e0 hr
          go_wp2
          go_region_held_law (fun w' => w'.cell? ⟨g, q, none⟩ = some (.int .i64 v) ∧ w'.cell? ⟨g, r, none⟩ = some (.int .i64 u)) (first | exact ⟨by assumption, by assumption⟩ | go_keep | exact ⟨(hb1.cell (p := ⟨g, q, none⟩) hs).trans (by assumption), (hb1.cell (p := ⟨g, r, none⟩) hs).trans (by assumption)⟩) (first | (go_at_call 32; with_reducible refine (clo_any hl HA.out HCC.out v u ru rv).mono ?_; rintro e w1 ⟨rfl, hb1⟩))
          rename_i hHeld; clear hHeld c1 c2
          have HO1 := Lib.hid (HOR.out.drew.below hb1)
          have HB1 := Lib.hid (HB.out.drew.trans (hb1.mono (Nat.le_of_lt hs)))
          clear hb1 HOR HB HCC hs
          obtain ⟨cc, hcc⟩ : ∃ cc, cmpI (keyL L u) (keyL L v) = cc := ⟨_, rfl⟩
          rw [hcc] at HCM
          rw [hcc]
          clear hcc
          by_cases hlt0 : cc < 0
          · have HI' := Lib.hid (HSTEP.out (HCM.out.1 hlt0))
            obtain ⟨c1, f1⟩ := HO1.out.at' (j := q) (by have := HZL.out; omega)
            obtain ⟨c2, f2⟩ := HO1.out.at' (j := r) (by have := HZL.out; omega)
            rw [show gt zs q = v from HI.out.at_] at c1
            rw [HU.out] at c2
            have HST2 := Lib.hid ((HO1.out.stored q u).stored r v).drew
            have HBW := Lib.hid ((HB1.out.setCell (p := ⟨g, q, none⟩) (Nat.le_refl _) (.int .i64 u)).setCell (p := ⟨g, r, none⟩) (Nat.le_refl _) (.int .i64 v)).drew
            have hne : ¬ (q = r) := by omega
            have hne' : ¬ (r = q) := by omega
            clear HO1 HB1
            go_wp2
            go_region_law (fail)
            all_goals
              go_wp2
              go_roundw
              case rel => exact ⟨r, swp zs q r, by omega, by omega, by go_num, by rw [HSW.out]; exact HST2.out, HBW.out, HI'.out⟩
              case measure => simp [intOf]; omega
          · have HD := Lib.hid (HDONE.out (fun h => hlt0 (HCM.out.2 h)))
            go_wp2
            go_roundw
            case rel => exact ⟨k + 1, zs, by omega, .inl (by omega), by go_num, HO1.out, HB1.out, (HRE.out.wide (Nat.le_refl _) (by omega)).trans HI.out.re, HD.out, fun q hq => (HI.out.re.out q (by omega)).trans (HOUT.out q (by omega))⟩
            case measure => simp [intOf]; omega
        · obtain rfl : q = lo := by omega
          have HD := Lib.hid (HI.out.done (Nat.le_refl _) hq2 (.inl rfl))
          have d2 : decide ((q : Int) < (q : Int)) = false := by simp
          go_wp2
          go_quiet (fail)
          all_goals
            go_wp2
            go_roundw
            case rel => exact ⟨k + 1, zs, by omega, .inl (by omega), by go_num, HOR.out.drewN _, below_drewN HB.out _, (HRE.out.wide (Nat.le_refl _) (by omega)).trans HI.out.re, HD.out, fun p hp => (HI.out.re.out p (by omega)).trans (HOUT.out p (by omega))⟩
            case measure => simp [intOf]; omega
    · have HF : Hid (Rearr lo hi xs ys ∧ Srt L lo hi ys) := by
        rcases hk2 with h | ⟨h, rfl⟩
        · obtain rfl : k = hi := by omega
          exact ⟨HRE.out, HSR.out⟩
        · exact ⟨Rearr.refl _ _ _, fun p q p1 p2 p3 => by omega⟩
      go_wp2
      go_end0
      exact ⟨ys, ⟨rfl, HB.out, HOR.out, HYL.out⟩, HF.out.1, HF.out.2⟩
end Go.Proofs.Ytacbciamehchjaa
