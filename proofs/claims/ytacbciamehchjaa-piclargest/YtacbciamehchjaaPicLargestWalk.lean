
/- PicLargest returns true: the walk. -/
import Derived.Test.YtacbciamehchjaaOpen
import Derived.Test.YtacbciamehchjaaLargest
import Derived.Test.YtacbciamehchjaaMostMath
import Derived.Test.YtacbciamehchjaaLong
import Derived.Test.YtacbciamehchjaaAwk
namespace Go.Proofs.Ytacbciamehchjaa.picLargest
open Go.RowKit
set_option linter.unusedVariables false

set_option maxRecDepth 100000 in
set_option maxHeartbeats 1600000 in
theorem walk (b0 : Option Addr) (xs0 : List Int) (c0 : Nat) (b1 : Option Addr) (xs1 : List Int) (c1 : Nat) (w : World) (h0 : Sl w b0 xs0) (l0 : xs0.length ≤ 9223372036854775807) (r0 : ∀ x ∈ xs0, I64 x) (h1 : Sl w b1 xs1) (l1 : xs1.length ≤ 9223372036854775807) (r1 : ∀ x ∈ xs1, I64 x) :
    Calls Try.prog 4 #[.slice b0 xs0.length c0, .slice b1 xs1.length c1] w fun e w' => e = .returned (.bool true) ∧ Below w.heap.size w w' := by
  have H0 := Lib.hid h0; clear h0
  have H1 := Lib.hid h1; clear h1
  have R1 := Lib.hid r1; clear r0 r1
  have HB0 : Hid (Below w.heap.size w (w.alloc (.cells #[.slice b0 xs0.length c0, .slice b1 xs1.length c1] 22))) := (Below.refl _ _).alloc (Nat.le_refl _) _
  cases hL : (decide (600 < xs0.length) || decide (600 < xs1.length))
  case true =>
    have HL := Lib.hid hL; clear hL
    go_enter Try.func4, Try.ntmps4
    go_wp2_with fail
    refine (long2 b0 xs0.length c0 b1 xs1.length c1 _ _ (by simp) _ l0 l1).mono ?_
    rintro e w1 ⟨rfl, rfl⟩
    rw [HL.out]
    go_wp2_with (go_at_call 7; refine (awake_any _).mono ?_; rintro e wa ⟨rfl, hba⟩)
    go_ret
    exact ⟨rfl, HB0.out.trans (hba.mono HB0.out.size)⟩
  case false =>
    have hs : xs0.length ≤ 600 ∧ xs1.length ≤ 600 := by simp at hL; omega
    obtain ⟨hs0, hs1⟩ := hs
    have HL := Lib.hid hL; clear hL
    go_enter Try.func4, Try.ntmps4
    go_wp2_with fail
    refine (long2 b0 xs0.length c0 b1 xs1.length c1 _ _ (by simp) _ l0 l1).mono ?_
    rintro e w1 ⟨rfl, rfl⟩
    rw [HL.out]
    generalize (w.alloc (.cells #[.slice b0 xs0.length c0, .slice b1 xs1.length c1] 22)) = w0 at *
    go_wp2_with fail
    refine (rvalidList_any b0 xs0 c0 w0 (by omega) (H0.out.below HB0.out)).mono ?_
    rintro e w1 ⟨rfl, rfl⟩
    cases hv : validListB xs0
    · clear hv
      go_wp2_with (go_at_call 7; refine (awake_any _).mono ?_; rintro e wa ⟨rfl, hba⟩)
      go_ret
      exact ⟨rfl, HB0.out.trans (hba.mono HB0.out.size)⟩
    · obtain ⟨h256, hall⟩ := list_256 hv
      have HV := Lib.hid hv
      have HA := Lib.hid hall
      clear hv hall
      obtain ⟨i0, hi, hz0, hz1, hz2⟩ := info_parts Try.infoBool
      go_wp2_with (with_reducible refine wpList_make_full _ rfl (.tmp 25) (.tmp 25) 37 rfl w0.heap.size 4 i0 (.bool false) 1 Try.underlying37 hi hz0 hz1 .i64 .i64 (xs0.length : Int) (xs0.length : Int) xs0.length rfl rfl rfl rfl (by rw [hz2]; omega) (by unfold maxLen; omega) (Nat.le_refl _) ?_)
      rotate_left
      intro w4 hown hgrow
      have HO4 : Hid (OwnT w4 w0.heap.size w0.heap.size xs0.length (List.replicate xs0.length false)) := by
        have z := falses_are xs0.length
        rw [Nat.mul_one] at z
        show w4.ownsRow _ _ _ _ _ _
        rw [← z]; exact hown
      have hb4 : Below w0.heap.size w0 w4 := (Below.refl _ _).grown hgrow (Nat.le_refl _) (fun k e => by cases e)
      have HB4 : Hid (Below w.heap.size w w4) := HB0.out.trans (hb4.mono HB0.out.size)
      have HWG : Hid (w.heap.size ≤ w0.heap.size) := HB0.out.size
      have HH0 : Hid (∀ {W : World}, Below w.heap.size w W → Sl W b0 xs0) := fun h => H0.out.below h
      have HH1 : Hid (∀ {W : World}, Below w.heap.size w W → Sl W b1 xs1) := fun h => H1.out.below h
      have HLOB : Hid (∀ j, j < xs0.length → ∀ b o, b0 = some ⟨b, o, none⟩ → b < w.heap.size) := fun j hj b o e => by
        obtain ⟨b', o', x, e2, hc, _⟩ := H0.out.at hj
        rw [e] at e2; cases e2
        exact cell_lt hc
      clear hown hgrow hb4 HB0
      generalize w0.heap.size = g at *
      have HZ : Hid (sumTo (chI (List.replicate xs0.length false)) xs0.length = 0 ∧ sumTo (chS xs0 (List.replicate xs0.length false)) xs0.length = 0) := by
        constructor
        · rw [sumTo_congr xs0.length (g := fun _ => 0) (fun i hi => by unfold chI; simp [hi]), psum_zero]
        · rw [sumTo_congr xs0.length (g := fun _ => 0) (fun i hi => by unfold chS; simp [hi]), psum_zero]
      go_wp2
      go_loopw [6, 7, 29] (fun k s i wr => ∃ (q : Nat) (bs : List Bool), q ≤ xs1.length ∧ i = .int .i64 q ∧ k = .int .i64 (sumTo (chI bs) xs0.length) ∧ s = .int .i64 (sumTo (chS xs0 bs) xs0.length) ∧ Hid (bs.length = xs0.length) ∧ OwnT wr g g xs0.length bs ∧ Below w.heap.size w wr) (fun _ _ i _ => xs1.length - (intOf i).toNat)
      case atStart => exact ⟨0, _, Nat.zero_le _, rfl, by rw [HZ.out.1], by rw [HZ.out.2], List.length_replicate, HO4.out, HB4.out⟩
      case round =>
        obtain ⟨q, bs, hq, rfl, rfl, rfl, HBL, hO, hB⟩ := hrel
        have HO := Lib.hid hO; clear hO HO4 HZ
        have HB := Lib.hid hB; clear hB
        have HCI := Lib.hid (ch_in (bs := bs) HA.out xs0.length (Nat.le_refl _))
        by_cases hlt : q < xs1.length
        · obtain ⟨b5, o5, x, e5, hc5, HX⟩ := (HH1.out HB.out).at hlt
          subst e5
          have HXI : Hid (I64 x) := R1.out x (List.mem_of_getElem? HX.out)
          by_cases hx0 : x < 0
          · have d0 : decide (0 ≤ x) = false := by simp; omega
            go_wp2
            go_roundw
            case rel => exact ⟨q + 1, bs, by omega, by go_num, rfl, rfl, HBL, HO.out, HB.out⟩
            case measure => simp [intOf]; omega
          · by_cases hxn : (xs0.length : Int) ≤ x
            · have hx0' : 0 ≤ x := by omega
              have d0 : decide (0 ≤ x) = true := by simp; omega
              have d1 : decide (x < (xs0.length : Int)) = false := by simp; omega
              go_wp2
              go_roundw
              case rel => exact ⟨q + 1, bs, by omega, by go_num, rfl, rfl, HBL, HO.out, HB.out⟩
              case measure => simp [intOf]; omega
            · obtain ⟨j, rfl⟩ := Int.eq_ofNat_of_zero_le (show 0 ≤ x by omega)
              have hj : j < xs0.length := by omega
              obtain ⟨hct, hft⟩ := HO.out.cell HBL.out hj
              have hgl := HO.out.lt
              cases hbj : bs[j]?.getD false
              · rw [hbj] at hct
                obtain ⟨b6, o6, v, e6, hc6, HY⟩ := (HH0.out HB.out).at hj
                subst e6
                have hvr := allB_get HA.out HY.out
                obtain ⟨st1, st2⟩ := ch_set (L := xs0) hj HBL.out hbj
                have HST1 := Lib.hid st1
                have HST2 := Lib.hid st2
                have HAV : Hid (av (gt xs0 j) = if v < -v then -v else v) := by show _ = _; rw [gt_some' HY.out]; rfl
                have HSO := Lib.hid (HO.out.stored j true)
                have HWG2 : Hid (w.heap.size ≤ g) := HWG.out
                have hne6 : b6 ≠ g := by have := HLOB.out j hj b6 o6 rfl; have := HWG.out; omega
                have hc6' : (wr.setCell ⟨g, j, none⟩ (.bool true)).cell? ⟨b6, o6 + j, none⟩ = some (.int .i64 v) := (cell_other wr ⟨g, j, none⟩ (.bool true) (o6 + j) hne6).trans hc6
                have HBW := Lib.hid (HB.out.setCell (p := ⟨g, j, none⟩) HWG2.out (.bool true))
                obtain ⟨ci1, ci2, ci3, ci4⟩ := HCI.out
                clear st1 st2
                obtain ⟨K, hK⟩ : ∃ K, sumTo (chI bs) xs0.length = K := ⟨_, rfl⟩
                obtain ⟨S, hS⟩ : ∃ S, sumTo (chS xs0 bs) xs0.length = S := ⟨_, rfl⟩
                rw [hK] at HST1 ci1 ci2
                rw [hS] at HST2 ci3 ci4
                rw [hK, hS]
                clear hK hS
                have hS6 : S ≤ 256000000 := by omega
                have m1 : IntKind.i64.wrap (-v) = -v := IntWalk.i64_in _ (by omega)
                have m2 : IntKind.i64.wrap (S + v) = S + v := IntWalk.i64_in _ (by omega)
                have m3 : IntKind.i64.wrap (S + -v) = S + -v := IntWalk.i64_in _ (by omega)
                by_cases hvn : v < -v
                · have HAV2 : Hid (av (gt xs0 j) = -v) := by show _ = _; rw [HAV.out, if_pos hvn]
                  have hmax : max v (-v) = -v := by omega
                  go_wp2
                  go_quiet (fail)
                  go_wp2
                  go_roundw
                  case rel => exact ⟨q + 1, bs.set j true, by omega, by go_num, by rw [HST1.out], by rw [HST2.out, HAV2.out], by rw [List.length_set]; exact HBL.out, HSO.out.drewN _, below_drewN HBW.out _⟩
                  case measure => simp [intOf]; omega
                · have HAV2 : Hid (av (gt xs0 j) = v) := by show _ = _; rw [HAV.out, if_neg hvn]
                  have hmax : max v (-v) = v := by omega
                  go_wp2
                  go_quiet (fail)
                  go_wp2
                  go_roundw
                  case rel => exact ⟨q + 1, bs.set j true, by omega, by go_num, by rw [HST1.out], by rw [HST2.out, HAV2.out], by rw [List.length_set]; exact HBL.out, HSO.out.drewN _, below_drewN HBW.out _⟩
                  case measure => simp [intOf]; omega
              · rw [hbj] at hct
                go_wp2
                go_roundw
                case rel => exact ⟨q + 1, bs, by omega, by go_num, rfl, rfl, HBL, HO.out, HB.out⟩
                case measure => simp [intOf]; omega
        · obtain rfl : q = xs1.length := by omega
          obtain ⟨ci1, ci2, ci3, ci4⟩ := HCI.out
          obtain ⟨kk, hkk⟩ := Int.eq_ofNat_of_zero_le ci1
          obtain ⟨S, hS⟩ : ∃ S, sumTo (chS xs0 bs) xs0.length = S := ⟨_, rfl⟩
          have hkn : kk ≤ xs0.length := by omega
          have HM := Lib.hid (top_most (L := xs0) (bs := bs) (k := kk) hkn hkk)
          have hS6 : 0 ≤ S ∧ S ≤ 256000000 := by omega
          have HLV : Hid (largestV xs0 (kk : Int) = (topTo xs0 kk xs0.length, 0)) := by show _ = _; unfold largestV; rw [if_pos HV.out, if_pos (by omega)]
          have hlen := top_length xs0 hkn
          have HMEM : Hid (∀ p, p < kk → 0 ≤ gt (topTo xs0 kk xs0.length) p ∧ gt (topTo xs0 kk xs0.length) p < xs0.length) := fun p hp => by
            obtain ⟨j, j1, j2, _⟩ := (topTo_mem xs0.length).1 (gt_mem_all.2 ⟨p, by rw [hlen]; exact hp, rfl⟩)
            omega
          have HASC : Hid (∀ p r, p < r → r < kk → gt (topTo xs0 kk xs0.length) p < gt (topTo xs0 kk xs0.length) r) := fun p r h1 h2 => by
            have := (List.pairwise_iff_getElem.1 (topTo_asc xs0 kk xs0.length)) p r (by omega) (by omega) h1
            unfold gt
            rw [List.getElem?_eq_getElem (by omega), List.getElem?_eq_getElem (by omega)]
            exact this
          rw [hS] at HM
          rw [hkk, hS]
          obtain ⟨zs, hzs⟩ : ∃ zs, topTo xs0 kk xs0.length = zs := ⟨_, rfl⟩
          rw [hzs] at HM HLV hlen HMEM HASC
          have HLEN := Lib.hid hlen
          clear hS hkk hzs hlen HCI HO HBL ci1 ci2 ci3 ci4 hlt hq
          go_wp2_with fail
          refine (largest_any b0 xs0 c0 (kk : Int) wr (by omega) (HH0.out HB.out)).mono ?_
          rintro e w5 ⟨hb, a3, k3, rfl, s1⟩
          rw [HLV.out] at s1 ⊢
          dsimp only at s1 ⊢
          have HB5 : Hid (Below w.heap.size w w5) := HB.out.trans (hb.mono HB.out.size)
          have SZ := Lib.hid s1
          have n1 : ((zs.length : Int) == (kk : Int)) = true := by have := HLEN.out; simp; omega
          have n2 : ((zs.length : Int) != (kk : Int)) = false := by have := HLEN.out; simp; omega
          have hzl : zs.length ≤ 256 := by have := HLEN.out; omega
          clear hb s1 HB
          have HTB : Hid (∀ p, p ≤ zs.length → 0 ≤ tsum xs0 zs p ∧ tsum xs0 zs p ≤ p * 1000000) := by
            intro p
            induction p with
            | zero => intro _; simp [tsum, sumTo]
            | succ p ih =>
              intro hp
              have h1 := ih (by omega)
              have h2 := HMEM.out p (by have := HLEN.out; omega)
              have h3 := gt_in HA.out (k := (gt zs p).toNat) (by omega)
              have h4 : 0 ≤ av (gt xs0 (gt zs p).toNat) ∧ av (gt xs0 (gt zs p).toNat) ≤ 1000000 := by unfold av; split <;> omega
              have e : tsum xs0 zs (p + 1) = tsum xs0 zs p + av (gt xs0 (gt zs p).toNat) := rfl
              rw [e]; omega
          go_wp2
          go_loopw [7, 82] (fun s i wr => ∃ p : Nat, p ≤ zs.length ∧ i = .int .i64 p ∧ s = .int .i64 (S - tsum xs0 zs p) ∧ Below w5.heap.size w5 wr) (fun _ i _ => zs.length - (intOf i).toNat)
          case atStart => exact ⟨0, Nat.zero_le _, rfl, by simp [tsum, sumTo], Below.refl _ _⟩
          case round =>
            obtain ⟨p, hp, rfl, rfl, hB⟩ := hrel
            have HB := Lib.hid hB; clear hB
            have HBw : Hid (Below w.heap.size w wr) := HB5.out.trans (HB.out.mono HB5.out.size)
            obtain ⟨t0, t1⟩ := HTB.out p hp
            have HTN : Hid (tsum xs0 zs (p + 1) = tsum xs0 zs p + av (gt xs0 (gt zs p).toNat)) := rfl
            obtain ⟨Tp, hTp⟩ : ∃ t, tsum xs0 zs p = t := ⟨_, rfl⟩
            rw [hTp] at t0 t1 HTN
            rw [hTp]
            by_cases hlt : p < zs.length
            · have hTp6 : Tp ≤ 256000000 := by omega
              clear hTp t1
              have SZw := Lib.hid (SZ.out.below HB.out)
              obtain ⟨b7, o7, x, e7, hc7, HX⟩ := SZw.out.at hlt
              subst e7
              have hmx := HMEM.out p (by have := HLEN.out; omega)
              have hgx := gt_some' HX.out
              rw [hgx] at hmx HTN
              obtain ⟨j, rfl⟩ := Int.eq_ofNat_of_zero_le hmx.1
              have hj : j < xs0.length := by omega
              rw [Int.toNat_natCast] at HTN
              obtain ⟨b6, o6, v, e6, hc6, HY⟩ := (HH0.out HBw.out).at hj
              subst e6
              have hvr := allB_get HA.out HY.out
              rw [gt_some' HY.out] at HTN
              have HAV : Hid (av v = if v < -v then -v else v) := rfl
              have HPV : Hid (0 < p → ∃ y : Int, wr.cell? ⟨b7, o7 + (p - 1), none⟩ = some (.int .i64 y) ∧ y < (j : Int)) := fun h0 => by
                obtain ⟨b8, o8, y, e8, hc8, HY8⟩ := SZw.out.at (show p - 1 < zs.length by omega)
                simp at e8
                obtain ⟨rfl, rfl⟩ := e8
                refine ⟨y, hc8, ?_⟩
                have := HASC.out (p - 1) p (by omega) (by have := HLEN.out; omega)
                rw [hgx, gt_some' HY8.out] at this
                exact this
              have m1 : IntKind.i64.wrap (-v) = -v := IntWalk.i64_in _ (by omega)
              have m2 : IntKind.i64.wrap (S - Tp - v) = S - Tp - v := IntWalk.i64_in _ (by omega)
              have m3 : IntKind.i64.wrap (S - Tp - -v) = S - Tp - -v := IntWalk.i64_in _ (by omega)
              clear hmx hgx
              by_cases hp0 : 0 < p
              · obtain ⟨y, hcy, hyj⟩ := HPV.out hp0
                obtain ⟨r, hr⟩ : ∃ r, p - 1 = r := ⟨_, rfl⟩
                have dr : (p : Int) - 1 = (r : Int) := by omega
                rw [hr] at hcy
                have hrz : r < zs.length := by omega
                clear hr
                by_cases hvn : v < -v
                · have HAV2 : Hid (av v = -v) := by show _ = _; rw [HAV.out, if_pos hvn]
                  have hmax : max v (-v) = -v := by omega
                  go_wp2
                  go_quiet (fail)
                  go_wp2
                  go_roundw
                  case rel => exact ⟨p + 1, by omega, by go_num, by rw [HTN.out, HAV2.out]; congr 1; omega, below_drewN HB.out _⟩
                  case measure => simp [intOf]; omega
                · have HAV2 : Hid (av v = v) := by show _ = _; rw [HAV.out, if_neg hvn]
                  have hmax : max v (-v) = v := by omega
                  go_wp2
                  go_quiet (fail)
                  go_wp2
                  go_roundw
                  case rel => exact ⟨p + 1, by omega, by go_num, by rw [HTN.out, HAV2.out]; congr 1; omega, below_drewN HB.out _⟩
                  case measure => simp [intOf]; omega
              · obtain rfl : p = 0 := by omega
                have hc70 : wr.cell? ⟨b7, o7, none⟩ = some (.int .i64 (j : Int)) := hc7
                by_cases hvn : v < -v
                · have HAV2 : Hid (av v = -v) := by show _ = _; rw [HAV.out, if_pos hvn]
                  have hmax : max v (-v) = -v := by omega
                  go_wp2
                  go_quiet (fail)
                  go_wp2
                  go_roundw
                  case rel => exact ⟨0 + 1, by omega, by go_num, by rw [HTN.out, HAV2.out]; congr 1; omega, below_drewN HB.out _⟩
                  case measure => simp [intOf]; omega
                · have HAV2 : Hid (av v = v) := by show _ = _; rw [HAV.out, if_neg hvn]
                  have hmax : max v (-v) = v := by omega
                  go_wp2
                  go_quiet (fail)
                  go_wp2
                  go_roundw
                  case rel => exact ⟨0 + 1, by omega, by go_num, by rw [HTN.out, HAV2.out]; congr 1; omega, below_drewN HB.out _⟩
                  case measure => simp [intOf]; omega
            · obtain rfl : p = zs.length := by omega
              have hfin : S - Tp ≤ 0 := by have := HM.out; omega
              have hfin2 : decide (S - Tp ≤ 0) = true := by simp; omega
              clear hTp
              go_wp2_with (go_at_call 7; refine (awake_any _).mono ?_; rintro e wa ⟨rfl, hba⟩)
              go_ret
              exact ⟨rfl, HBw.out.trans (hba.mono HBw.out.size)⟩
end Go.Proofs.Ytacbciamehchjaa.picLargest
