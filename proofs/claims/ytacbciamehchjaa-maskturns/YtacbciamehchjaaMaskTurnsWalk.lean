
/- MaskTurns returns true: the walk. -/
import Derived.Test.YtacbciamehchjaaMAwk
import Derived.Test.YtacbciamehchjaaTurnMath
import Derived.Test.YtacbciamehchjaaMAdjMath
import Derived.Test.YtacbciamehchjaaMLong
import Derived.Test.YtacbciamehchjaaMRead
import Derived.Test.YtacbciamehchjaaPairEq
namespace Go.Proofs.Ytacbciamehchjaa.maskTurns
open Go.RowKit
set_option linter.unusedVariables false

set_option maxRecDepth 1000000 in
set_option maxHeartbeats 3200000 in
theorem walk (b0 : Option Addr) (m0 : List (List Int)) (c0 : Nat) (b1 : Option Addr) (xs1 : List Int) (c1 : Nat) (b2 : Option Addr) (xs2 : List Int) (c2 : Nat) (b3 : Option Addr) (xs3 : List Int) (c3 : Nat) (w : World) (h0 : Ms w b0 m0) (r0 : MOk m0) (h1 : Sl w b1 xs1) (l1 : xs1.length ≤ 9223372036854775807) (r1 : ∀ x ∈ xs1, I64 x) (h2 : Sl w b2 xs2) (l2 : xs2.length ≤ 9223372036854775807) (r2 : ∀ x ∈ xs2, I64 x) (h3 : Sl w b3 xs3) (l3 : xs3.length ≤ 9223372036854775807) (r3 : ∀ x ∈ xs3, I64 x) :
    Calls Try.prog 5 #[.slice b0 m0.length c0, .slice b1 xs1.length c1, .slice b2 xs2.length c2, .slice b3 xs3.length c3] w fun e w' => e = .returned (.bool true) ∧ Below w.heap.size w w' := by
  have H0 := Lib.hid h0; clear h0
  have R0 := Lib.hid r0; clear r0
  have H1 := Lib.hid h1; clear h1
  have H2 := Lib.hid h2; clear h2
  have H3 := Lib.hid h3; clear h3
  have R1 := Lib.hid r1; clear r1
  have R2 := Lib.hid r2; clear r2 r3
  go_enter Try.func5, Try.ntmps5
  go_wp2_with fail
  refine (rvalid_any _ _ _ _ R0.out H0.out).mono ?_
  rintro e w1 ⟨rfl, rfl⟩
  cases hv : validM m0
  · as_aux_lemma =>
      go_wp2_with (go_at_call 21; refine (awake_any _).mono ?_; rintro e wa ⟨rfl, hba⟩)
      go_ret
      exact ⟨rfl, Below.next (Below.refl _ _) hba (Nat.le_refl _)⟩
  · have HV := Lib.hid hv; clear hv
    go_wp2_with fail
    refine (rshown_any _ _ _ _ _ _ _ R0.out l3 H0.out H3.out).mono ?_
    rintro e w1 ⟨rfl, rfl⟩
    cases hs1 : shownM m0 xs3
    · as_aux_lemma =>
        go_wp2_with (go_at_call 21; refine (awake_any _).mono ?_; rintro e wa ⟨rfl, hba⟩)
        go_ret
        exact ⟨rfl, Below.next (Below.refl _ _) hba (Nat.le_refl _)⟩
    · obtain ⟨_, hx1, hx2, hx3⟩ := shownM_of hs1
      clear hs1
      have HXL := Lib.hid hx1; clear hx1
      have HXA := Lib.hid hx2; clear hx2
      have HXF := Lib.hid hx3; clear hx3
      have HM6 := Lib.hid (validM_of HV.out).2.1
      have HC10 := Lib.hid (validM_of HV.out).2.2.2.1
      cases hL : (decide (200 < xs1.length) || decide (200 < xs2.length))
      case true =>
        as_aux_lemma =>
          have HL := Lib.hid hL; clear hL
          go_wp2_with fail
          refine (mlong2 b1 xs1.length c1 b2 xs2.length c2 _ _ rfl _ l1 l2).mono ?_
          rintro e w1 ⟨rfl, rfl⟩
          rw [HL.out]
          have HB0 : Hid (Below w.heap.size w (w.alloc (.cells #[.slice b1 xs1.length c1, .slice b2 xs2.length c2] 22))) := (Below.refl _ _).alloc (Nat.le_refl _) _
          generalize w.alloc (.cells #[.slice b1 xs1.length c1, .slice b2 xs2.length c2] 22) = W0 at *
          go_wp2_with (go_at_call 21; refine (awake_any _).mono ?_; rintro e wa ⟨rfl, hba⟩)
          go_ret
          exact ⟨rfl, Below.next HB0.out hba (Nat.le_refl _)⟩
      case false =>
        have HL := Lib.hid hL; clear hL
        have HLN : Hid (xs1.length ≤ 200 ∧ xs2.length ≤ 200) := by
          have := HL.out
          simp at this
          exact ⟨by omega, by omega⟩
        go_wp2_with fail
        refine (mlong2 b1 xs1.length c1 b2 xs2.length c2 _ _ rfl _ l1 l2).mono ?_
        rintro e w1 ⟨rfl, rfl⟩
        rw [HL.out]
        have HB0 : Hid (Below w.heap.size w (w.alloc (.cells #[.slice b1 xs1.length c1, .slice b2 xs2.length c2] 22))) := (Below.refl _ _).alloc (Nat.le_refl _) _
        generalize w.alloc (.cells #[.slice b1 xs1.length c1, .slice b2 xs2.length c2] 22) = W0 at *
        clear HL
        obtain ⟨r, hr⟩ : ∃ r, readL m0 xs3 = r := ⟨_, rfl⟩
        have hrl : r.length = m0.length := by rw [← hr, readL_length]
        have HR := Lib.hid hr; clear hr
        have HRL := Lib.hid hrl; clear hrl
        go_wp2_with fail
        refine (mread_any _ m0 _ _ xs3 _ _ R0.out l3 (H0.out.below HB0.out) (H3.out.below HB0.out)).mono ?_
        rintro e w1 ⟨hb1, a1, k1, rfl, s1⟩
        rw [readV_ok HV.out HXF.out, HR.out] at s1 ⊢
        dsimp only at s1 ⊢
        have HB1 : Hid (Below w.heap.size w w1) := Below.next HB0.out hb1 (Nat.le_refl _)
        have S1 := Lib.hid s1; clear s1 hb1
        obtain ⟨⟨⟨n, d⟩, q⟩, hq⟩ : ∃ x, cohV m0 = x := ⟨_, rfl⟩
        have HQ := Lib.hid hq; clear hq
        go_wp2_with fail
        refine (coherence_any b0 m0 c0 w1 R0.out (H0.out.below HB1.out)).mono ?_
        rintro e w2 ⟨hb2, rfl⟩
        rw [HQ.out]
        dsimp only
        have HB2 : Hid (Below w.heap.size w w2) := Below.next HB1.out hb2 (Nat.le_refl _)
        have S12 := Lib.hid (S1.out.below hb2)
        clear hb2 HB1 S1 HB0
        go_wp2_with fail
        have HFW : Hid (FBox w2.heap.size n d (w2.alloc (.cells #[.int .i64 n, .int .i64 d] 44))) := FBox.made _ _ _ _ rfl
        have hb8 : Below w2.heap.size w2 (w2.alloc (.cells #[.int .i64 n, .int .i64 d] 44)) := (Below.refl _ _).alloc (Nat.le_refl _) _
        have HBW : Hid (Below w.heap.size w (w2.alloc (.cells #[.int .i64 n, .int .i64 d] 44))) := Below.next HB2.out hb8 (Nat.le_refl _)
        have S1W := Lib.hid (S12.out.below hb8)
        have hGW : w2.heap.size < (w2.alloc (.cells #[.int .i64 n, .int .i64 d] 44)).heap.size := by rw [World.size_alloc]; omega
        clear hb8 HB2 S12
        generalize (w2.alloc (.cells #[.int .i64 n, .int .i64 d] 44)) = W at *
        obtain ⟨G, hG⟩ : ∃ G, w2.heap.size = G := ⟨_, rfl⟩
        rw [hG] at HFW hGW
        rw [hG]
        clear hG
        refine (permuted_any b0 m0 c0 b1 xs1 c1 W R0.out l1 R1.out (H0.out.below HBW.out) (H1.out.below HBW.out)).mono ?_
        rintro e w3 ⟨hb3, a3, k3, rfl, s3⟩
        have HBV0 : Hid (Below w.heap.size w w3) := Below.next HBW.out hb3 (Nat.le_refl _)
        have S1V0 := Lib.hid (S1W.out.below hb3)
        have HFV0 := Lib.hid (HFW.out.later hb3 hGW)
        have hGV0 : G < w3.heap.size := Nat.lt_of_lt_of_le hGW hb3.size
        clear hb3 HBW S1W HFW hGW
        obtain ⟨⟨M, f⟩, hp⟩ : ∃ x, permV m0 xs1 = x := ⟨_, rfl⟩
        rw [hp] at s3 ⊢
        dsimp only at s3 ⊢
        by_cases h0 : f = 0
        · subst h0
          obtain ⟨hin, hln, hco, hrd, hok⟩ := perm_all hp HXL.out HXA.out
          clear hp
          rw [HR.out] at hrd
          rw [HQ.out] at hco
          have HRD := Lib.hid hrd; clear hrd
          have HCO := Lib.hid hco; clear hco
          have HOK := Lib.hid hok; clear hok
          have HIN := Lib.hid hin; clear hin
          have HMV0 := Lib.hid s3; clear s3
          have hl1 : xs1.length ≤ 200 := HLN.out.1
          clear hln
          go_wp2
          go_loopw [15, 68] (fun v i wr => ∃ k : Nat, k ≤ xs1.length ∧ i = .int .i64 k ∧ OwnI wr w3.heap.size v ((pickR xs1 xs3).take k) ∧ Below w3.heap.size w3 wr) (fun _ i _ => xs1.length - (intOf i).toNat)
          case atStart => exact ⟨0, Nat.zero_le _, rfl, OwnI.nil _ _, Below.refl _ _⟩
          case round =>
            obtain ⟨k, hk, rfl, hO, hB⟩ := hrel
            have HO := Lib.hid hO; clear hO
            have HB := Lib.hid hB; clear hB
            by_cases hlt : k < xs1.length
            · have HBw : Hid (Below w.heap.size w wr) := Below.next HBV0.out HB.out (Nat.le_refl _)
              obtain ⟨b4, o4, x, rfl, hcw4, HX⟩ := (H1.out.below HBw.out).at hlt
              have hg := HIN.out k hlt
              have hgx := gt_some' HX.out
              rw [hgx] at hg
              obtain ⟨j, rfl⟩ := Int.eq_ofNat_of_zero_le hg.1
              have hj : j < xs3.length := by omega
              clear hg
              obtain ⟨b5, o5, y, rfl, hcw5, HY⟩ := (H3.out.below HBw.out).at hj
              have HT : Hid ((pickR xs1 xs3).take (k + 1) = (pickR xs1 xs3).take k ++ [y]) := by
                show _ = _
                rw [pickR_succ HX.out, Int.toNat_natCast, gt_some' HY.out]
              clear hgx
              go_wp2_with (at_builtin; go_must (refine wpList_push rfl (.tmp 80) (.tmp 85) rfl w3.heap.size _ ((pickR xs1 xs3).take k) _ _ _ _ rfl rfl rfl HO.out (by rw [List.length_take]; omega) HB.out.size ?_); intro v' w9 ho' hb')
              go_roundw
              case rel => exact ⟨k + 1, by omega, by go_num, by rw [HT.out]; exact ho', HB.out.trans hb'⟩
              case measure => simp [intOf]; omega
            · obtain rfl : k = xs1.length := by omega
              obtain ⟨a5, k5, rfl, sz⟩ := HO.out.any
              rw [List.take_of_length_le (by rw [pickR_len]; exact Nat.le_refl _)] at sz ⊢
              have HBV : Hid (Below w.heap.size w wr) := Below.next HBV0.out HB.out (Nat.le_refl _)
              have S1V := Lib.hid (S1V0.out.below HB.out)
              have HFV := Lib.hid (HFV0.out.later HB.out hGV0)
              have HMV := Lib.hid (HMV0.out.below HB.out)
              have hGV : G < wr.heap.size := Nat.lt_of_lt_of_le hGV0 HB.out.size
              clear HBV0 S1V0 HFV0 HMV0 hGV0 HB HO HIN
              obtain ⟨z, hz⟩ : ∃ z, pickR xs1 xs3 = z := ⟨_, rfl⟩
              have hzl2 : z.length = xs1.length := by rw [← hz, pickR_len]
              rw [hz] at sz HRD ⊢
              have HZL : Hid (z.length ≤ 9223372036854775807) := by show _ ≤ _; omega
              have SZ := Lib.hid sz; clear sz hz hzl2
              clear hlt hk
              have hzl : z.length ≤ 9223372036854775807 := HZL.out
              go_wp2_with fail
              refine (mread_any a3 M k3 a5 z k5 _ HOK.out hzl HMV.out SZ.out).mono ?_
              rintro e w6 ⟨hb6, a6, k6, rfl, s6⟩
              rw [HRD.out] at s6 ⊢
              dsimp only at s6 ⊢
              have HB6 : Hid (Below w.heap.size w w6) := Below.next HBV.out hb6 (Nat.le_refl _)
              have S16 := Lib.hid (S1V.out.below hb6)
              have S66 := Lib.hid s6
              have HF6 := Lib.hid (HFV.out.later hb6 hGV)
              have HM6' := Lib.hid (HMV.out.below hb6)
              have hG6 : G < w6.heap.size := Nat.lt_of_lt_of_le hGV hb6.size
              clear hb6 s6 HBV S1V HFV HMV SZ hGV
              go_wp2_with fail
              refine (coherence_any a3 M k3 w6 HOK.out HM6'.out).mono ?_
              rintro e w7 ⟨hb7, rfl⟩
              rw [HCO.out]
              dsimp only
              have HB7 : Hid (Below w.heap.size w w7) := Below.next HB6.out hb7 (Nat.le_refl _)
              have S17 := Lib.hid (S16.out.below hb7)
              have S67 := Lib.hid (S66.out.below hb7)
              have HF7 := Lib.hid (HF6.out.later hb7 hG6)
              have hG7 : G < w7.heap.size := Nat.lt_of_lt_of_le hG6 hb7.size
              clear hb7 HB6 S16 S66 HF6 HM6' hG6
              go_wp2_with fail
              have HE : Hid (FBox w7.heap.size n d (w7.alloc (.cells #[.int .i64 n, .int .i64 d] 44))) := FBox.made _ _ _ _ rfl
              have hb8 : Below w7.heap.size w7 (w7.alloc (.cells #[.int .i64 n, .int .i64 d] 44)) := (Below.refl _ _).alloc (Nat.le_refl _) _
              have hE : w7.heap.size < (w7.alloc (.cells #[.int .i64 n, .int .i64 d] 44)).heap.size := by rw [World.size_alloc]; omega
              have HB8 : Hid (Below w.heap.size w (w7.alloc (.cells #[.int .i64 n, .int .i64 d] 44))) := Below.next HB7.out hb8 (Nat.le_refl _)
              have S18 := Lib.hid (S17.out.below hb8)
              have S68 := Lib.hid (S67.out.below hb8)
              have HF8 := Lib.hid (HF7.out.later hb8 hG7)
              have hG8 : G < (w7.alloc (.cells #[.int .i64 n, .int .i64 d] 44)).heap.size := Nat.lt_of_lt_of_le hG7 hb8.size
              clear hb8 HB7 S17 S67 HF7 hG7
              generalize (w7.alloc (.cells #[.int .i64 n, .int .i64 d] 44)) = W8 at *
              generalize w7.heap.size = G8 at *
              have hrl : r.length ≤ 140737488351232 := by have := HRL.out; have := HM6.out; omega
              refine (sameInts_any a6 r k6 a1 r k1 W8 hrl hrl S68.out S18.out).mono ?_
              rintro e w9 ⟨rfl, nd, hw9⟩
              have hb9 := drew_below hw9; clear hw9
              have e0 : decide (r = r) = true := by simp
              rw [e0]
              have HB9 : Hid (Below w.heap.size w w9) := Below.next HB8.out hb9 (Nat.le_refl _)
              have S19 := Lib.hid (S18.out.below hb9)
              have HF9 := Lib.hid (HF8.out.later hb9 hG8)
              have HE9 := Lib.hid (HE.out.later hb9 hE)
              have hG9 : G < w9.heap.size := Nat.lt_of_lt_of_le hG8 hb9.size
              clear hb9 HB8 S18 S68 HF8 HE hG8 hE e0 hrl hzl
              obtain ⟨p0, p1, p2, p3⟩ := HF9.out
              obtain ⟨q0, q1, q2, q3⟩ := HE9.out
              have u1 : (n == n) = true := by simp
              have u2 : (d == d) = true := by simp
              have u3 : (n != n) = false := by simp
              have u4 : (d != d) = false := by simp
              have u5 : (q == q) = true := by simp
              have u6 : (q != q) = false := by simp
              clear HE9
              generalize w9 = W at *
              have HBW := HB9; clear HB9
              have S1W := S19; clear S19
              have HFW := HF9; clear HF9
              have hGW := hG9; clear hG9
              go_wp2_with fail
              clear p0 p1 p2 p3 q0 q1 q2 q3 u1 u2 u3 u4 u5 u6
              refine (signed_any b0 m0 c0 b2 xs2 c2 W R0.out (by have := HLN.out; omega) R2.out (H0.out.below HBW.out) (H2.out.below HBW.out)).mono ?_
              rintro e w10 ⟨hb10, a3, k3, rfl, s3⟩
              have HBV : Hid (Below w.heap.size w w10) := Below.next HBW.out hb10 (Nat.le_refl _)
              have S1V0 := Lib.hid (S1W.out.below hb10)
              have HFV0 := Lib.hid (HFW.out.later hb10 hGW)
              have hGV0 : G < w10.heap.size := Nat.lt_of_lt_of_le hGW hb10.size
              clear hb10 HBW S1W HFW hGW
              obtain ⟨g, hg⟩ : ∃ g, listV m0 xs2 = g := ⟨_, rfl⟩
              by_cases h0 : g = 0
              · subst h0
                have e1 : signV m0 xs2 = (signM m0 xs2, 0) := by unfold signV; rw [if_pos hg]
                rw [e1] at s3 ⊢
                clear e1
                obtain ⟨hin, hco, hrd, hok, hasc⟩ := sign_all hg HXL.out HXA.out
                clear hg
                rw [HR.out] at hrd
                rw [HQ.out] at hco
                obtain ⟨M, hM⟩ : ∃ M, signM m0 xs2 = M := ⟨_, rfl⟩
                rw [hM] at hrd hco hok s3 ⊢
                clear hM
                have HRD := Lib.hid hrd; clear hrd
                have HCO := Lib.hid hco; clear hco
                have HOK := Lib.hid hok; clear hok
                have HIN := Lib.hid hin; clear hin
                have HASC := Lib.hid hasc; clear hasc
                have HMV0 := Lib.hid s3; clear s3
                have hx1 : 1 ≤ xs3.length := by have := HXL.out; have := (validM_of HV.out).2.2.1; omega
                have H3' := Lib.hid (H3.out.below HBV.out)
                obtain ⟨b5, o5, y0, rfl, _, _⟩ := H3.out.at (show 0 < xs3.length by omega)
                have HOE := Lib.hid (own_empty' w10 w10.heap.size (Nat.le_refl _))
                have HBE : Hid (Below w10.heap.size w10 (w10.alloc (.cells #[] 3))) := (Below.refl _ _).alloc (Nat.le_refl _) _
                have hx10 : xs3.length ≤ 10 := by have := HXL.out; have := HC10.out; omega
                have hr1000 : ([] : List Int).length + xs3.length ≤ 100000 := by simp; omega
                have hl2 : xs2.length ≤ 200 := HLN.out.2
                dsimp only
                go_wp2_with (at_builtin; refine wpList_pushL rfl (.tmp 125) (.tmp 126) rfl w10.heap.size _ [] b5 o5 xs3 c3 _ rfl rfl HOE.out (H3'.out.below HBE.out) hr1000 HBE.out.size ?_; intro v1 w11 ho1 hb1; rw [List.nil_append] at ho1; obtain ⟨gb, k5, rfl, hgb⟩ := ho1.shape hx1; have hbw := HBE.out.trans hb1; have HO1 := Lib.hid ho1; have HBW := Lib.hid hbw; have HGB := Lib.hid hgb; clear ho1 hb1 hbw hgb)
                clear HBE HOE
                go_loopw [130] (fun i wr => ∃ k : Nat, k ≤ xs2.length ∧ i = .int .i64 k ∧ OwnI wr w10.heap.size (.slice (some ⟨gb, 0, none⟩) xs3.length k5) (signR (xs2.take k) xs3) ∧ Below w10.heap.size w10 wr) (fun i _ => xs2.length - (intOf i).toNat)
                case atStart => exact ⟨0, Nat.zero_le _, rfl, by rw [List.take_zero, signR_zero]; exact HO1.out, HBW.out⟩
                case round =>
                  clear HO1 HBW
                  obtain ⟨k, hk, rfl, hO, hB⟩ := hrel
                  have HO := Lib.hid hO; clear hO
                  have HB := Lib.hid hB; clear hB
                  by_cases hlt : k < xs2.length
                  · have HBw : Hid (Below w.heap.size w wr) := Below.next HBV.out HB.out (Nat.le_refl _)
                    obtain ⟨b4, o4, x, rfl, hcw4, HX⟩ := (H2.out.below HBw.out).at hlt
                    have hg := HIN.out k hlt
                    have hgx := gt_some' HX.out
                    rw [hgx] at hg
                    obtain ⟨j, rfl⟩ := Int.eq_ofNat_of_zero_le hg.1
                    have hj : j < xs3.length := by omega
                    clear hg
                    have hj2 : j < (signR (xs2.take k) xs3).length := by rw [signR_len]; exact hj
                    obtain ⟨hcx, hfx⟩ := HO.out.cell (j := j) hj2
                    have hval : (signR (xs2.take k) xs3)[j]?.getD 0 = gt (signR (xs2.take k) xs3) j := rfl
                    rw [hval] at hcx
                    have hbd : -1000000 ≤ gt (signR (xs2.take k) xs3) j ∧ gt (signR (xs2.take k) xs3) j ≤ 1000000 := by
                      have := gt_in HXA.out hj
                      rw [gt_signR hj]; unfold signAt; split <;> omega
                    obtain ⟨y, hy⟩ : ∃ y, gt (signR (xs2.take k) xs3) j = y := ⟨_, rfl⟩
                    have HN : Hid ((signR (xs2.take k) xs3).set j (-y) = signR (xs2.take (k + 1)) xs3) := by show _ = _; rw [← hy]; exact signR_succ HASC.out hlt hgx hj
                    have HST := Lib.hid (HO.out.stored j (-y))
                    have HGB2 : Hid (w10.heap.size ≤ gb) := HGB.out
                    rw [hy] at hcx hbd
                    obtain ⟨y1, y2⟩ := hbd
                    clear hval hj2 hgx hy
                    go_wp2
                    go_roundw
                    case rel => exact ⟨k + 1, by omega, by go_num, by rw [← HN.out]; exact HST.out, HB.out.setCell HGB2.out _⟩
                    case measure => simp [intOf]; omega
                  · obtain rfl : k = xs2.length := by omega
                    rw [List.take_length] at HO
                    have HBV2 : Hid (Below w.heap.size w wr) := Below.next HBV.out HB.out (Nat.le_refl _)
                    have S1V := Lib.hid (S1V0.out.below HB.out)
                    have HFV := Lib.hid (HFV0.out.later HB.out hGV0)
                    have HMV := Lib.hid (HMV0.out.below HB.out)
                    have hGV : G < wr.heap.size := Nat.lt_of_lt_of_le hGV0 HB.out.size
                    have sz := HO.out.sl
                    clear HBV S1V0 HFV0 HMV0 hGV0 HB HO HIN HASC H3'
                    have HBV := HBV2; clear HBV2
                    obtain ⟨z, hz⟩ : ∃ z, signR xs2 xs3 = z := ⟨_, rfl⟩
                    have hzl2 : xs3.length = z.length := by rw [← hz, signR_len]
                    rw [hz] at sz HRD
                    have HZL : Hid (z.length ≤ 9223372036854775807) := by show _ ≤ _; omega
                    rw [hzl2]
                    have SZ := Lib.hid sz; clear sz hz
                    obtain ⟨V, hV⟩ : ∃ V, wr = V := ⟨_, rfl⟩
                    subst hV
                    obtain ⟨a5, ha5⟩ : ∃ a5 : Option Addr, some ⟨gb, 0, none⟩ = a5 := ⟨_, rfl⟩
                    rw [ha5] at SZ ⊢
                    clear ha5 hlt hk
                    have hzl : z.length ≤ 9223372036854775807 := HZL.out
                    go_wp2_with fail
                    refine (mread_any a3 M k3 a5 z k5 _ HOK.out hzl HMV.out SZ.out).mono ?_
                    rintro e w6 ⟨hb6, a6, k6, rfl, s6⟩
                    rw [HRD.out] at s6 ⊢
                    dsimp only at s6 ⊢
                    have HB6 : Hid (Below w.heap.size w w6) := Below.next HBV.out hb6 (Nat.le_refl _)
                    have S16 := Lib.hid (S1V.out.below hb6)
                    have S66 := Lib.hid s6
                    have HF6 := Lib.hid (HFV.out.later hb6 hGV)
                    have HM6' := Lib.hid (HMV.out.below hb6)
                    have hG6 : G < w6.heap.size := Nat.lt_of_lt_of_le hGV hb6.size
                    clear hb6 s6 HBV S1V HFV HMV SZ hGV
                    go_wp2_with fail
                    refine (coherence_any a3 M k3 w6 HOK.out HM6'.out).mono ?_
                    rintro e w7 ⟨hb7, rfl⟩
                    rw [HCO.out]
                    dsimp only
                    have HB7 : Hid (Below w.heap.size w w7) := Below.next HB6.out hb7 (Nat.le_refl _)
                    have S17 := Lib.hid (S16.out.below hb7)
                    have S67 := Lib.hid (S66.out.below hb7)
                    have HF7 := Lib.hid (HF6.out.later hb7 hG6)
                    have hG7 : G < w7.heap.size := Nat.lt_of_lt_of_le hG6 hb7.size
                    clear hb7 HB6 S16 S66 HF6 HM6' hG6
                    go_wp2_with fail
                    have HE : Hid (FBox w7.heap.size n d (w7.alloc (.cells #[.int .i64 n, .int .i64 d] 44))) := FBox.made _ _ _ _ rfl
                    have hb8 : Below w7.heap.size w7 (w7.alloc (.cells #[.int .i64 n, .int .i64 d] 44)) := (Below.refl _ _).alloc (Nat.le_refl _) _
                    have hE : w7.heap.size < (w7.alloc (.cells #[.int .i64 n, .int .i64 d] 44)).heap.size := by rw [World.size_alloc]; omega
                    have HB8 : Hid (Below w.heap.size w (w7.alloc (.cells #[.int .i64 n, .int .i64 d] 44))) := Below.next HB7.out hb8 (Nat.le_refl _)
                    have S18 := Lib.hid (S17.out.below hb8)
                    have S68 := Lib.hid (S67.out.below hb8)
                    have HF8 := Lib.hid (HF7.out.later hb8 hG7)
                    have hG8 : G < (w7.alloc (.cells #[.int .i64 n, .int .i64 d] 44)).heap.size := Nat.lt_of_lt_of_le hG7 hb8.size
                    clear hb8 HB7 S17 S67 HF7 hG7
                    generalize (w7.alloc (.cells #[.int .i64 n, .int .i64 d] 44)) = W8 at *
                    generalize w7.heap.size = G8 at *
                    have hrl : r.length ≤ 140737488351232 := by have := HRL.out; have := HM6.out; omega
                    refine (sameInts_any a6 r k6 a1 r k1 W8 hrl hrl S68.out S18.out).mono ?_
                    rintro e w9 ⟨rfl, nd, hw9⟩
                    have hb9 := drew_below hw9; clear hw9
                    have e0 : decide (r = r) = true := by simp
                    rw [e0]
                    have HB9 : Hid (Below w.heap.size w w9) := Below.next HB8.out hb9 (Nat.le_refl _)
                    have S19 := Lib.hid (S18.out.below hb9)
                    have HF9 := Lib.hid (HF8.out.later hb9 hG8)
                    have HE9 := Lib.hid (HE.out.later hb9 hE)
                    have hG9 : G < w9.heap.size := Nat.lt_of_lt_of_le hG8 hb9.size
                    clear hb9 HB8 S18 S68 HF8 HE hG8 hE e0 hrl hzl
                    obtain ⟨p0, p1, p2, p3⟩ := HF9.out
                    obtain ⟨q0, q1, q2, q3⟩ := HE9.out
                    have u1 : (n == n) = true := by simp
                    have u2 : (d == d) = true := by simp
                    have u3 : (n != n) = false := by simp
                    have u4 : (d != d) = false := by simp
                    have u5 : (q == q) = true := by simp
                    have u6 : (q != q) = false := by simp
                    go_wp2_with (go_at_call 21; refine (awake_any _).mono ?_; rintro e wa ⟨rfl, hba⟩)
                    go_ret
                    exact ⟨rfl, Below.next HB9.out hba (Nat.le_refl _)⟩
              · have e1 : signV m0 xs2 = ([], g) := by unfold signV; rw [if_neg (by rw [hg]; exact h0), hg]
                rw [e1] at s3 ⊢
                dsimp only [List.length_nil]
                have e0 : (g == 0) = false := by simpa using h0
                have e2 : (g != 0) = true := by simpa using h0
                clear h0 hg e1 s3
                go_wp2_with (go_at_call 21; refine (awake_any _).mono ?_; rintro e wa ⟨rfl, hba⟩)
                go_ret
                exact ⟨rfl, Below.next HBV.out hba (Nat.le_refl _)⟩
        · have e0 : (f == 0) = false := by simpa using h0
          have e2 : (f != 0) = true := by simpa using h0
          clear h0 hp s3
          generalize w3 = W at *
          have HBW := HBV0; clear HBV0
          have S1W := S1V0; clear S1V0
          have HFW := HFV0; clear HFV0
          have hGW := hGV0; clear hGV0
          go_wp2_with fail
          refine (signed_any b0 m0 c0 b2 xs2 c2 W R0.out (by have := HLN.out; omega) R2.out (H0.out.below HBW.out) (H2.out.below HBW.out)).mono ?_
          rintro e w10 ⟨hb10, a3, k3, rfl, s3⟩
          have HBV : Hid (Below w.heap.size w w10) := Below.next HBW.out hb10 (Nat.le_refl _)
          have S1V0 := Lib.hid (S1W.out.below hb10)
          have HFV0 := Lib.hid (HFW.out.later hb10 hGW)
          have hGV0 : G < w10.heap.size := Nat.lt_of_lt_of_le hGW hb10.size
          clear hb10 HBW S1W HFW hGW
          obtain ⟨g, hg⟩ : ∃ g, listV m0 xs2 = g := ⟨_, rfl⟩
          by_cases h0 : g = 0
          · subst h0
            have e1 : signV m0 xs2 = (signM m0 xs2, 0) := by unfold signV; rw [if_pos hg]
            rw [e1] at s3 ⊢
            clear e1
            obtain ⟨hin, hco, hrd, hok, hasc⟩ := sign_all hg HXL.out HXA.out
            clear hg
            rw [HR.out] at hrd
            rw [HQ.out] at hco
            obtain ⟨M, hM⟩ : ∃ M, signM m0 xs2 = M := ⟨_, rfl⟩
            rw [hM] at hrd hco hok s3 ⊢
            clear hM
            have HRD := Lib.hid hrd; clear hrd
            have HCO := Lib.hid hco; clear hco
            have HOK := Lib.hid hok; clear hok
            have HIN := Lib.hid hin; clear hin
            have HASC := Lib.hid hasc; clear hasc
            have HMV0 := Lib.hid s3; clear s3
            have hx1 : 1 ≤ xs3.length := by have := HXL.out; have := (validM_of HV.out).2.2.1; omega
            have H3' := Lib.hid (H3.out.below HBV.out)
            obtain ⟨b5, o5, y0, rfl, _, _⟩ := H3.out.at (show 0 < xs3.length by omega)
            have HOE := Lib.hid (own_empty' w10 w10.heap.size (Nat.le_refl _))
            have HBE : Hid (Below w10.heap.size w10 (w10.alloc (.cells #[] 3))) := (Below.refl _ _).alloc (Nat.le_refl _) _
            have hx10 : xs3.length ≤ 10 := by have := HXL.out; have := HC10.out; omega
            have hr1000 : ([] : List Int).length + xs3.length ≤ 100000 := by simp; omega
            have hl2 : xs2.length ≤ 200 := HLN.out.2
            dsimp only
            go_wp2_with (at_builtin; refine wpList_pushL rfl (.tmp 125) (.tmp 126) rfl w10.heap.size _ [] b5 o5 xs3 c3 _ rfl rfl HOE.out (H3'.out.below HBE.out) hr1000 HBE.out.size ?_; intro v1 w11 ho1 hb1; rw [List.nil_append] at ho1; obtain ⟨gb, k5, rfl, hgb⟩ := ho1.shape hx1; have hbw := HBE.out.trans hb1; have HO1 := Lib.hid ho1; have HBW := Lib.hid hbw; have HGB := Lib.hid hgb; clear ho1 hb1 hbw hgb)
            clear HBE HOE
            go_loopw [130] (fun i wr => ∃ k : Nat, k ≤ xs2.length ∧ i = .int .i64 k ∧ OwnI wr w10.heap.size (.slice (some ⟨gb, 0, none⟩) xs3.length k5) (signR (xs2.take k) xs3) ∧ Below w10.heap.size w10 wr) (fun i _ => xs2.length - (intOf i).toNat)
            case atStart => exact ⟨0, Nat.zero_le _, rfl, by rw [List.take_zero, signR_zero]; exact HO1.out, HBW.out⟩
            case round =>
              clear HO1 HBW
              obtain ⟨k, hk, rfl, hO, hB⟩ := hrel
              have HO := Lib.hid hO; clear hO
              have HB := Lib.hid hB; clear hB
              by_cases hlt : k < xs2.length
              · have HBw : Hid (Below w.heap.size w wr) := Below.next HBV.out HB.out (Nat.le_refl _)
                obtain ⟨b4, o4, x, rfl, hcw4, HX⟩ := (H2.out.below HBw.out).at hlt
                have hg := HIN.out k hlt
                have hgx := gt_some' HX.out
                rw [hgx] at hg
                obtain ⟨j, rfl⟩ := Int.eq_ofNat_of_zero_le hg.1
                have hj : j < xs3.length := by omega
                clear hg
                have hj2 : j < (signR (xs2.take k) xs3).length := by rw [signR_len]; exact hj
                obtain ⟨hcx, hfx⟩ := HO.out.cell (j := j) hj2
                have hval : (signR (xs2.take k) xs3)[j]?.getD 0 = gt (signR (xs2.take k) xs3) j := rfl
                rw [hval] at hcx
                have hbd : -1000000 ≤ gt (signR (xs2.take k) xs3) j ∧ gt (signR (xs2.take k) xs3) j ≤ 1000000 := by
                  have := gt_in HXA.out hj
                  rw [gt_signR hj]; unfold signAt; split <;> omega
                obtain ⟨y, hy⟩ : ∃ y, gt (signR (xs2.take k) xs3) j = y := ⟨_, rfl⟩
                have HN : Hid ((signR (xs2.take k) xs3).set j (-y) = signR (xs2.take (k + 1)) xs3) := by show _ = _; rw [← hy]; exact signR_succ HASC.out hlt hgx hj
                have HST := Lib.hid (HO.out.stored j (-y))
                have HGB2 : Hid (w10.heap.size ≤ gb) := HGB.out
                rw [hy] at hcx hbd
                obtain ⟨y1, y2⟩ := hbd
                clear hval hj2 hgx hy
                go_wp2
                go_roundw
                case rel => exact ⟨k + 1, by omega, by go_num, by rw [← HN.out]; exact HST.out, HB.out.setCell HGB2.out _⟩
                case measure => simp [intOf]; omega
              · obtain rfl : k = xs2.length := by omega
                rw [List.take_length] at HO
                have HBV2 : Hid (Below w.heap.size w wr) := Below.next HBV.out HB.out (Nat.le_refl _)
                have S1V := Lib.hid (S1V0.out.below HB.out)
                have HFV := Lib.hid (HFV0.out.later HB.out hGV0)
                have HMV := Lib.hid (HMV0.out.below HB.out)
                have hGV : G < wr.heap.size := Nat.lt_of_lt_of_le hGV0 HB.out.size
                have sz := HO.out.sl
                clear HBV S1V0 HFV0 HMV0 hGV0 HB HO HIN HASC H3'
                have HBV := HBV2; clear HBV2
                obtain ⟨z, hz⟩ : ∃ z, signR xs2 xs3 = z := ⟨_, rfl⟩
                have hzl2 : xs3.length = z.length := by rw [← hz, signR_len]
                rw [hz] at sz HRD
                have HZL : Hid (z.length ≤ 9223372036854775807) := by show _ ≤ _; omega
                rw [hzl2]
                have SZ := Lib.hid sz; clear sz hz
                obtain ⟨V, hV⟩ : ∃ V, wr = V := ⟨_, rfl⟩
                subst hV
                obtain ⟨a5, ha5⟩ : ∃ a5 : Option Addr, some ⟨gb, 0, none⟩ = a5 := ⟨_, rfl⟩
                rw [ha5] at SZ ⊢
                clear ha5 hlt hk
                have hzl : z.length ≤ 9223372036854775807 := HZL.out
                go_wp2_with fail
                refine (mread_any a3 M k3 a5 z k5 _ HOK.out hzl HMV.out SZ.out).mono ?_
                rintro e w6 ⟨hb6, a6, k6, rfl, s6⟩
                rw [HRD.out] at s6 ⊢
                dsimp only at s6 ⊢
                have HB6 : Hid (Below w.heap.size w w6) := Below.next HBV.out hb6 (Nat.le_refl _)
                have S16 := Lib.hid (S1V.out.below hb6)
                have S66 := Lib.hid s6
                have HF6 := Lib.hid (HFV.out.later hb6 hGV)
                have HM6' := Lib.hid (HMV.out.below hb6)
                have hG6 : G < w6.heap.size := Nat.lt_of_lt_of_le hGV hb6.size
                clear hb6 s6 HBV S1V HFV HMV SZ hGV
                go_wp2_with fail
                refine (coherence_any a3 M k3 w6 HOK.out HM6'.out).mono ?_
                rintro e w7 ⟨hb7, rfl⟩
                rw [HCO.out]
                dsimp only
                have HB7 : Hid (Below w.heap.size w w7) := Below.next HB6.out hb7 (Nat.le_refl _)
                have S17 := Lib.hid (S16.out.below hb7)
                have S67 := Lib.hid (S66.out.below hb7)
                have HF7 := Lib.hid (HF6.out.later hb7 hG6)
                have hG7 : G < w7.heap.size := Nat.lt_of_lt_of_le hG6 hb7.size
                clear hb7 HB6 S16 S66 HF6 HM6' hG6
                go_wp2_with fail
                have HE : Hid (FBox w7.heap.size n d (w7.alloc (.cells #[.int .i64 n, .int .i64 d] 44))) := FBox.made _ _ _ _ rfl
                have hb8 : Below w7.heap.size w7 (w7.alloc (.cells #[.int .i64 n, .int .i64 d] 44)) := (Below.refl _ _).alloc (Nat.le_refl _) _
                have hE : w7.heap.size < (w7.alloc (.cells #[.int .i64 n, .int .i64 d] 44)).heap.size := by rw [World.size_alloc]; omega
                have HB8 : Hid (Below w.heap.size w (w7.alloc (.cells #[.int .i64 n, .int .i64 d] 44))) := Below.next HB7.out hb8 (Nat.le_refl _)
                have S18 := Lib.hid (S17.out.below hb8)
                have S68 := Lib.hid (S67.out.below hb8)
                have HF8 := Lib.hid (HF7.out.later hb8 hG7)
                have hG8 : G < (w7.alloc (.cells #[.int .i64 n, .int .i64 d] 44)).heap.size := Nat.lt_of_lt_of_le hG7 hb8.size
                clear hb8 HB7 S17 S67 HF7 hG7
                generalize (w7.alloc (.cells #[.int .i64 n, .int .i64 d] 44)) = W8 at *
                generalize w7.heap.size = G8 at *
                have hrl : r.length ≤ 140737488351232 := by have := HRL.out; have := HM6.out; omega
                refine (sameInts_any a6 r k6 a1 r k1 W8 hrl hrl S68.out S18.out).mono ?_
                rintro e w9 ⟨rfl, nd, hw9⟩
                have hb9 := drew_below hw9; clear hw9
                have e0 : decide (r = r) = true := by simp
                rw [e0]
                have HB9 : Hid (Below w.heap.size w w9) := Below.next HB8.out hb9 (Nat.le_refl _)
                have S19 := Lib.hid (S18.out.below hb9)
                have HF9 := Lib.hid (HF8.out.later hb9 hG8)
                have HE9 := Lib.hid (HE.out.later hb9 hE)
                have hG9 : G < w9.heap.size := Nat.lt_of_lt_of_le hG8 hb9.size
                clear hb9 HB8 S18 S68 HF8 HE hG8 hE e0 hrl hzl
                obtain ⟨p0, p1, p2, p3⟩ := HF9.out
                obtain ⟨q0, q1, q2, q3⟩ := HE9.out
                have u1 : (n == n) = true := by simp
                have u2 : (d == d) = true := by simp
                have u3 : (n != n) = false := by simp
                have u4 : (d != d) = false := by simp
                have u5 : (q == q) = true := by simp
                have u6 : (q != q) = false := by simp
                go_wp2_with (go_at_call 21; refine (awake_any _).mono ?_; rintro e wa ⟨rfl, hba⟩)
                go_ret
                exact ⟨rfl, Below.next HB9.out hba (Nat.le_refl _)⟩
          · have e1 : signV m0 xs2 = ([], g) := by unfold signV; rw [if_neg (by rw [hg]; exact h0), hg]
            rw [e1] at s3 ⊢
            dsimp only [List.length_nil]
            have e0 : (g == 0) = false := by simpa using h0
            have e2 : (g != 0) = true := by simpa using h0
            clear h0 hg e1 s3
            go_wp2_with (go_at_call 21; refine (awake_any _).mono ?_; rintro e wa ⟨rfl, hba⟩)
            go_ret
            exact ⟨rfl, Below.next HBV.out hba (Nat.le_refl _)⟩
end Go.Proofs.Ytacbciamehchjaa.maskTurns
