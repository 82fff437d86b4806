/- MaskAdjoint returns true: the walk. -/
import Derived.Test.YtkakjfijmekdjabMAwk
import Derived.Test.YtkakjfijmekdjabMAdjMath
import Derived.Test.YtkakjfijmekdjabMLong
import Derived.Deep.RegionHeld3
namespace Go.Proofs.Ytkakjfijmekdjab.maskAdjoint
open Go.RowKit
set_option linter.unusedVariables false

set_option maxRecDepth 1000000 in
set_option maxHeartbeats 1600000 in
theorem walk (b0 : Option Addr) (m0 : List (List Int)) (c0 : Nat) (b1 : Option Addr) (xs1 : List Int) (c1 : Nat) (b2 : Option Addr) (xs2 : List Int) (c2 : Nat) (b3 : Option Addr) (xs3 : List Int) (c3 : Nat) (w : World) (h0 : Ms w b0 m0) (r0 : MOk m0) (h1 : Sl w b1 xs1) (l1 : xs1.length ≤ 9223372036854775807) (r1 : ∀ x ∈ xs1, I64 x) (h2 : Sl w b2 xs2) (l2 : xs2.length ≤ 9223372036854775807) (r2 : ∀ x ∈ xs2, I64 x) (h3 : Sl w b3 xs3) (l3 : xs3.length ≤ 9223372036854775807) (r3 : ∀ x ∈ xs3, I64 x) :
    Calls Try.prog 8 #[.slice b0 m0.length c0, .slice b1 xs1.length c1, .slice b2 xs2.length c2, .slice b3 xs3.length c3] w fun e w' => e = .returned (.bool true) ∧ Below w.heap.size w w' := by
  clear r1 r2 r3
  have H0 := Lib.hid h0; clear h0
  have R0 := Lib.hid r0; clear r0
  have H1 := Lib.hid h1; clear h1
  have H2 := Lib.hid h2; clear h2
  have H3 := Lib.hid h3; clear h3
  go_enter Try.func8, Try.ntmps8
  go_wp2_with fail
  refine (rvalid_any _ _ _ _ R0.out H0.out).mono ?_
  rintro e w1 ⟨rfl, rfl⟩
  cases hv : validM m0
  · as_aux_lemma =>
      go_wp2_with (go_at_call 13; refine (awake_any _).mono ?_; rintro e wa ⟨rfl, hba⟩)
      go_ret
      exact ⟨rfl, Below.next (Below.refl _ _) hba (Nat.le_refl _)⟩
  · have HV := Lib.hid hv; clear hv
    go_wp2_with fail
    refine (rshown_any _ _ _ _ _ _ _ R0.out l1 H0.out H1.out).mono ?_
    rintro e w1 ⟨rfl, rfl⟩
    cases hs1 : shownM m0 xs1
    · as_aux_lemma =>
        go_wp2_with (go_at_call 13; refine (awake_any _).mono ?_; rintro e wa ⟨rfl, hba⟩)
        go_ret
        exact ⟨rfl, Below.next (Below.refl _ _) hba (Nat.le_refl _)⟩
    · obtain ⟨_, hx1, hx2, hx3⟩ := shownM_of hs1
      clear hs1
      have HXL := Lib.hid hx1; clear hx1
      have HXA := Lib.hid hx2; clear hx2
      have HXF := Lib.hid hx3; clear hx3
      have HM6 := Lib.hid (validM_of HV.out).2.1
      have HC10 := Lib.hid (validM_of HV.out).2.2.2.1
      cases hL : (decide (200 < xs3.length) || decide (200 < xs2.length))
      case true =>
        as_aux_lemma =>
          have HL := Lib.hid hL; clear hL
          go_wp2_with fail
          refine (mlong2 b3 xs3.length c3 b2 xs2.length c2 _ _ rfl _ l3 l2).mono ?_
          rintro e w1 ⟨rfl, rfl⟩
          rw [HL.out]
          have HB0 : Hid (Below w.heap.size w (w.alloc (.cells #[.slice b3 xs3.length c3, .slice b2 xs2.length c2] 26))) := (Below.refl _ _).alloc (Nat.le_refl _) _
          generalize w.alloc (.cells #[.slice b3 xs3.length c3, .slice b2 xs2.length c2] 26) = W0 at *
          go_wp2_with (go_at_call 13; refine (awake_any _).mono ?_; rintro e wa ⟨rfl, hba⟩)
          go_ret
          exact ⟨rfl, Below.next HB0.out hba (Nat.le_refl _)⟩
      case false =>
        have HL := Lib.hid hL; clear hL
        have HLN : Hid (xs3.length ≤ 200 ∧ xs2.length ≤ 200) := by
          have := HL.out
          simp at this
          exact ⟨by omega, by omega⟩
        go_wp2_with fail
        refine (mlong2 b3 xs3.length c3 b2 xs2.length c2 _ _ rfl _ l3 l2).mono ?_
        rintro e w1 ⟨rfl, rfl⟩
        rw [HL.out]
        have HB0 : Hid (Below w.heap.size w (w.alloc (.cells #[.slice b3 xs3.length c3, .slice b2 xs2.length c2] 26))) := (Below.refl _ _).alloc (Nat.le_refl _) _
        generalize w.alloc (.cells #[.slice b3 xs3.length c3, .slice b2 xs2.length c2] 26) = W0 at *
        clear HL
        obtain ⟨r, hr⟩ : ∃ r, readL m0 xs1 = r := ⟨_, rfl⟩
        have hrl : r.length = m0.length := by rw [← hr, readL_length]
        have q1 : ((r.length : Int) != (m0.length : Int)) = false := by simp [hrl]
        have HR := Lib.hid hr; clear hr
        have HRL := Lib.hid hrl; clear hrl
        have hrl6 : r.length ≤ 6 := by have := HRL.out; have := HM6.out; omega
        have hml6 : m0.length ≤ 6 := HM6.out
        go_wp2_with fail
        refine (mread_any _ m0 _ _ xs1 _ _ R0.out l1 (H0.out.below HB0.out) (H1.out.below HB0.out)).mono ?_
        rintro e w1 ⟨hb1, a1, k1, rfl, s1⟩
        rw [readV_ok HV.out HXF.out, HR.out] at s1 ⊢
        dsimp only at s1 ⊢
        have HB1 : Hid (Below w.heap.size w w1) := Below.next HB0.out hb1 (Nat.le_refl _)
        have S1 := Lib.hid s1; clear s1 hb1
        go_wp2_with fail
        clear q1
        refine (mback_any _ m0 _ _ xs3 _ _ R0.out l3 (H0.out.below HB1.out) (H3.out.below HB1.out)).mono ?_
        rintro e w2 ⟨hb2, a2, k2, rfl, s2⟩
        have HB2 : Hid (Below w.heap.size w w2) := Below.next HB1.out hb2 (Nat.le_refl _)
        have S12 := Lib.hid (S1.out.below hb2); clear hb2
        obtain ⟨f, hf⟩ : ∃ f, fitsV xs3 m0.length 1000000000 = f := ⟨_, rfl⟩
        by_cases h0 : f = 0
        · as_aux_lemma =>
            subst h0
            rw [backV_ok HV.out hf] at s2 ⊢
            dsimp only at s2 ⊢
            obtain ⟨hy1, hy2⟩ := fitsV_0 hf
            clear hf
            have hy1' : xs3.length = m0.length := by omega
            clear hy1
            obtain ⟨b, hbk⟩ : ∃ b, backL m0 xs3 = b := ⟨_, rfl⟩
            have hbl : b.length = xs1.length := by rw [← hbk, backL_length, HXL.out]
            have q2 : ((b.length : Int) != (xs1.length : Int)) = false := by simp [hbl]
            have q3 : ((xs3.length : Int) != (r.length : Int)) = false := by have := HRL.out; simp [hy1']; omega
            rw [hbk] at s2 ⊢
            have S2 := Lib.hid s2; clear s2
            have HAD : Hid (dot xs3 r = dot b xs1) := by show _ = _; rw [← HR.out, ← hbk]; exact adjoint HV.out HXL.out hy1'
            have PYR : Hid (PB xs3 r) := PB_of hy2 (B := 10000000) (by rw [← HR.out]; exact read_all HV.out HXL.out HXA.out) (by have := HRL.out; omega) (by omega)
            have PBX : Hid (PB b xs1) := PB_of (A := 10000000000) (by rw [← hbk]; exact back_all HV.out hy1' hy2) HXA.out (by omega) (by omega)
            clear hy2
            have g1 : xs3.length ≤ 10 := by omega
            have g2 : xs3.length ≤ r.length := by have := HRL.out; omega
            have g3 : r.length ≤ 9223372036854775807 := by omega
            have g4 : b.length ≤ 10 := by have := HXL.out; have := HC10.out; omega
            have g5 : b.length ≤ xs1.length := by omega
            have HBK := Lib.hid hbk; clear hbk
            have HBL := Lib.hid hbl; clear hbl
            have HY1 := Lib.hid hy1'; clear hy1'
            go_wp2_with fail
            refine (rdot_any _ _ _ _ _ _ _ g1 g2 g3 PYR.out (H3.out.below HB2.out) S12.out).mono ?_
            rintro e w3 ⟨rfl, n3, hw3⟩
            have hb3 := drew_below hw3; clear hw3
            have HB3 : Hid (Below w.heap.size w w3) := Below.next HB2.out hb3 (Nat.le_refl _)
            have S13 := Lib.hid (S12.out.below hb3)
            have S23 := Lib.hid (S2.out.below hb3); clear hb3
            rw [HAD.out]
            go_wp2_with fail
            refine (rdot_any _ _ _ _ _ _ _ g4 g5 l1 PBX.out S23.out (H1.out.below HB3.out)).mono ?_
            rintro e Wp ⟨rfl, n4, hw4⟩
            have hb4 := drew_below hw4; clear hw4
            have HBp : Hid (Below w.heap.size w Wp) := Below.next HB3.out hb4 (Nat.le_refl _)
            have S1p := Lib.hid (S13.out.below hb4); clear hb4
            have q8 : (dot b xs1 != dot b xs1) = false := by simp
            clear g1 g2 g3 g4 g5
            clear S1 S12 S13 S2 S23 HB1 HB2 HB3 HB0
            clear HAD PYR PBX
            by_cases hz : xs2.length = xs1.length
            · have q4 : ((xs2.length : Int) != (xs1.length : Int)) = false := by simp [hz]
              have HZL := Lib.hid hz; clear hz
              have hl10 : xs1.length ≤ 10 := by have := HXL.out; have := HC10.out; omega
              go_wp2
              clear q4
              go_loopw [13, 88] (fun v i wr => ∃ k : Nat, k ≤ xs1.length ∧ i = .int .i64 k ∧ OwnI wr Wp.heap.size v ((addW xs1 xs2).take k) ∧ Below Wp.heap.size Wp wr) (fun _ i _ => xs1.length - (intOf i).toNat)
              case atStart => exact ⟨0, Nat.zero_le _, rfl, OwnI.nil _ _, Below.refl _ _⟩
              case round =>
                obtain ⟨k, hk, rfl, hO, hB⟩ := hrel
                have HO := Lib.hid hO; clear hO
                have HB3 := Lib.hid hB; clear hB
                have HBw : Hid (Below w.heap.size w wr) := Below.next HBp.out HB3.out (Nat.le_refl _)
                by_cases hlt : k < xs1.length
                · as_aux_lemma =>
                    obtain ⟨b4, o4, x, rfl, hcw4, HX⟩ := H1.out.at hlt
                    obtain ⟨b5, o5, z, rfl, hcw5, HZ⟩ := H2.out.at (show k < xs2.length by have := HZL.out; omega)
                    have hcx := (HBw.out.cell (p := ⟨b4, o4 + k, none⟩) (cell_lt hcw4)).trans hcw4
                    have hcz := (HBw.out.cell (p := ⟨b5, o5 + k, none⟩) (cell_lt hcw5)).trans hcw5
                    have hk2 : k < xs2.length := by have := HZL.out; omega
                    have HT : Hid ((addW xs1 xs2).take (k + 1) = (addW xs1 xs2).take k ++ [IntKind.i64.wrap (x + z)]) := by
                      show _ = _
                      rw [addW_next hlt, gt_some' HX.out, gt_some' HZ.out]
                    have hb4 : b4 < Wp.heap.size := Nat.lt_of_lt_of_le (cell_lt hcw4) HBp.out.size
                    have hb5 : b5 < Wp.heap.size := Nat.lt_of_lt_of_le (cell_lt hcw5) HBp.out.size
                    have H4 := Lib.hid hb4; clear hb4
                    have H5 := Lib.hid hb5; clear hb5
                    clear hcw4 hcw5
                    go_wp2
                    go_region_held3 (fun w' => w'.cell? ⟨b4, o4 + k, none⟩ = some (.int .i64 x) ∧ w'.cell? ⟨b5, o5 + k, none⟩ = some (.int .i64 z)) (first | go_keep | (go_split_ands; refine ⟨?_, ?_⟩ <;> (first | exact (hb'.cell (p := ⟨b4, o4 + k, none⟩) H4.out).trans (by assumption) | exact (hb'.cell (p := ⟨b5, o5 + k, none⟩) H5.out).trans (by assumption)))) ((refine step_push rfl (.tmp 91) (.tmp 101) rfl Wp.heap.size _ ((addW xs1 xs2).take k) _ _ wr.heap.size (by rfl) (by rfl) (alloc_cell wr _ _ _ _ rfl) ((HO.out.below ((Below.refl _ _).alloc (Nat.le_refl _) _)).drew) (by rw [List.length_take]; omega) (by simp; have := HB3.out.size; omega) ?_; intro v' w9 ho' hb'))
                    go_wp2
                    go_roundw
                    case rel => exact ⟨k + 1, by omega, by go_num, by rw [HT.out]; exact ho', ((HB3.out.alloc HB3.out.size _).drew).trans hb'⟩
                    case measure => simp [intOf]; omega
                · obtain rfl : k = xs1.length := by omega
                  obtain ⟨a5, c5, rfl, s5⟩ := HO.out.any
                  rw [List.take_of_length_le (by rw [addW_length]; exact Nat.le_refl _)] at s5 ⊢
                  have S1w := Lib.hid (S1p.out.below HB3.out)
                  clear HO HBp S1p
                  clear hlt hk
                  obtain ⟨sm, hsm⟩ : ∃ s, addW xs1 xs2 = s := ⟨_, rfl⟩
                  have hsl : sm.length = xs1.length := by rw [← hsm, addW_length]
                  rw [hsm] at s5 ⊢
                  have HSM := Lib.hid hsm; clear hsm
                  have S5 := Lib.hid s5; clear s5
                  have hsl' : sm.length ≤ 9223372036854775807 := by omega
                  have HSL := Lib.hid hsl; clear hsl
                  go_wp2_with fail
                  refine (rshown_any _ _ _ _ _ _ _ R0.out l2 (H0.out.below HBw.out) (H2.out.below HBw.out)).mono ?_
                  rintro e w3 ⟨rfl, rfl⟩
                  cases hs2 : shownM m0 xs2
                  · as_aux_lemma =>
                      go_wp2_with (go_at_call 13; refine (awake_any _).mono ?_; rintro e wa ⟨rfl, hba⟩)
                      go_ret
                      exact ⟨rfl, Below.next HBw.out hba (Nat.le_refl _)⟩
                  · have HS2 := Lib.hid hs2; clear hs2
                    go_wp2_with fail
                    refine (rshown_any _ _ _ _ _ _ _ R0.out hsl' (H0.out.below HBw.out) S5.out).mono ?_
                    rintro e w3 ⟨rfl, rfl⟩
                    cases hs3 : shownM m0 sm
                    · as_aux_lemma =>
                        go_wp2_with (go_at_call 13; refine (awake_any _).mono ?_; rintro e wa ⟨rfl, hba⟩)
                        go_ret
                        exact ⟨rfl, Below.next HBw.out hba (Nat.le_refl _)⟩
                    · have HS3 := Lib.hid hs3; clear hs3
                      obtain ⟨_, hz1, hz2, hz3⟩ := shownM_of HS2.out
                      obtain ⟨_, hy1, hy2, hy3⟩ := shownM_of HS3.out
                      have HZF := Lib.hid hz3
                      have HYF := Lib.hid hy3
                      obtain ⟨s, hs⟩ : ∃ s, readL m0 xs2 = s := ⟨_, rfl⟩
                      obtain ⟨t, ht⟩ : ∃ t, readL m0 sm = t := ⟨_, rfl⟩
                      have hsl2 : s.length = m0.length := by rw [← hs, readL_length]
                      have htl2 : t.length = m0.length := by rw [← ht, readL_length]
                      have HT : Hid (∀ i, i < m0.length → gt t i = gt r i + gt s i) := by
                        intro i hi
                        rw [← ht, ← hs, ← HR.out, ← HSM.out, addW_eq HZL.out HXA.out hz2]
                        exact read_add HV.out HXL.out hi
                      have HRB : Hid (allB 10000000 r = true) := by show _ = _; rw [← HR.out]; exact read_all HV.out HXL.out HXA.out
                      have HSB : Hid (allB 10000000 s = true) := by show _ = _; rw [← hs]; exact read_all HV.out hz1 hz2
                      clear hz1 hz2 hz3 hy1 hy2 hy3
                      have HS := Lib.hid hs; clear hs
                      have HTT := Lib.hid ht; clear ht
                      have q5 : ((s.length : Int) != (r.length : Int)) = false := by have := HRL.out; simp [hsl2]; omega
                      have q6 : ((t.length : Int) != (r.length : Int)) = false := by have := HRL.out; simp [htl2]; omega
                      have htl : t.length ≤ 6 := by have := HM6.out; omega
                      have HSL2 := Lib.hid hsl2; clear hsl2
                      have HTL2 := Lib.hid htl2; clear htl2
                      go_wp2_with fail
                      refine (mread_any _ m0 _ _ xs2 _ _ R0.out l2 (H0.out.below HBw.out) (H2.out.below HBw.out)).mono ?_
                      rintro e w4 ⟨hb4, a6, k6, rfl, s6⟩
                      rw [readV_ok HV.out HZF.out, HS.out] at s6 ⊢
                      dsimp only at s6 ⊢
                      have HB4 : Hid (Below w.heap.size w w4) := Below.next HBw.out hb4 (Nat.le_refl _)
                      have S1w4 := Lib.hid (S1w.out.below hb4)
                      have S54 := Lib.hid (S5.out.below hb4)
                      have S6 := Lib.hid s6; clear s6 hb4
                      go_wp2_with fail
                      refine (mread_any _ m0 _ _ sm _ _ R0.out hsl' (H0.out.below HB4.out) S54.out).mono ?_
                      rintro e w5 ⟨hb5, a7, k7, rfl, s7⟩
                      rw [readV_ok HV.out HYF.out, HTT.out] at s7 ⊢
                      dsimp only at s7 ⊢
                      have HB5 : Hid (Below w.heap.size w w5) := Below.next HB4.out hb5 (Nat.le_refl _)
                      have S1w5 := Lib.hid (S1w4.out.below hb5)
                      have S65 := Lib.hid (S6.out.below hb5)
                      have S7 := Lib.hid s7; clear s7 hb5
                      go_wp2
                      clear q5 q6
                      go_loopw [149] (fun i wr => ∃ k nd : Nat, k ≤ t.length ∧ i = .int .i64 k ∧ wr = w5.drewN nd) (fun i _ => t.length - (intOf i).toNat)
                      case atStart => exact ⟨0, 0, Nat.zero_le _, rfl, rfl⟩
                      case round =>
                        obtain ⟨k, nd, hk, rfl, rfl⟩ := hrel
                        by_cases hlt : k < t.length
                        · as_aux_lemma =>
                            have hkm : k < m0.length := by have := HTL2.out; omega
                            have hkr : k < r.length := by have := HRL.out; omega
                            have hks : k < s.length := by have := HSL2.out; omega
                            obtain ⟨b8, o8, x, rfl, hc8, HX8⟩ := S7.out.at hlt
                            obtain ⟨b9, o9, y, rfl, hc9, HX9⟩ := S1w5.out.at hkr
                            obtain ⟨b10, o10, z, rfl, hc10, HX10⟩ := S65.out.at hks
                            have he := HT.out k hkm
                            rw [gt_some' HX8.out, gt_some' HX9.out, gt_some' HX10.out] at he
                            have hy := gt_in HRB.out hkr
                            have hz := gt_in HSB.out hks
                            rw [gt_some' HX9.out] at hy
                            rw [gt_some' HX10.out] at hz
                            obtain ⟨y1, y2⟩ := hy
                            obtain ⟨z1, z2⟩ := hz
                            have m1 : IntKind.i64.wrap (y + z) = y + z := IntWalk.i64_in _ (by omega)
                            have q7 : (x != y + z) = false := by simp [he]
                            clear he
                            have hrl : r.length ≤ 6 := by have := HRL.out; have := HM6.out; omega
                            have hsl : s.length ≤ 6 := by have := HSL2.out; have := HM6.out; omega
                            go_wp2
                            go_quiet (fail)
                            clear m1
                            go_wp2
                            go_roundw
                            case rel => exact ⟨k + 1, _, by omega, by go_num, rfl⟩
                            case measure => simp [intOf]; omega
                        · as_aux_lemma =>
                            have HBl : Hid (Below w.heap.size w (w5.drewN nd)) := below_drewN HB5.out _
                            generalize w5.drewN nd = wl at *
                            go_wp2_with (go_at_call 13; refine (awake_any _).mono ?_; rintro e wa ⟨rfl, hba⟩)
                            go_ret
                            exact ⟨rfl, Below.next HBl.out hba (Nat.le_refl _)⟩
            · have q4 : ((xs2.length : Int) != (xs1.length : Int)) = true := by simp; omega
              clear hz
              go_wp2_with (go_at_call 13; refine (awake_any _).mono ?_; rintro e wa ⟨rfl, hba⟩)
              go_ret
              exact ⟨rfl, Below.next HBp.out hba (Nat.le_refl _)⟩
        · as_aux_lemma =>
            have e0 : (f == 0) = false := by simpa using h0
            rw [backV_err HV.out hf h0]
            dsimp only [List.length_nil]
            have HF := Lib.hid hf; clear hf h0 s2
            have HBp := HB2
            have S1p := S12
            clear S1 S12 HB1 HB0 HB2
            obtain ⟨Wp, hWp⟩ : ∃ W : World, W = w2 := ⟨_, rfl⟩
            subst hWp
            by_cases hz : xs2.length = xs1.length
            · have q4 : ((xs2.length : Int) != (xs1.length : Int)) = false := by simp [hz]
              have HZL := Lib.hid hz; clear hz
              have hl10 : xs1.length ≤ 10 := by have := HXL.out; have := HC10.out; omega
              go_wp2
              clear q4
              go_loopw [13, 88] (fun v i wr => ∃ k : Nat, k ≤ xs1.length ∧ i = .int .i64 k ∧ OwnI wr Wp.heap.size v ((addW xs1 xs2).take k) ∧ Below Wp.heap.size Wp wr) (fun _ i _ => xs1.length - (intOf i).toNat)
              case atStart => exact ⟨0, Nat.zero_le _, rfl, OwnI.nil _ _, Below.refl _ _⟩
              case round =>
                obtain ⟨k, hk, rfl, hO, hB⟩ := hrel
                have HO := Lib.hid hO; clear hO
                have HB3 := Lib.hid hB; clear hB
                have HBw : Hid (Below w.heap.size w wr) := Below.next HBp.out HB3.out (Nat.le_refl _)
                by_cases hlt : k < xs1.length
                · as_aux_lemma =>
                    obtain ⟨b4, o4, x, rfl, hcw4, HX⟩ := H1.out.at hlt
                    obtain ⟨b5, o5, z, rfl, hcw5, HZ⟩ := H2.out.at (show k < xs2.length by have := HZL.out; omega)
                    have hcx := (HBw.out.cell (p := ⟨b4, o4 + k, none⟩) (cell_lt hcw4)).trans hcw4
                    have hcz := (HBw.out.cell (p := ⟨b5, o5 + k, none⟩) (cell_lt hcw5)).trans hcw5
                    have hk2 : k < xs2.length := by have := HZL.out; omega
                    have HT : Hid ((addW xs1 xs2).take (k + 1) = (addW xs1 xs2).take k ++ [IntKind.i64.wrap (x + z)]) := by
                      show _ = _
                      rw [addW_next hlt, gt_some' HX.out, gt_some' HZ.out]
                    have hb4 : b4 < Wp.heap.size := Nat.lt_of_lt_of_le (cell_lt hcw4) HBp.out.size
                    have hb5 : b5 < Wp.heap.size := Nat.lt_of_lt_of_le (cell_lt hcw5) HBp.out.size
                    have H4 := Lib.hid hb4; clear hb4
                    have H5 := Lib.hid hb5; clear hb5
                    clear hcw4 hcw5
                    go_wp2
                    go_region_held3 (fun w' => w'.cell? ⟨b4, o4 + k, none⟩ = some (.int .i64 x) ∧ w'.cell? ⟨b5, o5 + k, none⟩ = some (.int .i64 z)) (first | go_keep | (go_split_ands; refine ⟨?_, ?_⟩ <;> (first | exact (hb'.cell (p := ⟨b4, o4 + k, none⟩) H4.out).trans (by assumption) | exact (hb'.cell (p := ⟨b5, o5 + k, none⟩) H5.out).trans (by assumption)))) ((refine step_push rfl (.tmp 91) (.tmp 101) rfl Wp.heap.size _ ((addW xs1 xs2).take k) _ _ wr.heap.size (by rfl) (by rfl) (alloc_cell wr _ _ _ _ rfl) ((HO.out.below ((Below.refl _ _).alloc (Nat.le_refl _) _)).drew) (by rw [List.length_take]; omega) (by simp; have := HB3.out.size; omega) ?_; intro v' w9 ho' hb'))
                    go_wp2
                    go_roundw
                    case rel => exact ⟨k + 1, by omega, by go_num, by rw [HT.out]; exact ho', ((HB3.out.alloc HB3.out.size _).drew).trans hb'⟩
                    case measure => simp [intOf]; omega
                · obtain rfl : k = xs1.length := by omega
                  obtain ⟨a5, c5, rfl, s5⟩ := HO.out.any
                  rw [List.take_of_length_le (by rw [addW_length]; exact Nat.le_refl _)] at s5 ⊢
                  have S1w := Lib.hid (S1p.out.below HB3.out)
                  clear HO HBp S1p
                  clear hlt hk
                  obtain ⟨sm, hsm⟩ : ∃ s, addW xs1 xs2 = s := ⟨_, rfl⟩
                  have hsl : sm.length = xs1.length := by rw [← hsm, addW_length]
                  rw [hsm] at s5 ⊢
                  have HSM := Lib.hid hsm; clear hsm
                  have S5 := Lib.hid s5; clear s5
                  have hsl' : sm.length ≤ 9223372036854775807 := by omega
                  have HSL := Lib.hid hsl; clear hsl
                  go_wp2_with fail
                  refine (rshown_any _ _ _ _ _ _ _ R0.out l2 (H0.out.below HBw.out) (H2.out.below HBw.out)).mono ?_
                  rintro e w3 ⟨rfl, rfl⟩
                  cases hs2 : shownM m0 xs2
                  · as_aux_lemma =>
                      go_wp2_with (go_at_call 13; refine (awake_any _).mono ?_; rintro e wa ⟨rfl, hba⟩)
                      go_ret
                      exact ⟨rfl, Below.next HBw.out hba (Nat.le_refl _)⟩
                  · have HS2 := Lib.hid hs2; clear hs2
                    go_wp2_with fail
                    refine (rshown_any _ _ _ _ _ _ _ R0.out hsl' (H0.out.below HBw.out) S5.out).mono ?_
                    rintro e w3 ⟨rfl, rfl⟩
                    cases hs3 : shownM m0 sm
                    · as_aux_lemma =>
                        go_wp2_with (go_at_call 13; refine (awake_any _).mono ?_; rintro e wa ⟨rfl, hba⟩)
                        go_ret
                        exact ⟨rfl, Below.next HBw.out hba (Nat.le_refl _)⟩
                    · have HS3 := Lib.hid hs3; clear hs3
                      obtain ⟨_, hz1, hz2, hz3⟩ := shownM_of HS2.out
                      obtain ⟨_, hy1, hy2, hy3⟩ := shownM_of HS3.out
                      have HZF := Lib.hid hz3
                      have HYF := Lib.hid hy3
                      obtain ⟨s, hs⟩ : ∃ s, readL m0 xs2 = s := ⟨_, rfl⟩
                      obtain ⟨t, ht⟩ : ∃ t, readL m0 sm = t := ⟨_, rfl⟩
                      have hsl2 : s.length = m0.length := by rw [← hs, readL_length]
                      have htl2 : t.length = m0.length := by rw [← ht, readL_length]
                      have HT : Hid (∀ i, i < m0.length → gt t i = gt r i + gt s i) := by
                        intro i hi
                        rw [← ht, ← hs, ← HR.out, ← HSM.out, addW_eq HZL.out HXA.out hz2]
                        exact read_add HV.out HXL.out hi
                      have HRB : Hid (allB 10000000 r = true) := by show _ = _; rw [← HR.out]; exact read_all HV.out HXL.out HXA.out
                      have HSB : Hid (allB 10000000 s = true) := by show _ = _; rw [← hs]; exact read_all HV.out hz1 hz2
                      clear hz1 hz2 hz3 hy1 hy2 hy3
                      have HS := Lib.hid hs; clear hs
                      have HTT := Lib.hid ht; clear ht
                      have q5 : ((s.length : Int) != (r.length : Int)) = false := by have := HRL.out; simp [hsl2]; omega
                      have q6 : ((t.length : Int) != (r.length : Int)) = false := by have := HRL.out; simp [htl2]; omega
                      have htl : t.length ≤ 6 := by have := HM6.out; omega
                      have HSL2 := Lib.hid hsl2; clear hsl2
                      have HTL2 := Lib.hid htl2; clear htl2
                      go_wp2_with fail
                      refine (mread_any _ m0 _ _ xs2 _ _ R0.out l2 (H0.out.below HBw.out) (H2.out.below HBw.out)).mono ?_
                      rintro e w4 ⟨hb4, a6, k6, rfl, s6⟩
                      rw [readV_ok HV.out HZF.out, HS.out] at s6 ⊢
                      dsimp only at s6 ⊢
                      have HB4 : Hid (Below w.heap.size w w4) := Below.next HBw.out hb4 (Nat.le_refl _)
                      have S1w4 := Lib.hid (S1w.out.below hb4)
                      have S54 := Lib.hid (S5.out.below hb4)
                      have S6 := Lib.hid s6; clear s6 hb4
                      go_wp2_with fail
                      refine (mread_any _ m0 _ _ sm _ _ R0.out hsl' (H0.out.below HB4.out) S54.out).mono ?_
                      rintro e w5 ⟨hb5, a7, k7, rfl, s7⟩
                      rw [readV_ok HV.out HYF.out, HTT.out] at s7 ⊢
                      dsimp only at s7 ⊢
                      have HB5 : Hid (Below w.heap.size w w5) := Below.next HB4.out hb5 (Nat.le_refl _)
                      have S1w5 := Lib.hid (S1w4.out.below hb5)
                      have S65 := Lib.hid (S6.out.below hb5)
                      have S7 := Lib.hid s7; clear s7 hb5
                      go_wp2
                      clear q5 q6
                      go_loopw [149] (fun i wr => ∃ k nd : Nat, k ≤ t.length ∧ i = .int .i64 k ∧ wr = w5.drewN nd) (fun i _ => t.length - (intOf i).toNat)
                      case atStart => exact ⟨0, 0, Nat.zero_le _, rfl, rfl⟩
                      case round =>
                        obtain ⟨k, nd, hk, rfl, rfl⟩ := hrel
                        by_cases hlt : k < t.length
                        · as_aux_lemma =>
                            have hkm : k < m0.length := by have := HTL2.out; omega
                            have hkr : k < r.length := by have := HRL.out; omega
                            have hks : k < s.length := by have := HSL2.out; omega
                            obtain ⟨b8, o8, x, rfl, hc8, HX8⟩ := S7.out.at hlt
                            obtain ⟨b9, o9, y, rfl, hc9, HX9⟩ := S1w5.out.at hkr
                            obtain ⟨b10, o10, z, rfl, hc10, HX10⟩ := S65.out.at hks
                            have he := HT.out k hkm
                            rw [gt_some' HX8.out, gt_some' HX9.out, gt_some' HX10.out] at he
                            have hy := gt_in HRB.out hkr
                            have hz := gt_in HSB.out hks
                            rw [gt_some' HX9.out] at hy
                            rw [gt_some' HX10.out] at hz
                            obtain ⟨y1, y2⟩ := hy
                            obtain ⟨z1, z2⟩ := hz
                            have m1 : IntKind.i64.wrap (y + z) = y + z := IntWalk.i64_in _ (by omega)
                            have q7 : (x != y + z) = false := by simp [he]
                            clear he
                            have hrl : r.length ≤ 6 := by have := HRL.out; have := HM6.out; omega
                            have hsl : s.length ≤ 6 := by have := HSL2.out; have := HM6.out; omega
                            go_wp2
                            go_quiet (fail)
                            clear m1
                            go_wp2
                            go_roundw
                            case rel => exact ⟨k + 1, _, by omega, by go_num, rfl⟩
                            case measure => simp [intOf]; omega
                        · as_aux_lemma =>
                            have HBl : Hid (Below w.heap.size w (w5.drewN nd)) := below_drewN HB5.out _
                            generalize w5.drewN nd = wl at *
                            go_wp2_with (go_at_call 13; refine (awake_any _).mono ?_; rintro e wa ⟨rfl, hba⟩)
                            go_ret
                            exact ⟨rfl, Below.next HBl.out hba (Nat.le_refl _)⟩
            · have q4 : ((xs2.length : Int) != (xs1.length : Int)) = true := by simp; omega
              clear hz
              go_wp2_with (go_at_call 13; refine (awake_any _).mono ?_; rintro e wa ⟨rfl, hba⟩)
              go_ret
              exact ⟨rfl, Below.next HBp.out hba (Nat.le_refl _)⟩
end Go.Proofs.Ytkakjfijmekdjab.maskAdjoint
