
/- MaskCoheres returns true: the walk. -/
import Derived.Test.YtknhfliefkkpfabMAwk
import Derived.Test.YtknhfliefkkpfabMAlike
import Derived.Test.YtknhfliefkkpfabCohFact
import Derived.Test.YtknhfliefkkpfabPairEq
namespace Go.Proofs.Ytknhfliefkkpfab.maskCoheres
open Go.RowKit
set_option linter.unusedVariables false

set_option maxRecDepth 1000000 in
set_option maxHeartbeats 800000 in
theorem walk (b0 : Option Addr) (m0 : List (List Int)) (c0 : Nat) (w : World) (h0 : Ms w b0 m0) (r0 : MOk m0) :
    Calls Try.prog 7 #[.slice b0 m0.length c0] w fun e w' => e = .returned (.bool true) ∧ Below w.heap.size w w' := by
  have H0 := Lib.hid h0; clear h0
  have R0 := Lib.hid r0; clear r0
  go_enter Try.func7, Try.ntmps7
  go_wp2_with fail
  refine (small1 _ _ _ _ _ rfl _ H0.out R0.out).mono ?_
  rintro e w1 ⟨bb, rfl, rfl⟩
  have HB0 : Hid (Below w.heap.size w (w.alloc (.cells #[.slice b0 m0.length c0] 46))) := (Below.refl _ _).alloc (Nat.le_refl _) _
  have HM0 := Lib.hid (H0.out.alloc (.cells #[.slice b0 m0.length c0] 46))
  generalize w.alloc (.cells #[.slice b0 m0.length c0] 46) = W0 at *
  cases bb
  · go_wp2_with (go_at_call 30; refine (awake_any _).mono ?_; rintro e w1 ⟨rfl, hb⟩)
    go_ret
    exact ⟨rfl, Below.next HB0.out hb (Nat.le_refl _)⟩
  · have hone := @coh_one m0
    obtain ⟨⟨⟨n, d⟩, q⟩, hq⟩ : ∃ r, cohV m0 = r := ⟨_, rfl⟩
    obtain ⟨⟨ps, g⟩, hp⟩ : ∃ r, alkV m0 = r := ⟨_, rfl⟩
    have hlen := alkV_len m0
    rw [hp] at hlen
    rw [hq, hp] at hone
    have HQ := Lib.hid hq; clear hq
    have HP := Lib.hid hp; clear hp
    have HONE := Lib.hid hone; clear hone
    have HLEN := Lib.hid hlen; clear hlen
    go_wp2_with fail
    refine (coherence_any _ m0 _ _ R0.out HM0.out).mono ?_
    rintro e w1 ⟨hb1, rfl⟩
    rw [HQ.out]
    dsimp only
    have HB1 : Hid (Below w.heap.size w w1) := Below.next HB0.out hb1 (Nat.le_refl _)
    have HM1 := Lib.hid (HM0.out.below hb1); clear hb1
    go_wp2_with fail
    have HF1 : Hid (FBox w1.heap.size n d (w1.alloc (.cells #[.int .i64 n, .int .i64 d] 49))) := FBox.made _ _ _ _ rfl
    have HB1' : Hid (Below w.heap.size w (w1.alloc (.cells #[.int .i64 n, .int .i64 d] 49))) := HB1.out.alloc HB1.out.size _
    have HM1' := Lib.hid (HM1.out.alloc (.cells #[.int .i64 n, .int .i64 d] 49))
    have hG1 : w1.heap.size < (w1.alloc (.cells #[.int .i64 n, .int .i64 d] 49)).heap.size := by rw [World.size_alloc]; omega
    generalize w1.alloc (.cells #[.int .i64 n, .int .i64 d] 49) = W1 at *
    generalize w1.heap.size = G1 at *
    refine (rCoherence_any _ m0 _ _ R0.out HM1'.out).mono ?_
    rintro e w2 ⟨hb2, rfl⟩
    rw [HQ.out]
    dsimp only
    have HB2 : Hid (Below w.heap.size w w2) := Below.next HB1'.out hb2 (Nat.le_refl _)
    have HM2 := Lib.hid (HM1'.out.below hb2)
    have HF2 := Lib.hid (HF1.out.later hb2 hG1)
    have hG2 : G1 < w2.heap.size := Nat.lt_of_lt_of_le hG1 hb2.size
    clear hb2 HB1 HB1' HM1 HM1' HF1 hG1
    go_wp2_with fail
    have HE2 : Hid (FBox w2.heap.size n d (w2.alloc (.cells #[.int .i64 n, .int .i64 d] 49))) := FBox.made _ _ _ _ rfl
    have HF2' := Lib.hid (HF2.out.later ((Below.refl _ _).alloc (Nat.le_refl _) (.cells #[.int .i64 n, .int .i64 d] 49)) hG2)
    have HB2' : Hid (Below w.heap.size w (w2.alloc (.cells #[.int .i64 n, .int .i64 d] 49))) := HB2.out.alloc HB2.out.size _
    have HM2' := Lib.hid (HM2.out.alloc (.cells #[.int .i64 n, .int .i64 d] 49))
    have hE2 : w2.heap.size < (w2.alloc (.cells #[.int .i64 n, .int .i64 d] 49)).heap.size := by rw [World.size_alloc]; omega
    have hG2' : G1 < (w2.alloc (.cells #[.int .i64 n, .int .i64 d] 49)).heap.size := by rw [World.size_alloc]; omega
    generalize w2.alloc (.cells #[.int .i64 n, .int .i64 d] 49) = W2 at *
    clear HF2 HB2 HM2 hG2
    generalize w2.heap.size = G2 at *
    refine (mAlike_any _ m0 _ _ R0.out HM2'.out).mono ?_
    rintro e w3 ⟨hb3, a3, k3, rfl, s3⟩
    rw [HP.out] at s3 ⊢
    dsimp only at s3 ⊢
    have HB3 : Hid (Below w.heap.size w w3) := Below.next HB2'.out hb3 (Nat.le_refl _)
    have HM3 := Lib.hid (HM2'.out.below hb3)
    have HF3 := Lib.hid (HF2'.out.later hb3 hG2')
    have HE3 := Lib.hid (HE2.out.later hb3 hE2)
    have S3 := Lib.hid s3
    have hG3 : G1 < w3.heap.size := Nat.lt_of_lt_of_le hG2' hb3.size
    have hE3 : G2 < w3.heap.size := Nat.lt_of_lt_of_le hE2 hb3.size
    clear hb3 s3 HB2' HM2' HF2' HE2 hG2' hE2
    go_wp2_with fail
    refine (rAlike_any _ m0 _ _ R0.out HM3.out).mono ?_
    rintro e w4 ⟨hb4, a4, k4, rfl, s4⟩
    rw [HP.out] at s4 ⊢
    dsimp only at s4 ⊢
    have HB4 : Hid (Below w.heap.size w w4) := Below.next HB3.out hb4 (Nat.le_refl _)
    have HF4 := Lib.hid (HF3.out.later hb4 hG3)
    have HE4 := Lib.hid (HE3.out.later hb4 hE3)
    have S4 := Lib.hid (S3.out.below hb4)
    have S5 := Lib.hid s4
    have HLN := HLEN.out
    clear hb4 s4 HB3 HM3 HF3 HE3 S3 hG3 hE3
    obtain ⟨p0, p1, p2, p3⟩ := HF4.out
    obtain ⟨q0, q1, q2, q3⟩ := HE4.out
    go_wp2
    go_loopw [59] (fun i wr => ∃ k nd : Nat, k ≤ ps.length ∧ i = .int .i64 k ∧ wr = w4.drewN nd) (fun i _ => ps.length - (intOf i).toNat)
    case atStart => exact ⟨0, 0, Nat.zero_le _, rfl, rfl⟩
    case round =>
      obtain ⟨k, nd, hk, rfl, rfl⟩ := hrel
      by_cases hlt : k < ps.length
      · obtain ⟨p, hp⟩ : ∃ p, ps[k]? = some p := ⟨ps[k], by simp [hlt]⟩
        obtain ⟨ba, oa, rfl, x1, x2⟩ := S4.out k p hp
        obtain ⟨bb, ob, rfl, y1, y2⟩ := S5.out k p hp
        clear hp
        have hnq := run_neq_pair p.1 p.2
        go_wp2
        go_quiet (fail)
        go_wp2
        go_roundw
        case rel => exact ⟨k + 1, _, by omega, by go_num, rfl⟩
        case measure => simp [intOf]; omega
      · obtain rfl : k = ps.length := by omega
        by_cases hq0 : q = 0
        · subst hq0
          have hone := HONE.out rfl
          by_cases hnd : n = 1 ∧ d = 1
          · obtain ⟨rfl, rfl⟩ := hnd
            have hpos : 0 < ps.length := hone.1 rfl
            clear hone
            go_wp2_with (go_at_call 30; refine (awake_any _).mono ?_; rintro e w5 ⟨rfl, hb5⟩; have HB5 := Lib.hid hb5; clear hb5)
            go_ret
            exact ⟨rfl, Below.next (below_drewN HB4.out nd) HB5.out (Nat.le_refl _)⟩
          · have hz : ¬ 0 < ps.length := fun h => hnd (by have := hone.2 h; simpa using this)
            have hz2 : ps.length = 0 := by omega
            obtain rfl : ps = [] := List.eq_nil_of_length_eq_zero hz2
            clear hone hz hz2
            by_cases hn1 : n = 1
            · have hd1 : (d == 1) = false := by
                cases hb : (d == 1)
                · rfl
                · exact absurd ⟨hn1, by simpa using hb⟩ hnd
              subst hn1
              clear hnd
              go_wp2_with (go_at_call 30; refine (awake_any _).mono ?_; rintro e w5 ⟨rfl, hb5⟩; have HB5 := Lib.hid hb5; clear hb5)
              all_goals
                go_ret
                exact ⟨rfl, Below.next (below_drewN HB4.out nd) HB5.out (Nat.le_refl _)⟩
            · have hn0 : (n == 1) = false := by simpa using hn1
              clear hnd hn1
              go_wp2_with (go_at_call 30; refine (awake_any _).mono ?_; rintro e w5 ⟨rfl, hb5⟩; have HB5 := Lib.hid hb5; clear hb5)
              all_goals
                go_ret
                exact ⟨rfl, Below.next (below_drewN HB4.out nd) HB5.out (Nat.le_refl _)⟩
        · have e0 : (q == 0) = false := by simpa using hq0
          have e1 : (q != 0) = true := by simpa using hq0
          clear hq0
          go_wp2_with (go_at_call 30; refine (awake_any _).mono ?_; rintro e w5 ⟨rfl, hb5⟩; have HB5 := Lib.hid hb5; clear hb5)
          go_ret
          exact ⟨rfl, Below.next (below_drewN HB4.out nd) HB5.out (Nat.le_refl _)⟩
end Go.Proofs.Ytknhfliefkkpfab.maskCoheres
