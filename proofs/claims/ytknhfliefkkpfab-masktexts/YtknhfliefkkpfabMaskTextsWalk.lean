
/- MaskTexts returns true: the walk. -/
import Derived.Test.YtknhfliefkkpfabMAwk
import Derived.Test.YtknhfliefkkpfabMParse4
import Derived.Test.YtknhfliefkkpfabMSame
import Derived.Test.YtknhfliefkkpfabFmtFact
namespace Go.Proofs.Ytknhfliefkkpfab.maskTexts
open Go.RowKit
set_option linter.unusedVariables false

set_option maxRecDepth 1000000 in
set_option maxHeartbeats 800000 in
theorem walk (b0 : Option Addr) (m0 : List (List Int)) (c0 : Nat) (s1 : ByteArray) (w : World) (h0 : Ms w b0 m0) (r0 : MOk m0) (l1 : s1.size ≤ maxLen) :
    Calls Try.prog 8 #[.slice b0 m0.length c0, .string s1] w fun e w' => e = .returned (.bool true) ∧ Below w.heap.size w w' := by
  have H0 := Lib.hid h0; clear h0
  have R0 := Lib.hid r0; clear r0
  have L1 := Lib.hid l1
  unfold maxLen at l1
  go_enter Try.func8, Try.ntmps8
  go_wp2_with fail
  refine (small1 _ _ _ _ _ rfl _ H0.out R0.out).mono ?_
  rintro e w1 ⟨bb, rfl, rfl⟩
  have HB0 : Hid (Below w.heap.size w (w.alloc (.cells #[.slice b0 m0.length c0] 46))) := (Below.refl _ _).alloc (Nat.le_refl _) _
  have HM0 := Lib.hid (H0.out.alloc (.cells #[.slice b0 m0.length c0] 46))
  generalize w.alloc (.cells #[.slice b0 m0.length c0] 46) = W0 at *
  by_cases ha : bb = false ∨ (2000 < s1.size ∧ s1.size ≤ 65536)
  · rcases ha with rfl | ⟨h1, h2⟩
    · go_wp2_with (go_at_call 30; refine (awake_any _).mono ?_; rintro e w1 ⟨rfl, hb⟩)
      go_ret
      exact ⟨rfl, Below.next HB0.out hb (Nat.le_refl _)⟩
    · cases bb
      all_goals
        go_wp2_with (go_at_call 30; refine (awake_any _).mono ?_; rintro e w1 ⟨rfl, hb⟩)
        go_ret
        exact ⟨rfl, Below.next HB0.out hb (Nat.le_refl _)⟩
  · obtain rfl : bb = true := by cases bb <;> simp_all
    have hs : s1.size ≤ 2000 ∨ 65536 < s1.size := by
      rcases Nat.lt_or_ge 2000 s1.size with h | h
      · right; exact Nat.lt_of_not_le fun h' => ha (.inr ⟨h, h'⟩)
      · exact .inl h
    clear ha
    obtain ⟨⟨m, n, q⟩, hR⟩ : ∃ R, parseV s1.data.toList = R := ⟨_, rfl⟩
    have HR := Lib.hid hR; clear hR
    rcases hs with hs | hs
    all_goals
      go_wp2_with fail
      refine (mParse_any s1 L1.out _).mono ?_
      rintro e w1 ⟨hb1, hm1, a1, k1, rfl, s1'⟩
      rw [HR.out] at hm1 s1' ⊢
      dsimp only at hm1 s1' ⊢
      have HB1 : Hid (Below w.heap.size w w1) := Below.next HB0.out hb1 (Nat.le_refl _)
      have HM1 := Lib.hid (HM0.out.below hb1)
      have HK1 := Lib.hid hm1
      have S1 := Lib.hid s1'
      clear hb1 hm1 s1'
      go_wp2_with fail
      refine (rParse_any s1 L1.out _).mono ?_
      rintro e w2 ⟨hb2, _, a2, k2, rfl, s2'⟩
      rw [HR.out] at s2' ⊢
      dsimp only at s2' ⊢
      have HB2 : Hid (Below w.heap.size w w2) := Below.next HB1.out hb2 (Nat.le_refl _)
      have HM2 := Lib.hid (HM1.out.below hb2)
      have S12 := Lib.hid (S1.out.below hb2)
      have S2 := Lib.hid s2'
      clear hb2 s2'
      go_wp2_with fail
      refine (mFormat_any _ m0 _ _ R0.out HM2.out).mono ?_
      rintro e w3 ⟨hb3, rfl⟩
      have HB3 : Hid (Below w.heap.size w w3) := Below.next HB2.out hb3 (Nat.le_refl _)
      have HM3 := Lib.hid (HM2.out.below hb3)
      have S13 := Lib.hid (S12.out.below hb3)
      have S23 := Lib.hid (S2.out.below hb3)
      clear hb3
      go_wp2_with fail
      refine (rFormat_any _ m0 _ _ R0.out HM3.out).mono ?_
      rintro e w4 ⟨rfl, rfl⟩
      generalize hF : (⟨(fmtV m0).toArray⟩ : ByteArray) = F at *
      have HF := Lib.hid hF; clear hF
      go_wp2_with fail
      refine (same_any _ m _ _ m _ _ HK1.out HK1.out S13.out S23.out).mono ?_
      rintro e w5 ⟨rfl, n5, hw5⟩
      rw [decide_eq_true rfl]
      have hb5 := drew_below hw5; clear hw5
      have HB5 : Hid (Below w.heap.size w w5) := Below.next HB3.out hb5 (Nat.le_refl _)
      have HM5 := Lib.hid (HM3.out.below hb5)
      clear hb5
      go_wp2_with fail
      refine (rvalid_any _ m0 _ _ R0.out HM5.out).mono ?_
      rintro e w6 ⟨rfl, rfl⟩
      cases hv : validM m0
      · clear hv
        go_wp2_with (go_at_call 30; refine (awake_any _).mono ?_; rintro e w1 ⟨rfl, hb⟩)
        go_ret
        exact ⟨rfl, Below.next HB5.out hb (Nat.le_refl _)⟩
      · have hpf := parse_fmt hv
        have HPF : Hid (parseV F.data.toList = (m0, 0, 0)) := by show _ = _; rw [← HF.out]; exact hpf
        have HFS : Hid (F.size ≤ maxLen) := by
          show _ ≤ _
          have h1 := fmtV_len m0
          rw [str_size, ← HF.out]
          unfold maxLen
          show (fmtV m0).length ≤ _
          omega
        clear hv hpf
        go_wp2_with fail
        refine (mFormat_any _ m0 _ _ R0.out HM5.out).mono ?_
        rintro e w7 ⟨hb7, rfl⟩
        rw [HF.out]
        have HB7 : Hid (Below w.heap.size w w7) := Below.next HB5.out hb7 (Nat.le_refl _)
        have HM7 := Lib.hid (HM5.out.below hb7)
        clear hb7
        go_wp2_with fail
        refine (mParse_any F HFS.out _).mono ?_
        rintro e w8 ⟨hb8, _, a8, k8, rfl, s8'⟩
        rw [HPF.out] at s8' ⊢
        dsimp only at s8' ⊢
        have HB8 : Hid (Below w.heap.size w w8) := Below.next HB7.out hb8 (Nat.le_refl _)
        have HM8 := Lib.hid (HM7.out.below hb8)
        have S8 := Lib.hid s8'
        clear hb8 s8'
        go_wp2_with fail
        refine (same_any _ m0 _ _ m0 _ _ R0.out R0.out S8.out HM8.out).mono ?_
        rintro e w9 ⟨rfl, n9, hw9⟩
        rw [decide_eq_true rfl]
        have hb9 := drew_below hw9; clear hw9
        have HB9 : Hid (Below w.heap.size w w9) := Below.next HB8.out hb9 (Nat.le_refl _)
        clear hb9
        go_wp2_with (go_at_call 30; refine (awake_any _).mono ?_; rintro e w1 ⟨rfl, hb⟩)
        go_ret
        exact ⟨rfl, Below.next HB9.out hb (Nat.le_refl _)⟩
end Go.Proofs.Ytknhfliefkkpfab.maskTexts
