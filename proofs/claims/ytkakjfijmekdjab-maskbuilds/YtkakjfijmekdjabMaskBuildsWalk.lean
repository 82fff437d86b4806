/- MaskBuilds returns true: the walk. -/
import Derived.Test.YtkakjfijmekdjabMAwk
import Derived.Test.YtkakjfijmekdjabMBuildOk
import Derived.Test.YtkakjfijmekdjabMRoll2
import Derived.Test.YtkakjfijmekdjabMWalsh2
import Derived.Test.YtkakjfijmekdjabMWalsh3
import Derived.Test.YtkakjfijmekdjabMSeed2
import Derived.Test.YtkakjfijmekdjabMSame
import Derived.Test.YtkakjfijmekdjabMLong
import Derived.Test.YtkakjfijmekdjabOpen3
namespace Go.Proofs.Ytkakjfijmekdjab.maskBuilds
open Go.RowKit
set_option linter.unusedVariables false

set_option maxRecDepth 1000000 in
set_option maxHeartbeats 1600000 in
theorem walk (b0 : Option Addr) (xs0 : List Int) (c0 : Nat) (m1 : Int) (x2 y2 z2 : Int) (w : World) (h0 : Sl w b0 xs0) (l0 : xs0.length ≤ 9223372036854775807) (r0 : ∀ x ∈ xs0, I64 x) (g0 : xs0.length ≤ c0) (gg0 : c0 ≤ 9223372036854775807) (r1 : I64 m1) (rx2 : I64 x2) (ry2 : I64 y2) (rz2 : I64 z2) :
    Calls Try.prog 7 #[.slice b0 xs0.length c0, .int .i64 m1, .agg #[.int .i64 x2, .int .i64 y2, .int .i64 z2]] w fun e w' => e = .returned (.bool true) ∧ Below w.heap.size w w' := by
  clear r0 r1 rx2 ry2 rz2
  have H0 := Lib.hid h0; clear h0
  have GG := Lib.hid (And.intro g0 gg0); clear g0 gg0
  go_enter Try.func7, Try.ntmps7
  go_wp2_with fail
  refine (mlong1 b0 xs0.length c0 _ _ (by simp) _ l0).mono ?_
  rintro e w1 ⟨rfl, rfl⟩
  obtain ⟨hbx, hb0⟩ := one_box w #[.int .i64 x2, .int .i64 y2, .int .i64 z2] #[.slice b0 xs0.length c0] 53 26
  have HB0 := Lib.hid hb0; clear hb0
  have BX0 := Lib.hid hbx; clear hbx
  generalize (w.alloc (.cells #[.int .i64 x2, .int .i64 y2, .int .i64 z2] 53)).alloc (.cells #[.slice b0 xs0.length c0] 26) = W0 at *
  cases hL : decide (200 < xs0.length)
  case true =>
    as_aux_lemma =>
      clear hL
      go_wp2_with (go_at_call 13; refine (awake_any _).mono ?_; rintro e wa ⟨rfl, hba⟩)
      go_ret
      exact ⟨rfl, Below.next HB0.out hba (Nat.le_refl _)⟩
  case false =>
    clear hL
    have HM1 := Lib.hid (rolledV_mok xs0 m1)
    have HM2 := Lib.hid (walshV_mok m1 xs0)
    have HM3 := Lib.hid (seededV_mok x2 y2 z2)
    obtain ⟨⟨p1, f1⟩, hr1⟩ : ∃ r, rolledV xs0 m1 = r := ⟨_, rfl⟩
    obtain ⟨⟨p2, f2⟩, hr2⟩ : ∃ r, walshV m1 xs0 = r := ⟨_, rfl⟩
    obtain ⟨⟨p3, f3⟩, hr3⟩ : ∃ r, seededV x2 y2 z2 = r := ⟨_, rfl⟩
    rw [hr1] at HM1
    rw [hr2] at HM2
    rw [hr3] at HM3
    have HR1 := Lib.hid hr1; clear hr1
    have HR2 := Lib.hid hr2; clear hr2
    have HR3 := Lib.hid hr3; clear hr3
    go_wp2_with fail
    refine (mRolled_any _ xs0 _ m1 _ l0 GG.out.1 GG.out.2 (H0.out.below HB0.out)).mono ?_
    rintro e w1 ⟨hb1, a1, k1, _, rfl, s1⟩
    rw [HR1.out] at s1 ⊢
    dsimp only at s1 ⊢
    have HB1 : Hid (Below w.heap.size w w1) := Below.next HB0.out hb1 (Nat.le_refl _)
    have BX1 := Lib.hid (BX0.out.next hb1)
    have SA1 := Lib.hid s1; clear s1 hb1
    go_wp2_with fail
    refine (rRolled_any _ xs0 _ m1 _ l0 GG.out.1 GG.out.2 (H0.out.below HB1.out)).mono ?_
    rintro e w2 ⟨hb2, a2, k2, _, rfl, s2⟩
    rw [HR1.out] at s2 ⊢
    dsimp only at s2 ⊢
    have HB2 : Hid (Below w.heap.size w w2) := Below.next HB1.out hb2 (Nat.le_refl _)
    have BX2 := Lib.hid (BX1.out.next hb2)
    have SA1' := Lib.hid (SA1.out.below hb2)
    have SB1 := Lib.hid s2; clear s2 hb2
    go_wp2_with fail
    skip
    refine (same_any _ p1 _ _ p1 _ _ HM1.out HM1.out SA1'.out SB1.out).mono ?_
    rintro e w3 ⟨rfl, n3, hw3⟩
    have hb3 := drew_below hw3; clear hw3
    rw [show decide (p1 = p1) = true by simp]
    have HB3 : Hid (Below w.heap.size w w3) := Below.next HB2.out hb3 (Nat.le_refl _)
    have BX3 := Lib.hid (BX2.out.next hb3); clear hb3
    have q1 : (f1 != f1) = false := by simp
    have qq1 : (f1 == f1) = true := by simp
    go_wp2_with fail
    refine (mWalsh_any m1 _ xs0 _ _ l0 (H0.out.below HB3.out)).mono ?_
    rintro e w4 ⟨hb4, a4, k4, _, rfl, s4⟩
    rw [HR2.out] at s4 ⊢
    dsimp only at s4 ⊢
    have HB4 : Hid (Below w.heap.size w w4) := Below.next HB3.out hb4 (Nat.le_refl _)
    have BX4 := Lib.hid (BX3.out.next hb4)
    have SA2 := Lib.hid s4; clear s4 hb4
    go_wp2_with fail
    refine (rWalsh_any m1 _ xs0 _ _ l0 (H0.out.below HB4.out)).mono ?_
    rintro e w5 ⟨hb5, a5, k5, _, rfl, s5⟩
    rw [HR2.out] at s5 ⊢
    dsimp only at s5 ⊢
    have HB5 : Hid (Below w.heap.size w w5) := Below.next HB4.out hb5 (Nat.le_refl _)
    have BX5 := Lib.hid (BX4.out.next hb5)
    have SA2' := Lib.hid (SA2.out.below hb5)
    have SB2 := Lib.hid s5; clear s5 hb5
    go_wp2_with fail
    skip
    refine (same_any _ p2 _ _ p2 _ _ HM2.out HM2.out SA2'.out SB2.out).mono ?_
    rintro e w6 ⟨rfl, n6, hw6⟩
    have hb6 := drew_below hw6; clear hw6
    rw [show decide (p2 = p2) = true by simp]
    have HB6 : Hid (Below w.heap.size w w6) := Below.next HB5.out hb6 (Nat.le_refl _)
    have BX6 := Lib.hid (BX5.out.next hb6); clear hb6
    have q2 : (f2 != f2) = false := by simp
    have qq2 : (f2 == f2) = true := by simp
    skip
    have c0c := BX6.out.2 0 _ rfl
    have c1c := BX6.out.2 1 _ rfl
    have c2c := BX6.out.2 2 _ rfl
    go_wp2_with fail
    refine (mSeeded_any x2 y2 z2 _).mono ?_
    rintro e w7 ⟨hb7, a7, k7, _, rfl, s7⟩
    rw [HR3.out] at s7 ⊢
    dsimp only at s7 ⊢
    have HB7 : Hid (Below w.heap.size w w7) := Below.next HB6.out hb7 (Nat.le_refl _)
    have BX7 := Lib.hid (BX6.out.next hb7)
    have SA3 := Lib.hid s7; clear s7 hb7
    clear c0c c1c c2c
    have c0c := BX7.out.2 0 _ rfl
    have c1c := BX7.out.2 1 _ rfl
    have c2c := BX7.out.2 2 _ rfl
    go_wp2_with fail
    refine (rSeeded_any x2 y2 z2 _).mono ?_
    rintro e w8 ⟨hb8, a8, k8, _, rfl, s8⟩
    rw [HR3.out] at s8 ⊢
    dsimp only at s8 ⊢
    have HB8 : Hid (Below w.heap.size w w8) := Below.next HB7.out hb8 (Nat.le_refl _)
    have BX8 := Lib.hid (BX7.out.next hb8)
    have SA3' := Lib.hid (SA3.out.below hb8)
    have SB3 := Lib.hid s8; clear s8 hb8
    go_wp2_with fail
    clear c0c c1c c2c
    refine (same_any _ p3 _ _ p3 _ _ HM3.out HM3.out SA3'.out SB3.out).mono ?_
    rintro e w9 ⟨rfl, n9, hw9⟩
    have hb9 := drew_below hw9; clear hw9
    rw [show decide (p3 = p3) = true by simp]
    have HB9 : Hid (Below w.heap.size w w9) := Below.next HB8.out hb9 (Nat.le_refl _)
    have BX9 := Lib.hid (BX8.out.next hb9); clear hb9
    have q3 : (f3 != f3) = false := by simp
    have qq3 : (f3 == f3) = true := by simp
    go_wp2_with (go_at_call 13; refine (awake_any _).mono ?_; rintro e wa ⟨rfl, hba⟩)
    go_ret
    exact ⟨rfl, Below.next HB9.out hba (Nat.le_refl _)⟩
end Go.Proofs.Ytkakjfijmekdjab.maskBuilds
