/- MaskReads returns true: the walk. -/
import Derived.Test.YtkakjfijmekdjaaMAwk
import Derived.Test.YtkakjfijmekdjaaMRead2
import Derived.Test.YtkakjfijmekdjaaMLong
namespace Go.Proofs.Ytkakjfijmekdjaa.maskReads
open Go.RowKit
set_option linter.unusedVariables false

theorem readV_len (m : List (List Int)) (x : List Int) : (readV m x).1.length ≤ 6 := by
  unfold readV
  split
  · rename_i h
    split
    · rw [readL_length]; exact (validM_of h).2.1
    · simp
  · simp
theorem backV_len (m : List (List Int)) (x : List Int) : (backV m x).1.length ≤ 10 := by
  unfold backV
  split
  · rename_i h
    split
    · rw [backL_length]; exact (validM_of h).2.2.2.1
    · simp
  · simp
set_option maxRecDepth 1000000 in
set_option maxHeartbeats 1600000 in
theorem walk (b0 : Option Addr) (m0 : List (List Int)) (c0 : Nat) (b1 : Option Addr) (xs1 : List Int) (c1 : Nat) (b2 : Option Addr) (xs2 : List Int) (c2 : Nat) (w : World) (h0 : Ms w b0 m0) (r0 : MOk m0) (h1 : Sl w b1 xs1) (l1 : xs1.length ≤ 9223372036854775807) (r1 : ∀ x ∈ xs1, I64 x) (h2 : Sl w b2 xs2) (l2 : xs2.length ≤ 9223372036854775807) (r2 : ∀ x ∈ xs2, I64 x) :
    Calls Try.prog 13 #[.slice b0 m0.length c0, .slice b1 xs1.length c1, .slice b2 xs2.length c2] w fun e w' => e = .returned (.bool true) ∧ Below w.heap.size w w' := by
  clear r1 r2
  have H0 := Lib.hid h0; clear h0
  have R0 := Lib.hid r0; clear r0
  have H1 := Lib.hid h1; clear h1
  have H2 := Lib.hid h2; clear h2
  go_enter Try.func13, Try.ntmps13
  go_wp2_with fail
  refine (small1 _ _ _ _ _ rfl _ H0.out R0.out).mono ?_
  rintro e w1 ⟨bb, rfl, rfl⟩
  have HB0 : Hid (Below w.heap.size w (w.alloc (.cells #[.slice b0 m0.length c0] 51))) := (Below.refl _ _).alloc (Nat.le_refl _) _
  generalize w.alloc (.cells #[.slice b0 m0.length c0] 51) = W0 at *
  cases bb
  · as_aux_lemma =>
      go_wp2_with (go_at_call 54; refine (awake_any _).mono ?_; rintro e wa ⟨rfl, hba⟩)
      go_ret
      exact ⟨rfl, Below.next HB0.out hba (Nat.le_refl _)⟩
  · cases hL : (decide (200 < xs1.length) || decide (200 < xs2.length))
    case true =>
      as_aux_lemma =>
        have HL := Lib.hid hL; clear hL
        go_wp2_with fail
        refine (mlong2 b1 xs1.length c1 b2 xs2.length c2 _ _ rfl _ l1 l2).mono ?_
        rintro e w1 ⟨rfl, rfl⟩
        rw [HL.out]
        have HB1 : Hid (Below w.heap.size w (W0.alloc (.cells #[.slice b1 xs1.length c1, .slice b2 xs2.length c2] 22))) := Below.next HB0.out ((Below.refl _ _).alloc (Nat.le_refl _) _) (Nat.le_refl _)
        generalize W0.alloc (.cells #[.slice b1 xs1.length c1, .slice b2 xs2.length c2] 22) = W1 at *
        go_wp2_with (go_at_call 54; refine (awake_any _).mono ?_; rintro e wa ⟨rfl, hba⟩)
        go_ret
        exact ⟨rfl, Below.next HB1.out hba (Nat.le_refl _)⟩
    case false =>
      have HL := Lib.hid hL; clear hL
      go_wp2_with fail
      refine (mlong2 b1 xs1.length c1 b2 xs2.length c2 _ _ rfl _ l1 l2).mono ?_
      rintro e w1 ⟨rfl, rfl⟩
      rw [HL.out]
      have HB1 : Hid (Below w.heap.size w (W0.alloc (.cells #[.slice b1 xs1.length c1, .slice b2 xs2.length c2] 22))) := Below.next HB0.out ((Below.refl _ _).alloc (Nat.le_refl _) _) (Nat.le_refl _)
      generalize W0.alloc (.cells #[.slice b1 xs1.length c1, .slice b2 xs2.length c2] 22) = W1 at *
      clear HL HB0
      obtain ⟨⟨p1, p2⟩, hp⟩ : ∃ r, rowsV m0 = r := ⟨_, rfl⟩
      obtain ⟨⟨q1, q2⟩, hq⟩ : ∃ r, pixelsV m0 = r := ⟨_, rfl⟩
      have HP := Lib.hid hp; clear hp
      have HQ := Lib.hid hq; clear hq
      go_wp2_with fail
      refine (mrows_any _ _ _ _ R0.out (H0.out.below HB1.out)).mono ?_
      rintro e w2 ⟨hb2, rfl⟩
      rw [HP.out]
      dsimp only
      have HB2 : Hid (Below w.heap.size w w2) := Below.next HB1.out hb2 (Nat.le_refl _)
      clear hb2
      go_wp2_with fail
      refine (rrows_any _ _ _ _ R0.out (H0.out.below HB2.out)).mono ?_
      rintro e w3 ⟨hb3, rfl⟩
      rw [HP.out]
      dsimp only
      have HB3 : Hid (Below w.heap.size w w3) := Below.next HB2.out hb3 (Nat.le_refl _)
      clear hb3
      go_wp2_with fail
      refine (mpixels_any _ _ _ _ R0.out (H0.out.below HB3.out)).mono ?_
      rintro e w4 ⟨hb4, rfl⟩
      rw [HQ.out]
      dsimp only
      have HB4 : Hid (Below w.heap.size w w4) := Below.next HB3.out hb4 (Nat.le_refl _)
      clear hb4
      go_wp2_with fail
      refine (rpixels_any _ _ _ _ R0.out (H0.out.below HB4.out)).mono ?_
      rintro e w5 ⟨hb5, rfl⟩
      rw [HQ.out]
      dsimp only
      have HB5 : Hid (Below w.heap.size w w5) := Below.next HB4.out hb5 (Nat.le_refl _)
      clear hb5
      obtain ⟨vv, hvv⟩ : ∃ v, validM m0 = v := ⟨_, rfl⟩
      have qv : (vv != vv) = false := by cases vv <;> rfl
      have HVV := Lib.hid hvv; clear hvv
      obtain ⟨sv, hsv⟩ : ∃ v, shownM m0 xs1 = v := ⟨_, rfl⟩
      have qs : (sv != sv) = false := by cases sv <;> rfl
      have HSV := Lib.hid hsv; clear hsv
      go_wp2_with fail
      refine (mvalid_any _ _ _ _ R0.out (H0.out.below HB5.out)).mono ?_
      rintro e w6 ⟨rfl, hb6⟩
      rw [HVV.out]
      have HB6 : Hid (Below w.heap.size w w6) := Below.next HB5.out hb6 (Nat.le_refl _)
      clear hb6
      go_wp2_with fail
      refine (rvalid_any _ _ _ _ R0.out (H0.out.below HB6.out)).mono ?_
      rintro e w7 ⟨rfl, rfl⟩
      rw [HVV.out]
      go_wp2_with fail
      refine (mshown_any _ _ _ _ _ _ _ R0.out l1 (H0.out.below HB6.out) (H1.out.below HB6.out)).mono ?_
      rintro e w7 ⟨rfl, hb7⟩
      rw [HSV.out]
      have HB7 : Hid (Below w.heap.size w w7) := Below.next HB6.out hb7 (Nat.le_refl _)
      clear hb7
      go_wp2_with fail
      refine (rshown_any _ _ _ _ _ _ _ R0.out l1 (H0.out.below HB7.out) (H1.out.below HB7.out)).mono ?_
      rintro e w8 ⟨rfl, rfl⟩
      rw [HSV.out]
      have HC := Lib.hid (readV_len m0 xs1)
      have HD := Lib.hid (backV_len m0 xs2)
      obtain ⟨⟨ys, f⟩, hr⟩ : ∃ r, readV m0 xs1 = r := ⟨_, rfl⟩
      obtain ⟨⟨zs, g⟩, hg⟩ : ∃ r, backV m0 xs2 = r := ⟨_, rfl⟩
      rw [hr] at HC
      rw [hg] at HD
      have hyl : ys.length ≤ 140737488351232 := by have h6 : ys.length ≤ 6 := HC.out; omega
      have hzl : zs.length ≤ 140737488351232 := by have h6 : zs.length ≤ 10 := HD.out; omega
      have HR := Lib.hid hr; clear hr
      have HG := Lib.hid hg; clear hg
      go_wp2_with fail
      clear qv qs
      refine (mread_any _ m0 _ _ xs1 _ _ R0.out l1 (H0.out.below HB7.out) (H1.out.below HB7.out)).mono ?_
      rintro e w8 ⟨hb8, ay1, ky1, rfl, sy1⟩
      rw [HR.out] at sy1 ⊢
      dsimp only at sy1 ⊢
      have HB8 : Hid (Below w.heap.size w w8) := Below.next HB7.out hb8 (Nat.le_refl _)
      have Sy1 := Lib.hid sy1; clear sy1 hb8
      go_wp2_with fail
      skip
      refine (rread_any _ m0 _ _ xs1 _ _ R0.out l1 (H0.out.below HB8.out) (H1.out.below HB8.out)).mono ?_
      rintro e w9 ⟨hb9, ay2, ky2, rfl, sy2⟩
      rw [HR.out] at sy2 ⊢
      dsimp only at sy2 ⊢
      have HB9 : Hid (Below w.heap.size w w9) := Below.next HB8.out hb9 (Nat.le_refl _)
      have Sy1n := Lib.hid (Sy1.out.below hb9); clear Sy1
      have Sy1 := Sy1n; clear Sy1n
      have Sy2 := Lib.hid sy2; clear sy2 hb9
      go_wp2_with fail
      skip
      refine (mback_any _ m0 _ _ xs2 _ _ R0.out l2 (H0.out.below HB9.out) (H2.out.below HB9.out)).mono ?_
      rintro e w10 ⟨hb10, az1, kz1, rfl, sz1⟩
      rw [HG.out] at sz1 ⊢
      dsimp only at sz1 ⊢
      have HB10 : Hid (Below w.heap.size w w10) := Below.next HB9.out hb10 (Nat.le_refl _)
      have Sy1n := Lib.hid (Sy1.out.below hb10); clear Sy1
      have Sy1 := Sy1n; clear Sy1n
      have Sy2n := Lib.hid (Sy2.out.below hb10); clear Sy2
      have Sy2 := Sy2n; clear Sy2n
      have Sz1 := Lib.hid sz1; clear sz1 hb10
      go_wp2_with fail
      skip
      refine (rback_any _ m0 _ _ xs2 _ _ R0.out l2 (H0.out.below HB10.out) (H2.out.below HB10.out)).mono ?_
      rintro e w11 ⟨hb11, az2, kz2, rfl, sz2⟩
      rw [HG.out] at sz2 ⊢
      dsimp only at sz2 ⊢
      have HB11 : Hid (Below w.heap.size w w11) := Below.next HB10.out hb11 (Nat.le_refl _)
      have Sy1n := Lib.hid (Sy1.out.below hb11); clear Sy1
      have Sy1 := Sy1n; clear Sy1n
      have Sy2n := Lib.hid (Sy2.out.below hb11); clear Sy2
      have Sy2 := Sy2n; clear Sy2n
      have Sz1n := Lib.hid (Sz1.out.below hb11); clear Sz1
      have Sz1 := Sz1n; clear Sz1n
      have Sz2 := Lib.hid sz2; clear sz2 hb11
      go_wp2_with fail
      refine (sameInts_any _ ys _ _ ys _ _ hyl hyl Sy1.out Sy2.out).mono ?_
      rintro e w12 ⟨rfl, n7, hw7⟩
      have hb7 := drew_below hw7; clear hw7
      rw [show decide (ys = ys) = true by simp]
      have HB12 : Hid (Below w.heap.size w w12) := Below.next HB11.out hb7 (Nat.le_refl _)
      have T1 := Lib.hid (Sz1.out.below hb7)
      have T2 := Lib.hid (Sz2.out.below hb7); clear hb7
      go_wp2_with fail
      refine (sameInts_any _ zs _ _ zs _ _ hzl hzl T1.out T2.out).mono ?_
      rintro e w13 ⟨rfl, n8, hw8⟩
      have hb8 := drew_below hw8; clear hw8
      rw [show decide (zs = zs) = true by simp]
      have HB13 : Hid (Below w.heap.size w w13) := Below.next HB12.out hb8 (Nat.le_refl _)
      clear hb8
      go_wp2_with (go_at_call 54; refine (awake_any _).mono ?_; rintro e wa ⟨rfl, hba⟩)
      go_ret
      exact ⟨rfl, Below.next HB13.out hba (Nat.le_refl _)⟩
end Go.Proofs.Ytkakjfijmekdjaa.maskReads
