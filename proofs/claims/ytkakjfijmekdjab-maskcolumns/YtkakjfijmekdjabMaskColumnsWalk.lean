/- MaskColumns returns true: the walk. -/
import Derived.Test.YtkakjfijmekdjabMAwk
namespace Go.Proofs.Ytkakjfijmekdjab.maskColumns
open Go.RowKit
set_option linter.unusedVariables false

theorem columnV_len (m : List (List Int)) (j : Int) : (columnV m j).1.length ≤ 6 := by
  unfold columnV
  split
  · rename_i h
    split
    · rw [colM_length]; exact (validM_of h).2.1
    · simp
  · simp
set_option maxRecDepth 1000000 in
set_option maxHeartbeats 800000 in
theorem walk (b0 : Option Addr) (m0 : List (List Int)) (c0 : Nat) (m1 : Int) (m2 : Int) (w : World) (h0 : Ms w b0 m0) (r0 : MOk m0) (r1 : I64 m1) (r2 : I64 m2) :
    Calls Try.prog 3 #[.slice b0 m0.length c0, .int .i64 m1, .int .i64 m2] w fun e w' => e = .returned (.bool true) ∧ Below w.heap.size w w' := by
  clear r1 r2
  have H0 := Lib.hid h0; clear h0
  have R0 := Lib.hid r0; clear r0
  have HC := Lib.hid (columnV_len m0 m1)
  go_enter Try.func3, Try.ntmps3
  go_wp2_with fail
  refine (small1 _ _ _ _ _ rfl _ H0.out R0.out).mono ?_
  rintro e w1 ⟨bb, rfl, rfl⟩
  have HB0 : Hid (Below w.heap.size w (w.alloc (.cells #[.slice b0 m0.length c0] 23))) := (Below.refl _ _).alloc (Nat.le_refl _) _
  have HM0 := Lib.hid (H0.out.alloc (.cells #[.slice b0 m0.length c0] 23))
  generalize w.alloc (.cells #[.slice b0 m0.length c0] 23) = W0 at *
  cases bb
  · go_wp2_with (go_at_call 13; refine (awake_any _).mono ?_; rintro e w1 ⟨rfl, hb⟩)
    go_ret
    exact ⟨rfl, Below.next HB0.out hb (Nat.le_refl _)⟩
  · obtain ⟨⟨ys, f⟩, hr⟩ : ∃ r, columnV m0 m1 = r := ⟨_, rfl⟩
    obtain ⟨⟨p, g⟩, hp⟩ : ∃ r, prodV m0 m1 m2 = r := ⟨_, rfl⟩
    obtain ⟨⟨⟨n, d⟩, q⟩, hq⟩ : ∃ r, likeV m0 m1 m2 = r := ⟨_, rfl⟩
    rw [hr] at HC
    have HR := Lib.hid hr; clear hr
    have HP := Lib.hid hp; clear hp
    have HQ := Lib.hid hq; clear hq
    go_wp2_with fail
    refine (mColumn_any _ m0 _ m1 _ R0.out HM0.out).mono ?_
    rintro e w1 ⟨hb1, a1, k1, rfl, s1⟩
    rw [HR.out] at s1 ⊢
    dsimp only at s1 ⊢
    have HB1 : Hid (Below w.heap.size w w1) := Below.next HB0.out hb1 (Nat.le_refl _)
    have HM1 := Lib.hid (HM0.out.below hb1)
    have S1 := Lib.hid s1; clear s1 hb1
    go_wp2_with fail
    refine (rColumn_any _ m0 _ m1 _ R0.out HM1.out).mono ?_
    rintro e w2 ⟨hb2, a2, k2, rfl, s2⟩
    rw [HR.out] at s2 ⊢
    dsimp only at s2 ⊢
    have HB2 : Hid (Below w.heap.size w w2) := Below.next HB1.out hb2 (Nat.le_refl _)
    have HM2 := Lib.hid (HM1.out.below hb2)
    have S12 := Lib.hid (S1.out.below hb2)
    have S2 := Lib.hid s2; clear s2 hb2
    go_wp2_with fail
    refine (mProduct_any _ m0 _ m1 m2 _ R0.out HM2.out).mono ?_
    rintro e w3 ⟨hb3, rfl⟩
    rw [HP.out]
    dsimp only
    have HB3 : Hid (Below w.heap.size w w3) := Below.next HB2.out hb3 (Nat.le_refl _)
    have HM3 := Lib.hid (HM2.out.below hb3)
    have S13 := Lib.hid (S12.out.below hb3)
    have S23 := Lib.hid (S2.out.below hb3); clear hb3
    go_wp2_with fail
    refine (rProduct_any _ m0 _ m1 m2 _ R0.out HM3.out).mono ?_
    rintro e w4 ⟨hb4, rfl⟩
    rw [HP.out]
    dsimp only
    have HB4 : Hid (Below w.heap.size w w4) := Below.next HB3.out hb4 (Nat.le_refl _)
    have HM4 := Lib.hid (HM3.out.below hb4)
    have S14 := Lib.hid (S13.out.below hb4)
    have S24 := Lib.hid (S23.out.below hb4); clear hb4
    go_wp2_with fail
    refine (mLikeness_any _ m0 _ m1 m2 _ R0.out HM4.out).mono ?_
    rintro e w5 ⟨hb5, rfl⟩
    rw [HQ.out]
    dsimp only
    have HB5 : Hid (Below w.heap.size w w5) := Below.next HB4.out hb5 (Nat.le_refl _)
    have HM5 := Lib.hid (HM4.out.below hb5)
    have S15 := Lib.hid (S14.out.below hb5)
    have S25 := Lib.hid (S24.out.below hb5); clear hb5
    have AL5 : Hid (Below w5.heap.size w5 (w5.alloc (.cells #[.int .i64 n, .int .i64 d] 33))) := (Below.refl _ _).alloc (Nat.le_refl _) _
    have BX5 : Hid (Box w5.heap.size #[.int .i64 n, .int .i64 d] (w5.alloc (.cells #[.int .i64 n, .int .i64 d] 33))) := ⟨alloc_lt' rfl, fun k v h => alloc_cell _ _ _ _ _ h⟩
    go_wp2_with fail
    generalize w5.alloc (.cells #[.int .i64 n, .int .i64 d] 33) = U5 at *
    have HBU : Hid (Below w.heap.size w U5) := Below.next HB5.out AL5.out (Nat.le_refl _)
    have HMU := Lib.hid (HM5.out.below AL5.out)
    have S1U := Lib.hid (S15.out.below AL5.out)
    have S2U := Lib.hid (S25.out.below AL5.out); clear AL5
    refine (rLikeness_any _ m0 _ m1 m2 _ R0.out HMU.out).mono ?_
    rintro e w6 ⟨hb6, rfl⟩
    rw [HQ.out]
    dsimp only
    have HB6 : Hid (Below w.heap.size w w6) := Below.next HBU.out hb6 (Nat.le_refl _)
    have S16 := Lib.hid (S1U.out.below hb6)
    have S26 := Lib.hid (S2U.out.below hb6)
    have BX6 := Lib.hid (BX5.out.next hb6); clear hb6
    have AL6 : Hid (Below w6.heap.size w6 (w6.alloc (.cells #[.int .i64 n, .int .i64 d] 33))) := (Below.refl _ _).alloc (Nat.le_refl _) _
    have BY6 : Hid (Box w6.heap.size #[.int .i64 n, .int .i64 d] (w6.alloc (.cells #[.int .i64 n, .int .i64 d] 33))) := ⟨alloc_lt' rfl, fun k v h => alloc_cell _ _ _ _ _ h⟩
    go_wp2_with fail
    generalize w6.alloc (.cells #[.int .i64 n, .int .i64 d] 33) = U6 at *
    have HBV : Hid (Below w.heap.size w U6) := Below.next HB6.out AL6.out (Nat.le_refl _)
    have S1V := Lib.hid (S16.out.below AL6.out)
    have S2V := Lib.hid (S26.out.below AL6.out)
    have BXV := Lib.hid (BX6.out.next AL6.out); clear AL6
    have hl : ys.length ≤ 140737488351232 := by have h6 : ys.length ≤ 6 := HC.out; omega
    refine (sameInts_any _ ys _ _ ys _ _ hl hl S1V.out S2V.out).mono ?_
    rintro e w7 ⟨rfl, n7, hw7⟩
    have hb7 := drew_below hw7; clear hw7
    rw [show decide (ys = ys) = true by simp]
    have HB7 : Hid (Below w.heap.size w w7) := Below.next HBV.out hb7 (Nat.le_refl _)
    have BX7 := BXV.out.next hb7
    have BY7 := BY6.out.next hb7; clear hb7
    have g0 := BX7.2 0 _ rfl
    have g1 := BX7.2 1 _ rfl
    have g2 := BY7.2 0 _ rfl
    have g3 := BY7.2 1 _ rfl
    clear BX7 BY7
    go_wp2_with (go_at_call 13; refine (awake_any _).mono ?_; rintro e w8 ⟨rfl, hb⟩)
    go_ret
    exact ⟨rfl, Below.next HB7.out hb (Nat.le_refl _)⟩
end Go.Proofs.Ytkakjfijmekdjab.maskColumns
