/- PicSums returns true: the walk. -/
import Derived.Test.YtibopjfmcdcgbaaOpen
import Derived.Test.YtibopjfmcdcgbaaSums3
import Derived.Test.YtibopjfmcdcgbaaAwk
namespace Go.Proofs.Ytibopjfmcdcgbaa.picSums
open Go.RowKit
set_option linter.unusedVariables false

theorem difV_len {w1 h1 : Int} {xs : List Int} {w2 h2 : Int} {ys : List Int} : (difV w1 h1 xs w2 h2 ys).1.length ≤ xs.length := by
  unfold difV; split
  · exact diffs_length _ _ _
  · exact Nat.zero_le _
theorem addV_len {w1 h1 : Int} {xs : List Int} {w2 h2 : Int} {ys : List Int} : (addV w1 h1 xs w2 h2 ys).1.2.2.length ≤ xs.length := by
  unfold addV; split
  · split
    · exact Nat.le_of_eq (addL_length _ _ _)
    · exact Nat.zero_le _
  · exact Nat.zero_le _

set_option maxRecDepth 100000 in
set_option maxHeartbeats 400000 in
theorem walk (wd0 hg0 : Int) (b0 : Option Addr) (xs0 : List Int) (c0 : Nat) (wd1 hg1 : Int) (b1 : Option Addr) (xs1 : List Int) (c1 : Nat) (w : World) (rw0 : I64 wd0) (rh0 : I64 hg0) (h0 : Sl w b0 xs0) (l0 : xs0.length ≤ 9223372036854775807) (r0 : ∀ x ∈ xs0, I64 x) (rw1 : I64 wd1) (rh1 : I64 hg1) (h1 : Sl w b1 xs1) (l1 : xs1.length ≤ 9223372036854775807) (r1 : ∀ x ∈ xs1, I64 x) :
    Calls Try.prog 5 #[.agg #[.int .i64 wd0, .int .i64 hg0, .slice b0 xs0.length c0], .agg #[.int .i64 wd1, .int .i64 hg1, .slice b1 xs1.length c1]] w fun e w' => e = .returned (.bool true) ∧ Below w.heap.size w w' := by
  have H0 := Lib.hid h0; clear h0
  have H1 := Lib.hid h1; clear h1
  clear r0 r1
  have TT : Hid (Two w (.int .i64 wd0) (.int .i64 hg0) (.slice b0 xs0.length c0) (.int .i64 wd1) (.int .i64 hg1) (.slice b1 xs1.length c1) (((w.alloc (.cells #[.int .i64 wd0, .int .i64 hg0, .slice b0 xs0.length c0] 24)).alloc (.cells #[.int .i64 wd1, .int .i64 hg1, .slice b1 xs1.length c1] 24)).alloc (.cells #[.slice b0 xs0.length c0, .slice b1 xs1.length c1] 22))) := (Two.mk0 w (.int .i64 wd0) (.int .i64 hg0) (.slice b0 xs0.length c0) (.int .i64 wd1) (.int .i64 hg1) (.slice b1 xs1.length c1) 24 24).next (.alloc (Below.refl (w.heap.size + 2) _) (by rw [World.size_alloc, World.size_alloc]; exact Nat.le_refl _) (.cells #[.slice b0 xs0.length c0, .slice b1 xs1.length c1] 22)) (Nat.le_refl _)
  cases hL : (decide (600 < xs0.length) || decide (600 < xs1.length))
  case true =>
    have HL := Lib.hid hL; clear hL
    go_enter Try.func5, Try.ntmps5
    go_wp2_with fail
    refine (long2 b0 xs0.length c0 b1 xs1.length c1 _ _ (by simp) _ l0 l1).mono ?_
    rintro e w1 ⟨rfl, rfl⟩
    rw [HL.out]
    go_wp2_with (go_at_call 14; refine (awake_any _).mono ?_; rintro e w1 ⟨rfl, hb⟩)
    go_ret
    exact ⟨rfl, TT.out.below.trans (hb.mono TT.out.below.size)⟩
  case false =>
    have hs : xs0.length ≤ 600 ∧ xs1.length ≤ 600 := by simp at hL; omega
    have hs0 := hs.1
    have hs1 := hs.2
    clear hs
    have HL := Lib.hid hL; clear hL
    go_enter Try.func5, Try.ntmps5
    go_wp2_with fail
    refine (long2 b0 xs0.length c0 b1 xs1.length c1 _ _ (by simp) _ l0 l1).mono ?_
    rintro e w1 ⟨rfl, rfl⟩
    rw [HL.out]
    generalize ((w.alloc (.cells #[.int .i64 wd0, .int .i64 hg0, .slice b0 xs0.length c0] 24)).alloc (.cells #[.int .i64 wd1, .int .i64 hg1, .slice b1 xs1.length c1] 24)).alloc (.cells #[.slice b0 xs0.length c0, .slice b1 xs1.length c1] 22) = V at *
    obtain ⟨c0', c1', c2', d0', d1', d2', _, _⟩ := TT.out
    go_wp2_with fail
    refine (added_any wd0 hg0 b0 xs0 c0 wd1 hg1 b1 xs1 c1 _ (by omega) (by omega) (H0.out.below TT.out.below) (H1.out.below TT.out.below)).mono ?_
    rintro e v1 ⟨hb1, a1, k1, rfl, s1⟩
    have la := addV_len (w1 := wd0) (h1 := hg0) (xs := xs0) (w2 := wd1) (h2 := hg1) (ys := xs1)
    have ld := difV_len (w1 := wd0) (h1 := hg0) (xs := xs0) (w2 := wd1) (h2 := hg1) (ys := xs1)
    have EA : Hid (∀ z, z = addV wd0 hg0 xs0 wd1 hg1 xs1 → True) := fun _ _ => trivial
    obtain ⟨⟨⟨p, q, r⟩, f⟩, hr⟩ : ∃ r, addV wd0 hg0 xs0 wd1 hg1 xs1 = r := ⟨_, rfl⟩
    obtain ⟨⟨s, g⟩, hg⟩ : ∃ s, difV wd0 hg0 xs0 wd1 hg1 xs1 = s := ⟨_, rfl⟩
    rw [hr] at s1 la ⊢
    rw [hg] at ld
    dsimp only at s1 la ld ⊢
    have HR := Lib.hid hr; clear hr
    have HG := Lib.hid hg; clear hg EA
    have T1 := Lib.hid (TT.out.next hb1 TT.out.size)
    have S1 := Lib.hid s1; clear s1 hb1 c0' c1' c2' d0' d1' d2'
    have TU1 := Lib.hid (T1.out.next (.alloc (Below.refl v1.heap.size v1) (Nat.le_refl _) (.cells #[.int .i64 p, .int .i64 q, .slice a1 r.length k1] 24)) T1.out.size)
    have BX1 : Hid (Box v1.heap.size #[.int .i64 p, .int .i64 q, .slice a1 r.length k1] (v1.alloc (.cells #[.int .i64 p, .int .i64 q, .slice a1 r.length k1] 24))) := ⟨alloc_lt' rfl, fun k v h => alloc_cell _ _ _ _ _ h⟩
    have SU1 := Lib.hid (S1.out.alloc (.cells #[.int .i64 p, .int .i64 q, .slice a1 r.length k1] 24))
    obtain ⟨c0', c1', c2', d0', d1', d2', _, _⟩ := TU1.out
    go_wp2_with fail
    generalize v1.alloc (.cells #[.int .i64 p, .int .i64 q, .slice a1 r.length k1] 24) = U1 at *
    refine (radded_any wd0 hg0 b0 xs0 c0 wd1 hg1 b1 xs1 c1 _ (by omega) (by omega) (H0.out.below TU1.out.below) (H1.out.below TU1.out.below)).mono ?_
    rintro e v2 ⟨hb2, a2, k2, rfl, s2⟩
    rw [HR.out] at s2 ⊢
    dsimp only at s2 ⊢
    have T2 := Lib.hid (TU1.out.next hb2 TU1.out.size)
    have BX1' := Lib.hid (BX1.out.next hb2)
    have S1' := Lib.hid (SU1.out.below hb2)
    have S2 := Lib.hid s2; clear s2 hb2 c0' c1' c2' d0' d1' d2'
    have AL : Hid (Below v2.heap.size v2 (v2.alloc (.cells #[.int .i64 p, .int .i64 q, .slice a2 r.length k2] 24))) := .alloc (Below.refl v2.heap.size v2) (Nat.le_refl _) _
    have TU2 := Lib.hid (T2.out.next AL.out T2.out.size)
    have BX2 : Hid (Box v2.heap.size #[.int .i64 p, .int .i64 q, .slice a2 r.length k2] (v2.alloc (.cells #[.int .i64 p, .int .i64 q, .slice a2 r.length k2] 24))) := ⟨alloc_lt' rfl, fun k v h => alloc_cell _ _ _ _ _ h⟩
    have BX1u := Lib.hid (BX1'.out.next AL.out)
    have S1u := Lib.hid (S1'.out.below AL.out)
    have S2u := Lib.hid (S2.out.below AL.out)
    obtain ⟨c0', c1', c2', d0', d1', d2', _, _⟩ := TU2.out
    go_wp2_with fail
    generalize v2.alloc (.cells #[.int .i64 p, .int .i64 q, .slice a2 r.length k2] 24) = U2 at *
    refine (differ_any wd0 hg0 b0 xs0 c0 wd1 hg1 b1 xs1 c1 _ (by omega) (by omega) (H0.out.below TU2.out.below) (H1.out.below TU2.out.below)).mono ?_
    rintro e v3 ⟨hb3, a3, k3, rfl, s3⟩
    rw [HG.out] at s3 ⊢
    dsimp only at s3 ⊢
    have T3 := Lib.hid (TU2.out.next hb3 TU2.out.size)
    have BX1v := Lib.hid (BX1u.out.next hb3)
    have BX2v := Lib.hid (BX2.out.next hb3)
    have S1v := Lib.hid (S1u.out.below hb3)
    have S2v := Lib.hid (S2u.out.below hb3)
    have S3 := Lib.hid s3; clear s3 hb3 c0' c1' c2' d0' d1' d2'
    obtain ⟨c0', c1', c2', d0', d1', d2', _, _⟩ := T3.out
    go_wp2_with fail
    refine (rdiffer_any wd0 hg0 b0 xs0 c0 wd1 hg1 b1 xs1 c1 _ (by omega) (by omega) (H0.out.below T3.out.below) (H1.out.below T3.out.below)).mono ?_
    rintro e v4 ⟨hb4, a4, k4, rfl, s4⟩
    rw [HG.out] at s4 ⊢
    dsimp only at s4 ⊢
    have T4 := Lib.hid (T3.out.next hb4 T3.out.size)
    have BX1w := Lib.hid (BX1v.out.next hb4)
    have BX2w := Lib.hid (BX2v.out.next hb4)
    have S1w := Lib.hid (S1v.out.below hb4)
    have S2w := Lib.hid (S2v.out.below hb4)
    have S3w := Lib.hid (S3.out.below hb4)
    have S4 := Lib.hid s4; clear s4 hb4 c0' c1' c2' d0' d1' d2'
    have g0 := BX1w.out.2 0 _ rfl
    have g1 := BX1w.out.2 1 _ rfl
    have g2 := BX1w.out.2 2 _ rfl
    have g3 := BX2w.out.2 0 _ rfl
    have g4 := BX2w.out.2 1 _ rfl
    have g5 := BX2w.out.2 2 _ rfl
    go_wp2_with fail
    refine (same_any p q a1 r k1 a2 k2 _ (by omega) S1w.out S2w.out).mono ?_
    rintro e v5 ⟨rfl, hb5⟩
    have W5 := Lib.hid (T4.out.below.trans (hb5.mono T4.out.below.size))
    have S3x := Lib.hid (S3w.out.below hb5)
    have S4x := Lib.hid (S4.out.below hb5)
    clear hb5 g0 g1 g2 g3 g4 g5
    go_wp2_with fail
    refine (sameInts_any a3 s k3 a4 s k4 _ (by omega) (by omega) S3x.out S4x.out).mono ?_
    rintro e v6 ⟨rfl, n6, rfl⟩
    rw [decide_eq_true (rfl : s = s)]
    go_wp2_with (go_at_call 14; refine (awake_any _).mono ?_; rintro e v7 ⟨rfl, hb⟩)
    go_ret
    have W6 : Below w.heap.size w (v5.drewN n6) := below_drewN W5.out _
    exact ⟨rfl, W6.trans (hb.mono W6.size)⟩
end Go.Proofs.Ytibopjfmcdcgbaa.picSums
