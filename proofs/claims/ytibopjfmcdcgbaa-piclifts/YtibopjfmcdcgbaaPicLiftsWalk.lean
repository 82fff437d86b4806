/- PicLifts returns true: the walk. -/
import Derived.Test.YtibopjfmcdcgbaaOpen
import Derived.Test.YtibopjfmcdcgbaaUnl
import Derived.Test.YtibopjfmcdcgbaaAwk
namespace Go.Proofs.Ytibopjfmcdcgbaa.picLifts
open Go.RowKit
set_option linter.unusedVariables false

set_option maxRecDepth 100000 in
theorem walk (b0 : Option Addr) (xs0 : List Int) (c0 : Nat) (b1 : Option Addr) (xs1 : List Int) (c1 : Nat) (w : World) (h0 : Sl w b0 xs0) (l0 : xs0.length ≤ 9223372036854775807) (r0 : ∀ x ∈ xs0, I64 x) (h1 : Sl w b1 xs1) (l1 : xs1.length ≤ 9223372036854775807) (r1 : ∀ x ∈ xs1, I64 x) :
    Calls Try.prog 8 #[.slice b0 xs0.length c0, .slice b1 xs1.length c1] w fun e w' => e = .returned (.bool true) ∧ Below w.heap.size w w' := by
  have H0 := Lib.hid h0; clear h0
  have H1 := Lib.hid h1; clear h1
  clear r0 r1
  cases hL : (decide (600 < xs0.length) || decide (600 < xs1.length))
  case true =>
    have HL := Lib.hid hL; clear hL
    go_enter Try.func8, Try.ntmps8
    go_wp2_with fail
    refine (long2 b0 xs0.length c0 b1 xs1.length c1 _ _ rfl _ l0 l1).mono ?_
    rintro e w1 ⟨rfl, rfl⟩
    rw [HL.out]
    go_wp2_with (go_at_call 14; refine (awake_any _).mono ?_; rintro e w1 ⟨rfl, hb⟩)
    go_ret
    exact ⟨rfl, Below.trans (.alloc (Below.refl w.heap.size w) (Nat.le_refl _) _) (hb.mono (by rw [World.size_alloc]; omega))⟩
  case false =>
    have hs : xs0.length ≤ 600 ∧ xs1.length ≤ 600 := by simp at hL; omega
    have hs0 := hs.1
    have hs1 := hs.2
    clear hs
    have HL := Lib.hid hL; clear hL
    have W0 : Hid (Below w.heap.size w (w.alloc (.cells #[.slice b0 xs0.length c0, .slice b1 xs1.length c1] 22))) := .alloc (Below.refl w.heap.size w) (Nat.le_refl _) _
    go_enter Try.func8, Try.ntmps8
    go_wp2_with fail
    refine (long2 b0 xs0.length c0 b1 xs1.length c1 _ _ rfl _ l0 l1).mono ?_
    rintro e w1 ⟨rfl, rfl⟩
    rw [HL.out]
    generalize hV : w.alloc (.cells #[.slice b0 xs0.length c0, .slice b1 xs1.length c1] 22) = V at *
    clear hV
    go_wp2_with fail
    refine (lift_post b0 xs0 c0 _ (by omega) (H0.out.below W0.out)).mono ?_
    rintro e v1 ⟨hb1, a1, k1, rfl, s1⟩
    have W1 : Hid (Below w.heap.size w v1) := W0.out.trans (hb1.mono W0.out.size)
    have S1 := Lib.hid s1; clear s1
    have HB1 := Lib.hid hb1; clear hb1
    go_wp2_with fail
    refine (rlift_any b0 xs0 c0 _ (by omega) (H0.out.below W1.out)).mono ?_
    rintro e v2 ⟨hb2, a2, k2, rfl, s2⟩
    have W2 : Hid (Below w.heap.size w v2) := W1.out.trans (hb2.mono W1.out.size)
    have S2 := Lib.hid s2; clear s2
    have HB2 := Lib.hid hb2; clear hb2
    go_wp2_with fail
    refine (unlift_any b1 xs1 c1 _ (by omega) (H1.out.below W2.out)).mono ?_
    rintro e v3 ⟨hb3, a3, k3, rfl, s3⟩
    have W3 : Hid (Below w.heap.size w v3) := W2.out.trans (hb3.mono W2.out.size)
    have S3 := Lib.hid s3; clear s3
    have HB3 := Lib.hid hb3; clear hb3
    go_wp2_with fail
    refine (runlift_any b1 xs1 c1 _ (by omega) (H1.out.below W3.out)).mono ?_
    rintro e v4 ⟨hb4, a4, k4, rfl, s4⟩
    have W4 : Hid (Below w.heap.size w v4) := W3.out.trans (hb4.mono W3.out.size)
    have S4 := Lib.hid s4; clear s4
    have HB4 := Lib.hid hb4; clear hb4
    have la : (liftV xs0).1.length ≤ 600 := liftV_len hs0
    have lc : (unlV xs1).1.length ≤ 600 := unlV_len hs1
    obtain ⟨⟨r, f⟩, hr⟩ : ∃ r, liftV xs0 = r := ⟨_, rfl⟩
    obtain ⟨⟨s, g⟩, hg⟩ : ∃ s, unlV xs1 = s := ⟨_, rfl⟩
    rw [hr] at S1 S2 la ⊢
    rw [hg] at S3 S4 lc ⊢
    dsimp only at S1 S2 S3 S4 la lc ⊢
    clear hr hg
    go_wp2_with fail
    refine (sameInts_any a1 r k1 a2 r k2 _ (by omega) (by omega) (((S1.out.below HB2.out).below HB3.out).below HB4.out) ((S2.out.below HB3.out).below HB4.out)).mono ?_
    rintro e v5 ⟨rfl, n5, rfl⟩
    rw [decide_eq_true (rfl : r = r)]
    have W5 : Hid (Below w.heap.size w (v4.drewN n5)) := below_drewN W4.out _
    have S3' := Lib.hid ((S3.out.below HB4.out).drewN n5)
    have S4' := Lib.hid (S4.out.drewN n5)
    go_wp2_with fail
    refine (sameInts_any a3 s k3 a4 s k4 _ (by omega) (by omega) S3'.out S4'.out).mono ?_
    rintro e v6 ⟨rfl, n6, rfl⟩
    rw [decide_eq_true (rfl : s = s)]
    go_wp2_with (go_at_call 14; refine (awake_any _).mono ?_; rintro e v7 ⟨rfl, hb⟩)
    go_ret
    have W6 : Below w.heap.size w (v4.drewN (n5 + n6)) := below_drewN W4.out _
    exact ⟨rfl, W6.trans (hb.mono W6.size)⟩
end Go.Proofs.Ytibopjfmcdcgbaa.picLifts
