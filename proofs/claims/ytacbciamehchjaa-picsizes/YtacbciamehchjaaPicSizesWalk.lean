
/- PicSizes returns true: the walk. -/
import Derived.Test.YtacbciamehchjaaOpen
import Derived.Test.YtacbciamehchjaaLargest
import Derived.Test.YtacbciamehchjaaSupport
import Derived.Test.YtacbciamehchjaaRSteps
import Derived.Test.YtacbciamehchjaaLong
import Derived.Test.YtacbciamehchjaaAwk
import Derived.Test.YtacbciamehchjaaSame
namespace Go.Proofs.Ytacbciamehchjaa.picSizes
open Go.RowKit
set_option linter.unusedVariables false

set_option maxRecDepth 100000 in
set_option maxHeartbeats 1600000 in
theorem walk (b0 : Option Addr) (xs0 : List Int) (c0 : Nat) (m1 : Int) (wd2 hg2 : Int) (b2 : Option Addr) (xs2 : List Int) (c2 : Nat) (w : World) (h0 : Sl w b0 xs0) (l0 : xs0.length ≤ 9223372036854775807) (r0 : ∀ x ∈ xs0, I64 x) (r1 : I64 m1) (rw2 : I64 wd2) (rh2 : I64 hg2) (h2 : Sl w b2 xs2) (l2 : xs2.length ≤ 9223372036854775807) (r2 : ∀ x ∈ xs2, I64 x) :
    Calls Try.prog 3 #[.slice b0 xs0.length c0, .int .i64 m1, .agg #[.int .i64 wd2, .int .i64 hg2, .slice b2 xs2.length c2]] w fun e w' => e = .returned (.bool true) ∧ Below w.heap.size w w' := by
  have H0 := Lib.hid h0; clear h0
  have H2 := Lib.hid h2; clear h2
  clear r0 r2 r1 rw2 rh2
  have HB0 : Hid (Below w.heap.size w ((w.alloc (.cells #[.int .i64 wd2, .int .i64 hg2, .slice b2 xs2.length c2] 24)).alloc (.cells #[.slice b2 xs2.length c2, .slice b0 xs0.length c0] 22))) := ((Below.refl _ _).alloc (Nat.le_refl _) _).alloc (by rw [World.size_alloc]; omega) _
  have HP0 : Hid (PBox w.heap.size wd2 hg2 (.slice b2 xs2.length c2) ((w.alloc (.cells #[.int .i64 wd2, .int .i64 hg2, .slice b2 xs2.length c2] 24)).alloc (.cells #[.slice b2 xs2.length c2, .slice b0 xs0.length c0] 22))) := (PBox.made _ _ _ _ _ rfl).later ((Below.refl (w.alloc (.cells #[.int .i64 wd2, .int .i64 hg2, .slice b2 xs2.length c2] 24)).heap.size _).alloc (Nat.le_refl _) _) (by rw [World.size_alloc]; omega)
  have hO0 : w.heap.size < ((w.alloc (.cells #[.int .i64 wd2, .int .i64 hg2, .slice b2 xs2.length c2] 24)).alloc (.cells #[.slice b2 xs2.length c2, .slice b0 xs0.length c0] 22)).heap.size := by rw [World.size_alloc, World.size_alloc]; omega
  cases hL : (decide (600 < xs2.length) || decide (600 < xs0.length))
  case true =>
    have HL := Lib.hid hL; clear hL
    go_enter Try.func3, Try.ntmps3
    go_wp2_with fail
    refine (long2 b2 xs2.length c2 b0 xs0.length c0 _ _ (by simp) _ l2 l0).mono ?_
    rintro e w1 ⟨rfl, rfl⟩
    rw [HL.out]
    go_wp2_with (go_at_call 7; refine (awake_any _).mono ?_; rintro e w1 ⟨rfl, hb⟩)
    go_ret
    exact ⟨rfl, HB0.out.trans (hb.mono HB0.out.size)⟩
  case false =>
    have hs : xs2.length ≤ 600 ∧ xs0.length ≤ 600 := by simp at hL; omega
    obtain ⟨hs2, hs0⟩ := hs
    have HL := Lib.hid hL; clear hL
    go_enter Try.func3, Try.ntmps3
    go_wp2_with fail
    refine (long2 b2 xs2.length c2 b0 xs0.length c0 _ _ (by simp) _ l2 l0).mono ?_
    rintro e w1 ⟨rfl, rfl⟩
    rw [HL.out]
    generalize ((w.alloc (.cells #[.int .i64 wd2, .int .i64 hg2, .slice b2 xs2.length c2] 24)).alloc (.cells #[.slice b2 xs2.length c2, .slice b0 xs0.length c0] 22)) = w0 at *
    obtain ⟨⟨sz, se⟩, hsz⟩ : ∃ s, szV xs0 = s := ⟨_, rfl⟩
    have HSZ := Lib.hid hsz; clear hsz
    obtain ⟨⟨sp, sq⟩, hsp⟩ : ∃ s, supV xs0 = s := ⟨_, rfl⟩
    have hspl : sp.length ≤ 600 := by
      have : (supV xs0).1.length ≤ 600 := by
        unfold supV; split
        · have := supTo_len xs0 xs0.length; show (supTo xs0 xs0.length).length ≤ 600; omega
        · simp
      rw [hsp] at this; exact this
    have HSP := Lib.hid hsp; clear hsp
    obtain ⟨⟨lp, lq⟩, hlp⟩ : ∃ s, largestV xs0 m1 = s := ⟨_, rfl⟩
    have hlpl : lp.length ≤ 600 := by
      have : (largestV xs0 m1).1.length ≤ 600 := by
        unfold largestV; split
        · split
          · have := topTo_len xs0 m1 xs0.length; show (topTo xs0 m1 xs0.length).length ≤ 600; omega
          · simp
        · simp
      rw [hlp] at this; exact this
    have HLR : Hid (largestR xs0 m1 = (lp, lq)) := hlp
    have HLP := Lib.hid hlp; clear hlp
    obtain ⟨⟨st, sr⟩, hst⟩ : ∃ s, stepsR wd2 hg2 xs2 = s := ⟨_, rfl⟩
    have HST := Lib.hid hst; clear hst
    have u1 : (sz == sz) = true := by simp
    have u2 : (sz != sz) = false := by simp
    have u3 : (se == se) = true := by simp
    have u4 : (se != se) = false := by simp
    have u5 : (sq == sq) = true := by simp
    have u6 : (sq != sq) = false := by simp
    have u7 : (lq == lq) = true := by simp
    have u9 : (st == st) = true := by simp
    have u11 : (sr == sr) = true := by simp
    go_wp2_with fail
    refine (size_any b0 xs0 c0 w0 (by omega) (H0.out.below HB0.out)).mono ?_
    rintro e w1 ⟨rfl, hb⟩
    rw [HSZ.out]
    dsimp only
    have HB1 : Hid (Below w.heap.size w w1) := HB0.out.trans (hb.mono HB0.out.size)
    have HP1 := Lib.hid (HP0.out.later hb hO0)
    have hO1 : w.heap.size < w1.heap.size := Nat.lt_of_lt_of_le hO0 hb.size
    clear hb HB0 HP0 hO0 
    go_wp2_with fail
    refine (rsize_any b0 xs0 c0 w1 (by omega) (H0.out.below HB1.out)).mono ?_
    rintro e wz ⟨rfl, rfl⟩
    rw [HSZ.out]
    dsimp only
    go_wp2_with fail
    refine (support_any b0 xs0 c0 w1 (by omega) (H0.out.below HB1.out)).mono ?_
    rintro e w2 ⟨hb, a1, k1, rfl, s1⟩
    rw [HSP.out] at s1 ⊢
    dsimp only at s1 ⊢
    have SA2 := Lib.hid s1; clear s1
    have HB2 : Hid (Below w.heap.size w w2) := HB1.out.trans (hb.mono HB1.out.size)
    have HP2 := Lib.hid (HP1.out.later hb hO1)
    have hO2 : w.heap.size < w2.heap.size := Nat.lt_of_lt_of_le hO1 hb.size
    clear hb HB1 HP1 hO1 
    go_wp2_with fail
    refine (rsupport_any b0 xs0 c0 w2 (by omega) (H0.out.below HB2.out)).mono ?_
    rintro e w3 ⟨hb, a2, k2, rfl, s1⟩
    rw [HSP.out] at s1 ⊢
    dsimp only at s1 ⊢
    have SB3 := Lib.hid s1; clear s1
    have HB3 : Hid (Below w.heap.size w w3) := HB2.out.trans (hb.mono HB2.out.size)
    have HP3 := Lib.hid (HP2.out.later hb hO2)
    have hO3 : w.heap.size < w3.heap.size := Nat.lt_of_lt_of_le hO2 hb.size
    have SA3 := Lib.hid (SA2.out.below hb)
    clear hb HB2 HP2 hO2 SA2
    go_wp2_with fail
    refine (sameInts_any a1 sp k1 a2 sp k2 w3 (by omega) (by omega) SA3.out SB3.out).mono ?_
    rintro e w4 ⟨rfl, nd, hw⟩
    have hb : Below w3.heap.size w3 w4 := by rw [hw]; exact below_drewN (Below.refl _ _) _
    rw [show decide (sp = sp) = true by simp]
    clear hw SA3 SB3
    have HB4 : Hid (Below w.heap.size w w4) := HB3.out.trans (hb.mono HB3.out.size)
    have HP4 := Lib.hid (HP3.out.later hb hO3)
    have hO4 : w.heap.size < w4.heap.size := Nat.lt_of_lt_of_le hO3 hb.size
    clear hb HB3 HP3 hO3 
    go_wp2_with fail
    refine (largest_any b0 xs0 c0 m1 w4 (by omega) (H0.out.below HB4.out)).mono ?_
    rintro e w5 ⟨hb, a3, k3, rfl, s1⟩
    rw [HLP.out] at s1 ⊢
    dsimp only at s1 ⊢
    have SA5 := Lib.hid s1; clear s1
    have HB5 : Hid (Below w.heap.size w w5) := HB4.out.trans (hb.mono HB4.out.size)
    have HP5 := Lib.hid (HP4.out.later hb hO4)
    have hO5 : w.heap.size < w5.heap.size := Nat.lt_of_lt_of_le hO4 hb.size
    clear hb HB4 HP4 hO4 
    go_wp2_with fail
    refine (rlargest_any b0 xs0 c0 m1 w5 (by omega) (H0.out.below HB5.out)).mono ?_
    rintro e w6 ⟨hb, a4, k4, rfl, s1⟩
    rw [HLR.out] at s1 ⊢
    dsimp only at s1 ⊢
    have SB6 := Lib.hid s1; clear s1
    have HB6 : Hid (Below w.heap.size w w6) := HB5.out.trans (hb.mono HB5.out.size)
    have HP6 := Lib.hid (HP5.out.later hb hO5)
    have hO6 : w.heap.size < w6.heap.size := Nat.lt_of_lt_of_le hO5 hb.size
    have SA6 := Lib.hid (SA5.out.below hb)
    clear hb HB5 HP5 hO5 SA5
    obtain ⟨p0, p1, p2, _, _, _⟩ := HP6.out
    go_wp2_with fail
    refine (steps_any wd2 hg2 b2 xs2 c2 w6 (by omega) (H2.out.below HB6.out)).mono ?_
    rintro e w7 ⟨rfl, hb⟩
    rw [HST.out]
    dsimp only
    clear p0 p1 p2
    have HB7 : Hid (Below w.heap.size w w7) := HB6.out.trans (hb.mono HB6.out.size)
    have HP7 := Lib.hid (HP6.out.later hb hO6)
    have hO7 : w.heap.size < w7.heap.size := Nat.lt_of_lt_of_le hO6 hb.size
    have SA7 := Lib.hid (SA6.out.below hb)
    have SB7 := Lib.hid (SB6.out.below hb)
    clear hb HB6 HP6 hO6 SA6 SB6
    obtain ⟨p0, p1, p2, _, _, _⟩ := HP7.out
    go_wp2_with fail
    refine (rsteps_any wd2 hg2 b2 xs2 c2 w7 (by omega) (H2.out.below HB7.out)).mono ?_
    rintro e w8 ⟨rfl, hb⟩
    rw [HST.out]
    dsimp only
    clear p0 p1 p2
    have HB8 : Hid (Below w.heap.size w w8) := HB7.out.trans (hb.mono HB7.out.size)
    have HP8 := Lib.hid (HP7.out.later hb hO7)
    have hO8 : w.heap.size < w8.heap.size := Nat.lt_of_lt_of_le hO7 hb.size
    have SA8 := Lib.hid (SA7.out.below hb)
    have SB8 := Lib.hid (SB7.out.below hb)
    clear hb HB7 HP7 hO7 SA7 SB7
    go_wp2_with fail
    refine (sameInts_any a3 lp k3 a4 lp k4 w8 (by omega) (by omega) SA8.out SB8.out).mono ?_
    rintro e w9 ⟨rfl, nd2, hw⟩
    have hb : Below w8.heap.size w8 w9 := by rw [hw]; exact below_drewN (Below.refl _ _) _
    rw [show decide (lp = lp) = true by simp]
    clear hw SA8 SB8
    have HB9 : Hid (Below w.heap.size w w9) := HB8.out.trans (hb.mono HB8.out.size)
    have HP9 := Lib.hid (HP8.out.later hb hO8)
    have hO9 : w.heap.size < w9.heap.size := Nat.lt_of_lt_of_le hO8 hb.size
    clear hb HB8 HP8 hO8 
    go_wp2_with (go_at_call 7; refine (awake_any _).mono ?_; rintro e wa ⟨rfl, hba⟩)
    go_ret
    exact ⟨rfl, HB9.out.trans (hba.mono HB9.out.size)⟩
end Go.Proofs.Ytacbciamehchjaa.picSizes
