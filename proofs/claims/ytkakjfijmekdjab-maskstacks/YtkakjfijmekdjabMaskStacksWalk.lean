/- MaskStacks returns true: the walk. -/
import Derived.Test.YtkakjfijmekdjabMAwk
import Derived.Test.YtkakjfijmekdjabMStackMath
import Derived.Test.YtkakjfijmekdjabMSame
import Derived.Test.YtkakjfijmekdjabMLong
import Derived.Test.YtkakjfijmekdjabOpenM
namespace Go.Proofs.Ytkakjfijmekdjab.maskStacks
open Go.RowKit
set_option linter.unusedVariables false

set_option maxRecDepth 1000000 in
set_option maxHeartbeats 1600000 in
theorem walk (b0 : Option Addr) (m0 : List (List Int)) (c0 : Nat) (b1 : Option Addr) (m1 : List (List Int)) (c1 : Nat) (m2 : Int) (b3 : Option Addr) (xs3 : List Int) (c3 : Nat) (w : World) (h0 : Ms w b0 m0) (r0 : MOk m0) (g0 : m0.length ≤ c0) (gg0 : c0 ≤ 9223372036854775807) (h1 : Ms w b1 m1) (r1 : MOk m1) (r2 : I64 m2) (h3 : Sl w b3 xs3) (l3 : xs3.length ≤ 9223372036854775807) (r3 : ∀ x ∈ xs3, I64 x) :
    Calls Try.prog 6 #[.slice b0 m0.length c0, .slice b1 m1.length c1, .int .i64 m2, .slice b3 xs3.length c3] w fun e w' => e = .returned (.bool true) ∧ Below w.heap.size w w' := by
  clear r2 r3
  have H0 := Lib.hid h0; clear h0
  have H1 := Lib.hid h1; clear h1
  have H3 := Lib.hid h3; clear h3
  have R0 := Lib.hid r0; clear r0
  have R1 := Lib.hid r1; clear r1
  have GG := Lib.hid (And.intro g0 gg0); clear g0 gg0
  go_enter Try.func6, Try.ntmps6
  go_wp2_with fail
  refine (small2 _ _ _ _ _ _ _ _ rfl _ H0.out R0.out H1.out R1.out).mono ?_
  rintro e w1 ⟨bb, rfl, rfl⟩
  have HB0 : Hid (Below w.heap.size w (w.alloc (.cells #[.slice b0 m0.length c0, .slice b1 m1.length c1] 23))) := (Below.refl _ _).alloc (Nat.le_refl _) _
  generalize w.alloc (.cells #[.slice b0 m0.length c0, .slice b1 m1.length c1] 23) = W0 at *
  cases bb
  · as_aux_lemma =>
      go_wp2_with (go_at_call 13; refine (awake_any _).mono ?_; rintro e wa ⟨rfl, hba⟩)
      go_ret
      exact ⟨rfl, Below.next HB0.out hba (Nat.le_refl _)⟩
  · cases hL : decide (200 < xs3.length)
    case true =>
      as_aux_lemma =>
        have HL := Lib.hid hL; clear hL
        go_wp2_with fail
        refine (mlong1 b3 xs3.length c3 _ _ rfl _ l3).mono ?_
        rintro e w1 ⟨rfl, rfl⟩
        rw [HL.out]
        have HB1 : Hid (Below w.heap.size w (W0.alloc (.cells #[.slice b3 xs3.length c3] 26))) := Below.next HB0.out ((Below.refl _ _).alloc (Nat.le_refl _) _) (Nat.le_refl _)
        generalize W0.alloc (.cells #[.slice b3 xs3.length c3] 26) = W1 at *
        go_wp2_with (go_at_call 13; refine (awake_any _).mono ?_; rintro e wa ⟨rfl, hba⟩)
        go_ret
        exact ⟨rfl, Below.next HB1.out hba (Nat.le_refl _)⟩
    case false =>
      have HL := Lib.hid hL; clear hL
      go_wp2_with fail
      refine (mlong1 b3 xs3.length c3 _ _ rfl _ l3).mono ?_
      rintro e w1 ⟨rfl, rfl⟩
      rw [HL.out]
      have HB1 : Hid (Below w.heap.size w (W0.alloc (.cells #[.slice b3 xs3.length c3] 26))) := Below.next HB0.out ((Below.refl _ _).alloc (Nat.le_refl _) _) (Nat.le_refl _)
      generalize W0.alloc (.cells #[.slice b3 xs3.length c3] 26) = W1 at *
      clear HL HB0
      have HM1 := Lib.hid (stackedV_mok R0.out R1.out)
      have HM2 := Lib.hid (withoutV_mok m2 R0.out)
      obtain ⟨⟨p1, f1⟩, hr1⟩ : ∃ r, stackedV m0 m1 = r := ⟨_, rfl⟩
      obtain ⟨⟨p2, f2⟩, hr2⟩ : ∃ r, withoutV m0 m2 = r := ⟨_, rfl⟩
      rw [hr1] at HM1
      rw [hr2] at HM2
      have HR1 := Lib.hid hr1; clear hr1
      have HR2 := Lib.hid hr2; clear hr2
      go_wp2_with fail
      refine (mStacked_any _ m0 _ _ m1 _ _ R0.out R1.out (H0.out.below HB1.out) (H1.out.below HB1.out)).mono ?_
      rintro e w2 ⟨hb2, aA1, kA1, _, rfl, sA1⟩
      rw [HR1.out] at sA1 ⊢
      dsimp only at sA1 ⊢
      have HB2 : Hid (Below w.heap.size w w2) := Below.next HB1.out hb2 (Nat.le_refl _)
      have SA1 := Lib.hid sA1; clear sA1 hb2
      go_wp2_with fail
      refine (rStacked_any _ m0 _ _ m1 _ _ R0.out R1.out (H0.out.below HB2.out) (H1.out.below HB2.out)).mono ?_
      rintro e w3 ⟨hb3, aB1, kB1, _, rfl, sB1⟩
      rw [HR1.out] at sB1 ⊢
      dsimp only at sB1 ⊢
      have HB3 : Hid (Below w.heap.size w w3) := Below.next HB2.out hb3 (Nat.le_refl _)
      have SA1n := Lib.hid (SA1.out.below hb3); clear SA1
      have SA1 := SA1n; clear SA1n
      have SB1 := Lib.hid sB1; clear sB1 hb3
      go_wp2_with fail
      refine (mWithout_any _ m0 _ m2 _ R0.out (H0.out.below HB3.out)).mono ?_
      rintro e w4 ⟨hb4, aA2, kA2, _, rfl, sA2⟩
      rw [HR2.out] at sA2 ⊢
      dsimp only at sA2 ⊢
      have HB4 : Hid (Below w.heap.size w w4) := Below.next HB3.out hb4 (Nat.le_refl _)
      have SA1n := Lib.hid (SA1.out.below hb4); clear SA1
      have SA1 := SA1n; clear SA1n
      have SB1n := Lib.hid (SB1.out.below hb4); clear SB1
      have SB1 := SB1n; clear SB1n
      have SA2 := Lib.hid sA2; clear sA2 hb4
      go_wp2_with fail
      refine (rWithout_any _ m0 _ m2 _ R0.out GG.out.1 GG.out.2 (H0.out.below HB4.out)).mono ?_
      rintro e w5 ⟨hb5, aB2, kB2, _, rfl, sB2⟩
      rw [HR2.out] at sB2 ⊢
      dsimp only at sB2 ⊢
      have HB5 : Hid (Below w.heap.size w w5) := Below.next HB4.out hb5 (Nat.le_refl _)
      have SA1n := Lib.hid (SA1.out.below hb5); clear SA1
      have SA1 := SA1n; clear SA1n
      have SB1n := Lib.hid (SB1.out.below hb5); clear SB1
      have SB1 := SB1n; clear SB1n
      have SA2n := Lib.hid (SA2.out.below hb5); clear SA2
      have SA2 := SA2n; clear SA2n
      have SB2 := Lib.hid sB2; clear sB2 hb5
      go_wp2_with fail
      refine (same_any _ p1 _ _ p1 _ _ HM1.out HM1.out SA1.out SB1.out).mono ?_
      rintro e w6 ⟨rfl, n6, hw6⟩
      have hb6 := drew_below hw6; clear hw6
      rw [show decide (p1 = p1) = true by simp]
      have HB6 : Hid (Below w.heap.size w w6) := Below.next HB5.out hb6 (Nat.le_refl _)
      have q1 : (f1 != f1) = false := by simp
      have SA1n := Lib.hid (SA1.out.below hb6); clear SA1
      have SA1 := SA1n; clear SA1n
      have SB1n := Lib.hid (SB1.out.below hb6); clear SB1
      have SB1 := SB1n; clear SB1n
      have SA2n := Lib.hid (SA2.out.below hb6); clear SA2
      have SA2 := SA2n; clear SA2n
      have SB2n := Lib.hid (SB2.out.below hb6); clear SB2
      have SB2 := SB2n; clear SB2n
      clear hb6
      go_wp2_with fail
      refine (same_any _ p2 _ _ p2 _ _ HM2.out HM2.out SA2.out SB2.out).mono ?_
      rintro e w7 ⟨rfl, n7, hw7⟩
      have hb7 := drew_below hw7; clear hw7
      rw [show decide (p2 = p2) = true by simp]
      have HB7 : Hid (Below w.heap.size w w7) := Below.next HB6.out hb7 (Nat.le_refl _)
      have q2 : (f2 != f2) = false := by simp
      have SA1n := Lib.hid (SA1.out.below hb7); clear SA1
      have SA1 := SA1n; clear SA1n
      have SB1n := Lib.hid (SB1.out.below hb7); clear SB1
      have SB1 := SB1n; clear SB1n
      have SA2n := Lib.hid (SA2.out.below hb7); clear SA2
      have SA2 := SA2n; clear SA2n
      have SB2n := Lib.hid (SB2.out.below hb7); clear SB2
      have SB2 := SB2n; clear SB2n
      clear hb7
      clear SB1 SA2 SB2 HM2
      by_cases hf : f1 = 0
      · subst hf
        obtain ⟨v0, v1, hc, h6, hp⟩ := stackedV_yes HR1.out
        have HPE := Lib.hid hp; clear hp
        have HV0 := Lib.hid v0; clear v0
        have HV1 := Lib.hid v1; clear v1
        obtain ⟨vp, cp⟩ := stack_valid HV0.out HV1.out hc h6
        rw [← HPE.out] at vp cp
        have HVP := Lib.hid vp; clear vp
        have HCP := Lib.hid cp; clear cp
        have HC := Lib.hid hc; clear hc
        have H6 := Lib.hid h6; clear h6
        go_wp2_with fail
        refine (rshown_any _ _ _ _ _ _ _ R0.out l3 (H0.out.below HB7.out) (H3.out.below HB7.out)).mono ?_
        rintro e w8 ⟨rfl, rfl⟩
        cases hsh : shownM m0 xs3
        · as_aux_lemma =>
            clear hsh
            go_wp2_with (go_at_call 13; refine (awake_any _).mono ?_; rintro e wa ⟨rfl, hba⟩)
            go_ret
            exact ⟨rfl, Below.next HB7.out hba (Nat.le_refl _)⟩
        · obtain ⟨_, hxl, hxa, hxf⟩ := shownM_of hsh
          clear hsh
          have HF0 := Lib.hid hxf
          have HF1 : Hid (fitsV xs3 (colsM m1) 1000000 = 0) := by show _ = _; rw [← HC.out]; exact hxf
          have HFP : Hid (fitsV xs3 (colsM p1) 1000000 = 0) := by show _ = _; rw [HCP.out]; exact hxf
          clear hxf hxl hxa
          obtain ⟨u, hu⟩ : ∃ u, readL p1 xs3 = u := ⟨_, rfl⟩
          obtain ⟨v, hv⟩ : ∃ u, readL m0 xs3 = u := ⟨_, rfl⟩
          obtain ⟨x, hx⟩ : ∃ u, readL m1 xs3 = u := ⟨_, rfl⟩
          have HU : Hid (u = v ++ x) := by show _ = _; rw [← hu, ← hv, ← hx, HPE.out]; exact read_append _ _ _
          have hvl : Hid (v.length = m0.length) := by show _ = _; rw [← hv, readL_length]
          have hxl : Hid (x.length = m1.length) := by show _ = _; rw [← hx, readL_length]
          have HUE := Lib.hid hu; clear hu
          have HVE := Lib.hid hv; clear hv
          have HXE := Lib.hid hx; clear hx
          go_wp2_with fail
          refine (mread_any _ p1 _ _ xs3 _ _ HM1.out l3 SA1.out (H3.out.below HB7.out)).mono ?_
          rintro e w8 ⟨hb8, au, ku, rfl, su⟩
          rw [readV_ok HVP.out HFP.out, HUE.out] at su ⊢
          dsimp only at su ⊢
          have HB8 : Hid (Below w.heap.size w w8) := Below.next HB7.out hb8 (Nat.le_refl _)
          have SU := Lib.hid su; clear su hb8 SA1
          go_wp2_with fail
          refine (mread_any _ m0 _ _ xs3 _ _ R0.out l3 (H0.out.below HB8.out) (H3.out.below HB8.out)).mono ?_
          rintro e w9 ⟨hb9, av, kv, rfl, sv⟩
          rw [readV_ok HV0.out HF0.out, HVE.out] at sv ⊢
          dsimp only at sv ⊢
          have HB9 : Hid (Below w.heap.size w w9) := Below.next HB8.out hb9 (Nat.le_refl _)
          have SU2 := Lib.hid (SU.out.below hb9)
          have SV := Lib.hid sv; clear sv hb9
          go_wp2_with fail
          refine (mread_any _ m1 _ _ xs3 _ _ R1.out l3 (H1.out.below HB9.out) (H3.out.below HB9.out)).mono ?_
          rintro e w10 ⟨hb10, ax, kx, rfl, sx⟩
          rw [readV_ok HV1.out HF1.out, HXE.out] at sx ⊢
          dsimp only at sx ⊢
          have HB10 : Hid (Below w.heap.size w w10) := Below.next HB9.out hb10 (Nat.le_refl _)
          have SU3 := Lib.hid (SU2.out.below hb10)
          have SV3 := Lib.hid (SV.out.below hb10)
          have SX := Lib.hid sx; clear sx hb10
          obtain ⟨h10, h16, _, _, _⟩ := validM_of HV0.out
          obtain ⟨h11, h161, _, _, _⟩ := validM_of HV1.out
          have hv1 : 1 ≤ v.length ∧ v.length ≤ 6 := by have := hvl.out; omega
          have hx1 : 1 ≤ x.length ∧ x.length ≤ 6 := by have := hxl.out; omega
          obtain ⟨bv, ov, _, rfl, _, _⟩ := SV3.out.at (show 0 < v.length by omega)
          obtain ⟨bx, ox, _, rfl, _, _⟩ := SX.out.at (show 0 < x.length by omega)
          have HLV := Lib.hid hv1
          have HLX := Lib.hid hx1
          have hul : u.length ≤ 140737488351232 := by rw [HU.out, List.length_append]; omega
          clear hv1 hx1 h10 h16 h11 h161
          have HOE := Lib.hid (own_empty' w10 w10.heap.size (Nat.le_refl _))
          have HBE : Hid (Below w10.heap.size w10 (w10.alloc (.cells #[] 3))) := (Below.refl _ _).alloc (Nat.le_refl _) _
          have hl1 : ([] : List Int).length + v.length ≤ 100000 := by have := HLV.out; simp; omega
          have hl2 : ([] ++ v).length + x.length ≤ 100000 := by have := HLV.out; have := HLX.out; simp; omega
          go_wp2_with (first
            | (at_builtin; refine wpList_pushLw rfl (.tmp 117) (.tmp 118) rfl w10.heap.size _ [] bv ov v kv _ rfl rfl HOE.out (SV3.out.below HBE.out) hl1 HBE.out.size ?_; intro v1 y1 ho1 hb1; have HO1 := Lib.hid ho1; have HBY1 := Lib.hid (HBE.out.trans hb1); clear ho1 hb1)
            | (at_builtin; refine wpList_pushLw rfl (.tmp 119) (.tmp 120) rfl w10.heap.size _ ([] ++ v) bx ox x kx _ rfl rfl HO1.out (SX.out.below HBY1.out) hl2 HBY1.out.size ?_; intro v2 y2 ho2 hb2; rw [List.nil_append, ← HU.out] at ho2; have HO2 := Lib.hid ho2; have HBY2 := Lib.hid (HBY1.out.trans hb2); clear ho2 hb2; obtain ⟨a2, k2, rfl, s2⟩ := HO2.out.any; have S2 := Lib.hid s2; clear s2)
            | (go_at_call 20; refine (sameInts_any _ u _ _ u _ _ hul hul (SU3.out.below HBY2.out) S2.out).mono ?_; rintro e y3 ⟨rfl, n3, hw3⟩; have HBY3 := Lib.hid (drew_below hw3); clear hw3; rw [show decide (u = u) = true by simp])
            | (go_at_call 13; refine (awake_any _).mono ?_; rintro e wa ⟨rfl, hba⟩))
          go_ret
          exact ⟨rfl, Below.next (Below.next (Below.next HB10.out HBY2.out (Nat.le_refl _)) HBY3.out (Nat.le_refl _)) hba (Nat.le_refl _)⟩
      · as_aux_lemma =>
          have e0 : (f1 == 0) = false := by simpa using hf
          have e1 : (f1 != 0) = true := by simpa using hf
          clear hf
          go_wp2_with (go_at_call 13; refine (awake_any _).mono ?_; rintro e wa ⟨rfl, hba⟩)
          go_ret
          exact ⟨rfl, Below.next HB7.out hba (Nat.le_refl _)⟩
end Go.Proofs.Ytkakjfijmekdjab.maskStacks
