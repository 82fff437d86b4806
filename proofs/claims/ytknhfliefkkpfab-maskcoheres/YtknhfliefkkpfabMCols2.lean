
/- Product and Likeness of layer 2 and of its answers: contracts. -/
import Derived.Test.YtknhfliefkkpfabMCols
namespace Go.Proofs.Ytknhfliefkkpfab
open Go.RowKit

theorem prod_named {m : List (List Int)} {i j : Int} {f : Int} (hf : namedV m [i, j] = f) : (f = 0 → validM m = true ∧ thereB m i = true ∧ thereB m j = true) ∧ (f ≠ 0 → prodV m i j = (0, f) ∧ likeV m i j = ((0, 0), f)) := by
  unfold namedV at hf
  unfold prodV likeV
  cases hv : validM m
  · simp [hv] at hf; subst hf; simp
  · cases hi : thereB m i
    · simp [hv, hi] at hf; subst hf; simp
    · cases hj : thereB m j
      · simp [hv, hi, hj] at hf; subst hf; simp
      · simp [hv, hi, hj] at hf; subst hf; simp
set_option maxRecDepth 100000 in
theorem divisor_any (n d : Nat) (hn : n ≤ 1000000) (hd : d ≤ 1000000) (w : World) :
    Calls Try.prog 97 #[.int .i64 n, .int .i64 d] w fun e w' => e = .returned (.int .i64 ((Nat.gcd n d : Nat) : Int)) ∧ ∃ k, w' = w.drewN k := by
  go_enter Try.func97, Try.ntmps97
  go_wp2
  go_loopw [0, 1] (fun a b wr => ∃ (x y nd : Nat), a = .int .i64 x ∧ b = .int .i64 y ∧ Nat.gcd x y = Nat.gcd n d ∧ x ≤ 1000000 ∧ y ≤ 1000000 ∧ wr = w.drewN nd) (fun _ b _ => (intOf b).toNat)
  case atStart => exact ⟨n, d, 0, rfl, rfl, rfl, hn, hd, rfl⟩
  case round =>
    obtain ⟨x, y, nd, rfl, rfl, hg, hx, hy, rfl⟩ := hrel
    have HG := Lib.hid hg; clear hg
    by_cases hy0 : y = 0
    · subst hy0
      have HX : Hid (x = Nat.gcd n d) := by show x = _; rw [← HG.out, Nat.gcd_zero_right]
      go_wp2
      go_ret
      exact ⟨ret_i64 (by rw [HX.out]), _, rfl⟩
    · have hy1 : 1 ≤ y := by omega
      have e0 : ((y : Int) == 0) = false := by simp; omega
      have e1 : ((y : Int) != 0) = true := by simp; omega
      have hm : x % y < y := Nat.mod_lt _ hy1
      have HGS : Hid (Nat.gcd y (x % y) = Nat.gcd n d) := by show _ = _; rw [gcd_step, HG.out]
      have hme : (x : Int) % (y : Int) = ((x % y : Nat) : Int) := by simp
      clear hy0
      go_wp2
      go_quiet (fail)
      go_wp2
      go_roundw
      case rel => exact ⟨y, x % y, _, rfl, by rw [hme], HGS.out, hy, by omega, World.drewN_drewN _ _ _⟩
      case measure => simp [intOf]; omega

theorem wrap_is' (n : Int) : wrap64 n = IntKind.i64.wrap n := by rw [IntKind.wrap_i64]; unfold wrap64; omega
set_option maxRecDepth 1000000 in
set_option maxHeartbeats 800000 in
theorem rLikeness_any (a : Option Addr) (m : List (List Int)) (cap : Nat) (i j : Int) (w : World) (hm : MOk m) (hs : Ms w a m) :
    Calls Try.prog 62 #[.slice a m.length cap, .int .i64 i, .int .i64 j] w (QPost (likeV m i j) w) := by
  have HM := Lib.hid hm; clear hm
  have HR0 := Lib.hid (RC.mk0 w 49)
  have HS := Lib.hid (hs.alloc (.cells #[.int .i64 0, .int .i64 0] 49)); clear hs
  have HB0 : Hid (Below w.heap.size w (w.alloc (.cells #[.int .i64 0, .int .i64 0] 49))) := (Below.refl _ _).alloc (Nat.le_refl _) _
  obtain ⟨f, hf⟩ : ∃ f, namedV m [i, j] = f := ⟨_, rfl⟩
  have HD := Lib.hid (prod_named hf)
  have HF := Lib.hid hf; clear hf
  go_enter Try.func62, Try.ntmps62
  go_wp2_with fail
  have HW0 : Hid ((w.alloc (.cells #[.int .i64 0, .int .i64 0] 49)).heap.size = w.heap.size + 1) := by show _ = _; simp
  generalize w.alloc (.cells #[.int .i64 0, .int .i64 0] 49) = W0 at *
  have HL : Hid (Sl (W0.alloc (.cells #[.int .i64 i, .int .i64 j] 3)) (some ⟨w.heap.size + 1, 0, none⟩) [i, j]) := sl_lit2 _ _ _ _ HW0.out.symm
  have HAL : Hid (Below W0.heap.size W0 (W0.alloc (.cells #[.int .i64 i, .int .i64 j] 3))) := (Below.refl _ _).alloc (Nat.le_refl _) _
  generalize W0.alloc (.cells #[.int .i64 i, .int .i64 j] 3) = W1 at *
  have HB1 : Hid (Below w.heap.size w W1) := Below.next HB0.out HAL.out (Nat.le_refl _)
  have HS1 := Lib.hid (HS.out.below HAL.out)
  have HR1 := Lib.hid (HR0.out.next HAL.out)
  clear HAL HW0 HB0 HS HR0
  refine (named_any _ m _ _ [i, j] _ _ HM.out (by simp) HS1.out HL.out).mono ?_
  rintro e w1 ⟨rfl, rfl⟩
  rw [HF.out]
  by_cases h0 : f = 0
  · as_aux_lemma =>
      subst h0
      obtain ⟨hv, hti, htj⟩ := HD.out.1 rfl
      have HV := Lib.hid hv; clear hv
      have HTI := Lib.hid hti; clear hti
      have HTJ := Lib.hid htj; clear htj
      obtain ⟨i, hin, hi⟩ := there_nat HTI.out
      obtain ⟨j, hjn, hj⟩ := there_nat HTJ.out
      subst hin hjn
      have ci := colM_all HV.out hi
      have cj := colM_all HV.out hj
      have h6 := (validM_of HV.out).2.1
      have l1 : (colM m i).length ≤ 10 := by rw [colM_length]; omega
      have l1j : (colM m j).length ≤ 10 := by rw [colM_length]; omega
      have l2 : (colM m i).length ≤ (colM m j).length := by rw [colM_length, colM_length]; exact Nat.le_refl _
      have l3 : (colM m j).length ≤ 9223372036854775807 := by omega
      obtain ⟨p, s, hp, hs, p100, s100, hL⟩ := likeC_parts ci cj (by rw [colM_length, colM_length]) l1
      have PXX := Lib.hid (PB_of ci ci (Nat.le_refl _) (by omega))
      have PYY := Lib.hid (PB_of cj cj (Nat.le_refl _) (by omega))
      have PXY := Lib.hid (PB_of ci cj l2 (by omega))
      have HLK : Hid (likeV m i j = _) := (likeV_ok HV.out HTI.out HTJ.out).trans hL
      clear hL ci cj
      obtain ⟨A, hA⟩ : ∃ A, dot (colM m i) (colM m i) = A := ⟨_, rfl⟩
      obtain ⟨B, hB⟩ : ∃ B, dot (colM m j) (colM m j) = B := ⟨_, rfl⟩
      obtain ⟨C, hC⟩ : ∃ C, dot (colM m i) (colM m j) = C := ⟨_, rfl⟩
      rw [hA, hB] at hs
      rw [hC] at hp
      have EA := Lib.hid hA; clear hA
      have EB := Lib.hid hB; clear hB
      have EC := Lib.hid hC; clear hC
      go_wp2_with fail
      refine (rcolumn_any _ m _ i _ HV.out hi HS1.out).mono ?_
      rintro e w3 ⟨hb3, a3, c3, rfl, s3⟩
      have HB3 : Hid (Below w.heap.size w w3) := Below.next HB1.out hb3 (Nat.le_refl _)
      have HR3 := Lib.hid (HR1.out.next hb3)
      have HSM3 := Lib.hid (HS1.out.below hb3)
      have HS3 := Lib.hid s3; clear s3 hb3
      go_wp2_with fail
      refine (rcolumn_any _ m _ j _ HV.out hj HSM3.out).mono ?_
      rintro e w4 ⟨hb4, a4, c4, rfl, s4⟩
      have HB4 : Hid (Below w.heap.size w w4) := Below.next HB3.out hb4 (Nat.le_refl _)
      have HR4 := Lib.hid (HR3.out.next hb4)
      have HSI4 := Lib.hid (HS3.out.below hb4)
      have HSJ4 := Lib.hid s4; clear s4 hb4
      go_wp2_with fail
      refine (rdot_any _ _ _ _ _ _ _ l1 l2 l3 PXY.out HSI4.out HSJ4.out).mono ?_
      rintro e w5 ⟨rfl, n5, hw5⟩
      rw [EC.out]
      have hb5 := drew_below hw5; clear hw5
      have HB5 : Hid (Below w.heap.size w w5) := Below.next HB4.out hb5 (Nat.le_refl _)
      have HR5 := Lib.hid (HR4.out.next hb5)
      have HSI5 := Lib.hid (HSI4.out.below hb5)
      have HSJ5 := Lib.hid (HSJ4.out.below hb5); clear hb5
      go_wp2_with fail
      refine (rdot_any _ _ _ _ _ _ _ l1 l2 l3 PXY.out HSI5.out HSJ5.out).mono ?_
      rintro e w6 ⟨rfl, n6, hw6⟩
      rw [EC.out]
      have hb6 := drew_below hw6; clear hw6
      have HB6 : Hid (Below w.heap.size w w6) := Below.next HB5.out hb6 (Nat.le_refl _)
      have HR6 := Lib.hid (HR5.out.next hb6)
      have HSI6 := Lib.hid (HSI5.out.below hb6)
      have HSJ6 := Lib.hid (HSJ5.out.below hb6); clear hb6
      go_wp2_with fail
      refine (rdot_any _ _ _ _ _ _ _ l1 (Nat.le_refl _) (by omega) PXX.out HSI6.out HSI6.out).mono ?_
      rintro e w7 ⟨rfl, n7, hw7⟩
      rw [EA.out]
      have hb7 := drew_below hw7; clear hw7
      have HB7 : Hid (Below w.heap.size w w7) := Below.next HB6.out hb7 (Nat.le_refl _)
      have HR7 := Lib.hid (HR6.out.next hb7)
      have HSJ7 := Lib.hid (HSJ6.out.below hb7); clear hb7
      go_wp2_with fail
      refine (rdot_any _ _ _ _ _ _ _ l1j (Nat.le_refl _) (by omega) PYY.out HSJ7.out HSJ7.out).mono ?_
      rintro e w8 ⟨rfl, n8, hw8⟩
      rw [EB.out]
      have hb8 := drew_below hw8; clear hw8
      have HB8 : Hid (Below w.heap.size w w8) := Below.next HB7.out hb8 (Nat.le_refl _)
      have HR8 := Lib.hid (HR7.out.next hb8); clear hb8
      by_cases hs0 : s = 0
      · as_aux_lemma =>
          subst hs0
          obtain ⟨c0, c1, f0, f1, lt⟩ := HR8.out
          go_wp2
          (try simp only [Exit.inBlock, Exit.then])
          refine bodyPost_ret (v := .tuple #[.agg #[.int .i64 0, .int .i64 0], .int .i64 8]) (by rw [results_cell_tmp rfl]; go_simp) rfl ⟨?_, by rw [HLK.out]; rfl⟩
          exact set2_below HB8.out (Nat.le_refl _) _ _
      · as_aux_lemma =>
          have e0 : ((s : Int) == 0) = false := by simp; omega
          have HS0 : Hid (s ≠ 0) := Lib.hid hs0
          have hs1 : 1 ≤ s := by omega
          clear hs0
          go_wp2_with fail
          refine (divisor_any p s (by omega) (by omega) _).mono ?_
          rintro e w9 ⟨rfl, n9, hw9⟩
          have hb9 := drew_below hw9; clear hw9
          have HB9 : Hid (Below w.heap.size w w9) := Below.next HB8.out hb9 (Nat.le_refl _)
          have HR9 := Lib.hid (HR8.out.next hb9); clear hb9
          have hg1 : 1 ≤ Nat.gcd p s := Nat.gcd_pos_of_pos_right _ hs1
          have hg2 : Nat.gcd p s ≤ s := Nat.gcd_le_right _ hs1
          obtain ⟨g, hg⟩ : ∃ g, Nat.gcd p s = g := ⟨_, rfl⟩
          rw [hg] at hg1 hg2
          have HG := Lib.hid hg
          rw [hg]
          clear hg
          obtain ⟨c0, c1, f0, f1, lt⟩ := HR9.out
          have hgz : ¬ g = 0 := by omega
          have hq1 : IntKind.i64.wrap ((p : Int) / (g : Int)) = (p : Int) / (g : Int) := (wrap_is' _).symm.trans (quo_in p g (by omega))
          have hq2 : IntKind.i64.wrap ((s : Int) / (g : Int)) = (s : Int) / (g : Int) := (wrap_is' _).symm.trans (quo_in s g (by omega))
          go_wp2
          go_still_tail 7, (by kernel_rfl)
          change wpList _ _ _ _ _ w9.drew
          clear hgz hq1 hq2
          go_wp2
          (try simp only [Exit.inBlock, Exit.then])
          refine bodyPost_ret (v := .tuple #[.agg #[.int .i64 ((p / g : Nat) : Int), .int .i64 ((s / g : Nat) : Int)], .int .i64 0]) (by rw [results_cell_tmp rfl]; go_simp) rfl ⟨?_, by rw [HLK.out, if_neg HS0.out, HG.out]⟩
          exact set2_below (Below.drew HB9.out) (Nat.le_refl _) _ _
  · as_aux_lemma =>
      have e0 : (f == 0) = false := by simpa using h0
      have e1 : (f != 0) = true := by simpa using h0
      have H0 := Lib.hid h0; clear h0
      obtain ⟨c0, c1, f0, f1, lt⟩ := HR1.out
      go_wp2
      (try simp only [Exit.inBlock, Exit.then])
      refine bodyPost_ret (v := .tuple #[.agg #[.int .i64 0, .int .i64 0], .int .i64 f]) (by rw [results_cell_tmp rfl]; go_simp) rfl ⟨?_, by rw [(HD.out.2 H0.out).2]⟩
      exact set2_below HB1.out (Nat.le_refl _) _ _
end Go.Proofs.Ytknhfliefkkpfab
