/- MaskSeeds returns true: the walk. -/
import Derived.Test.YtkakjfijmekdjabMAwk
import Derived.Test.YtkakjfijmekdjabMSeedMath
import Derived.Test.YtkakjfijmekdjabMWalsh2
import Derived.Test.YtkakjfijmekdjabMSame
import Derived.Test.YtkakjfijmekdjabMLong
import Derived.Test.YtkakjfijmekdjabOpen3
namespace Go.Proofs.Ytkakjfijmekdjab.maskSeeds
open Go.RowKit
set_option linter.unusedVariables false

theorem quiet_add {P : Program} {f : FuncId} {args : Array Value} {w : World} {a n : Nat} {v : Value}
    (h : Calls P f args (w.drewN (a + n)) fun e w' => e = .returned v ∧ ∃ m, w' = (w.drewN (a + n)).drewN m) : Calls P f args (w.drewN (a + n)) fun e w'' => e = .returned v ∧ ∃ m, w'' = w.drewN (a + m) :=
  h.mono fun _ _ ⟨he, m, hm⟩ => ⟨he, n + m, by rw [hm, World.drewN_drewN, Nat.add_assoc]⟩
set_option maxRecDepth 1000000 in
set_option maxHeartbeats 1600000 in
theorem walk (m0 : Int) (b1 : Option Addr) (xs1 : List Int) (c1 : Nat) (x2 y2 z2 : Int) (w : World) (r0 : I64 m0) (h1 : Sl w b1 xs1) (l1 : xs1.length ≤ 9223372036854775807) (r1 : ∀ x ∈ xs1, I64 x) (rx2 : I64 x2) (ry2 : I64 y2) (rz2 : I64 z2) :
    Calls Try.prog 10 #[.int .i64 m0, .slice b1 xs1.length c1, .agg #[.int .i64 x2, .int .i64 y2, .int .i64 z2]] w fun e w' => e = .returned (.bool true) ∧ Below w.heap.size w w' := by
  clear r0 r1 rx2 ry2 rz2
  have H1 := Lib.hid h1; clear h1
  go_enter Try.func10, Try.ntmps10
  go_wp2_with fail
  refine (mlong1 b1 xs1.length c1 _ _ (by simp) _ l1).mono ?_
  rintro e w1 ⟨rfl, rfl⟩
  obtain ⟨hbx, hb0⟩ := one_box w #[.int .i64 x2, .int .i64 y2, .int .i64 z2] #[.slice b1 xs1.length c1] 53 26
  have HB0 := Lib.hid hb0; clear hb0
  have BX0 := Lib.hid hbx; clear hbx
  generalize (w.alloc (.cells #[.int .i64 x2, .int .i64 y2, .int .i64 z2] 53)).alloc (.cells #[.slice b1 xs1.length c1] 26) = W0 at *
  cases hL : decide (200 < xs1.length)
  case true =>
    as_aux_lemma =>
      clear hL
      go_wp2_with (go_at_call 13; refine (awake_any _).mono ?_; rintro e wa ⟨rfl, hba⟩)
      go_ret
      exact ⟨rfl, Below.next HB0.out hba (Nat.le_refl _)⟩
  case false =>
    clear hL
    obtain ⟨⟨ms, f⟩, hr⟩ : ∃ r, walshV m0 xs1 = r := ⟨_, rfl⟩
    go_wp2_with fail
    refine (mWalsh_any m0 _ xs1 _ _ l1 (H1.out.below HB0.out)).mono ?_
    rintro e w2 ⟨hb2, a2, k2, l2, rfl, s2⟩
    rw [hr] at s2 l2 ⊢
    dsimp only at s2 l2 ⊢
    have HB2 : Hid (Below w.heap.size w w2) := Below.next HB0.out hb2 (Nat.le_refl _)
    have BX2 := Lib.hid (BX0.out.next hb2)
    have S2 := Lib.hid s2; clear s2
    clear hb2
    by_cases hf : f = 0
    · as_aux_lemma =>
        subst hf
        have HW : Hid (WalshIs ms) := by
          show WalshIs ms
          unfold walshV at hr
          split at hr
          · rename_i h
            have : ms = walshM m0.toNat xs1 := (congrArg Prod.fst hr).symm
            rw [this]; exact walshM_is h
          · cases hr
        clear hr
        have hm6 := HW.out.len
        go_wp2
        go_loopw [29] (fun i wr => ∃ i' nd : Nat, i' ≤ ms.length ∧ i = .int .i64 i' ∧ wr = w2.drewN nd) (fun i _ => ms.length - (intOf i).toNat)
        case atStart => exact ⟨0, 0, Nat.zero_le _, rfl, rfl⟩
        case round =>
          obtain ⟨i, nd, hi, rfl, rfl⟩ := hrel
          by_cases hlt : i < ms.length
          · obtain ⟨b5, o5, ai, ri, ci, rfl, hci, hsi, HXI⟩ := S2.out.at hlt
            have HSI := Lib.hid hsi; clear hsi
            have hik2 : i ≤ k2 := by omega
            have HRI := Lib.hid (HW.out.row i ri HXI.out)
            go_wp2
            go_loopw [36] (fun j wr => ∃ j' nd : Nat, j' ≤ i ∧ j = .int .i64 j' ∧ wr = w2.drewN nd) (fun j _ => i - (intOf j).toNat)
            case atStart => exact ⟨0, _, Nat.zero_le _, rfl, rfl⟩
            case round =>
              obtain ⟨j, nd2, hj, rfl, rfl⟩ := hrel
              by_cases hjt : j < i
              · as_aux_lemma =>
                  obtain ⟨b6, o6, aj, rj, cj, he6, hcj, hsj, HXJ⟩ := S2.out.at (show j < ms.length by omega)
                  obtain ⟨rfl, rfl⟩ : b5 = b6 ∧ o5 = o6 := by simpa using he6
                  clear he6
                  have HSJ := Lib.hid hsj; clear hsj
                  have HRJ := Lib.hid (HW.out.row j rj HXJ.out)
                  have hjm : j < ms.length := by omega
                  have hlen : ri.length = rj.length := HW.out.same i j ri rj HXI.out HXJ.out
                  have e1 : ((ri.length : Int) != (rj.length : Int)) = false := by simp [hlen]
                  have hl1 : ri.length ≤ 10 := by have := HRI.out.1; omega
                  have hl2 : ri.length ≤ rj.length := by omega
                  have hl3 : rj.length ≤ 9223372036854775807 := by omega
                  have HPB := Lib.hid (PB_of HRI.out.2 HRJ.out.2 hl2 (by omega))
                  have hdz : dot ri rj = 0 := HW.out.dots i j ri rj hjt HXI.out HXJ.out
                  clear hlen
                  go_wp2
                  go_quiet ((go_at_call 47; exact quiet_add (rdot_any _ _ _ _ _ _ _ hl1 hl2 hl3 HPB.out (HSI.out.below (below_drewN (Below.refl _ _) _)) (HSJ.out.below (below_drewN (Below.refl _ _) _)))))
                  go_wp2
                  go_roundw
                  case rel => exact ⟨j + 1, _, by omega, by go_num, rfl⟩
                  case measure => simp [intOf]; omega
              · as_aux_lemma =>
                  go_wp2
                  go_roundw
                  case rel => exact ⟨i + 1, _, by omega, by go_num, rfl⟩
                  case measure => simp [intOf]; omega
          · have HBp : Hid (Below w.heap.size w (w2.drewN nd)) := below_drewN HB2.out _
            have BXp := Lib.hid (BX2.out.next (below_drewN (Below.refl _ _) nd))
            generalize w2.drewN nd = Wp at *
            clear S2 HB2 BX2 HW
            have cx := BXp.out.2 0 _ rfl
            have cy := BXp.out.2 1 _ rfl
            have cz := BXp.out.2 2 _ rfl
            obtain ⟨⟨sa, fa⟩, hra⟩ : ∃ r, seededV x2 y2 z2 = r := ⟨_, rfl⟩
            go_wp2_with fail
            refine (mSeeded_any x2 y2 z2 _).mono ?_
            rintro e w3 ⟨hb3, a3, k3, l3, rfl, s3⟩
            rw [hra] at s3 l3 ⊢
            dsimp only at s3 l3 ⊢
            have HB3 : Hid (Below w.heap.size w w3) := Below.next HBp.out hb3 (Nat.le_refl _)
            have BX3 := Lib.hid (BXp.out.next hb3)
            have S3 := Lib.hid s3; clear s3
            have L3 := Lib.hid l3; clear l3
            clear hb3 cx cy cz
            have cx := BX3.out.2 0 _ rfl
            have cy := BX3.out.2 1 _ rfl
            have cz := BX3.out.2 2 _ rfl
            by_cases hf : fa = 0
            · subst hf
              have hok : seedOk x2 y2 z2 = true := by
                cases hc : seedOk x2 y2 z2
                · rw [seededV_no hc] at hra; cases hra
                · rfl
              obtain ⟨a1, a2, a3', a4, a5, a6⟩ := seedOk_parts hok
              by_cases hy : y2 < 6
              · as_aux_lemma =>
                  obtain ⟨p2, hp2⟩ : ∃ n : Nat, x2 = (n : Int) := ⟨x2.toNat, by omega⟩
                  obtain ⟨q2, hq2⟩ : ∃ n : Nat, y2 = (n : Int) := ⟨y2.toNat, by omega⟩
                  obtain ⟨r2, hr2⟩ : ∃ n : Nat, z2 = (n : Int) := ⟨z2.toNat, by omega⟩
                  subst hp2 hq2 hr2
                  have hok2 : seedOk (p2 : Int) ((q2 + 1 : Nat) : Int) (r2 : Int) = true := by simp [seedOk, rangeB]; omega
                  have HSA : Hid (sa = seedM p2 q2 r2) := by
                    show sa = _
                    rw [seededV_ok hok] at hra
                    exact (congrArg Prod.fst hra).symm
                  have HSB := Lib.hid (seededV_ok hok2)
                  have hcast : ((q2 + 1 : Nat) : Int) = (q2 : Int) + 1 := by omega
                  have hq6 : q2 < 6 := by omega
                  have hz10 : r2 ≤ 10 := by omega
                  have hsal : sa.length = q2 := by rw [HSA.out, seedM_len]
                  have hsb : (seedM p2 (q2 + 1) r2).length = sa.length + 1 := by rw [seedM_len, hsal]
                  have HTK : Hid ((seedM p2 (q2 + 1) r2).take sa.length = sa) := by show _ = sa; rw [HSA.out]; exact seedM_take p2 q2 r2
                  have HMO : Hid (MOk sa) := by show MOk sa; rw [HSA.out]; exact seedM_ok (by omega) hz10
                  clear hok hok2 hra a1 a2 a3' a4 a5 a6
                  obtain ⟨sb, hsbe⟩ : ∃ sb, seedM p2 (q2 + 1) r2 = sb := ⟨_, rfl⟩
                  rw [hsbe] at HSB HTK hsb
                  rw [hcast] at HSB
                  clear hcast hsbe
                  have q7 : ((sb.length : Int) == (sa.length : Int) + 1) = true := by simp; omega
                  have hq60 : 0 ≤ (q2 : Int) := by omega
                  have hq61 : (q2 : Int) ≤ 5 := by omega
                  have hsa6 : sa.length ≤ 6 := by omega
                  have HSL := Lib.hid hsal; clear hsal
                  have HSBL := Lib.hid hsb; clear hsb
                  go_wp2_with fail
                  refine (mSeeded_any (p2 : Int) ((q2 : Int) + 1) (r2 : Int) _).mono ?_
                  rintro e w4 ⟨hb4, a4, k4, l4, rfl, s4⟩
                  rw [HSB.out] at s4 l4 ⊢
                  dsimp only at s4 l4 ⊢
                  have HB4 : Hid (Below w.heap.size w w4) := Below.next HB3.out hb4 (Nat.le_refl _)
                  have S34 := Lib.hid (S3.out.below hb4)
                  have S4T := Lib.hid (s4.take sa.length)
                  have hk4 : sa.length ≤ k4 := by have := HSBL.out; omega
                  clear s4 l4 hb4
                  rw [HTK.out] at S4T
                  go_wp2_with fail
                  refine (same_any _ sa _ _ sa _ _ HMO.out HMO.out S4T.out S34.out).mono ?_
                  rintro e w5 ⟨rfl, n5, hw5⟩
                  have hb5 := drew_below hw5; clear hw5
                  rw [show decide (sa = sa) = true by simp]
                  have HB5 : Hid (Below w.heap.size w w5) := Below.next HB4.out hb5 (Nat.le_refl _)
                  clear hb5
                  go_wp2_with (go_at_call 13; refine (awake_any _).mono ?_; rintro e wa ⟨rfl, hba⟩)
                  go_ret
                  exact ⟨rfl, Below.next HB5.out hba (Nat.le_refl _)⟩
              · as_aux_lemma =>
                  have hy' : 6 ≤ y2 := by omega
                  clear hok hra a1 a2 a3' a4 a5 a6 hy
                  go_wp2_with (go_at_call 13; refine (awake_any _).mono ?_; rintro e wa ⟨rfl, hba⟩)
                  go_ret
                  exact ⟨rfl, Below.next HB3.out hba (Nat.le_refl _)⟩
            · as_aux_lemma =>
                have e0 : (fa == 0) = false := by simpa using hf
                have e1 : (fa != 0) = true := by simpa using hf
                clear hf hra
                go_wp2_with (go_at_call 13; refine (awake_any _).mono ?_; rintro e wa ⟨rfl, hba⟩)
                go_ret
                exact ⟨rfl, Below.next HB3.out hba (Nat.le_refl _)⟩
    · as_aux_lemma =>
        have e0 : (f == 0) = false := by simpa using hf
        have e1 : (f != 0) = true := by simpa using hf
        have HBp := HB2
        have BXp := BX2
        clear S2 HB2 BX2 hf hr l2 e1
        have cx := BXp.out.2 0 _ rfl
        have cy := BXp.out.2 1 _ rfl
        have cz := BXp.out.2 2 _ rfl
        obtain ⟨⟨sa, fa⟩, hra⟩ : ∃ r, seededV x2 y2 z2 = r := ⟨_, rfl⟩
        go_wp2_with fail
        refine (mSeeded_any x2 y2 z2 _).mono ?_
        rintro e w3 ⟨hb3, a3, k3, l3, rfl, s3⟩
        rw [hra] at s3 l3 ⊢
        dsimp only at s3 l3 ⊢
        have HB3 : Hid (Below w.heap.size w w3) := Below.next HBp.out hb3 (Nat.le_refl _)
        have BX3 := Lib.hid (BXp.out.next hb3)
        have S3 := Lib.hid s3; clear s3
        have L3 := Lib.hid l3; clear l3
        clear hb3 cx cy cz
        have cx := BX3.out.2 0 _ rfl
        have cy := BX3.out.2 1 _ rfl
        have cz := BX3.out.2 2 _ rfl
        by_cases hf : fa = 0
        · subst hf
          have hok : seedOk x2 y2 z2 = true := by
            cases hc : seedOk x2 y2 z2
            · rw [seededV_no hc] at hra; cases hra
            · rfl
          obtain ⟨a1, a2, a3', a4, a5, a6⟩ := seedOk_parts hok
          by_cases hy : y2 < 6
          · as_aux_lemma =>
              obtain ⟨p2, hp2⟩ : ∃ n : Nat, x2 = (n : Int) := ⟨x2.toNat, by omega⟩
              obtain ⟨q2, hq2⟩ : ∃ n : Nat, y2 = (n : Int) := ⟨y2.toNat, by omega⟩
              obtain ⟨r2, hr2⟩ : ∃ n : Nat, z2 = (n : Int) := ⟨z2.toNat, by omega⟩
              subst hp2 hq2 hr2
              have hok2 : seedOk (p2 : Int) ((q2 + 1 : Nat) : Int) (r2 : Int) = true := by simp [seedOk, rangeB]; omega
              have HSA : Hid (sa = seedM p2 q2 r2) := by
                show sa = _
                rw [seededV_ok hok] at hra
                exact (congrArg Prod.fst hra).symm
              have HSB := Lib.hid (seededV_ok hok2)
              have hcast : ((q2 + 1 : Nat) : Int) = (q2 : Int) + 1 := by omega
              have hq6 : q2 < 6 := by omega
              have hz10 : r2 ≤ 10 := by omega
              have hsal : sa.length = q2 := by rw [HSA.out, seedM_len]
              have hsb : (seedM p2 (q2 + 1) r2).length = sa.length + 1 := by rw [seedM_len, hsal]
              have HTK : Hid ((seedM p2 (q2 + 1) r2).take sa.length = sa) := by show _ = sa; rw [HSA.out]; exact seedM_take p2 q2 r2
              have HMO : Hid (MOk sa) := by show MOk sa; rw [HSA.out]; exact seedM_ok (by omega) hz10
              clear hok hok2 hra a1 a2 a3' a4 a5 a6
              obtain ⟨sb, hsbe⟩ : ∃ sb, seedM p2 (q2 + 1) r2 = sb := ⟨_, rfl⟩
              rw [hsbe] at HSB HTK hsb
              rw [hcast] at HSB
              clear hcast hsbe
              have q7 : ((sb.length : Int) == (sa.length : Int) + 1) = true := by simp; omega
              have hq60 : 0 ≤ (q2 : Int) := by omega
              have hq61 : (q2 : Int) ≤ 5 := by omega
              have hsa6 : sa.length ≤ 6 := by omega
              have HSL := Lib.hid hsal; clear hsal
              have HSBL := Lib.hid hsb; clear hsb
              go_wp2_with fail
              refine (mSeeded_any (p2 : Int) ((q2 : Int) + 1) (r2 : Int) _).mono ?_
              rintro e w4 ⟨hb4, a4, k4, l4, rfl, s4⟩
              rw [HSB.out] at s4 l4 ⊢
              dsimp only at s4 l4 ⊢
              have HB4 : Hid (Below w.heap.size w w4) := Below.next HB3.out hb4 (Nat.le_refl _)
              have S34 := Lib.hid (S3.out.below hb4)
              have S4T := Lib.hid (s4.take sa.length)
              have hk4 : sa.length ≤ k4 := by have := HSBL.out; omega
              clear s4 l4 hb4
              rw [HTK.out] at S4T
              go_wp2_with fail
              refine (same_any _ sa _ _ sa _ _ HMO.out HMO.out S4T.out S34.out).mono ?_
              rintro e w5 ⟨rfl, n5, hw5⟩
              have hb5 := drew_below hw5; clear hw5
              rw [show decide (sa = sa) = true by simp]
              have HB5 : Hid (Below w.heap.size w w5) := Below.next HB4.out hb5 (Nat.le_refl _)
              clear hb5
              go_wp2_with (go_at_call 13; refine (awake_any _).mono ?_; rintro e wa ⟨rfl, hba⟩)
              go_ret
              exact ⟨rfl, Below.next HB5.out hba (Nat.le_refl _)⟩
          · as_aux_lemma =>
              have hy' : 6 ≤ y2 := by omega
              clear hok hra a1 a2 a3' a4 a5 a6 hy
              go_wp2_with (go_at_call 13; refine (awake_any _).mono ?_; rintro e wa ⟨rfl, hba⟩)
              go_ret
              exact ⟨rfl, Below.next HB3.out hba (Nat.le_refl _)⟩
        · as_aux_lemma =>
            have e0 : (fa == 0) = false := by simpa using hf
            have e1 : (fa != 0) = true := by simpa using hf
            clear hf hra
            go_wp2_with (go_at_call 13; refine (awake_any _).mono ?_; rintro e wa ⟨rfl, hba⟩)
            go_ret
            exact ⟨rfl, Below.next HB3.out hba (Nat.le_refl _)⟩
end Go.Proofs.Ytkakjfijmekdjab.maskSeeds
