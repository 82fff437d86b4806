
/- Steps of layer 1's answers: a contract. -/
import Derived.Test.YtacbciamehchjaaSteps
import Derived.Test.YtacbciamehchjaaVal
namespace Go.Proofs.Ytacbciamehchjaa
open Go.RowKit

theorem rStep_in {W H : Nat} {xs : List Int} (hall : allB 1000000 xs = true) (hWH : xs.length = W * H) (i : Nat) (hi : i < xs.length) : 0 ≤ rStep W xs i ∧ rStep W xs i ≤ 4000000 := by
  have h0 := gt_in hall (k := i) (by omega)
  unfold rStep
  have e1 : 0 ≤ (if i % W = 0 then 0 else av (gt xs i - gt xs (i - 1))) ∧ (if i % W = 0 then 0 else av (gt xs i - gt xs (i - 1))) ≤ 2000000 := by
    split
    · omega
    · have h1 := gt_in hall (k := i - 1) (by omega)
      exact av_in (by omega)
  have e2 : 0 ≤ (if i < W then 0 else av (gt xs i - gt xs (i - W))) ∧ (if i < W then 0 else av (gt xs i - gt xs (i - W))) ≤ 2000000 := by
    split
    · omega
    · have h1 := gt_in hall (k := i - W) (by omega)
      exact av_in (by omega)
  omega
set_option maxRecDepth 100000 in
set_option maxHeartbeats 1600000 in
theorem rsteps_any (wide high : Int) (a : Option Addr) (xs : List Int) (ca : Nat) (w : World) (hl : xs.length ≤ 140737488351232) (hs : Sl w a xs) :
    Calls Try.prog 16 #[.agg #[.int .i64 wide, .int .i64 high, .slice a xs.length ca]] w fun e w' => e = .returned (.tuple #[.int .i64 (stepsR wide high xs).1, .int .i64 (stepsR wide high xs).2]) ∧ Below w.heap.size w w' := by
  have HS := Lib.hid hs; clear hs
  have HB0 : Hid (Below w.heap.size w (w.alloc (.cells #[.int .i64 wide, .int .i64 high, .slice a xs.length ca] 24))) := (Below.refl _ _).alloc (Nat.le_refl _) _
  have P0 : Hid (PBox w.heap.size wide high (.slice a xs.length ca) (w.alloc (.cells #[.int .i64 wide, .int .i64 high, .slice a xs.length ca] 24)) ∧ w.heap.size + 1 ≤ (w.alloc (.cells #[.int .i64 wide, .int .i64 high, .slice a xs.length ca] 24)).heap.size) := ⟨PBox.made _ _ _ _ _ rfl, by rw [World.size_alloc]; exact Nat.le_refl _⟩
  go_enter Try.func16, Try.ntmps16
  go_wp2_with fail
  generalize w.alloc (.cells #[.int .i64 wide, .int .i64 high, .slice a xs.length ca] 24) = V0 at *
  refine (rvalid_any wide high a xs ca V0 hl (HS.out.below HB0.out)).mono ?_
  rintro e w3 ⟨rfl, hb1⟩
  have P3 : Hid (PBox w.heap.size wide high (.slice a xs.length ca) w3 ∧ w.heap.size + 1 ≤ w3.heap.size ∧ Below w.heap.size w w3) := ⟨P0.out.1.later hb1 P0.out.2, Nat.le_trans P0.out.2 hb1.size, HB0.out.trans (hb1.mono HB0.out.size)⟩
  clear hb1 P0 HB0
  cases hv : validPicB wide high xs
  · have HV : Hid (stepsR wide high xs = (0, 1)) := by show stepsR wide high xs = _; simp [stepsR, hv]
    clear hv
    go_wp2
    go_ret2
    exact ⟨ret_two (by rw [HV.out]) (by rw [HV.out]), P3.out.2.2⟩
  · obtain ⟨w0, w1, g0, g1, hlen, hall⟩ := validPic_of hv
    obtain ⟨W, rfl⟩ := Int.eq_ofNat_of_zero_le (show 0 ≤ wide by omega)
    obtain ⟨H, rfl⟩ := Int.eq_ofNat_of_zero_le (show 0 ≤ high by omega)
    have hlen' : xs.length = W * H := by exact_mod_cast hlen
    have HV : Hid (stepsR W H xs = (sumTo (rStep W xs) xs.length, 0)) := by
      show stepsR W H xs = _
      rw [hlen', rStep_is W H xs (by omega) (by omega)]
      unfold stepsR; rw [if_pos hv]; rfl
    clear hv
    have HALL := Lib.hid hall; clear hall
    have HL := Lib.hid hlen'; clear hlen hlen'
    have HW : Hid (1 ≤ W ∧ W ≤ 16 ∧ 1 ≤ H ∧ H ≤ 16) := by show _ ∧ _; omega
    have h256 : xs.length ≤ 256 := by rw [HL.out]; exact Nat.mul_le_mul HW.out.2.1 HW.out.2.2.2
    clear w0 w1 g0 g1
    have HSB : Hid (∀ k, k ≤ xs.length → 0 ≤ sumTo (rStep W xs) k ∧ sumTo (rStep W xs) k ≤ 1024000000) := fun k hk => by
      have h := sumTo_bound (f := rStep W xs) (M := 4000000) k (fun i hi => rStep_in HALL.out HL.out i (by omega))
      omega
    obtain ⟨p0, p1, p2, _, _, _⟩ := P3.out.1
    go_wp2
    clear p0 p1 p2
    go_loopw [4, 13] (fun s i wr => ∃ k : Nat, k ≤ xs.length ∧ i = .int .i64 k ∧ s = .int .i64 (sumTo (rStep W xs) k) ∧ Below w3.heap.size w3 wr) (fun _ i _ => xs.length - (intOf i).toNat)
    case atStart => exact ⟨0, Nat.zero_le _, rfl, rfl, Below.refl _ _⟩
    case round =>
      obtain ⟨k, hk, rfl, rfl, hB⟩ := hrel
      have HB := Lib.hid hB; clear hB
      have HP := Lib.hid (P3.out.1.later HB.out P3.out.2.1)
      have HBw := Lib.hid (P3.out.2.2.trans (HB.out.mono P3.out.2.2.size))
      obtain ⟨p0, p1, p2, _, _, _⟩ := HP.out
      by_cases hlt : k < xs.length
      · obtain ⟨b1, o1, v, rfl, hcx0, HX⟩ := (HS.out.below HBw.out).at hlt
        have HGX := Lib.hid (gt_some' HX.out)
        have hv := allB_get HALL.out HX.out
        have hwl := HW.out
        have hSB := HSB.out k hk
        have HSN : Hid (sumTo (rStep W xs) (k + 1) = sumTo (rStep W xs) k + rStep W xs k) := rfl
        have HPS : Hid (rStep W xs k = (if k % W = 0 then 0 else av (v - gt xs (k - 1))) + (if k < W then 0 else av (v - gt xs (k - W)))) := by show _ = _; unfold rStep; rw [HGX.out]
        obtain ⟨S, hS⟩ : ∃ S, sumTo (rStep W xs) k = S := ⟨_, rfl⟩
        rw [hS] at hSB HSN
        rw [hS]
        clear hS
        have t1 : ((k : Int)).tmod (W : Int) = ((k % W : Nat) : Int) := by rw [Int.tmod_eq_emod_of_nonneg (by omega)]; rfl
        have t3 : ((k : Int)) % (W : Int) = ((k % W : Nat) : Int) := rfl
        have HRN : Hid (k % W ≠ 0 → 1 ≤ k) := fun h => by
          rcases Nat.eq_zero_or_pos k with g | g
          · subst g; simp at h
          · exact g
        obtain ⟨r, hr⟩ : ∃ r, k % W = r := ⟨_, rfl⟩
        rw [hr] at t1 t3 HPS HRN
        clear hr
        have y0 : ((W : Int) == 0) = false := by rw [beq_eq_false_iff_ne]; omega
        have y1 : ((W : Int) != 0) = true := by rw [bne_iff_ne]; omega
        have y2 : ¬ ((W : Int) = 0) := by omega
        have y3 : ¬ (W = 0) := by omega
        by_cases hr0 : r = 0
        · subst hr0
          by_cases h2 : k < W
          · have HPE : Hid (rStep W xs k = 0 + 0) := by
              show _ = _
              rw [HPS.out]
              rw [if_pos rfl]
              rw [if_pos (by omega)]
            clear hv hSB hwl
            go_wp2
            go_roundw
            case rel => exact ⟨k + 1, by omega, by go_num, by rw [HSN.out, HPE.out]; congr 1; omega, HB.out⟩
            case measure => simp [intOf]; omega
          · obtain ⟨p, hp⟩ : ∃ p, k = p + W := ⟨k - W, by omega⟩
            have dp : (k : Int) - (W : Int) = (p : Int) := by omega
            obtain ⟨b1', o1', v2, he2, hc2, HX2⟩ := (HS.out.below HBw.out).at (show p < xs.length by omega)
            obtain ⟨rfl, rfl⟩ : b1 = b1' ∧ o1 = o1' := by simpa using he2
            clear he2
            have hv2 := allB_get HALL.out HX2.out
            obtain ⟨d2, hd2⟩ : ∃ d, v - v2 = d := ⟨_, rfl⟩
            have A2 := av_in (a := v) (b := v2) (by omega)
            have HDA2 : Hid (-2000000 ≤ d2 ∧ d2 ≤ 2000000) := by show _ ∧ _; omega
            rw [hd2] at A2
            obtain ⟨e2, hee2⟩ : ∃ e, av d2 = e := ⟨_, rfl⟩
            rw [hee2] at A2
            have HE2 : Hid (av d2 = e2) := hee2
            have HD2 : Hid (av (v - v2) = e2) := by show _ = _; rw [hd2, hee2]
            clear hee2
            have hsub2 : wrap64 (v - v2) = d2 := (IntWalk.wrap64_in _ (by omega)).trans hd2
            clear hd2 hv2
            have HPE : Hid (rStep W xs k = 0 + e2) := by
              show _ = _
              rw [HPS.out]
              rw [if_pos rfl]
              rw [if_neg (by omega), show k - W = p by omega, gt_some' HX2.out, HD2.out]
            have hm2 : wrap64 (S + e2) = S + e2 := IntWalk.wrap64_in _ (by omega)
            have HPP := Lib.hid hp; clear hp
            clear hv hSB hwl
            go_wp2_with fail
            refine (abs_any d2 _ HDA2.out.1 HDA2.out.2).mono ?_
            rintro e wz ⟨rfl, rfl⟩
            rw [HE2.out]
            go_wp2
            go_roundw
            case rel => exact ⟨k + 1, by omega, by go_num, by rw [HSN.out, HPE.out]; congr 1; omega, HB.out⟩
            case measure => simp [intOf]; omega
        · have hk1 : 1 ≤ k := HRN.out hr0
          by_cases h2 : k < W
          · obtain ⟨q, hq⟩ : ∃ q, k = q + 1 := ⟨k - 1, by have := HRN.out; omega⟩
            have dq : (k : Int) - 1 = (q : Int) := by omega
            obtain ⟨b1', o1', v1, he1, hc1, HX1⟩ := (HS.out.below HBw.out).at (show q < xs.length by omega)
            obtain ⟨rfl, rfl⟩ : b1 = b1' ∧ o1 = o1' := by simpa using he1
            clear he1
            have hv1 := allB_get HALL.out HX1.out
            obtain ⟨d1, hd1⟩ : ∃ d, v - v1 = d := ⟨_, rfl⟩
            have A1 := av_in (a := v) (b := v1) (by omega)
            have HDA1 : Hid (-2000000 ≤ d1 ∧ d1 ≤ 2000000) := by show _ ∧ _; omega
            rw [hd1] at A1
            obtain ⟨e1, hee1⟩ : ∃ e, av d1 = e := ⟨_, rfl⟩
            rw [hee1] at A1
            have HE1 : Hid (av d1 = e1) := hee1
            have HD1 : Hid (av (v - v1) = e1) := by show _ = _; rw [hd1, hee1]
            clear hee1
            have hsub1 : wrap64 (v - v1) = d1 := (IntWalk.wrap64_in _ (by omega)).trans hd1
            clear hd1 hv1
            have HPE : Hid (rStep W xs k = e1 + 0) := by
              show _ = _
              rw [HPS.out]
              rw [if_neg hr0, show k - 1 = q by omega, gt_some' HX1.out, HD1.out]
              rw [if_pos (by omega)]
            have hm1 : wrap64 (S + e1) = S + e1 := IntWalk.wrap64_in _ (by omega)
            have HQQ := Lib.hid hq; clear hq
            have h0r : ((r : Int) > 0) = True := by simp; omega
            clear hv hSB hwl
            go_wp2_with fail
            refine (abs_any d1 _ HDA1.out.1 HDA1.out.2).mono ?_
            rintro e wz ⟨rfl, rfl⟩
            rw [HE1.out]
            go_wp2
            go_roundw
            case rel => exact ⟨k + 1, by omega, by go_num, by rw [HSN.out, HPE.out]; congr 1; omega, HB.out⟩
            case measure => simp [intOf]; omega
          · obtain ⟨q, hq⟩ : ∃ q, k = q + 1 := ⟨k - 1, by have := HRN.out; omega⟩
            have dq : (k : Int) - 1 = (q : Int) := by omega
            obtain ⟨b1', o1', v1, he1, hc1, HX1⟩ := (HS.out.below HBw.out).at (show q < xs.length by omega)
            obtain ⟨rfl, rfl⟩ : b1 = b1' ∧ o1 = o1' := by simpa using he1
            clear he1
            have hv1 := allB_get HALL.out HX1.out
            obtain ⟨d1, hd1⟩ : ∃ d, v - v1 = d := ⟨_, rfl⟩
            have A1 := av_in (a := v) (b := v1) (by omega)
            have HDA1 : Hid (-2000000 ≤ d1 ∧ d1 ≤ 2000000) := by show _ ∧ _; omega
            rw [hd1] at A1
            obtain ⟨e1, hee1⟩ : ∃ e, av d1 = e := ⟨_, rfl⟩
            rw [hee1] at A1
            have HE1 : Hid (av d1 = e1) := hee1
            have HD1 : Hid (av (v - v1) = e1) := by show _ = _; rw [hd1, hee1]
            clear hee1
            have hsub1 : wrap64 (v - v1) = d1 := (IntWalk.wrap64_in _ (by omega)).trans hd1
            clear hd1 hv1
            obtain ⟨p, hp⟩ : ∃ p, k = p + W := ⟨k - W, by omega⟩
            have dp : (k : Int) - (W : Int) = (p : Int) := by omega
            obtain ⟨b1', o1', v2, he2, hc2, HX2⟩ := (HS.out.below HBw.out).at (show p < xs.length by omega)
            obtain ⟨rfl, rfl⟩ : b1 = b1' ∧ o1 = o1' := by simpa using he2
            clear he2
            have hv2 := allB_get HALL.out HX2.out
            obtain ⟨d2, hd2⟩ : ∃ d, v - v2 = d := ⟨_, rfl⟩
            have A2 := av_in (a := v) (b := v2) (by omega)
            have HDA2 : Hid (-2000000 ≤ d2 ∧ d2 ≤ 2000000) := by show _ ∧ _; omega
            rw [hd2] at A2
            obtain ⟨e2, hee2⟩ : ∃ e, av d2 = e := ⟨_, rfl⟩
            rw [hee2] at A2
            have HE2 : Hid (av d2 = e2) := hee2
            have HD2 : Hid (av (v - v2) = e2) := by show _ = _; rw [hd2, hee2]
            clear hee2
            have hsub2 : wrap64 (v - v2) = d2 := (IntWalk.wrap64_in _ (by omega)).trans hd2
            clear hd2 hv2
            have HPE : Hid (rStep W xs k = e1 + e2) := by
              show _ = _
              rw [HPS.out]
              rw [if_neg hr0, show k - 1 = q by omega, gt_some' HX1.out, HD1.out]
              rw [if_neg (by omega), show k - W = p by omega, gt_some' HX2.out, HD2.out]
            have hm1 : wrap64 (S + e1) = S + e1 := IntWalk.wrap64_in _ (by omega)
            have HQQ := Lib.hid hq; clear hq
            have hm2 : wrap64 (S + e1 + e2) = S + e1 + e2 := IntWalk.wrap64_in _ (by omega)
            have HPP := Lib.hid hp; clear hp
            have h0r : ((r : Int) > 0) = True := by simp; omega
            clear hv hSB hwl
            go_wp2_with fail
            refine (abs_any d1 _ HDA1.out.1 HDA1.out.2).mono ?_
            rintro e wz ⟨rfl, rfl⟩
            rw [HE1.out]
            go_wp2_with fail
            refine (abs_any d2 _ HDA2.out.1 HDA2.out.2).mono ?_
            rintro e wz ⟨rfl, rfl⟩
            rw [HE2.out]
            go_wp2
            go_roundw
            case rel => exact ⟨k + 1, by omega, by go_num, by rw [HSN.out, HPE.out]; congr 1; omega, HB.out⟩
            case measure => simp [intOf]; omega
      · obtain rfl : k = xs.length := by omega
        go_wp2
        go_ret2
        exact ⟨ret_two (by rw [HV.out]) (by rw [HV.out]), P3.out.2.2.trans (HB.out.mono P3.out.2.2.size)⟩
end Go.Proofs.Ytacbciamehchjaa
