
/- Steps of layer 1: a contract. -/
import Derived.Test.YtacbciamehchjaaStepsMath
import Derived.Test.YtacbciamehchjaaAwk
namespace Go.Proofs.Ytacbciamehchjaa
open Go.RowKit

theorem sz_one (d : Int) : szTo [d] [d].length = av d := by simp [szTo, sumTo, gt]
theorem sizes1_any (d : Int) (V : World) (t : TypeId) (B : Nat) (hB : B = V.heap.size) (hd : -2000000 ≤ d ∧ d ≤ 2000000) :
    Calls Try.prog 29 #[.slice (some ⟨B, 0, none⟩) 1 1] (V.alloc (.cells #[.int .i64 d] t)) fun e w' => e = .returned (.int .i64 (av d)) ∧ V.alloc (.cells #[.int .i64 d] t) = w' := by
  subst hB
  have h := sizes_any (some ⟨V.heap.size, 0, none⟩) [d] 1 (V.alloc (.cells #[.int .i64 d] t)) (by simp) (by simp [allB, outB]; omega) (sl_lit0 (xs := [d]) (fr := (0, 0)) (heap_new _ _))
  rw [sz_one] at h
  exact h
def stepsR (wide high : Int) (xs : List Int) : Int × Int := if validPicB wide high xs = true then (stepsV wide.toNat high.toNat xs, 0) else (0, 1)
theorem av_in {a b : Int} (h : -2000000 ≤ a - b ∧ a - b ≤ 2000000) : 0 ≤ av (a - b) ∧ av (a - b) ≤ 2000000 := by unfold av; split <;> omega
theorem pStep_in {W n : Nat} {xs : List Int} (hall : allB 1000000 xs = true) (hn : xs.length = n) {H : Nat} (hWH : n = W * H) (i : Nat) (hi : i < n) : 0 ≤ pStep W n xs i ∧ pStep W n xs i ≤ 4000000 := by
  have h0 := gt_in hall (k := i) (by omega)
  unfold pStep
  have e1 : 0 ≤ (if (i + 1) % W = 0 then 0 else av (gt xs (i + 1) - gt xs i)) ∧ (if (i + 1) % W = 0 then 0 else av (gt xs (i + 1) - gt xs i)) ≤ 2000000 := by
    split
    · omega
    · rename_i h
      have hlt : i + 1 < n := by
        rcases Nat.lt_or_ge (i + 1) n with g | g
        · exact g
        · exfalso; apply h; rw [show i + 1 = n by omega, hWH]; simp
      have h1 := gt_in hall (k := i + 1) (by omega)
      exact av_in (by omega)
  have e2 : 0 ≤ (if i + W < n then av (gt xs (i + W) - gt xs i) else 0) ∧ (if i + W < n then av (gt xs (i + W) - gt xs i) else 0) ≤ 2000000 := by
    split
    · have h1 := gt_in hall (k := i + W) (by omega)
      exact av_in (by omega)
    · omega
  omega
set_option maxRecDepth 100000 in
set_option maxHeartbeats 800000 in
theorem steps_any (wide high : Int) (a : Option Addr) (xs : List Int) (ca : Nat) (w : World) (hl : xs.length ≤ 140737488351232) (hs : Sl w a xs) :
    Calls Try.prog 15 #[.agg #[.int .i64 wide, .int .i64 high, .slice a xs.length ca]] w fun e w' => e = .returned (.tuple #[.int .i64 (stepsR wide high xs).1, .int .i64 (stepsR wide high xs).2]) ∧ Below w.heap.size w w' := by
  have HS := Lib.hid hs; clear hs
  have HB0 : Hid (Below w.heap.size w (w.alloc (.cells #[.int .i64 wide, .int .i64 high, .slice a xs.length ca] 24))) := (Below.refl _ _).alloc (Nat.le_refl _) _
  have P0 : Hid (PBox w.heap.size wide high (.slice a xs.length ca) (w.alloc (.cells #[.int .i64 wide, .int .i64 high, .slice a xs.length ca] 24)) ∧ w.heap.size + 1 ≤ (w.alloc (.cells #[.int .i64 wide, .int .i64 high, .slice a xs.length ca] 24)).heap.size) := ⟨PBox.made _ _ _ _ _ rfl, by rw [World.size_alloc]; exact Nat.le_refl _⟩
  go_enter Try.func15, Try.ntmps15
  go_wp2_with fail
  generalize w.alloc (.cells #[.int .i64 wide, .int .i64 high, .slice a xs.length ca] 24) = V0 at *
  refine (valid_any wide high a xs ca V0 hl (HS.out.below HB0.out)).mono ?_
  rintro e w3 ⟨rfl, hb1⟩
  have P3 : Hid (PBox w.heap.size wide high (.slice a xs.length ca) w3 ∧ w.heap.size + 1 ≤ w3.heap.size ∧ Below w.heap.size w w3) := ⟨P0.out.1.later hb1 P0.out.2, Nat.le_trans P0.out.2 hb1.size, HB0.out.trans (hb1.mono HB0.out.size)⟩
  clear hb1 P0 HB0
  cases hv : validPicB wide high xs
  · have HV : Hid (stepsR wide high xs = (0, 1)) := by show stepsR wide high xs = _; simp [stepsR, hv]
    clear hv
    go_wp2
    go_ret2
    exact ⟨ret_two (by rw [HV.out]) (by rw [HV.out]), P3.out.2.2⟩
  · obtain ⟨w0, w1, g0, g1, hlen, hall⟩ := validPic_of hv
    obtain ⟨W, rfl⟩ := Int.eq_ofNat_of_zero_le (show 0 ≤ wide by omega)
    obtain ⟨H, rfl⟩ := Int.eq_ofNat_of_zero_le (show 0 ≤ high by omega)
    have hlen' : xs.length = W * H := by exact_mod_cast hlen
    have HV : Hid (stepsR W H xs = (sumTo (pStep W xs.length xs) xs.length, 0)) := by
      show stepsR W H xs = _
      rw [hlen', pStep_is W H xs (by omega) (by omega)]
      unfold stepsR; rw [if_pos hv]; rfl
    clear hv
    have HALL := Lib.hid hall; clear hall
    have HL := Lib.hid hlen'; clear hlen hlen'
    have HW : Hid (1 ≤ W ∧ W ≤ 16 ∧ 1 ≤ H ∧ H ≤ 16) := by show _ ∧ _; omega
    have h256 : xs.length ≤ 256 := by rw [HL.out]; exact Nat.mul_le_mul HW.out.2.1 HW.out.2.2.2
    clear w0 w1 g0 g1
    have HSB : Hid (∀ k, k ≤ xs.length → 0 ≤ sumTo (pStep W xs.length xs) k ∧ sumTo (pStep W xs.length xs) k ≤ 1024000000) := fun k hk => by
      have h := sumTo_bound (f := pStep W xs.length xs) (M := 4000000) k (fun i hi => pStep_in HALL.out rfl HL.out i (by omega))
      omega
    obtain ⟨p0, p1, p2, _, _, _⟩ := P3.out.1
    go_wp2
    clear p0 p1 p2
    go_loopw [4, 15] (fun s i wr => ∃ k : Nat, k ≤ xs.length ∧ i = .int .i64 k ∧ s = .int .i64 (sumTo (pStep W xs.length xs) k) ∧ Below w3.heap.size w3 wr) (fun _ i _ => xs.length - (intOf i).toNat)
    case atStart => exact ⟨0, Nat.zero_le _, rfl, rfl, Below.refl _ _⟩
    case round =>
      obtain ⟨k, hk, rfl, rfl, hB⟩ := hrel
      have HB := Lib.hid hB; clear hB
      have HP := Lib.hid (P3.out.1.later HB.out P3.out.2.1)
      have HBw := Lib.hid (P3.out.2.2.trans (HB.out.mono P3.out.2.2.size))
      obtain ⟨p0, p1, p2, _, _, _⟩ := HP.out
      by_cases hlt : k < xs.length
      · obtain ⟨b1, o1, v, rfl, hcx0, HX⟩ := (HS.out.below HBw.out).at hlt
        have HGX := Lib.hid (gt_some' HX.out)
        have hv := allB_get HALL.out HX.out
        have hwl := HW.out
        have hSB := HSB.out k hk
        have HSN : Hid (sumTo (pStep W xs.length xs) (k + 1) = sumTo (pStep W xs.length xs) k + pStep W xs.length xs k) := rfl
        have HPS : Hid (pStep W xs.length xs k = (if (k + 1) % W = 0 then 0 else av (gt xs (k + 1) - v)) + (if k + W < xs.length then av (gt xs (k + W) - v) else 0)) := by show _ = _; unfold pStep; rw [HGX.out]
        obtain ⟨S, hS⟩ : ∃ S, sumTo (pStep W xs.length xs) k = S := ⟨_, rfl⟩
        rw [hS] at hSB HSN
        rw [hS]
        clear hS
        have HD1 : Hid ((k + 1) % W ≠ 0 → k + 1 < xs.length) := fun h => by
          rcases Nat.lt_or_ge (k + 1) xs.length with g | g
          · exact g
          · exfalso; apply h; rw [show k + 1 = xs.length by omega, HL.out]; simp
        have t1 : ((k : Int) + 1).tmod (W : Int) = (((k + 1) % W : Nat) : Int) := by rw [Int.tmod_eq_emod_of_nonneg (by omega)]; rfl
        have t3 : ((k : Int) + 1) % (W : Int) = (((k + 1) % W : Nat) : Int) := rfl
        obtain ⟨r, hr⟩ : ∃ r, (k + 1) % W = r := ⟨_, rfl⟩
        have HRL : Hid (0 < W → r < W) := fun h => by rw [← hr]; exact Nat.mod_lt _ h
        rw [hr] at t1 t3 HPS HD1
        clear hr
        have y0 : ((W : Int) == 0) = false := by rw [beq_eq_false_iff_ne]; omega
        have y1 : ((W : Int) != 0) = true := by rw [bne_iff_ne]; omega
        have y2 : ¬ ((W : Int) = 0) := by omega
        have y3 : ¬ (W = 0) := by omega
        by_cases hr0 : r = 0
        · subst hr0
          have Q2 : Hid (wrap64 (0 : Int) = 0) := IntWalk.wrap64_in _ (by omega)
          by_cases h2 : k + W < xs.length
          · obtain ⟨b1', o1', v2, he2, hc2, HX2⟩ := (HS.out.below HBw.out).at h2
            obtain ⟨rfl, rfl⟩ : b1 = b1' ∧ o1 = o1' := by simpa using he2
            clear he2
            have hv2 := allB_get HALL.out HX2.out
            obtain ⟨d2, hd2⟩ : ∃ d2, v2 - v = d2 := ⟨_, rfl⟩
            have A2 := av_in (a := v2) (b := v) (by omega)
            have HD2A : Hid (-2000000 ≤ d2 ∧ d2 ≤ 2000000) := by show _ ∧ _; omega
            have HPE : Hid (pStep W xs.length xs k = 0 + av (v2 - v)) := by
              show _ = _
              rw [HPS.out, if_pos rfl, if_pos h2, gt_some' HX2.out]
            rw [hd2] at A2 HPE
            obtain ⟨e2, he2⟩ : ∃ e, av d2 = e := ⟨_, rfl⟩
            rw [he2] at A2 HPE
            have HE2 : Hid (av d2 = e2) := he2
            clear he2
            have HSUB2 : Hid (wrap64 (v2 - v) = d2) := (IntWalk.wrap64_in _ (by omega)).trans hd2
            clear hd2
            have M2 : Hid (wrap64 (S + e2) = S + e2) := IntWalk.wrap64_in _ (by omega)
            have I1 : Hid (wrap64 ((k : Int) + 1) = (k : Int) + 1) := IntWalk.wrap64_in _ (by omega)
            have I2 : Hid (wrap64 ((k : Int) + (W : Int)) = (k : Int) + (W : Int)) := IntWalk.wrap64_in _ (by omega)
            clear hv hv2 hSB hwl A2
            have HSZ := Lib.hid HB.out.size
            have i1 := I1.out; have i2 := I2.out; have m2 := M2.out; have hsub2 := HSUB2.out; have q2 := Q2.out
            go_wp2_with fail
            refine (sizes1_any d2 _ _ _ rfl HD2A.out).mono ?_
            rintro e wz ⟨rfl, rfl⟩
            rw [HE2.out]
            go_wp2
            clear i1 i2 m2 hsub2 q2
            go_roundw
            case rel => exact ⟨k + 1, by omega, by go_num, by rw [HSN.out, HPE.out, M2.out]; congr 1; omega, (HB.out.alloc HSZ.out _)⟩
            case measure => simp [intOf]; omega
          · have HPE : Hid (pStep W xs.length xs k = 0 + 0) := by
              show _ = _
              rw [HPS.out, if_pos rfl, if_neg h2]
            have I1 : Hid (wrap64 ((k : Int) + 1) = (k : Int) + 1) := IntWalk.wrap64_in _ (by omega)
            have I2 : Hid (wrap64 ((k : Int) + (W : Int)) = (k : Int) + (W : Int)) := IntWalk.wrap64_in _ (by omega)
            clear hv hSB hwl
            have i1 := I1.out; have i2 := I2.out; have q2 := Q2.out
            go_wp2
            clear i1 i2 q2
            go_roundw
            case rel => exact ⟨k + 1, by omega, by go_num, by rw [HSN.out, HPE.out]; congr 1; omega, HB.out⟩
            case measure => simp [intOf]; omega
        · have hk1n := HD1.out hr0
          have q1 : ((r : Int) == 0) = false := by rw [beq_eq_false_iff_ne]; omega
          have Q2 : Hid (((r : Int) != 0) = true) := by show _ = _; rw [bne_iff_ne]; omega
          have Q3 : Hid (wrap64 (r : Int) = (r : Int)) := IntWalk.wrap64_in _ (by have := HRL.out (show 0 < W by omega); omega)
          have q4 : ¬ ((r : Int) = 0) := by omega
          by_cases h2 : k + W < xs.length
          · obtain ⟨b1', o1', v1, he1, hc1, HX1⟩ := (HS.out.below HBw.out).at hk1n
            obtain ⟨rfl, rfl⟩ : b1 = b1' ∧ o1 = o1' := by simpa using he1
            clear he1
            have hv1 := allB_get HALL.out HX1.out
            obtain ⟨d1, hd1⟩ : ∃ d1, v1 - v = d1 := ⟨_, rfl⟩
            have A1 := av_in (a := v1) (b := v) (by omega)
            have HD1A : Hid (-2000000 ≤ d1 ∧ d1 ≤ 2000000) := by show _ ∧ _; omega
            obtain ⟨b1', o1', v2, he2, hc2, HX2⟩ := (HS.out.below HBw.out).at h2
            obtain ⟨rfl, rfl⟩ : b1 = b1' ∧ o1 = o1' := by simpa using he2
            clear he2
            have hv2 := allB_get HALL.out HX2.out
            obtain ⟨d2, hd2⟩ : ∃ d2, v2 - v = d2 := ⟨_, rfl⟩
            have A2 := av_in (a := v2) (b := v) (by omega)
            have HD2A : Hid (-2000000 ≤ d2 ∧ d2 ≤ 2000000) := by show _ ∧ _; omega
            have HPE : Hid (pStep W xs.length xs k = av (v1 - v) + av (v2 - v)) := by
              show _ = _
              rw [HPS.out, if_neg hr0, if_pos h2, gt_some' HX1.out, gt_some' HX2.out]
            rw [hd1] at A1 HPE
            obtain ⟨e1, he1⟩ : ∃ e, av d1 = e := ⟨_, rfl⟩
            rw [he1] at A1 HPE
            have HE1 : Hid (av d1 = e1) := he1
            clear he1
            have HSUB1 : Hid (wrap64 (v1 - v) = d1) := (IntWalk.wrap64_in _ (by omega)).trans hd1
            clear hd1
            rw [hd2] at A2 HPE
            obtain ⟨e2, he2⟩ : ∃ e, av d2 = e := ⟨_, rfl⟩
            rw [he2] at A2 HPE
            have HE2 : Hid (av d2 = e2) := he2
            clear he2
            have HSUB2 : Hid (wrap64 (v2 - v) = d2) := (IntWalk.wrap64_in _ (by omega)).trans hd2
            clear hd2
            have M1 : Hid (wrap64 (S + e1) = S + e1) := IntWalk.wrap64_in _ (by omega)
            have M2 : Hid (wrap64 (S + e1 + e2) = S + e1 + e2) := IntWalk.wrap64_in _ (by omega)
            have I1 : Hid (wrap64 ((k : Int) + 1) = (k : Int) + 1) := IntWalk.wrap64_in _ (by omega)
            have I2 : Hid (wrap64 ((k : Int) + (W : Int)) = (k : Int) + (W : Int)) := IntWalk.wrap64_in _ (by omega)
            clear hv hv1 hv2 hSB hwl A1 A2
            have HSZ := Lib.hid HB.out.size
            have hal : ∀ o, Below wr.heap.size wr (wr.alloc o) := fun o => (Below.refl _ _).alloc (Nat.le_refl _) o
            have hb1l := cell_lt hc2
            have hwl0 : w.heap.size < wr.heap.size := by have := HSZ.out; have := P3.out.2.1; omega
            have z0 : ∀ o, (wr.alloc o).cell? ⟨w.heap.size, 0, none⟩ = some (.int .i64 W) := fun o => ((hal o).cell (p := ⟨w.heap.size, 0, none⟩) hwl0).trans p0
            have z2 : ∀ o, (wr.alloc o).cell? ⟨w.heap.size, 2, none⟩ = some (.slice (some ⟨b1, o1, none⟩) xs.length ca) := fun o => ((hal o).cell (p := ⟨w.heap.size, 2, none⟩) hwl0).trans p2
            have zc : ∀ o, (wr.alloc o).cell? ⟨b1, o1 + (k + W), none⟩ = some (.int .i64 v2) := fun o => ((hal o).cell (p := ⟨b1, o1 + (k + W), none⟩) hb1l).trans hc2
            clear hb1l hwl0
            have i1 := I1.out; have i2 := I2.out; have m1 := M1.out; have hsub1 := HSUB1.out; have m2 := M2.out; have hsub2 := HSUB2.out; have q3 := Q3.out; have q2 := Q2.out
            go_wp2_with fail
            refine (sizes1_any d1 _ _ _ rfl HD1A.out).mono ?_
            rintro e wz ⟨rfl, rfl⟩
            rw [HE1.out]
            go_wp2_with fail
            refine (sizes1_any d2 _ _ _ (World.size_alloc _ _).symm HD2A.out).mono ?_
            rintro e wz ⟨rfl, rfl⟩
            rw [HE2.out]
            go_wp2
            clear i1 i2 m1 hsub1 m2 hsub2 q3 q2
            go_roundw
            case rel => exact ⟨k + 1, by omega, by go_num, by rw [HSN.out, HPE.out, M2.out]; congr 1; omega, ((HB.out.alloc HSZ.out _).alloc (by rw [World.size_alloc]; exact Nat.le_succ_of_le HSZ.out) _)⟩
            case measure => simp [intOf]; omega
          · obtain ⟨b1', o1', v1, he1, hc1, HX1⟩ := (HS.out.below HBw.out).at hk1n
            obtain ⟨rfl, rfl⟩ : b1 = b1' ∧ o1 = o1' := by simpa using he1
            clear he1
            have hv1 := allB_get HALL.out HX1.out
            obtain ⟨d1, hd1⟩ : ∃ d1, v1 - v = d1 := ⟨_, rfl⟩
            have A1 := av_in (a := v1) (b := v) (by omega)
            have HD1A : Hid (-2000000 ≤ d1 ∧ d1 ≤ 2000000) := by show _ ∧ _; omega
            have HPE : Hid (pStep W xs.length xs k = av (v1 - v) + 0) := by
              show _ = _
              rw [HPS.out, if_neg hr0, if_neg h2, gt_some' HX1.out]
            rw [hd1] at A1 HPE
            obtain ⟨e1, he1⟩ : ∃ e, av d1 = e := ⟨_, rfl⟩
            rw [he1] at A1 HPE
            have HE1 : Hid (av d1 = e1) := he1
            clear he1
            have HSUB1 : Hid (wrap64 (v1 - v) = d1) := (IntWalk.wrap64_in _ (by omega)).trans hd1
            clear hd1
            have M1 : Hid (wrap64 (S + e1) = S + e1) := IntWalk.wrap64_in _ (by omega)
            have I1 : Hid (wrap64 ((k : Int) + 1) = (k : Int) + 1) := IntWalk.wrap64_in _ (by omega)
            have I2 : Hid (wrap64 ((k : Int) + (W : Int)) = (k : Int) + (W : Int)) := IntWalk.wrap64_in _ (by omega)
            clear hv hv1 hSB hwl A1
            have HSZ := Lib.hid HB.out.size
            have hwl0 : w.heap.size < wr.heap.size := by have := HSZ.out; have := P3.out.2.1; omega
            have z0 : ∀ o, (wr.alloc o).cell? ⟨w.heap.size, 0, none⟩ = some (.int .i64 W) := fun o => (((Below.refl wr.heap.size wr).alloc (Nat.le_refl _) o).cell (p := ⟨w.heap.size, 0, none⟩) hwl0).trans p0
            have z2 : ∀ o, (wr.alloc o).cell? ⟨w.heap.size, 2, none⟩ = some (.slice (some ⟨b1, o1, none⟩) xs.length ca) := fun o => (((Below.refl wr.heap.size wr).alloc (Nat.le_refl _) o).cell (p := ⟨w.heap.size, 2, none⟩) hwl0).trans p2
            clear hwl0
            have i1 := I1.out; have i2 := I2.out; have m1 := M1.out; have hsub1 := HSUB1.out; have q3 := Q3.out; have q2 := Q2.out
            go_wp2_with fail
            refine (sizes1_any d1 _ _ _ rfl HD1A.out).mono ?_
            rintro e wz ⟨rfl, rfl⟩
            rw [HE1.out]
            go_wp2
            clear i1 i2 m1 hsub1 q3 q2
            go_roundw
            case rel => exact ⟨k + 1, by omega, by go_num, by rw [HSN.out, HPE.out, M1.out]; congr 1; omega, (HB.out.alloc HSZ.out _)⟩
            case measure => simp [intOf]; omega
      · obtain rfl : k = xs.length := by omega
        go_wp2
        go_ret2
        exact ⟨ret_two (by rw [HV.out]) (by rw [HV.out]), HBw.out⟩
end Go.Proofs.Ytacbciamehchjaa
