
/- Halved of layer 1 and of its answers: contracts. -/
import Derived.Test.YtknhfliefkkpfabPBox
import Derived.Test.YtknhfliefkkpfabSums2
import Derived.Deep.RegionHeldLaw
import Derived.Test.YtknhfliefkkpfabHalfMath
import Derived.Test.YtknhfliefkkpfabRMir
import Derived.Test.YtknhfliefkkpfabLift
namespace Go.Proofs.Ytknhfliefkkpfab
open Go.RowKit

set_option maxRecDepth 100000 in
set_option maxHeartbeats 1600000 in
theorem halved_any (wide high : Int) (a : Option Addr) (xs : List Int) (ca : Nat) (w : World) (hl : xs.length ≤ 140737488351232) (hs : Sl w a xs) :
    Calls Try.prog 25 #[.agg #[.int .i64 wide, .int .i64 high, .slice a xs.length ca]] w (FPost (halfV wide high xs) w) := by
  have HS := Lib.hid hs; clear hs
  have M0 := Lib.hid (MvBox.mk0 w (.int .i64 wide) (.int .i64 high) (.slice a xs.length ca) 24 24)
  have HB0 : Hid (Below w.heap.size w ((w.alloc (.cells #[.int .i64 wide, .int .i64 high, .slice a xs.length ca] 24)).alloc (.cells #[.int .i64 0, .int .i64 0, .slice none 0 0] 24))) := ((Below.refl _ _).alloc (Nat.le_refl _) _).alloc (by simp) _
  go_enter Try.func25, Try.ntmps25
  go_wp2_with fail
  generalize (w.alloc (.cells #[.int .i64 wide, .int .i64 high, .slice a xs.length ca] 24)).alloc (.cells #[.int .i64 0, .int .i64 0, .slice none 0 0] 24) = V0 at *
  refine (valid_any wide high a xs ca V0 hl (HS.out.below HB0.out)).mono ?_
  rintro e w3 ⟨rfl, hb1⟩
  have M3 := Lib.hid (M0.out.next hb1 M0.out.sz)
  have HB3 := Lib.hid (Below.trans HB0.out (hb1.mono (Nat.le_trans (Nat.le_add_right _ 2) M0.out.sz)))
  clear hb1 M0 HB0
  cases hv : validPicB wide high xs
  · have HV := Lib.hid hv; clear hv
    obtain ⟨c0, c1, c2, e0, e1, e2, f0, f1, f2, sz⟩ := M3.out
    go_wp2
    (try simp only [Exit.inBlock, Exit.then])
    refine bodyPost_ret (v := .tuple #[.agg #[.int .i64 0, .int .i64 0, .slice none 0 0], .int .i64 1]) (by rw [results_cell_tmp rfl]; go_simp) rfl ?_
    exact FPost.err 1 (halfV_1 HV.out) (set3 HB3.out (by omega) _ _ _)
  · obtain ⟨w0, w1, g0, g1, hlen, hall⟩ := validPic_of hv
    obtain ⟨W, rfl⟩ := Int.eq_ofNat_of_zero_le (show 0 ≤ wide by omega)
    obtain ⟨H, rfl⟩ := Int.eq_ofNat_of_zero_le (show 0 ≤ high by omega)
    have hlen' : xs.length = W * H := by exact_mod_cast hlen
    have HV := Lib.hid hv; clear hv
    have HALL := Lib.hid hall; clear hall
    have HL := Lib.hid hlen'; clear hlen hlen'
    have HW : Hid (1 ≤ W ∧ W ≤ 16 ∧ 1 ≤ H ∧ H ≤ 16) := by show _ ∧ _; omega
    have h256 : xs.length ≤ 256 := by rw [HL.out]; exact Nat.mul_le_mul HW.out.2.1 HW.out.2.2.2
    clear w0 w1 g0 g1
    have hG3 : w.heap.size + 2 ≤ w3.heap.size := M3.out.sz
    by_cases hw : W % 2 = 0
    case neg =>
      have r1 : (W : Int).tmod 2 = 1 := by rw [Int.tmod_eq_emod_of_nonneg (by omega)]; omega
      have r2 : (W : Int) % 2 = 1 := by omega
      obtain ⟨c0, c1, c2, e0, e1, e2, f0, f1, f2, sz⟩ := M3.out
      go_wp2
      (try simp only [Exit.inBlock, Exit.then])
      refine bodyPost_ret (v := .tuple #[.agg #[.int .i64 0, .int .i64 0, .slice none 0 0], .int .i64 9]) (by rw [results_cell_tmp rfl]; go_simp) rfl ?_
      exact FPost.err 9 (halfV_9 HV.out (.inl hw)) (set3 HB3.out (by omega) _ _ _)
    have r1 : (W : Int).tmod 2 = 0 := by rw [Int.tmod_eq_emod_of_nonneg (by omega)]; omega
    have r2 : (W : Int) % 2 = 0 := by omega
    by_cases hh : H % 2 = 0
    case neg =>
      have r3 : (H : Int).tmod 2 = 1 := by rw [Int.tmod_eq_emod_of_nonneg (by omega)]; omega
      have r4 : (H : Int) % 2 = 1 := by omega
      obtain ⟨c0, c1, c2, e0, e1, e2, f0, f1, f2, sz⟩ := M3.out
      go_wp2
      (try simp only [Exit.inBlock, Exit.then])
      refine bodyPost_ret (v := .tuple #[.agg #[.int .i64 0, .int .i64 0, .slice none 0 0], .int .i64 9]) (by rw [results_cell_tmp rfl]; go_simp) rfl ?_
      exact FPost.err 9 (halfV_9 HV.out (.inr hh)) (set3 HB3.out (by omega) _ _ _)
    have r3 : (H : Int).tmod 2 = 0 := by rw [Int.tmod_eq_emod_of_nonneg (by omega)]; omega
    have r4 : (H : Int) % 2 = 0 := by omega
    have HVV := Lib.hid (halfV_0 HV.out hw hh)
    have HIN : Hid (∀ i, i < W / 2 * (H / 2) → halfAt W i + W + 1 < xs.length) := fun i hi => by rw [HL.out]; exact quad_in hw hh hi
    have HA4 : Hid (xs.length / 4 = W / 2 * (H / 2)) := by show _ = _; rw [HL.out]; exact area4 hw hh
    obtain ⟨ys, hys⟩ : ∃ ys, halfL W H xs = ys := ⟨_, rfl⟩
    have HYL : Hid (ys.length = W / 2 * (H / 2)) := by show _ = _; rw [← hys, halfL_len]
    have HTK : Hid (∀ k, k < W / 2 * (H / 2) → ys.take (k + 1) = ys.take k ++ [quad W xs (halfAt W k) / 4]) := fun k hk => by rw [← hys]; exact halfL_take W H xs hk
    have HHP : Hid (∀ x y, x < W / 2 → halfAt W (x + W / 2 * y) = 2 * x + 2 * W * y) := fun x y hx => halfAt_place hx
    have HPL : Hid (∀ x y, x < W / 2 → y < H / 2 → x + W / 2 * y < W / 2 * (H / 2)) := fun x y hx hy => place_bd hx hy
    have HPO : Hid (∀ i, i < W / 2 * (H / 2) → i % (W / 2) < W / 2 ∧ i / (W / 2) < H / 2) := fun i hi => ⟨(place_of hi).1, (place_of hi).2.1⟩
    have HWE : Hid (2 * (W / 2) = W) := by show _ = _; omega
    rw [hys] at HVV
    clear hys
    have r5 : (W : Int).tdiv 2 = ((W / 2 : Nat) : Int) := by rw [Int.tdiv_eq_ediv_of_nonneg (by omega)]; omega
    have r6 : (W : Int) / 2 = ((W / 2 : Nat) : Int) := by omega
    have r7 : (H : Int).tdiv 2 = ((H / 2 : Nat) : Int) := by rw [Int.tdiv_eq_ediv_of_nonneg (by omega)]; omega
    have r8 : (H : Int) / 2 = ((H / 2 : Nat) : Int) := by omega
    obtain ⟨A, hA⟩ : ∃ A, W / 2 = A := ⟨_, rfl⟩
    obtain ⟨C, hC⟩ : ∃ C, H / 2 = C := ⟨_, rfl⟩
    have hA1 : A ≤ 8 := by have := HW.out; omega
    have hC1 : C ≤ 8 := by have := HW.out; omega
    have HA1 : Hid (A * C ≤ 64) := Nat.mul_le_mul hA1 hC1
    have HWE2 : Hid (1 ≤ A) := by show 1 ≤ A; have := HW.out; omega
    rw [hA, hC] at HIN HYL HTK HPL HPO HVV HA4
    rw [hA] at HHP r5 r6 HWE
    rw [hC] at r7 r8
    have m5 : IntKind.i64.wrap (A : Int) = (A : Int) := IntWalk.i64_in _ (by omega)
    have m6 : IntKind.i64.wrap (C : Int) = (C : Int) := IntWalk.i64_in _ (by omega)
    clear hA hC
    have HPN : Hid (PBox w3.heap.size A C (.slice none 0 0) (w3.alloc (.cells #[.int .i64 A, .int .i64 C, .slice none 0 0] 24)) ∧ Below w3.heap.size w3 (w3.alloc (.cells #[.int .i64 A, .int .i64 C, .slice none 0 0] 24)) ∧ w3.heap.size + 1 ≤ (w3.alloc (.cells #[.int .i64 A, .int .i64 C, .slice none 0 0] 24)).heap.size) :=
      ⟨PBox.made _ _ _ _ _ rfl, (Below.refl _ _).alloc (Nat.le_refl _) _, by rw [World.size_alloc]; exact Nat.le_refl _⟩
    obtain ⟨n0, n1, n2, _, _, _⟩ := HPN.out.1
    obtain ⟨c0, c1, c2, e0, e1, e2, f0, f1, f2, sz⟩ := M3.out
    have d2 : (w3.alloc (.cells #[.int .i64 A, .int .i64 C, .slice none 0 0] 24)).cell? ⟨w.heap.size, 2, none⟩ = some (.slice a xs.length ca) := (HPN.out.2.1.cell (p := ⟨w.heap.size, 2, none⟩) (by show w.heap.size < _; omega)).trans c2
    go_wp2
    clear c0 c1 c2 e0 e1 e2 f0 f1 f2 sz d2 n0 n1 n2 r1 r2 r3 r4 r5 r6 r7 r8 m5 m6
    generalize w3.alloc (.cells #[.int .i64 A, .int .i64 C, .slice none 0 0] 24) = VN at *
    go_loopw [34] (fun i wr => ∃ (y n : Nat) (a' : Option Addr) (c' : Nat), y ≤ C ∧ A * y = n ∧ i = .int .i64 y ∧ PBox w3.heap.size A C (.slice a' n c') wr ∧ OwnI wr (w3.heap.size + 1) (.slice a' n c') (ys.take n) ∧ Below w3.heap.size w3 wr ∧ w3.heap.size + 1 ≤ wr.heap.size) (fun i _ => C - (intOf i).toNat)
    case atStart => exact ⟨0, 0, none, 0, Nat.zero_le _, rfl, rfl, HPN.out.1, OwnI.nil _ _, HPN.out.2.1, HPN.out.2.2⟩
    case round =>
      obtain ⟨y, n, a', c', hy0, hyn, rfl, hP, hO, hB, hsz⟩ := hrel
      have HP := Lib.hid hP; clear hP
      have HO := Lib.hid hO; clear hO
      have HB := Lib.hid hB; clear hB
      have HSZ := Lib.hid hsz; clear hsz
      have HYN := Lib.hid hyn; clear hyn
      have HBw : Hid (Below w.heap.size w wr) := Below.trans HB3.out (HB.out.mono HB3.out.size)
      obtain ⟨c0, c1, c2, e0, e1, e2, f0, f1, f2, sz⟩ := (M3.out.next HB.out M3.out.sz)
      obtain ⟨d0, d1, d2, d3, d4, d5⟩ := HP.out
      by_cases hyC : y < C
      · go_wp2
        clear c0 c1 c2 e0 e1 e2 f0 f1 f2 sz d0 d1 d2 d3 d4 d5
        have HBo := HB
        go_loopw [39] (fun i wr => ∃ (x n : Nat) (a' : Option Addr) (c' : Nat), x ≤ A ∧ x + A * y = n ∧ i = .int .i64 x ∧ PBox w3.heap.size A C (.slice a' n c') wr ∧ OwnI wr (w3.heap.size + 1) (.slice a' n c') (ys.take n) ∧ Below w3.heap.size w3 wr ∧ w3.heap.size + 1 ≤ wr.heap.size) (fun i _ => A - (intOf i).toNat)
        case atStart => exact ⟨0, n, a', c', Nat.zero_le _, by rw [← HYN.out]; exact Nat.zero_add _, rfl, HP.out, HO.out, HB.out, HSZ.out⟩
        case round =>
          clear HBw HP HO HB HSZ HYN HBo
          obtain ⟨x, n, a', c', hx0, hxn, rfl, hP, hO, hB, hsz⟩ := hrel
          have HP := Lib.hid hP; clear hP
          have HO := Lib.hid hO; clear hO
          have HB := Lib.hid hB; clear hB
          have HSZ := Lib.hid hsz; clear hsz
          have HBw : Hid (Below w.heap.size w wr) := Below.trans HB3.out (HB.out.mono HB3.out.size)
          obtain ⟨c0, c1, c2, e0, e1, e2, f0, f1, f2, sz⟩ := (M3.out.next HB.out M3.out.sz)
          obtain ⟨d0, d1, d2, d3, d4, d5⟩ := HP.out
          have HMC := Lib.hid (And.intro c0 c2)
          by_cases hxA : x < A
          · have hn : n < A * C := by rw [← hxn]; exact HPL.out x y hxA hyC
            obtain ⟨n0, hn0e⟩ : ∃ n0, halfAt W n = n0 := ⟨_, rfl⟩
            have HN0 := Lib.hid hn0e
            have hat : 2 * x + 2 * W * y = n0 := by rw [← hn0e, ← hxn]; exact (HHP.out x y hxA).symm
            have HXN := Lib.hid hxn
            clear hn0e hxn
            obtain ⟨P, hP⟩ : ∃ P, 2 * W * y = P := ⟨_, rfl⟩
            have hwl := HW.out
            have hPm : P ≤ 256 := by rw [← hP]; exact Nat.mul_le_mul (show 2 * W ≤ 32 by omega) (show y ≤ 8 by omega)
            have hPI : (W : Int) * 2 * (y : Int) = (P : Int) := by rw [← hP, Int.mul_comm (W : Int) 2]; simp
            rw [hP] at hat
            clear hP
            have m3 : IntKind.i64.wrap ((2 : Int) * (x : Int)) = (2 : Int) * (x : Int) := IntWalk.i64_in _ (by omega)
            have m4 : IntKind.i64.wrap ((W : Int) * 2) = (W : Int) * 2 := IntWalk.i64_in _ (by omega)
            have m5 : IntKind.i64.wrap (P : Int) = (P : Int) := IntWalk.i64_in _ (by omega)
            have m6 : IntKind.i64.wrap ((2 : Int) * (x : Int) + (P : Int)) = (n0 : Int) := (IntWalk.i64_in _ (by omega)).trans (by omega)
            have hq := HIN.out n hn
            rw [HN0.out] at hq
            obtain ⟨p2, hp2e⟩ : ∃ p2, n0 + 1 = p2 := ⟨_, rfl⟩
            obtain ⟨p3, hp3e⟩ : ∃ p3, n0 + W = p3 := ⟨_, rfl⟩
            obtain ⟨p4, hp4e⟩ : ∃ p4, p3 + 1 = p4 := ⟨_, rfl⟩
            have hp1 : n0 < xs.length := by omega
            have hp2 : p2 < xs.length := by omega
            have hp3 : p3 < xs.length := by omega
            have hp4 : p4 < xs.length := by omega
            obtain ⟨b1, o1, v1, rfl, hw1, HX1⟩ := HS.out.at hp1
            obtain ⟨b1', o1', v2, he2, hw2, HX2⟩ := HS.out.at hp2
            obtain ⟨rfl, rfl⟩ : b1 = b1' ∧ o1 = o1' := by simpa using he2
            clear he2
            obtain ⟨b1', o1', v3, he3, hw3, HX3⟩ := HS.out.at hp3
            obtain ⟨rfl, rfl⟩ : b1 = b1' ∧ o1 = o1' := by simpa using he3
            clear he3
            obtain ⟨b1', o1', v4, he4, hw4, HX4⟩ := HS.out.at hp4
            obtain ⟨rfl, rfl⟩ : b1 = b1' ∧ o1 = o1' := by simpa using he4
            clear he4
            have hb1w := cell_lt hw1
            dsimp only at hb1w
            have HB1 := Lib.hid hb1w
            have HCX : Hid (wr.cell? ⟨b1, o1 + n0, none⟩ = some (.int .i64 v1) ∧ wr.cell? ⟨b1, o1 + p2, none⟩ = some (.int .i64 v2) ∧ wr.cell? ⟨b1, o1 + p3, none⟩ = some (.int .i64 v3) ∧ wr.cell? ⟨b1, o1 + p4, none⟩ = some (.int .i64 v4)) :=
              ⟨(HBw.out.cell (p := ⟨b1, o1 + n0, none⟩) hb1w).trans hw1, (HBw.out.cell (p := ⟨b1, o1 + p2, none⟩) hb1w).trans hw2, (HBw.out.cell (p := ⟨b1, o1 + p3, none⟩) hb1w).trans hw3, (HBw.out.cell (p := ⟨b1, o1 + p4, none⟩) hb1w).trans hw4⟩
            clear hw1 hw2 hw3 hw4 hb1w
            have hv1 := allB_get HALL.out HX1.out
            have hv2 := allB_get HALL.out HX2.out
            have hv3 := allB_get HALL.out HX3.out
            have hv4 := allB_get HALL.out HX4.out
            have HQ : Hid (ys.take (n + 1) = ys.take n ++ [(v1 + v2 + v3 + v4) / 4]) := by
              show _ = _
              rw [HTK.out n hn, HN0.out]
              unfold quad
              rw [show n0 + W + 1 = p4 by omega, hp2e, hp3e, gt_some' HX1.out, gt_some' HX2.out, gt_some' HX3.out, gt_some' HX4.out]
            have s1 : IntKind.i64.wrap (v1 + v2) = v1 + v2 := IntWalk.i64_in _ (by omega)
            have s2 : IntKind.i64.wrap (v1 + v2 + v3) = v1 + v2 + v3 := IntWalk.i64_in _ (by omega)
            have s3 : IntKind.i64.wrap (v1 + v2 + v3 + v4) = v1 + v2 + v3 + v4 := IntWalk.i64_in _ (by omega)
            have i1 : IntKind.i64.wrap ((n0 : Int) + 1) = (p2 : Int) := (IntWalk.i64_in _ (by omega)).trans (by omega)
            have i2 : IntKind.i64.wrap ((n0 : Int) + (W : Int)) = (p3 : Int) := (IntWalk.i64_in _ (by omega)).trans (by omega)
            have i3 : IntKind.i64.wrap ((p3 : Int) + 1) = (p4 : Int) := (IntWalk.i64_in _ (by omega)).trans (by omega)
            clear hv1 hv2 hv3 hv4 hp2e hp3e hp4e hq
            obtain ⟨cx1, cx2, cx3, cx4⟩ := HCX.out
            clear hwl hPm hat
            have HLN : Hid ((ys.take n).length ≤ 100000) := by show _ ≤ _; rw [List.length_take]; have := HA1.out; omega
            obtain ⟨L, hL⟩ : ∃ L, ys.take (n + 1) = L := ⟨_, rfl⟩
            have HLL : Hid (L.length = n + 1) := by show _ = _; rw [← hL, List.length_take, HYL.out]; omega
            have HLE : Hid (ys.take n ++ [(v1 + v2 + v3 + v4) / 4] = L) := by show _ = _; rw [← hL, HQ.out]
            have HLT := Lib.hid hL; clear hL
            have m3' : wrap64 ((2 : Int) * (x : Int)) = (2 : Int) * (x : Int) := by rw [wrap_is]; exact m3
            have m4' : wrap64 ((W : Int) * 2) = (W : Int) * 2 := by rw [wrap_is]; exact m4
            have m5' : wrap64 (P : Int) = (P : Int) := by rw [wrap_is]; exact m5
            have m6' : wrap64 ((2 : Int) * (x : Int) + (P : Int)) = (n0 : Int) := by rw [wrap_is]; exact m6
            have i2' : wrap64 ((n0 : Int) + (W : Int)) = (p3 : Int) := by rw [wrap_is]; exact i2
            go_wp2
            clear m3 m4 m5 m6 m3' m4' m5' m6' hPI i2 i2'
            go_region_held_law (fun w' => w'.cell? ⟨w.heap.size, 0, none⟩ = some (.int .i64 W) ∧ w'.cell? ⟨w.heap.size, 2, none⟩ = some (.slice (some ⟨b1, o1, none⟩) xs.length ca) ∧ w'.cell? ⟨b1, o1 + n0, none⟩ = some (.int .i64 v1) ∧ w'.cell? ⟨b1, o1 + p2, none⟩ = some (.int .i64 v2) ∧ w'.cell? ⟨b1, o1 + p3, none⟩ = some (.int .i64 v3) ∧ w'.cell? ⟨b1, o1 + p4, none⟩ = some (.int .i64 v4)) (first | exact ⟨by assumption, by assumption, by assumption, by assumption, by assumption, by assumption⟩ | go_keep) (fail)
            · go_wp2
              have HAB : Hid (∀ w', Below (w3.heap.size + 1) wr w' → (w'.cell? ⟨w.heap.size, 0, none⟩ = some (.int .i64 W) ∧ w'.cell? ⟨w.heap.size, 2, none⟩ = some (.slice (some ⟨b1, o1, none⟩) xs.length ca) ∧ w'.cell? ⟨b1, o1 + n0, none⟩ = some (.int .i64 v1) ∧ w'.cell? ⟨b1, o1 + p2, none⟩ = some (.int .i64 v2) ∧ w'.cell? ⟨b1, o1 + p3, none⟩ = some (.int .i64 v3) ∧ w'.cell? ⟨b1, o1 + p4, none⟩ = some (.int .i64 v4)) ∧ w'.cell? ⟨w3.heap.size, 2, none⟩ = some (.slice a' n c')) := fun w' h => by
                have hb := HB1.out
                exact ⟨⟨(h.cell (p := ⟨w.heap.size, 0, none⟩) (by show w.heap.size < _; omega)).trans HMC.out.1, (h.cell (p := ⟨w.heap.size, 2, none⟩) (by show w.heap.size < _; omega)).trans HMC.out.2, (h.cell (p := ⟨b1, o1 + n0, none⟩) (by show b1 < _; omega)).trans HCX.out.1, (h.cell (p := ⟨b1, o1 + p2, none⟩) (by show b1 < _; omega)).trans HCX.out.2.1, (h.cell (p := ⟨b1, o1 + p3, none⟩) (by show b1 < _; omega)).trans HCX.out.2.2.1, (h.cell (p := ⟨b1, o1 + p4, none⟩) (by show b1 < _; omega)).trans HCX.out.2.2.2⟩, (h.cell (p := ⟨w3.heap.size, 2, none⟩) (by show w3.heap.size < _; omega)).trans HP.out.o2⟩
              have HA : Hid (∀ w' u, Below (w3.heap.size + 1) wr w' → (fun w' => w'.cell? ⟨w.heap.size, 0, none⟩ = some (.int .i64 W) ∧ w'.cell? ⟨w.heap.size, 2, none⟩ = some (.slice (some ⟨b1, o1, none⟩) xs.length ca) ∧ w'.cell? ⟨b1, o1 + n0, none⟩ = some (.int .i64 v1) ∧ w'.cell? ⟨b1, o1 + p2, none⟩ = some (.int .i64 v2) ∧ w'.cell? ⟨b1, o1 + p3, none⟩ = some (.int .i64 v3) ∧ w'.cell? ⟨b1, o1 + p4, none⟩ = some (.int .i64 v4)) (w'.setCell ⟨w3.heap.size, 2, none⟩ u)) := fun w' u h => by
                have hb := HB1.out
                exact ⟨(cell_other _ _ _ _ (by show w.heap.size ≠ w3.heap.size; omega)).trans (HAB.out w' h).1.1, (cell_other _ _ _ _ (by show w.heap.size ≠ w3.heap.size; omega)).trans (HAB.out w' h).1.2.1, (cell_other _ _ _ _ (by show b1 ≠ w3.heap.size; omega)).trans (HAB.out w' h).1.2.2.1, (cell_other _ _ _ _ (by show b1 ≠ w3.heap.size; omega)).trans (HAB.out w' h).1.2.2.2.1, (cell_other _ _ _ _ (by show b1 ≠ w3.heap.size; omega)).trans (HAB.out w' h).1.2.2.2.2.1, (cell_other _ _ _ _ (by show b1 ≠ w3.heap.size; omega)).trans (HAB.out w' h).1.2.2.2.2.2⟩
              clear c0 c1 c2 e0 e1 e2 f0 f1 f2 sz d0 d1 d2 d3 d4 d5 cx1 cx2 cx3 cx4 s1 s2 s3 i1 i3
              have HD2 : Hid (Below (w3.heap.size + 1) wr wr.drew.drew) := ((Below.refl _ _).drew).drew
              refine wp_region_G (S := untilS 8 (fun w' => w'.cell? ⟨w.heap.size, 0, none⟩ = some (.int .i64 W) ∧ w'.cell? ⟨w.heap.size, 2, none⟩ = some (.slice (some ⟨b1, o1, none⟩) xs.length ca) ∧ w'.cell? ⟨b1, o1 + n0, none⟩ = some (.int .i64 v1) ∧ w'.cell? ⟨b1, o1 + p2, none⟩ = some (.int .i64 v2) ∧ w'.cell? ⟨b1, o1 + p3, none⟩ = some (.int .i64 v3) ∧ w'.cell? ⟨b1, o1 + p4, none⟩ = some (.int .i64 v4)) (fun w' => w'.cell? ⟨w3.heap.size, 2, none⟩ = some (.slice a' n c'))) (by kernel_rfl) (untilS_all (HAB.out _ HD2.out) _) ?_
              intro hc hS
              refine wpAnyG_take (i := 0) (oi := ?oi0p) (v := ?v0p) ?hi0p (by kernel_rfl) (by kernel_rfl) (by kernel_rfl) ?hQ0p (untilS_set (by decide)) hc ?hy0p hS ?rest0p
              case hi0p => (simp only [List.getElem?_toArray, List.getElem?_cons_zero]; exact rfl)
              case hQ0p => exact fun _ _ _ h => h
              case hy0p => (refine Or.inl ⟨rfl, ?_⟩; (intro w _; go_simp; (try with_reducible rfl)))
              clear hc hS; intro hc hS
              simp only [Act.put, List.setIfInBounds_toArray, List.set_cons_zero, List.set_cons_succ]
              refine wpAnyG_take (i := 1) (oi := ?oi1p) (v := ?v1p) ?hi1p (by kernel_rfl) (by kernel_rfl) (by kernel_rfl) ?hQ1p (untilS_set (by decide)) hc ?hy1p hS ?rest1p
              case hi1p => (simp only [List.getElem?_toArray, List.getElem?_cons_succ, List.getElem?_cons_zero]; exact rfl)
              case hQ1p => exact fun _ _ _ h => h
              case hy1p => (refine Or.inl ⟨rfl, ?_⟩; (rintro w ⟨L, hsd, hL, hA, hB⟩; replace hB := hB (hsd.not (i := 1) (by kernel_rfl) hL); clear hsd hL; (try dsimp only at hA hB); go_simp; (try with_reducible rfl)))
              clear hc hS; intro hc hS
              simp only [Act.put, List.setIfInBounds_toArray, List.set_cons_zero, List.set_cons_succ]
              refine wpAnyG_take (i := 2) (oi := ?oi2p) (v := ?v2p) ?hi2p (by kernel_rfl) (by kernel_rfl) (by kernel_rfl) ?hQ2p (untilS_set (by decide)) hc ?hy2p hS ?rest2p
              case hi2p => (simp only [List.getElem?_toArray, List.getElem?_cons_succ, List.getElem?_cons_zero]; exact rfl)
              case hQ2p => exact fun _ _ _ h => h
              case hy2p => (refine Or.inl ⟨rfl, ?_⟩; (intro w _; go_simp; (try with_reducible rfl)))
              clear hc hS; intro hc hS
              simp only [Act.put, List.setIfInBounds_toArray, List.set_cons_zero, List.set_cons_succ]
              refine wpAnyG_only (i := 3) (o := ?oi3p) (by kernel_rfl) ?hi3p hc ?rest3p
              case hi3p => (simp only [List.getElem?_toArray, List.getElem?_cons_succ, List.getElem?_cons_zero]; exact rfl)
              clear hc; intro hc K hK; have HK := Lib.hid hK; clear hK
              go_simp
              refine (halfDown_any _ _).mono ?_
              rintro e wz ⟨rfl, rfl⟩
              (try dsimp only)
              refine HK.out _ _ (untilS_all (HAB.out _ HD2.out) _) ?_
              clear HK K hS; intro hS
              (try simp only [Act.put, List.setIfInBounds_toArray, List.set_cons_zero, List.set_cons_succ])
              refine wpAnyG_only (i := 4) (o := ?oi4p) (by kernel_rfl) ?hi4p hc ?rest4p
              case hi4p => (simp only [List.getElem?_toArray, List.getElem?_cons_succ, List.getElem?_cons_zero]; exact rfl)
              clear hc; intro hc K hK; have HK := Lib.hid hK; clear hK
              go_simp
              refine (halfDown_any _ _).mono ?_
              rintro e wz ⟨rfl, rfl⟩
              (try dsimp only)
              rw [half_half]
              refine HK.out _ _ (untilS_all (HAB.out _ HD2.out) _) ?_
              clear HK K hS; intro hS
              (try simp only [Act.put, List.setIfInBounds_toArray, List.set_cons_zero, List.set_cons_succ])
              refine wpAnyG_only (i := 5) (o := ?oi5p) (by kernel_rfl) ?hi5p hc ?rest5p
              case hi5p => (simp only [List.getElem?_toArray, List.getElem?_cons_succ, List.getElem?_cons_zero]; exact rfl)
              clear hc; intro hc K hK; have HK := Lib.hid hK; clear hK
              go_simp
              refine HK.out _ _ (untilS_all (HAB.out _ ((((Below.refl _ _).alloc HSZ.out _).drew).drew)) _) ?_
              clear HK K hS; intro hS
              (try simp only [Act.put, List.setIfInBounds_toArray, List.set_cons_zero, List.set_cons_succ])
              refine wpAnyG_only (i := 6) (o := ?oi6p) (by kernel_rfl) ?hi6p hc ?rest6p
              case hi6p => (simp only [List.getElem?_toArray, List.getElem?_cons_succ, List.getElem?_cons_zero]; exact rfl)
              clear hc; intro hc K hK; have HK := Lib.hid hK; clear hK
              refine step_push rfl (.tmp 80) (.tmp 84) rfl (w3.heap.size + 1) _ (ys.take n) ((v1 + v2 + v3 + v4) / 4) _ wr.heap.size (by rfl) (by rfl) (alloc_cell wr _ _ _ _ rfl) (((HO.out.below ((Below.refl _ _).alloc (Nat.le_refl _) _)).drew).drew) HLN.out (by show _ ≤ (wr.alloc _).heap.size; rw [World.size_alloc]; exact Nat.le_succ_of_le HSZ.out) ?_
              intro v' w9 ho' hb'
              rw [HLE.out] at ho'
              obtain ⟨ar', cr', rfl, sr', ltr'⟩ := ho'.row
              have HBA : Hid (Below (w3.heap.size + 1) wr w9) := ((((Below.refl _ _).alloc HSZ.out _).drew).drew).trans hb'
              have HO9 := Lib.hid ho'
              have HP9 := Lib.hid (HP.out.later HBA.out (Nat.lt_succ_self _))
              clear ho' hb' sr' ltr'
              refine HK.out _ _ (untilS_all (HAB.out _ HBA.out) _) ?_
              clear HK K hS; intro hS
              (try simp only [Act.put, List.setIfInBounds_toArray, List.set_cons_zero, List.set_cons_succ])
              refine wpAnyG_take (i := 7) (oi := ?oi7p) (v := ?v7p) ?hi7p (by kernel_rfl) (by kernel_rfl) (by kernel_rfl) ?hQ7p (untilS_set (by decide)) hc ?hy7p hS ?rest7p
              case hi7p => (simp only [List.getElem?_toArray, List.getElem?_cons_succ, List.getElem?_cons_zero]; exact rfl)
              case hQ7p => exact fun _ _ _ h => h
              case hy7p => (refine Or.inl ⟨rfl, ?_⟩; (intro w _; go_simp; (try with_reducible rfl)))
              clear hc hS; intro hc hS
              simp only [Act.put, List.setIfInBounds_toArray, List.set_cons_zero, List.set_cons_succ]
              refine wpAnyG_only (i := 8) (o := ?oi8p) (by kernel_rfl) ?hi8p hc ?rest8p
              case hi8p => (simp only [List.getElem?_toArray, List.getElem?_cons_succ, List.getElem?_cons_zero]; exact rfl)
              clear hc; intro hc K hK; have HK := Lib.hid hK; clear hK
              have gf' := HP9.out.f2
              have g2' := HP9.out.o2
              go_simp
              refine HK.out _ _ (untilS_past (HA.out _ _ HBA.out) (by first | rfl | decide)) ?_
              clear HK K hS; intro hS
              (try simp only [Act.put, List.setIfInBounds_toArray, List.set_cons_zero, List.set_cons_succ])
              refine wpAnyG_done (by kernel_rfl) ?_ _
              clear hc hS
              go_wp2
              go_roundw
              case rel =>
                refine ⟨x + 1, n + 1, ar', cr', by omega, by have := HXN.out; omega, by go_num, by rw [← HLL.out]; exact HP9.out.pix _, ?_, (HB.out.trans (HBA.out.mono (Nat.le_succ _))).setCell (Nat.le_refl _) _, ?_⟩
                · rw [HLT.out, ← HLL.out]; exact HO9.out.setBelow (Nat.lt_succ_self _) _
                · rw [World.size_setCell]; have := HBA.out.size; have := HSZ.out; omega
              case measure => simp [intOf]; omega
          · obtain rfl : x = A := by omega
            go_wp2
            go_roundw
            case rel => exact ⟨y + 1, n, a', c', by omega, by rw [Nat.mul_add, Nat.mul_one]; omega, by go_num, HP.out, HO.out, HB.out, HSZ.out⟩
            case measure => simp [intOf]; omega
      · obtain rfl : y = C := by omega
        have hF : ys.take n = ys := List.take_of_length_le (by rw [HYL.out, HYN.out]; exact Nat.le_refl _)
        rw [hF] at HO
        clear hF
        go_wp2
        refine bodyPost_ret (v := .tuple #[.agg #[.int .i64 A, .int .i64 y, .slice a' (n) c'], .int .i64 0]) (by rw [results_cell_tmp rfl]; go_simp) rfl ?_
        refine FPost.ok (base := w3.heap.size + 1) (ys := ys) ?_ (set3 (R := w.heap.size + 1) HBw.out (by omega) _ _ _) (((HO.out.setBelow (p := ⟨w.heap.size + 1, 0, none⟩) (by show w.heap.size + 1 < _; omega) _).setBelow (p := ⟨w.heap.size + 1, 1, none⟩) (by show w.heap.size + 1 < _; omega) _).setBelow (p := ⟨w.heap.size + 1, 2, none⟩) (by show w.heap.size + 1 < _; omega) _) (by rw [HYL.out, HYN.out])
        rw [HVV.out]
end Go.Proofs.Ytknhfliefkkpfab
