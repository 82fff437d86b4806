
/- Halved of layer 1 and of its answers: contracts. -/
import Derived.Test.YtknhfliefkkpfabPBox
import Derived.Test.YtknhfliefkkpfabSums2
import Derived.Deep.RegionHeldLaw
import Derived.Test.YtknhfliefkkpfabHalfMath
import Derived.Test.YtknhfliefkkpfabRMir
import Derived.Test.YtknhfliefkkpfabLift
namespace Go.Proofs.Ytknhfliefkkpfab
open Go.RowKit

set_option maxRecDepth 100000 in
set_option maxHeartbeats 1600000 in
theorem rhalved_any (wide high : Int) (a : Option Addr) (xs : List Int) (ca : Nat) (w : World) (hl : xs.length ≤ 140737488351232) (hs : Sl w a xs) :
    Calls Try.prog 26 #[.agg #[.int .i64 wide, .int .i64 high, .slice a xs.length ca]] w (FPost (halfV wide high xs) w) := by
  have HS := Lib.hid hs; clear hs
  have M0 := Lib.hid (MvBox.mk0 w (.int .i64 wide) (.int .i64 high) (.slice a xs.length ca) 24 24)
  have HB0 : Hid (Below w.heap.size w ((w.alloc (.cells #[.int .i64 wide, .int .i64 high, .slice a xs.length ca] 24)).alloc (.cells #[.int .i64 0, .int .i64 0, .slice none 0 0] 24))) := ((Below.refl _ _).alloc (Nat.le_refl _) _).alloc (by simp) _
  go_enter Try.func26, Try.ntmps26
  go_wp2_with fail
  generalize (w.alloc (.cells #[.int .i64 wide, .int .i64 high, .slice a xs.length ca] 24)).alloc (.cells #[.int .i64 0, .int .i64 0, .slice none 0 0] 24) = V0 at *
  refine (rvalid_any wide high a xs ca V0 hl (HS.out.below HB0.out)).mono ?_
  rintro e w3 ⟨rfl, hb1⟩
  have M3 := Lib.hid (M0.out.next hb1 M0.out.sz)
  have HB3 := Lib.hid (Below.trans HB0.out (hb1.mono (Nat.le_trans (Nat.le_add_right _ 2) M0.out.sz)))
  clear hb1 M0 HB0
  cases hv : validPicB wide high xs
  · have HV := Lib.hid hv; clear hv
    obtain ⟨c0, c1, c2, e0, e1, e2, f0, f1, f2, sz⟩ := M3.out
    go_wp2
    (try simp only [Exit.inBlock, Exit.then])
    refine bodyPost_ret (v := .tuple #[.agg #[.int .i64 0, .int .i64 0, .slice none 0 0], .int .i64 1]) (by rw [results_cell_tmp rfl]; go_simp) rfl ?_
    exact FPost.err 1 (halfV_1 HV.out) (set3 HB3.out (by omega) _ _ _)
  · obtain ⟨w0, w1, g0, g1, hlen, hall⟩ := validPic_of hv
    obtain ⟨W, rfl⟩ := Int.eq_ofNat_of_zero_le (show 0 ≤ wide by omega)
    obtain ⟨H, rfl⟩ := Int.eq_ofNat_of_zero_le (show 0 ≤ high by omega)
    have hlen' : xs.length = W * H := by exact_mod_cast hlen
    have HV := Lib.hid hv; clear hv
    have HALL := Lib.hid hall; clear hall
    have HL := Lib.hid hlen'; clear hlen hlen'
    have HW : Hid (1 ≤ W ∧ W ≤ 16 ∧ 1 ≤ H ∧ H ≤ 16) := by show _ ∧ _; omega
    have h256 : xs.length ≤ 256 := by rw [HL.out]; exact Nat.mul_le_mul HW.out.2.1 HW.out.2.2.2
    clear w0 w1 g0 g1
    have hG3 : w.heap.size + 2 ≤ w3.heap.size := M3.out.sz
    by_cases hw : W % 2 = 0
    case neg =>
      have r1 : (W : Int).tmod 2 = 1 := by rw [Int.tmod_eq_emod_of_nonneg (by omega)]; omega
      have r2 : (W : Int) % 2 = 1 := by omega
      obtain ⟨c0, c1, c2, e0, e1, e2, f0, f1, f2, sz⟩ := M3.out
      go_wp2
      (try simp only [Exit.inBlock, Exit.then])
      refine bodyPost_ret (v := .tuple #[.agg #[.int .i64 0, .int .i64 0, .slice none 0 0], .int .i64 9]) (by rw [results_cell_tmp rfl]; go_simp) rfl ?_
      exact FPost.err 9 (halfV_9 HV.out (.inl hw)) (set3 HB3.out (by omega) _ _ _)
    have r1 : (W : Int).tmod 2 = 0 := by rw [Int.tmod_eq_emod_of_nonneg (by omega)]; omega
    have r2 : (W : Int) % 2 = 0 := by omega
    by_cases hh : H % 2 = 0
    case neg =>
      have r3 : (H : Int).tmod 2 = 1 := by rw [Int.tmod_eq_emod_of_nonneg (by omega)]; omega
      have r4 : (H : Int) % 2 = 1 := by omega
      obtain ⟨c0, c1, c2, e0, e1, e2, f0, f1, f2, sz⟩ := M3.out
      go_wp2
      (try simp only [Exit.inBlock, Exit.then])
      refine bodyPost_ret (v := .tuple #[.agg #[.int .i64 0, .int .i64 0, .slice none 0 0], .int .i64 9]) (by rw [results_cell_tmp rfl]; go_simp) rfl ?_
      exact FPost.err 9 (halfV_9 HV.out (.inr hh)) (set3 HB3.out (by omega) _ _ _)
    have r3 : (H : Int).tmod 2 = 0 := by rw [Int.tmod_eq_emod_of_nonneg (by omega)]; omega
    have r4 : (H : Int) % 2 = 0 := by omega
    have HVV := Lib.hid (halfV_0 HV.out hw hh)
    have HIN : Hid (∀ i, i < W / 2 * (H / 2) → halfAt W i + W + 1 < xs.length) := fun i hi => by rw [HL.out]; exact quad_in hw hh hi
    have HA4 : Hid (xs.length / 4 = W / 2 * (H / 2)) := by show _ = _; rw [HL.out]; exact area4 hw hh
    obtain ⟨ys, hys⟩ : ∃ ys, halfL W H xs = ys := ⟨_, rfl⟩
    have HYL : Hid (ys.length = W / 2 * (H / 2)) := by show _ = _; rw [← hys, halfL_len]
    have HTK : Hid (∀ k, k < W / 2 * (H / 2) → ys.take (k + 1) = ys.take k ++ [quad W xs (halfAt W k) / 4]) := fun k hk => by rw [← hys]; exact halfL_take W H xs hk
    have HHP : Hid (∀ x y, x < W / 2 → halfAt W (x + W / 2 * y) = 2 * x + 2 * W * y) := fun x y hx => halfAt_place hx
    have HPL : Hid (∀ x y, x < W / 2 → y < H / 2 → x + W / 2 * y < W / 2 * (H / 2)) := fun x y hx hy => place_bd hx hy
    have HPO : Hid (∀ i, i < W / 2 * (H / 2) → i % (W / 2) < W / 2 ∧ i / (W / 2) < H / 2) := fun i hi => ⟨(place_of hi).1, (place_of hi).2.1⟩
    have HWE : Hid (2 * (W / 2) = W) := by show _ = _; omega
    rw [hys] at HVV
    clear hys
    have r5 : (W : Int).tdiv 2 = ((W / 2 : Nat) : Int) := by rw [Int.tdiv_eq_ediv_of_nonneg (by omega)]; omega
    have r6 : (W : Int) / 2 = ((W / 2 : Nat) : Int) := by omega
    have r7 : (H : Int).tdiv 2 = ((H / 2 : Nat) : Int) := by rw [Int.tdiv_eq_ediv_of_nonneg (by omega)]; omega
    have r8 : (H : Int) / 2 = ((H / 2 : Nat) : Int) := by omega
    obtain ⟨A, hA⟩ : ∃ A, W / 2 = A := ⟨_, rfl⟩
    obtain ⟨C, hC⟩ : ∃ C, H / 2 = C := ⟨_, rfl⟩
    have hA1 : A ≤ 8 := by have := HW.out; omega
    have hC1 : C ≤ 8 := by have := HW.out; omega
    have HA1 : Hid (A * C ≤ 64) := Nat.mul_le_mul hA1 hC1
    have HWE2 : Hid (1 ≤ A) := by show 1 ≤ A; have := HW.out; omega
    rw [hA, hC] at HIN HYL HTK HPL HPO HVV HA4
    rw [hA] at HHP r5 r6 HWE
    rw [hC] at r7 r8
    have m5 : IntKind.i64.wrap (A : Int) = (A : Int) := IntWalk.i64_in _ (by omega)
    have m6 : IntKind.i64.wrap (C : Int) = (C : Int) := IntWalk.i64_in _ (by omega)
    clear hA hC
    have HPN : Hid (PBox w3.heap.size A C (.slice none 0 0) (w3.alloc (.cells #[.int .i64 A, .int .i64 C, .slice none 0 0] 24)) ∧ Below w3.heap.size w3 (w3.alloc (.cells #[.int .i64 A, .int .i64 C, .slice none 0 0] 24)) ∧ w3.heap.size + 1 ≤ (w3.alloc (.cells #[.int .i64 A, .int .i64 C, .slice none 0 0] 24)).heap.size) :=
      ⟨PBox.made _ _ _ _ _ rfl, (Below.refl _ _).alloc (Nat.le_refl _) _, by rw [World.size_alloc]; exact Nat.le_refl _⟩
    obtain ⟨n0, n1, n2, _, _, _⟩ := HPN.out.1
    obtain ⟨c0, c1, c2, e0, e1, e2, f0, f1, f2, sz⟩ := M3.out
    have d2 : (w3.alloc (.cells #[.int .i64 A, .int .i64 C, .slice none 0 0] 24)).cell? ⟨w.heap.size, 2, none⟩ = some (.slice a xs.length ca) := (HPN.out.2.1.cell (p := ⟨w.heap.size, 2, none⟩) (by show w.heap.size < _; omega)).trans c2
    have r9 : (xs.length : Int).tdiv 4 = ((A * C : Nat) : Int) := by rw [Int.tdiv_eq_ediv_of_nonneg (by omega), ← HA4.out]; simp
    have ra : (xs.length : Int) / 4 = ((A * C : Nat) : Int) := by rw [← HA4.out]; simp
    obtain ⟨T, hT⟩ : ∃ T, A * C = T := ⟨_, rfl⟩
    have hT64 : T ≤ 64 := by rw [← hT]; exact HA1.out
    rw [hT] at r9 ra
    have m9 : IntKind.i64.wrap (T : Int) = (T : Int) := IntWalk.i64_in _ (by omega)
    have HT := Lib.hid hT; clear hT
    go_wp2
    clear r9 ra m9
    clear c0 c1 c2 e0 e1 e2 f0 f1 f2 sz d2 n0 n1 n2 r1 r2 r3 r4 r5 r6 r7 r8 m5 m6
    generalize w3.alloc (.cells #[.int .i64 A, .int .i64 C, .slice none 0 0] 24) = VN at *
    go_loopw [33] (fun i wr => ∃ (n : Nat) (a' : Option Addr) (c' : Nat), n ≤ T ∧ i = .int .i64 n ∧ PBox w3.heap.size A C (.slice a' n c') wr ∧ OwnI wr (w3.heap.size + 1) (.slice a' n c') (ys.take n) ∧ Below w3.heap.size w3 wr ∧ w3.heap.size + 1 ≤ wr.heap.size) (fun i _ => T - (intOf i).toNat)
    case atStart => exact ⟨0, none, 0, Nat.zero_le _, rfl, HPN.out.1, OwnI.nil _ _, HPN.out.2.1, HPN.out.2.2⟩
    case round =>
      obtain ⟨n, a', c', hn0, rfl, hP, hO, hB, hsz⟩ := hrel
      have HP := Lib.hid hP; clear hP
      have HO := Lib.hid hO; clear hO
      have HB := Lib.hid hB; clear hB
      have HSZ := Lib.hid hsz; clear hsz
      have HBw : Hid (Below w.heap.size w wr) := Below.trans HB3.out (HB.out.mono HB3.out.size)
      obtain ⟨c0, c1, c2, e0, e1, e2, f0, f1, f2, sz⟩ := (M3.out.next HB.out M3.out.sz)
      obtain ⟨d0, d1, d2, d3, d4, d5⟩ := HP.out
      have HMC := Lib.hid (And.intro c0 c2)
      by_cases hnt : n < T
      · have hn : n < A * C := by rw [HT.out]; exact hnt
        obtain ⟨hxA, hyC⟩ := HPO.out n hn
        obtain ⟨n0, hn0e⟩ : ∃ n0, halfAt W n = n0 := ⟨_, rfl⟩
        have HN0 := Lib.hid hn0e
        have hat : 2 * (n % A) + 2 * W * (n / A) = n0 := by
          rw [← hn0e]; unfold halfAt
          rw [show W / 2 = A by have := HWE.out; omega]
        clear hn0e
        have t1 : (n : Int).tmod (A : Int) = ((n % A : Nat) : Int) := by simp [Int.tmod_eq_emod_of_nonneg]
        have t2 : (n : Int).tdiv (A : Int) = ((n / A : Nat) : Int) := by simp [Int.tdiv_eq_ediv_of_nonneg]
        have t3 : (n : Int) % (A : Int) = ((n % A : Nat) : Int) := by simp
        have t4 : (n : Int) / (A : Int) = ((n / A : Nat) : Int) := by simp
        obtain ⟨x, hx⟩ : ∃ x, n % A = x := ⟨_, rfl⟩
        obtain ⟨y, hy⟩ : ∃ y, n / A = y := ⟨_, rfl⟩
        rw [hx] at hxA hat t1 t3
        rw [hy] at hyC hat t2 t4
        clear hx hy
        have y0 : ((A : Int) == 0) = false := by rw [beq_eq_false_iff_ne]; have := HWE2.out; omega
        have y1 : ((A : Int) != 0) = true := by rw [bne_iff_ne]; have := HWE2.out; omega
        have m1 : IntKind.i64.wrap (y : Int) = (y : Int) := IntWalk.i64_in _ (by omega)
        have m2 : IntKind.i64.wrap (x : Int) = (x : Int) := IntWalk.i64_in _ (by omega)
        obtain ⟨P, hP⟩ : ∃ P, 2 * W * y = P := ⟨_, rfl⟩
        have hwl := HW.out
        have hPm : P ≤ 256 := by rw [← hP]; exact Nat.mul_le_mul (show 2 * W ≤ 32 by omega) (show y ≤ 8 by omega)
        have hPI : (2 : Int) * (W : Int) * (y : Int) = (P : Int) := by rw [← hP]; simp
        rw [hP] at hat
        clear hP
        have m3 : IntKind.i64.wrap ((2 : Int) * (x : Int)) = (2 : Int) * (x : Int) := IntWalk.i64_in _ (by omega)
        have m4 : IntKind.i64.wrap ((2 : Int) * (W : Int)) = (2 : Int) * (W : Int) := IntWalk.i64_in _ (by omega)
        have m5 : IntKind.i64.wrap (P : Int) = (P : Int) := IntWalk.i64_in _ (by omega)
        have m6 : IntKind.i64.wrap ((2 : Int) * (x : Int) + (P : Int)) = (n0 : Int) := (IntWalk.i64_in _ (by omega)).trans (by omega)
        go_wp2
        go_region_held_law (fun w' => w'.cell? ⟨w.heap.size, 0, none⟩ = some (.int .i64 W) ∧ w'.cell? ⟨w3.heap.size, 0, none⟩ = some (.int .i64 A)) (first | exact ⟨by assumption, by assumption⟩ | go_keep) (fail)
        · go_wp2
          clear t1 t2 t3 t4 y0 y1 m1 m2 m3 m4 m5 m6 hPI hat hwl hPm
          have hq := HIN.out n hn
          rw [HN0.out] at hq
          obtain ⟨p2, hp2e⟩ : ∃ p2, n0 + 1 = p2 := ⟨_, rfl⟩
          obtain ⟨p3, hp3e⟩ : ∃ p3, n0 + W = p3 := ⟨_, rfl⟩
          obtain ⟨p4, hp4e⟩ : ∃ p4, p3 + 1 = p4 := ⟨_, rfl⟩
          have hp1 : n0 < xs.length := by omega
          have hp2 : p2 < xs.length := by omega
          have hp3 : p3 < xs.length := by omega
          have hp4 : p4 < xs.length := by omega
          obtain ⟨b1, o1, v1, rfl, hw1, HX1⟩ := HS.out.at hp1
          obtain ⟨b1', o1', v2, he2, hw2, HX2⟩ := HS.out.at hp2
          obtain ⟨rfl, rfl⟩ : b1 = b1' ∧ o1 = o1' := by simpa using he2
          clear he2
          obtain ⟨b1', o1', v3, he3, hw3, HX3⟩ := HS.out.at hp3
          obtain ⟨rfl, rfl⟩ : b1 = b1' ∧ o1 = o1' := by simpa using he3
          clear he3
          obtain ⟨b1', o1', v4, he4, hw4, HX4⟩ := HS.out.at hp4
          obtain ⟨rfl, rfl⟩ : b1 = b1' ∧ o1 = o1' := by simpa using he4
          clear he4
          have hb1w := cell_lt hw1
          dsimp only at hb1w
          have HB1 := Lib.hid hb1w
          have HCX : Hid (wr.cell? ⟨b1, o1 + n0, none⟩ = some (.int .i64 v1) ∧ wr.cell? ⟨b1, o1 + p2, none⟩ = some (.int .i64 v2) ∧ wr.cell? ⟨b1, o1 + p3, none⟩ = some (.int .i64 v3) ∧ wr.cell? ⟨b1, o1 + p4, none⟩ = some (.int .i64 v4)) :=
            ⟨(HBw.out.cell (p := ⟨b1, o1 + n0, none⟩) hb1w).trans hw1, (HBw.out.cell (p := ⟨b1, o1 + p2, none⟩) hb1w).trans hw2, (HBw.out.cell (p := ⟨b1, o1 + p3, none⟩) hb1w).trans hw3, (HBw.out.cell (p := ⟨b1, o1 + p4, none⟩) hb1w).trans hw4⟩
          clear hw1 hw2 hw3 hw4 hb1w
          have hv1 := allB_get HALL.out HX1.out
          have hv2 := allB_get HALL.out HX2.out
          have hv3 := allB_get HALL.out HX3.out
          have hv4 := allB_get HALL.out HX4.out
          have HQ : Hid (ys.take (n + 1) = ys.take n ++ [(v1 + v2 + v3 + v4) / 4]) := by
            show _ = _
            rw [HTK.out n hn, HN0.out]
            unfold quad
            rw [show n0 + W + 1 = p4 by omega, hp2e, hp3e, gt_some' HX1.out, gt_some' HX2.out, gt_some' HX3.out, gt_some' HX4.out]
          have s1 : IntKind.i64.wrap (v1 + v2) = v1 + v2 := IntWalk.i64_in _ (by omega)
          have s2 : IntKind.i64.wrap (v1 + v2 + v3) = v1 + v2 + v3 := IntWalk.i64_in _ (by omega)
          have s3 : IntKind.i64.wrap (v1 + v2 + v3 + v4) = v1 + v2 + v3 + v4 := IntWalk.i64_in _ (by omega)
          have i1 : IntKind.i64.wrap ((n0 : Int) + 1) = (p2 : Int) := (IntWalk.i64_in _ (by omega)).trans (by omega)
          have i2 : IntKind.i64.wrap ((n0 : Int) + (W : Int)) = (p3 : Int) := (IntWalk.i64_in _ (by omega)).trans (by omega)
          have i3 : IntKind.i64.wrap ((p3 : Int) + 1) = (p4 : Int) := (IntWalk.i64_in _ (by omega)).trans (by omega)
          clear hv1 hv2 hv3 hv4 hp2e hp3e hp4e hq
          obtain ⟨cx1, cx2, cx3, cx4⟩ := HCX.out
          have HLN : Hid ((ys.take n).length ≤ 100000) := by show _ ≤ _; rw [List.length_take]; have := HA1.out; omega
          obtain ⟨L, hL⟩ : ∃ L, ys.take (n + 1) = L := ⟨_, rfl⟩
          have HLL : Hid (L.length = n + 1) := by show _ = _; rw [← hL, List.length_take, HYL.out]; omega
          have HLE : Hid (ys.take n ++ [(v1 + v2 + v3 + v4) / 4] = L) := by show _ = _; rw [← hL, HQ.out]
          have HLT := Lib.hid hL; clear hL
          have HAB : Hid (∀ w', Below (w3.heap.size + 1) wr w' → (w'.cell? ⟨w.heap.size, 0, none⟩ = some (.int .i64 W) ∧ w'.cell? ⟨w.heap.size, 2, none⟩ = some (.slice (some ⟨b1, o1, none⟩) xs.length ca) ∧ w'.cell? ⟨b1, o1 + n0, none⟩ = some (.int .i64 v1) ∧ w'.cell? ⟨b1, o1 + p2, none⟩ = some (.int .i64 v2) ∧ w'.cell? ⟨b1, o1 + p3, none⟩ = some (.int .i64 v3) ∧ w'.cell? ⟨b1, o1 + p4, none⟩ = some (.int .i64 v4)) ∧ w'.cell? ⟨w3.heap.size, 2, none⟩ = some (.slice a' n c')) := fun w' h => by
            have hb := HB1.out
            exact ⟨⟨(h.cell (p := ⟨w.heap.size, 0, none⟩) (by show w.heap.size < _; omega)).trans HMC.out.1, (h.cell (p := ⟨w.heap.size, 2, none⟩) (by show w.heap.size < _; omega)).trans HMC.out.2, (h.cell (p := ⟨b1, o1 + n0, none⟩) (by show b1 < _; omega)).trans HCX.out.1, (h.cell (p := ⟨b1, o1 + p2, none⟩) (by show b1 < _; omega)).trans HCX.out.2.1, (h.cell (p := ⟨b1, o1 + p3, none⟩) (by show b1 < _; omega)).trans HCX.out.2.2.1, (h.cell (p := ⟨b1, o1 + p4, none⟩) (by show b1 < _; omega)).trans HCX.out.2.2.2⟩, (h.cell (p := ⟨w3.heap.size, 2, none⟩) (by show w3.heap.size < _; omega)).trans HP.out.o2⟩
          have HA : Hid (∀ w' u, Below (w3.heap.size + 1) wr w' → (fun w' => w'.cell? ⟨w.heap.size, 0, none⟩ = some (.int .i64 W) ∧ w'.cell? ⟨w.heap.size, 2, none⟩ = some (.slice (some ⟨b1, o1, none⟩) xs.length ca) ∧ w'.cell? ⟨b1, o1 + n0, none⟩ = some (.int .i64 v1) ∧ w'.cell? ⟨b1, o1 + p2, none⟩ = some (.int .i64 v2) ∧ w'.cell? ⟨b1, o1 + p3, none⟩ = some (.int .i64 v3) ∧ w'.cell? ⟨b1, o1 + p4, none⟩ = some (.int .i64 v4)) (w'.setCell ⟨w3.heap.size, 2, none⟩ u)) := fun w' u h => by
            have hb := HB1.out
            exact ⟨(cell_other _ _ _ _ (by show w.heap.size ≠ w3.heap.size; omega)).trans (HAB.out w' h).1.1, (cell_other _ _ _ _ (by show w.heap.size ≠ w3.heap.size; omega)).trans (HAB.out w' h).1.2.1, (cell_other _ _ _ _ (by show b1 ≠ w3.heap.size; omega)).trans (HAB.out w' h).1.2.2.1, (cell_other _ _ _ _ (by show b1 ≠ w3.heap.size; omega)).trans (HAB.out w' h).1.2.2.2.1, (cell_other _ _ _ _ (by show b1 ≠ w3.heap.size; omega)).trans (HAB.out w' h).1.2.2.2.2.1, (cell_other _ _ _ _ (by show b1 ≠ w3.heap.size; omega)).trans (HAB.out w' h).1.2.2.2.2.2⟩
          clear c0 c1 c2 e0 e1 e2 f0 f1 f2 sz d0 d1 d2 d3 d4 d5 cx1 cx2 cx3 cx4
          have HD2 : Hid (Below (w3.heap.size + 1) wr wr.drew.drew) := ((Below.refl _ _).drew).drew
          refine wp_region_G (S := untilS 37 (fun w' => w'.cell? ⟨w.heap.size, 0, none⟩ = some (.int .i64 W) ∧ w'.cell? ⟨w.heap.size, 2, none⟩ = some (.slice (some ⟨b1, o1, none⟩) xs.length ca) ∧ w'.cell? ⟨b1, o1 + n0, none⟩ = some (.int .i64 v1) ∧ w'.cell? ⟨b1, o1 + p2, none⟩ = some (.int .i64 v2) ∧ w'.cell? ⟨b1, o1 + p3, none⟩ = some (.int .i64 v3) ∧ w'.cell? ⟨b1, o1 + p4, none⟩ = some (.int .i64 v4)) (fun w' => w'.cell? ⟨w3.heap.size, 2, none⟩ = some (.slice a' n c'))) (by kernel_rfl) (untilS_all (HAB.out _ HD2.out) _) ?_
          intro hc hS
          refine wpAnyG_take (i := 0) (oi := ?oi0p) (v := ?v0p) ?hi0p (by kernel_rfl) (by kernel_rfl) (by kernel_rfl) ?hQ0p (untilS_set (by decide)) hc ?hy0p hS ?rest0p
          case hi0p => (simp only [List.getElem?_toArray, List.getElem?_cons_zero]; exact rfl)
          case hQ0p => exact fun _ _ _ h => h
          case hy0p => (refine Or.inl ⟨rfl, ?_⟩; (intro w _; go_simp; (try with_reducible rfl)))
          clear hc hS; intro hc hS
          simp only [Act.put, List.setIfInBounds_toArray, List.set_cons_zero, List.set_cons_succ]
          refine wpAnyG_take (i := 1) (oi := ?oi1p) (v := ?v1p) ?hi1p (by kernel_rfl) (by kernel_rfl) (by kernel_rfl) ?hQ1p (untilS_set (by decide)) hc ?hy1p hS ?rest1p
          case hi1p => (simp only [List.getElem?_toArray, List.getElem?_cons_succ, List.getElem?_cons_zero]; exact rfl)
          case hQ1p => exact fun _ _ _ h => h
          case hy1p => (refine Or.inl ⟨rfl, ?_⟩; (rintro w ⟨L, hsd, hL, hA, hB⟩; replace hB := hB (hsd.not (i := 1) (by kernel_rfl) hL); clear hsd hL; (try dsimp only at hA hB); go_simp; (try with_reducible rfl)))
          clear hc hS; intro hc hS
          simp only [Act.put, List.setIfInBounds_toArray, List.set_cons_zero, List.set_cons_succ]
          refine wpAnyG_take (i := 2) (oi := ?oi2p) (v := ?v2p) ?hi2p (by kernel_rfl) (by kernel_rfl) (by kernel_rfl) ?hQ2p (untilS_set (by decide)) hc ?hy2p hS ?rest2p
          case hi2p => (simp only [List.getElem?_toArray, List.getElem?_cons_succ, List.getElem?_cons_zero]; exact rfl)
          case hQ2p => exact fun _ _ _ h => h
          case hy2p => (refine Or.inl ⟨rfl, ?_⟩; (intro w _; go_simp; (try with_reducible rfl)))
          clear hc hS; intro hc hS
          simp only [Act.put, List.setIfInBounds_toArray, List.set_cons_zero, List.set_cons_succ]
          refine wpAnyG_take (i := 3) (oi := ?oi3p) (v := ?v3p) ?hi3p (by kernel_rfl) (by kernel_rfl) (by kernel_rfl) ?hQ3p (untilS_set (by decide)) hc ?hy3p hS ?rest3p
          case hi3p => (simp only [List.getElem?_toArray, List.getElem?_cons_succ, List.getElem?_cons_zero]; exact rfl)
          case hQ3p => exact fun _ _ _ h => h
          case hy3p => (refine Or.inl ⟨rfl, ?_⟩; (rintro w ⟨L, hsd, hL, hA, hB⟩; replace hB := hB (hsd.not (i := 3) (by kernel_rfl) hL); clear hsd hL; (try dsimp only at hA hB); go_simp; (try with_reducible rfl)))
          clear hc hS; intro hc hS
          simp only [Act.put, List.setIfInBounds_toArray, List.set_cons_zero, List.set_cons_succ]
          refine wpAnyG_take (i := 4) (oi := ?oi4p) (v := ?v4p) ?hi4p (by kernel_rfl) (by kernel_rfl) (by kernel_rfl) ?hQ4p (untilS_set (by decide)) hc ?hy4p hS ?rest4p
          case hi4p => (simp only [List.getElem?_toArray, List.getElem?_cons_succ, List.getElem?_cons_zero]; exact rfl)
          case hQ4p => exact fun _ _ _ h => h
          case hy4p => (refine Or.inl ⟨rfl, ?_⟩; (intro w _; go_simp; (try with_reducible rfl)))
          clear hc hS; intro hc hS
          simp only [Act.put, List.setIfInBounds_toArray, List.set_cons_zero, List.set_cons_succ]
          refine wpAnyG_take (i := 5) (oi := ?oi5p) (v := ?v5p) ?hi5p (by kernel_rfl) (by kernel_rfl) (by kernel_rfl) ?hQ5p (untilS_set (by decide)) hc ?hy5p hS ?rest5p
          case hi5p => (simp only [List.getElem?_toArray, List.getElem?_cons_succ, List.getElem?_cons_zero]; exact rfl)
          case hQ5p => exact fun _ _ _ h => h
          case hy5p => (refine Or.inl ⟨rfl, ?_⟩; (intro w _; go_simp; (try with_reducible rfl)))
          clear hc hS; intro hc hS
          simp only [Act.put, List.setIfInBounds_toArray, List.set_cons_zero, List.set_cons_succ]
          refine wpAnyG_take (i := 6) (oi := ?oi6p) (v := ?v6p) ?hi6p (by kernel_rfl) (by kernel_rfl) (by kernel_rfl) ?hQ6p (untilS_set (by decide)) hc ?hy6p hS ?rest6p
          case hi6p => (simp only [List.getElem?_toArray, List.getElem?_cons_succ, List.getElem?_cons_zero]; exact rfl)
          case hQ6p => exact fun _ _ _ h => h
          case hy6p => (refine Or.inl ⟨rfl, ?_⟩; (rintro w ⟨L, hsd, hL, hA, hB⟩; replace hB := hB (hsd.not (i := 6) (by kernel_rfl) hL); clear hsd hL; (try dsimp only at hA hB); go_simp; (try with_reducible rfl)))
          clear hc hS; intro hc hS
          simp only [Act.put, List.setIfInBounds_toArray, List.set_cons_zero, List.set_cons_succ]
          refine wpAnyG_take (i := 7) (oi := ?oi7p) (v := ?v7p) ?hi7p (by kernel_rfl) (by kernel_rfl) (by kernel_rfl) ?hQ7p (untilS_set (by decide)) hc ?hy7p hS ?rest7p
          case hi7p => (simp only [List.getElem?_toArray, List.getElem?_cons_succ, List.getElem?_cons_zero]; exact rfl)
          case hQ7p => exact fun _ _ _ h => h
          case hy7p => (refine Or.inl ⟨rfl, ?_⟩; (intro w _; go_simp; (try with_reducible rfl)))
          clear hc hS; intro hc hS
          simp only [Act.put, List.setIfInBounds_toArray, List.set_cons_zero, List.set_cons_succ]
          refine wpAnyG_take (i := 8) (oi := ?oi8p) (v := ?v8p) ?hi8p (by kernel_rfl) (by kernel_rfl) (by kernel_rfl) ?hQ8p (untilS_set (by decide)) hc ?hy8p hS ?rest8p
          case hi8p => (simp only [List.getElem?_toArray, List.getElem?_cons_succ, List.getElem?_cons_zero]; exact rfl)
          case hQ8p => exact fun _ _ _ h => h
          case hy8p => (refine Or.inl ⟨rfl, ?_⟩; (rintro w ⟨L, hsd, hL, hA, hB⟩; replace hB := hB (hsd.not (i := 8) (by kernel_rfl) hL); clear hsd hL; (try dsimp only at hA hB); go_simp; (try with_reducible rfl)))
          clear hc hS; intro hc hS
          simp only [Act.put, List.setIfInBounds_toArray, List.set_cons_zero, List.set_cons_succ]
          refine wpAnyG_take (i := 9) (oi := ?oi9p) (v := ?v9p) ?hi9p (by kernel_rfl) (by kernel_rfl) (by kernel_rfl) ?hQ9p (untilS_set (by decide)) hc ?hy9p hS ?rest9p
          case hi9p => (simp only [List.getElem?_toArray, List.getElem?_cons_succ, List.getElem?_cons_zero]; exact rfl)
          case hQ9p => exact fun _ _ _ h => h
          case hy9p => (refine Or.inl ⟨rfl, ?_⟩; (intro w _; go_simp; (try with_reducible rfl)))
          clear hc hS; intro hc hS
          simp only [Act.put, List.setIfInBounds_toArray, List.set_cons_zero, List.set_cons_succ]
          refine wpAnyG_take (i := 10) (oi := ?oi10p) (v := ?v10p) ?hi10p (by kernel_rfl) (by kernel_rfl) (by kernel_rfl) ?hQ10p (untilS_set (by decide)) hc ?hy10p hS ?rest10p
          case hi10p => (simp only [List.getElem?_toArray, List.getElem?_cons_succ, List.getElem?_cons_zero]; exact rfl)
          case hQ10p => exact fun _ _ _ h => h
          case hy10p => (refine Or.inl ⟨rfl, ?_⟩; (intro w _; go_simp; (try with_reducible rfl)))
          clear hc hS; intro hc hS
          simp only [Act.put, List.setIfInBounds_toArray, List.set_cons_zero, List.set_cons_succ]
          refine wpAnyG_take (i := 11) (oi := ?oi11p) (v := ?v11p) ?hi11p (by kernel_rfl) (by kernel_rfl) (by kernel_rfl) ?hQ11p (untilS_set (by decide)) hc ?hy11p hS ?rest11p
          case hi11p => (simp only [List.getElem?_toArray, List.getElem?_cons_succ, List.getElem?_cons_zero]; exact rfl)
          case hQ11p => exact fun _ _ _ h => h
          case hy11p => (refine Or.inl ⟨rfl, ?_⟩; (intro w _; go_simp; (try with_reducible rfl)))
          clear hc hS; intro hc hS
          simp only [Act.put, List.setIfInBounds_toArray, List.set_cons_zero, List.set_cons_succ]
          refine wpAnyG_take (i := 12) (oi := ?oi12p) (v := ?v12p) ?hi12p (by kernel_rfl) (by kernel_rfl) (by kernel_rfl) ?hQ12p (untilS_set (by decide)) hc ?hy12p hS ?rest12p
          case hi12p => (simp only [List.getElem?_toArray, List.getElem?_cons_succ, List.getElem?_cons_zero]; exact rfl)
          case hQ12p => exact fun _ _ _ h => h
          case hy12p => (refine Or.inl ⟨rfl, ?_⟩; (rintro w ⟨L, hsd, hL, hA, hB⟩; replace hB := hB (hsd.not (i := 12) (by kernel_rfl) hL); clear hsd hL; (try dsimp only at hA hB); go_simp; (try with_reducible rfl)))
          clear hc hS; intro hc hS
          simp only [Act.put, List.setIfInBounds_toArray, List.set_cons_zero, List.set_cons_succ]
          refine wpAnyG_take (i := 13) (oi := ?oi13p) (v := ?v13p) ?hi13p (by kernel_rfl) (by kernel_rfl) (by kernel_rfl) ?hQ13p (untilS_set (by decide)) hc ?hy13p hS ?rest13p
          case hi13p => (simp only [List.getElem?_toArray, List.getElem?_cons_succ, List.getElem?_cons_zero]; exact rfl)
          case hQ13p => exact fun _ _ _ h => h
          case hy13p => (refine Or.inl ⟨rfl, ?_⟩; (intro w _; go_simp; (try with_reducible rfl)))
          clear hc hS; intro hc hS
          simp only [Act.put, List.setIfInBounds_toArray, List.set_cons_zero, List.set_cons_succ]
          refine wpAnyG_take (i := 14) (oi := ?oi14p) (v := ?v14p) ?hi14p (by kernel_rfl) (by kernel_rfl) (by kernel_rfl) ?hQ14p (untilS_set (by decide)) hc ?hy14p hS ?rest14p
          case hi14p => (simp only [List.getElem?_toArray, List.getElem?_cons_succ, List.getElem?_cons_zero]; exact rfl)
          case hQ14p => exact fun _ _ _ h => h
          case hy14p => (refine Or.inl ⟨rfl, ?_⟩; (intro w _; go_simp; (try with_reducible rfl)))
          clear hc hS; intro hc hS
          simp only [Act.put, List.setIfInBounds_toArray, List.set_cons_zero, List.set_cons_succ]
          refine wpAnyG_take (i := 15) (oi := ?oi15p) (v := ?v15p) ?hi15p (by kernel_rfl) (by kernel_rfl) (by kernel_rfl) ?hQ15p (untilS_set (by decide)) hc ?hy15p hS ?rest15p
          case hi15p => (simp only [List.getElem?_toArray, List.getElem?_cons_succ, List.getElem?_cons_zero]; exact rfl)
          case hQ15p => exact fun _ _ _ h => h
          case hy15p => (refine Or.inl ⟨rfl, ?_⟩; (rintro w ⟨L, hsd, hL, hA, hB⟩; replace hB := hB (hsd.not (i := 15) (by kernel_rfl) hL); clear hsd hL; (try dsimp only at hA hB); go_simp; (try with_reducible rfl)))
          clear hc hS; intro hc hS
          simp only [Act.put, List.setIfInBounds_toArray, List.set_cons_zero, List.set_cons_succ]
          refine wpAnyG_take (i := 16) (oi := ?oi16p) (v := ?v16p) ?hi16p (by kernel_rfl) (by kernel_rfl) (by kernel_rfl) ?hQ16p (untilS_set (by decide)) hc ?hy16p hS ?rest16p
          case hi16p => (simp only [List.getElem?_toArray, List.getElem?_cons_succ, List.getElem?_cons_zero]; exact rfl)
          case hQ16p => exact fun _ _ _ h => h
          case hy16p => (refine Or.inl ⟨rfl, ?_⟩; (intro w _; go_simp; (try with_reducible rfl)))
          clear hc hS; intro hc hS
          simp only [Act.put, List.setIfInBounds_toArray, List.set_cons_zero, List.set_cons_succ]
          refine wpAnyG_take (i := 17) (oi := ?oi17p) (v := ?v17p) ?hi17p (by kernel_rfl) (by kernel_rfl) (by kernel_rfl) ?hQ17p (untilS_set (by decide)) hc ?hy17p hS ?rest17p
          case hi17p => (simp only [List.getElem?_toArray, List.getElem?_cons_succ, List.getElem?_cons_zero]; exact rfl)
          case hQ17p => exact fun _ _ _ h => h
          case hy17p => (refine Or.inl ⟨rfl, ?_⟩; (intro w _; go_simp; (try with_reducible rfl)))
          clear hc hS; intro hc hS
          simp only [Act.put, List.setIfInBounds_toArray, List.set_cons_zero, List.set_cons_succ]
          refine wpAnyG_take (i := 18) (oi := ?oi18p) (v := ?v18p) ?hi18p (by kernel_rfl) (by kernel_rfl) (by kernel_rfl) ?hQ18p (untilS_set (by decide)) hc ?hy18p hS ?rest18p
          case hi18p => (simp only [List.getElem?_toArray, List.getElem?_cons_succ, List.getElem?_cons_zero]; exact rfl)
          case hQ18p => exact fun _ _ _ h => h
          case hy18p => (refine Or.inl ⟨rfl, ?_⟩; (rintro w ⟨L, hsd, hL, hA, hB⟩; replace hB := hB (hsd.not (i := 18) (by kernel_rfl) hL); clear hsd hL; (try dsimp only at hA hB); go_simp; (try with_reducible rfl)))
          clear hc hS; intro hc hS
          simp only [Act.put, List.setIfInBounds_toArray, List.set_cons_zero, List.set_cons_succ]
          refine wpAnyG_take (i := 19) (oi := ?oi19p) (v := ?v19p) ?hi19p (by kernel_rfl) (by kernel_rfl) (by kernel_rfl) ?hQ19p (untilS_set (by decide)) hc ?hy19p hS ?rest19p
          case hi19p => (simp only [List.getElem?_toArray, List.getElem?_cons_succ, List.getElem?_cons_zero]; exact rfl)
          case hQ19p => exact fun _ _ _ h => h
          case hy19p => (refine Or.inl ⟨rfl, ?_⟩; (intro w _; go_simp; (try with_reducible rfl)))
          clear hc hS; intro hc hS
          simp only [Act.put, List.setIfInBounds_toArray, List.set_cons_zero, List.set_cons_succ]
          refine wpAnyG_take (i := 20) (oi := ?oi20p) (v := ?v20p) ?hi20p (by kernel_rfl) (by kernel_rfl) (by kernel_rfl) ?hQ20p (untilS_set (by decide)) hc ?hy20p hS ?rest20p
          case hi20p => (simp only [List.getElem?_toArray, List.getElem?_cons_succ, List.getElem?_cons_zero]; exact rfl)
          case hQ20p => exact fun _ _ _ h => h
          case hy20p => (refine Or.inl ⟨rfl, ?_⟩; (intro w _; go_simp; (try with_reducible rfl)))
          clear hc hS; intro hc hS
          simp only [Act.put, List.setIfInBounds_toArray, List.set_cons_zero, List.set_cons_succ]
          refine wpAnyG_take (i := 21) (oi := ?oi21p) (v := ?v21p) ?hi21p (by kernel_rfl) (by kernel_rfl) (by kernel_rfl) ?hQ21p (untilS_set (by decide)) hc ?hy21p hS ?rest21p
          case hi21p => (simp only [List.getElem?_toArray, List.getElem?_cons_succ, List.getElem?_cons_zero]; exact rfl)
          case hQ21p => exact fun _ _ _ h => h
          case hy21p => (refine Or.inl ⟨rfl, ?_⟩; (rintro w ⟨L, hsd, hL, hA, hB⟩; replace hB := hB (hsd.not (i := 21) (by kernel_rfl) hL); clear hsd hL; (try dsimp only at hA hB); go_simp; (try with_reducible rfl)))
          clear hc hS; intro hc hS
          simp only [Act.put, List.setIfInBounds_toArray, List.set_cons_zero, List.set_cons_succ]
          refine wpAnyG_take (i := 22) (oi := ?oi22p) (v := ?v22p) ?hi22p (by kernel_rfl) (by kernel_rfl) (by kernel_rfl) ?hQ22p (untilS_set (by decide)) hc ?hy22p hS ?rest22p
          case hi22p => (simp only [List.getElem?_toArray, List.getElem?_cons_succ, List.getElem?_cons_zero]; exact rfl)
          case hQ22p => exact fun _ _ _ h => h
          case hy22p => (refine Or.inl ⟨rfl, ?_⟩; (intro w _; go_simp; (try with_reducible rfl)))
          clear hc hS; intro hc hS
          simp only [Act.put, List.setIfInBounds_toArray, List.set_cons_zero, List.set_cons_succ]
          refine wpAnyG_take (i := 23) (oi := ?oi23p) (v := ?v23p) ?hi23p (by kernel_rfl) (by kernel_rfl) (by kernel_rfl) ?hQ23p (untilS_set (by decide)) hc ?hy23p hS ?rest23p
          case hi23p => (simp only [List.getElem?_toArray, List.getElem?_cons_succ, List.getElem?_cons_zero]; exact rfl)
          case hQ23p => exact fun _ _ _ h => h
          case hy23p => (refine Or.inl ⟨rfl, ?_⟩; (intro w _; go_simp; (try with_reducible rfl)))
          clear hc hS; intro hc hS
          simp only [Act.put, List.setIfInBounds_toArray, List.set_cons_zero, List.set_cons_succ]
          refine wpAnyG_take (i := 24) (oi := ?oi24p) (v := ?v24p) ?hi24p (by kernel_rfl) (by kernel_rfl) (by kernel_rfl) ?hQ24p (untilS_set (by decide)) hc ?hy24p hS ?rest24p
          case hi24p => (simp only [List.getElem?_toArray, List.getElem?_cons_succ, List.getElem?_cons_zero]; exact rfl)
          case hQ24p => exact fun _ _ _ h => h
          case hy24p => (refine Or.inl ⟨rfl, ?_⟩; (rintro w ⟨L, hsd, hL, hA, hB⟩; replace hB := hB (hsd.not (i := 24) (by kernel_rfl) hL); clear hsd hL; (try dsimp only at hA hB); go_simp; (try with_reducible rfl)))
          clear hc hS; intro hc hS
          simp only [Act.put, List.setIfInBounds_toArray, List.set_cons_zero, List.set_cons_succ]
          refine wpAnyG_take (i := 25) (oi := ?oi25p) (v := ?v25p) ?hi25p (by kernel_rfl) (by kernel_rfl) (by kernel_rfl) ?hQ25p (untilS_set (by decide)) hc ?hy25p hS ?rest25p
          case hi25p => (simp only [List.getElem?_toArray, List.getElem?_cons_succ, List.getElem?_cons_zero]; exact rfl)
          case hQ25p => exact fun _ _ _ h => h
          case hy25p => (refine Or.inl ⟨rfl, ?_⟩; (intro w _; go_simp; (try with_reducible rfl)))
          clear hc hS; intro hc hS
          simp only [Act.put, List.setIfInBounds_toArray, List.set_cons_zero, List.set_cons_succ]
          refine wpAnyG_take (i := 26) (oi := ?oi26p) (v := ?v26p) ?hi26p (by kernel_rfl) (by kernel_rfl) (by kernel_rfl) ?hQ26p (untilS_set (by decide)) hc ?hy26p hS ?rest26p
          case hi26p => (simp only [List.getElem?_toArray, List.getElem?_cons_succ, List.getElem?_cons_zero]; exact rfl)
          case hQ26p => exact fun _ _ _ h => h
          case hy26p => (refine Or.inl ⟨rfl, ?_⟩; (intro w _; go_simp; (try with_reducible rfl)))
          clear hc hS; intro hc hS
          simp only [Act.put, List.setIfInBounds_toArray, List.set_cons_zero, List.set_cons_succ]
          refine wpAnyG_take (i := 27) (oi := ?oi27p) (v := ?v27p) ?hi27p (by kernel_rfl) (by kernel_rfl) (by kernel_rfl) ?hQ27p (untilS_set (by decide)) hc ?hy27p hS ?rest27p
          case hi27p => (simp only [List.getElem?_toArray, List.getElem?_cons_succ, List.getElem?_cons_zero]; exact rfl)
          case hQ27p => exact fun _ _ _ h => h
          case hy27p => (refine Or.inl ⟨rfl, ?_⟩; (rintro w ⟨L, hsd, hL, hA, hB⟩; replace hB := hB (hsd.not (i := 27) (by kernel_rfl) hL); clear hsd hL; (try dsimp only at hA hB); go_simp; (try with_reducible rfl)))
          clear hc hS; intro hc hS
          simp only [Act.put, List.setIfInBounds_toArray, List.set_cons_zero, List.set_cons_succ]
          refine wpAnyG_take (i := 28) (oi := ?oi28p) (v := ?v28p) ?hi28p (by kernel_rfl) (by kernel_rfl) (by kernel_rfl) ?hQ28p (untilS_set (by decide)) hc ?hy28p hS ?rest28p
          case hi28p => (simp only [List.getElem?_toArray, List.getElem?_cons_succ, List.getElem?_cons_zero]; exact rfl)
          case hQ28p => exact fun _ _ _ h => h
          case hy28p => (refine Or.inl ⟨rfl, ?_⟩; (intro w _; go_simp; (try with_reducible rfl)))
          clear hc hS; intro hc hS
          simp only [Act.put, List.setIfInBounds_toArray, List.set_cons_zero, List.set_cons_succ]
          refine wpAnyG_take (i := 29) (oi := ?oi29p) (v := ?v29p) ?hi29p (by kernel_rfl) (by kernel_rfl) (by kernel_rfl) ?hQ29p (untilS_set (by decide)) hc ?hy29p hS ?rest29p
          case hi29p => (simp only [List.getElem?_toArray, List.getElem?_cons_succ, List.getElem?_cons_zero]; exact rfl)
          case hQ29p => exact fun _ _ _ h => h
          case hy29p => (refine Or.inl ⟨rfl, ?_⟩; (intro w _; go_simp; (try with_reducible rfl)))
          clear hc hS; intro hc hS
          simp only [Act.put, List.setIfInBounds_toArray, List.set_cons_zero, List.set_cons_succ]
          refine wpAnyG_take (i := 30) (oi := ?oi30p) (v := ?v30p) ?hi30p (by kernel_rfl) (by kernel_rfl) (by kernel_rfl) ?hQ30p (untilS_set (by decide)) hc ?hy30p hS ?rest30p
          case hi30p => (simp only [List.getElem?_toArray, List.getElem?_cons_succ, List.getElem?_cons_zero]; exact rfl)
          case hQ30p => exact fun _ _ _ h => h
          case hy30p => (refine Or.inl ⟨rfl, ?_⟩; (intro w _; go_simp; (try with_reducible rfl)))
          clear hc hS; intro hc hS
          simp only [Act.put, List.setIfInBounds_toArray, List.set_cons_zero, List.set_cons_succ]
          refine wpAnyG_take (i := 31) (oi := ?oi31p) (v := ?v31p) ?hi31p (by kernel_rfl) (by kernel_rfl) (by kernel_rfl) ?hQ31p (untilS_set (by decide)) hc ?hy31p hS ?rest31p
          case hi31p => (simp only [List.getElem?_toArray, List.getElem?_cons_succ, List.getElem?_cons_zero]; exact rfl)
          case hQ31p => exact fun _ _ _ h => h
          case hy31p => (refine Or.inl ⟨rfl, ?_⟩; (rintro w ⟨L, hsd, hL, hA, hB⟩; replace hB := hB (hsd.not (i := 31) (by kernel_rfl) hL); clear hsd hL; (try dsimp only at hA hB); go_simp; (try with_reducible rfl)))
          clear hc hS; intro hc hS
          simp only [Act.put, List.setIfInBounds_toArray, List.set_cons_zero, List.set_cons_succ]
          refine wpAnyG_take (i := 32) (oi := ?oi32p) (v := ?v32p) ?hi32p (by kernel_rfl) (by kernel_rfl) (by kernel_rfl) ?hQ32p (untilS_set (by decide)) hc ?hy32p hS ?rest32p
          case hi32p => (simp only [List.getElem?_toArray, List.getElem?_cons_succ, List.getElem?_cons_zero]; exact rfl)
          case hQ32p => exact fun _ _ _ h => h
          case hy32p => (refine Or.inl ⟨rfl, ?_⟩; (intro w _; go_simp; (try with_reducible rfl)))
          clear hc hS; intro hc hS
          simp only [Act.put, List.setIfInBounds_toArray, List.set_cons_zero, List.set_cons_succ]
          refine wpAnyG_take (i := 33) (oi := ?oi33p) (v := ?v33p) ?hi33p (by kernel_rfl) (by kernel_rfl) (by kernel_rfl) ?hQ33p (untilS_set (by decide)) hc ?hy33p hS ?rest33p
          case hi33p => (simp only [List.getElem?_toArray, List.getElem?_cons_succ, List.getElem?_cons_zero]; exact rfl)
          case hQ33p => exact fun _ _ _ h => h
          case hy33p => (refine Or.inl ⟨rfl, ?_⟩; (intro w _; go_simp; (try with_reducible rfl)))
          clear hc hS; intro hc hS
          simp only [Act.put, List.setIfInBounds_toArray, List.set_cons_zero, List.set_cons_succ]
          refine wpAnyG_only (i := 34) (o := ?oi34p) (by kernel_rfl) ?hi34p hc ?rest34p
          case hi34p => (simp only [List.getElem?_toArray, List.getElem?_cons_succ, List.getElem?_cons_zero]; exact rfl)
          clear hc; intro hc K hK; have HK := Lib.hid hK; clear hK
          go_simp
          refine HK.out _ _ (untilS_all (HAB.out _ ((((Below.refl _ _).alloc HSZ.out _).drew).drew)) _) ?_
          clear HK K hS; intro hS
          (try simp only [Act.put, List.setIfInBounds_toArray, List.set_cons_zero, List.set_cons_succ])
          refine wpAnyG_only (i := 35) (o := ?oi35p) (by kernel_rfl) ?hi35p hc ?rest35p
          case hi35p => (simp only [List.getElem?_toArray, List.getElem?_cons_succ, List.getElem?_cons_zero]; exact rfl)
          clear hc; intro hc K hK; have HK := Lib.hid hK; clear hK
          refine step_push rfl (.tmp 51) (.tmp 84) rfl (w3.heap.size + 1) _ (ys.take n) ((v1 + v2 + v3 + v4) / 4) _ wr.heap.size (by rfl) (by rfl) (alloc_cell wr _ _ _ _ rfl) (((HO.out.below ((Below.refl _ _).alloc (Nat.le_refl _) _)).drew).drew) HLN.out (by show _ ≤ (wr.alloc _).heap.size; rw [World.size_alloc]; exact Nat.le_succ_of_le HSZ.out) ?_
          intro v' w9 ho' hb'
          rw [HLE.out] at ho'
          obtain ⟨ar', cr', rfl, sr', ltr'⟩ := ho'.row
          have HBA : Hid (Below (w3.heap.size + 1) wr w9) := ((((Below.refl _ _).alloc HSZ.out _).drew).drew).trans hb'
          have HO9 := Lib.hid ho'
          have HP9 := Lib.hid (HP.out.later HBA.out (Nat.lt_succ_self _))
          clear ho' hb' sr' ltr'
          refine HK.out _ _ (untilS_all (HAB.out _ HBA.out) _) ?_
          clear HK K hS; intro hS
          (try simp only [Act.put, List.setIfInBounds_toArray, List.set_cons_zero, List.set_cons_succ])
          refine wpAnyG_take (i := 36) (oi := ?oi36p) (v := ?v36p) ?hi36p (by kernel_rfl) (by kernel_rfl) (by kernel_rfl) ?hQ36p (untilS_set (by decide)) hc ?hy36p hS ?rest36p
          case hi36p => (simp only [List.getElem?_toArray, List.getElem?_cons_succ, List.getElem?_cons_zero]; exact rfl)
          case hQ36p => exact fun _ _ _ h => h
          case hy36p => (refine Or.inl ⟨rfl, ?_⟩; (intro w _; go_simp; (try with_reducible rfl)))
          clear hc hS; intro hc hS
          simp only [Act.put, List.setIfInBounds_toArray, List.set_cons_zero, List.set_cons_succ]
          refine wpAnyG_only (i := 37) (o := ?oi37p) (by kernel_rfl) ?hi37p hc ?rest37p
          case hi37p => (simp only [List.getElem?_toArray, List.getElem?_cons_succ, List.getElem?_cons_zero]; exact rfl)
          clear hc; intro hc K hK; have HK := Lib.hid hK; clear hK
          have gf' := HP9.out.f2
          have g2' := HP9.out.o2
          go_simp
          refine HK.out _ _ (untilS_past (HA.out _ _ HBA.out) (by first | rfl | decide)) ?_
          clear HK K hS; intro hS
          (try simp only [Act.put, List.setIfInBounds_toArray, List.set_cons_zero, List.set_cons_succ])
          refine wpAnyG_done (by kernel_rfl) ?_ _
          clear hc hS
          go_wp2
          go_roundw
          case rel =>
            refine ⟨n + 1, ar', cr', by omega, by go_num, by rw [← HLL.out]; exact HP9.out.pix _, ?_, (HB.out.trans (HBA.out.mono (Nat.le_succ _))).setCell (Nat.le_refl _) _, ?_⟩
            · rw [HLT.out, ← HLL.out]; exact HO9.out.setBelow (Nat.lt_succ_self _) _
            · rw [World.size_setCell]; have := HBA.out.size; have := HSZ.out; omega
          case measure => simp [intOf]; omega
        · go_wp2
          clear t1 t2 t3 t4 y0 y1 m1 m2 m3 m4 m5 m6 hPI hat hwl hPm
          have hq := HIN.out n hn
          rw [HN0.out] at hq
          obtain ⟨p2, hp2e⟩ : ∃ p2, n0 + 1 = p2 := ⟨_, rfl⟩
          obtain ⟨p3, hp3e⟩ : ∃ p3, n0 + W = p3 := ⟨_, rfl⟩
          obtain ⟨p4, hp4e⟩ : ∃ p4, p3 + 1 = p4 := ⟨_, rfl⟩
          have hp1 : n0 < xs.length := by omega
          have hp2 : p2 < xs.length := by omega
          have hp3 : p3 < xs.length := by omega
          have hp4 : p4 < xs.length := by omega
          obtain ⟨b1, o1, v1, rfl, hw1, HX1⟩ := HS.out.at hp1
          obtain ⟨b1', o1', v2, he2, hw2, HX2⟩ := HS.out.at hp2
          obtain ⟨rfl, rfl⟩ : b1 = b1' ∧ o1 = o1' := by simpa using he2
          clear he2
          obtain ⟨b1', o1', v3, he3, hw3, HX3⟩ := HS.out.at hp3
          obtain ⟨rfl, rfl⟩ : b1 = b1' ∧ o1 = o1' := by simpa using he3
          clear he3
          obtain ⟨b1', o1', v4, he4, hw4, HX4⟩ := HS.out.at hp4
          obtain ⟨rfl, rfl⟩ : b1 = b1' ∧ o1 = o1' := by simpa using he4
          clear he4
          have hb1w := cell_lt hw1
          dsimp only at hb1w
          have HB1 := Lib.hid hb1w
          have HCX : Hid (wr.cell? ⟨b1, o1 + n0, none⟩ = some (.int .i64 v1) ∧ wr.cell? ⟨b1, o1 + p2, none⟩ = some (.int .i64 v2) ∧ wr.cell? ⟨b1, o1 + p3, none⟩ = some (.int .i64 v3) ∧ wr.cell? ⟨b1, o1 + p4, none⟩ = some (.int .i64 v4)) :=
            ⟨(HBw.out.cell (p := ⟨b1, o1 + n0, none⟩) hb1w).trans hw1, (HBw.out.cell (p := ⟨b1, o1 + p2, none⟩) hb1w).trans hw2, (HBw.out.cell (p := ⟨b1, o1 + p3, none⟩) hb1w).trans hw3, (HBw.out.cell (p := ⟨b1, o1 + p4, none⟩) hb1w).trans hw4⟩
          clear hw1 hw2 hw3 hw4 hb1w
          have hv1 := allB_get HALL.out HX1.out
          have hv2 := allB_get HALL.out HX2.out
          have hv3 := allB_get HALL.out HX3.out
          have hv4 := allB_get HALL.out HX4.out
          have HQ : Hid (ys.take (n + 1) = ys.take n ++ [(v1 + v2 + v3 + v4) / 4]) := by
            show _ = _
            rw [HTK.out n hn, HN0.out]
            unfold quad
            rw [show n0 + W + 1 = p4 by omega, hp2e, hp3e, gt_some' HX1.out, gt_some' HX2.out, gt_some' HX3.out, gt_some' HX4.out]
          have s1 : IntKind.i64.wrap (v1 + v2) = v1 + v2 := IntWalk.i64_in _ (by omega)
          have s2 : IntKind.i64.wrap (v1 + v2 + v3) = v1 + v2 + v3 := IntWalk.i64_in _ (by omega)
          have s3 : IntKind.i64.wrap (v1 + v2 + v3 + v4) = v1 + v2 + v3 + v4 := IntWalk.i64_in _ (by omega)
          have i1 : IntKind.i64.wrap ((n0 : Int) + 1) = (p2 : Int) := (IntWalk.i64_in _ (by omega)).trans (by omega)
          have i2 : IntKind.i64.wrap ((n0 : Int) + (W : Int)) = (p3 : Int) := (IntWalk.i64_in _ (by omega)).trans (by omega)
          have i3 : IntKind.i64.wrap ((p3 : Int) + 1) = (p4 : Int) := (IntWalk.i64_in _ (by omega)).trans (by omega)
          clear hv1 hv2 hv3 hv4 hp2e hp3e hp4e hq
          obtain ⟨cx1, cx2, cx3, cx4⟩ := HCX.out
          have HLN : Hid ((ys.take n).length ≤ 100000) := by show _ ≤ _; rw [List.length_take]; have := HA1.out; omega
          obtain ⟨L, hL⟩ : ∃ L, ys.take (n + 1) = L := ⟨_, rfl⟩
          have HLL : Hid (L.length = n + 1) := by show _ = _; rw [← hL, List.length_take, HYL.out]; omega
          have HLE : Hid (ys.take n ++ [(v1 + v2 + v3 + v4) / 4] = L) := by show _ = _; rw [← hL, HQ.out]
          have HLT := Lib.hid hL; clear hL
          have HAB : Hid (∀ w', Below (w3.heap.size + 1) wr w' → (w'.cell? ⟨w.heap.size, 0, none⟩ = some (.int .i64 W) ∧ w'.cell? ⟨w.heap.size, 2, none⟩ = some (.slice (some ⟨b1, o1, none⟩) xs.length ca) ∧ w'.cell? ⟨b1, o1 + n0, none⟩ = some (.int .i64 v1) ∧ w'.cell? ⟨b1, o1 + p2, none⟩ = some (.int .i64 v2) ∧ w'.cell? ⟨b1, o1 + p3, none⟩ = some (.int .i64 v3) ∧ w'.cell? ⟨b1, o1 + p4, none⟩ = some (.int .i64 v4)) ∧ w'.cell? ⟨w3.heap.size, 2, none⟩ = some (.slice a' n c')) := fun w' h => by
            have hb := HB1.out
            exact ⟨⟨(h.cell (p := ⟨w.heap.size, 0, none⟩) (by show w.heap.size < _; omega)).trans HMC.out.1, (h.cell (p := ⟨w.heap.size, 2, none⟩) (by show w.heap.size < _; omega)).trans HMC.out.2, (h.cell (p := ⟨b1, o1 + n0, none⟩) (by show b1 < _; omega)).trans HCX.out.1, (h.cell (p := ⟨b1, o1 + p2, none⟩) (by show b1 < _; omega)).trans HCX.out.2.1, (h.cell (p := ⟨b1, o1 + p3, none⟩) (by show b1 < _; omega)).trans HCX.out.2.2.1, (h.cell (p := ⟨b1, o1 + p4, none⟩) (by show b1 < _; omega)).trans HCX.out.2.2.2⟩, (h.cell (p := ⟨w3.heap.size, 2, none⟩) (by show w3.heap.size < _; omega)).trans HP.out.o2⟩
          have HA : Hid (∀ w' u, Below (w3.heap.size + 1) wr w' → (fun w' => w'.cell? ⟨w.heap.size, 0, none⟩ = some (.int .i64 W) ∧ w'.cell? ⟨w.heap.size, 2, none⟩ = some (.slice (some ⟨b1, o1, none⟩) xs.length ca) ∧ w'.cell? ⟨b1, o1 + n0, none⟩ = some (.int .i64 v1) ∧ w'.cell? ⟨b1, o1 + p2, none⟩ = some (.int .i64 v2) ∧ w'.cell? ⟨b1, o1 + p3, none⟩ = some (.int .i64 v3) ∧ w'.cell? ⟨b1, o1 + p4, none⟩ = some (.int .i64 v4)) (w'.setCell ⟨w3.heap.size, 2, none⟩ u)) := fun w' u h => by
            have hb := HB1.out
            exact ⟨(cell_other _ _ _ _ (by show w.heap.size ≠ w3.heap.size; omega)).trans (HAB.out w' h).1.1, (cell_other _ _ _ _ (by show w.heap.size ≠ w3.heap.size; omega)).trans (HAB.out w' h).1.2.1, (cell_other _ _ _ _ (by show b1 ≠ w3.heap.size; omega)).trans (HAB.out w' h).1.2.2.1, (cell_other _ _ _ _ (by show b1 ≠ w3.heap.size; omega)).trans (HAB.out w' h).1.2.2.2.1, (cell_other _ _ _ _ (by show b1 ≠ w3.heap.size; omega)).trans (HAB.out w' h).1.2.2.2.2.1, (cell_other _ _ _ _ (by show b1 ≠ w3.heap.size; omega)).trans (HAB.out w' h).1.2.2.2.2.2⟩
          clear c0 c1 c2 e0 e1 e2 f0 f1 f2 sz d0 d1 d2 d3 d4 d5 cx1 cx2 cx3 cx4
          have HD2 : Hid (Below (w3.heap.size + 1) wr wr.drew.drew) := ((Below.refl _ _).drew).drew
          refine wp_region_G (S := untilS 37 (fun w' => w'.cell? ⟨w.heap.size, 0, none⟩ = some (.int .i64 W) ∧ w'.cell? ⟨w.heap.size, 2, none⟩ = some (.slice (some ⟨b1, o1, none⟩) xs.length ca) ∧ w'.cell? ⟨b1, o1 + n0, none⟩ = some (.int .i64 v1) ∧ w'.cell? ⟨b1, o1 + p2, none⟩ = some (.int .i64 v2) ∧ w'.cell? ⟨b1, o1 + p3, none⟩ = some (.int .i64 v3) ∧ w'.cell? ⟨b1, o1 + p4, none⟩ = some (.int .i64 v4)) (fun w' => w'.cell? ⟨w3.heap.size, 2, none⟩ = some (.slice a' n c'))) (by kernel_rfl) (untilS_all (HAB.out _ HD2.out) _) ?_
          intro hc hS
          refine wpAnyG_take (i := 0) (oi := ?oi0q) (v := ?v0q) ?hi0q (by kernel_rfl) (by kernel_rfl) (by kernel_rfl) ?hQ0q (untilS_set (by decide)) hc ?hy0q hS ?rest0q
          case hi0q => (simp only [List.getElem?_toArray, List.getElem?_cons_zero]; exact rfl)
          case hQ0q => exact fun _ _ _ h => h
          case hy0q => (refine Or.inl ⟨rfl, ?_⟩; (intro w _; go_simp; (try with_reducible rfl)))
          clear hc hS; intro hc hS
          simp only [Act.put, List.setIfInBounds_toArray, List.set_cons_zero, List.set_cons_succ]
          refine wpAnyG_take (i := 1) (oi := ?oi1q) (v := ?v1q) ?hi1q (by kernel_rfl) (by kernel_rfl) (by kernel_rfl) ?hQ1q (untilS_set (by decide)) hc ?hy1q hS ?rest1q
          case hi1q => (simp only [List.getElem?_toArray, List.getElem?_cons_succ, List.getElem?_cons_zero]; exact rfl)
          case hQ1q => exact fun _ _ _ h => h
          case hy1q => (refine Or.inl ⟨rfl, ?_⟩; (rintro w ⟨L, hsd, hL, hA, hB⟩; replace hB := hB (hsd.not (i := 1) (by kernel_rfl) hL); clear hsd hL; (try dsimp only at hA hB); go_simp; (try with_reducible rfl)))
          clear hc hS; intro hc hS
          simp only [Act.put, List.setIfInBounds_toArray, List.set_cons_zero, List.set_cons_succ]
          refine wpAnyG_take (i := 2) (oi := ?oi2q) (v := ?v2q) ?hi2q (by kernel_rfl) (by kernel_rfl) (by kernel_rfl) ?hQ2q (untilS_set (by decide)) hc ?hy2q hS ?rest2q
          case hi2q => (simp only [List.getElem?_toArray, List.getElem?_cons_succ, List.getElem?_cons_zero]; exact rfl)
          case hQ2q => exact fun _ _ _ h => h
          case hy2q => (refine Or.inl ⟨rfl, ?_⟩; (intro w _; go_simp; (try with_reducible rfl)))
          clear hc hS; intro hc hS
          simp only [Act.put, List.setIfInBounds_toArray, List.set_cons_zero, List.set_cons_succ]
          refine wpAnyG_take (i := 3) (oi := ?oi3q) (v := ?v3q) ?hi3q (by kernel_rfl) (by kernel_rfl) (by kernel_rfl) ?hQ3q (untilS_set (by decide)) hc ?hy3q hS ?rest3q
          case hi3q => (simp only [List.getElem?_toArray, List.getElem?_cons_succ, List.getElem?_cons_zero]; exact rfl)
          case hQ3q => exact fun _ _ _ h => h
          case hy3q => (refine Or.inl ⟨rfl, ?_⟩; (rintro w ⟨L, hsd, hL, hA, hB⟩; replace hB := hB (hsd.not (i := 3) (by kernel_rfl) hL); clear hsd hL; (try dsimp only at hA hB); go_simp; (try with_reducible rfl)))
          clear hc hS; intro hc hS
          simp only [Act.put, List.setIfInBounds_toArray, List.set_cons_zero, List.set_cons_succ]
          refine wpAnyG_take (i := 4) (oi := ?oi4q) (v := ?v4q) ?hi4q (by kernel_rfl) (by kernel_rfl) (by kernel_rfl) ?hQ4q (untilS_set (by decide)) hc ?hy4q hS ?rest4q
          case hi4q => (simp only [List.getElem?_toArray, List.getElem?_cons_succ, List.getElem?_cons_zero]; exact rfl)
          case hQ4q => exact fun _ _ _ h => h
          case hy4q => (refine Or.inl ⟨rfl, ?_⟩; (intro w _; go_simp; (try with_reducible rfl)))
          clear hc hS; intro hc hS
          simp only [Act.put, List.setIfInBounds_toArray, List.set_cons_zero, List.set_cons_succ]
          refine wpAnyG_take (i := 5) (oi := ?oi5q) (v := ?v5q) ?hi5q (by kernel_rfl) (by kernel_rfl) (by kernel_rfl) ?hQ5q (untilS_set (by decide)) hc ?hy5q hS ?rest5q
          case hi5q => (simp only [List.getElem?_toArray, List.getElem?_cons_succ, List.getElem?_cons_zero]; exact rfl)
          case hQ5q => exact fun _ _ _ h => h
          case hy5q => (refine Or.inl ⟨rfl, ?_⟩; (intro w _; go_simp; (try with_reducible rfl)))
          clear hc hS; intro hc hS
          simp only [Act.put, List.setIfInBounds_toArray, List.set_cons_zero, List.set_cons_succ]
          refine wpAnyG_take (i := 6) (oi := ?oi6q) (v := ?v6q) ?hi6q (by kernel_rfl) (by kernel_rfl) (by kernel_rfl) ?hQ6q (untilS_set (by decide)) hc ?hy6q hS ?rest6q
          case hi6q => (simp only [List.getElem?_toArray, List.getElem?_cons_succ, List.getElem?_cons_zero]; exact rfl)
          case hQ6q => exact fun _ _ _ h => h
          case hy6q => (refine Or.inl ⟨rfl, ?_⟩; (rintro w ⟨L, hsd, hL, hA, hB⟩; replace hB := hB (hsd.not (i := 6) (by kernel_rfl) hL); clear hsd hL; (try dsimp only at hA hB); go_simp; (try with_reducible rfl)))
          clear hc hS; intro hc hS
          simp only [Act.put, List.setIfInBounds_toArray, List.set_cons_zero, List.set_cons_succ]
          refine wpAnyG_take (i := 7) (oi := ?oi7q) (v := ?v7q) ?hi7q (by kernel_rfl) (by kernel_rfl) (by kernel_rfl) ?hQ7q (untilS_set (by decide)) hc ?hy7q hS ?rest7q
          case hi7q => (simp only [List.getElem?_toArray, List.getElem?_cons_succ, List.getElem?_cons_zero]; exact rfl)
          case hQ7q => exact fun _ _ _ h => h
          case hy7q => (refine Or.inl ⟨rfl, ?_⟩; (intro w _; go_simp; (try with_reducible rfl)))
          clear hc hS; intro hc hS
          simp only [Act.put, List.setIfInBounds_toArray, List.set_cons_zero, List.set_cons_succ]
          refine wpAnyG_take (i := 8) (oi := ?oi8q) (v := ?v8q) ?hi8q (by kernel_rfl) (by kernel_rfl) (by kernel_rfl) ?hQ8q (untilS_set (by decide)) hc ?hy8q hS ?rest8q
          case hi8q => (simp only [List.getElem?_toArray, List.getElem?_cons_succ, List.getElem?_cons_zero]; exact rfl)
          case hQ8q => exact fun _ _ _ h => h
          case hy8q => (refine Or.inl ⟨rfl, ?_⟩; (rintro w ⟨L, hsd, hL, hA, hB⟩; replace hB := hB (hsd.not (i := 8) (by kernel_rfl) hL); clear hsd hL; (try dsimp only at hA hB); go_simp; (try with_reducible rfl)))
          clear hc hS; intro hc hS
          simp only [Act.put, List.setIfInBounds_toArray, List.set_cons_zero, List.set_cons_succ]
          refine wpAnyG_take (i := 9) (oi := ?oi9q) (v := ?v9q) ?hi9q (by kernel_rfl) (by kernel_rfl) (by kernel_rfl) ?hQ9q (untilS_set (by decide)) hc ?hy9q hS ?rest9q
          case hi9q => (simp only [List.getElem?_toArray, List.getElem?_cons_succ, List.getElem?_cons_zero]; exact rfl)
          case hQ9q => exact fun _ _ _ h => h
          case hy9q => (refine Or.inl ⟨rfl, ?_⟩; (intro w _; go_simp; (try with_reducible rfl)))
          clear hc hS; intro hc hS
          simp only [Act.put, List.setIfInBounds_toArray, List.set_cons_zero, List.set_cons_succ]
          refine wpAnyG_take (i := 10) (oi := ?oi10q) (v := ?v10q) ?hi10q (by kernel_rfl) (by kernel_rfl) (by kernel_rfl) ?hQ10q (untilS_set (by decide)) hc ?hy10q hS ?rest10q
          case hi10q => (simp only [List.getElem?_toArray, List.getElem?_cons_succ, List.getElem?_cons_zero]; exact rfl)
          case hQ10q => exact fun _ _ _ h => h
          case hy10q => (refine Or.inl ⟨rfl, ?_⟩; (intro w _; go_simp; (try with_reducible rfl)))
          clear hc hS; intro hc hS
          simp only [Act.put, List.setIfInBounds_toArray, List.set_cons_zero, List.set_cons_succ]
          refine wpAnyG_take (i := 11) (oi := ?oi11q) (v := ?v11q) ?hi11q (by kernel_rfl) (by kernel_rfl) (by kernel_rfl) ?hQ11q (untilS_set (by decide)) hc ?hy11q hS ?rest11q
          case hi11q => (simp only [List.getElem?_toArray, List.getElem?_cons_succ, List.getElem?_cons_zero]; exact rfl)
          case hQ11q => exact fun _ _ _ h => h
          case hy11q => (refine Or.inl ⟨rfl, ?_⟩; (intro w _; go_simp; (try with_reducible rfl)))
          clear hc hS; intro hc hS
          simp only [Act.put, List.setIfInBounds_toArray, List.set_cons_zero, List.set_cons_succ]
          refine wpAnyG_take (i := 12) (oi := ?oi12q) (v := ?v12q) ?hi12q (by kernel_rfl) (by kernel_rfl) (by kernel_rfl) ?hQ12q (untilS_set (by decide)) hc ?hy12q hS ?rest12q
          case hi12q => (simp only [List.getElem?_toArray, List.getElem?_cons_succ, List.getElem?_cons_zero]; exact rfl)
          case hQ12q => exact fun _ _ _ h => h
          case hy12q => (refine Or.inl ⟨rfl, ?_⟩; (rintro w ⟨L, hsd, hL, hA, hB⟩; replace hB := hB (hsd.not (i := 12) (by kernel_rfl) hL); clear hsd hL; (try dsimp only at hA hB); go_simp; (try with_reducible rfl)))
          clear hc hS; intro hc hS
          simp only [Act.put, List.setIfInBounds_toArray, List.set_cons_zero, List.set_cons_succ]
          refine wpAnyG_take (i := 13) (oi := ?oi13q) (v := ?v13q) ?hi13q (by kernel_rfl) (by kernel_rfl) (by kernel_rfl) ?hQ13q (untilS_set (by decide)) hc ?hy13q hS ?rest13q
          case hi13q => (simp only [List.getElem?_toArray, List.getElem?_cons_succ, List.getElem?_cons_zero]; exact rfl)
          case hQ13q => exact fun _ _ _ h => h
          case hy13q => (refine Or.inl ⟨rfl, ?_⟩; (intro w _; go_simp; (try with_reducible rfl)))
          clear hc hS; intro hc hS
          simp only [Act.put, List.setIfInBounds_toArray, List.set_cons_zero, List.set_cons_succ]
          refine wpAnyG_take (i := 14) (oi := ?oi14q) (v := ?v14q) ?hi14q (by kernel_rfl) (by kernel_rfl) (by kernel_rfl) ?hQ14q (untilS_set (by decide)) hc ?hy14q hS ?rest14q
          case hi14q => (simp only [List.getElem?_toArray, List.getElem?_cons_succ, List.getElem?_cons_zero]; exact rfl)
          case hQ14q => exact fun _ _ _ h => h
          case hy14q => (refine Or.inl ⟨rfl, ?_⟩; (intro w _; go_simp; (try with_reducible rfl)))
          clear hc hS; intro hc hS
          simp only [Act.put, List.setIfInBounds_toArray, List.set_cons_zero, List.set_cons_succ]
          refine wpAnyG_take (i := 15) (oi := ?oi15q) (v := ?v15q) ?hi15q (by kernel_rfl) (by kernel_rfl) (by kernel_rfl) ?hQ15q (untilS_set (by decide)) hc ?hy15q hS ?rest15q
          case hi15q => (simp only [List.getElem?_toArray, List.getElem?_cons_succ, List.getElem?_cons_zero]; exact rfl)
          case hQ15q => exact fun _ _ _ h => h
          case hy15q => (refine Or.inl ⟨rfl, ?_⟩; (rintro w ⟨L, hsd, hL, hA, hB⟩; replace hB := hB (hsd.not (i := 15) (by kernel_rfl) hL); clear hsd hL; (try dsimp only at hA hB); go_simp; (try with_reducible rfl)))
          clear hc hS; intro hc hS
          simp only [Act.put, List.setIfInBounds_toArray, List.set_cons_zero, List.set_cons_succ]
          refine wpAnyG_take (i := 16) (oi := ?oi16q) (v := ?v16q) ?hi16q (by kernel_rfl) (by kernel_rfl) (by kernel_rfl) ?hQ16q (untilS_set (by decide)) hc ?hy16q hS ?rest16q
          case hi16q => (simp only [List.getElem?_toArray, List.getElem?_cons_succ, List.getElem?_cons_zero]; exact rfl)
          case hQ16q => exact fun _ _ _ h => h
          case hy16q => (refine Or.inl ⟨rfl, ?_⟩; (intro w _; go_simp; (try with_reducible rfl)))
          clear hc hS; intro hc hS
          simp only [Act.put, List.setIfInBounds_toArray, List.set_cons_zero, List.set_cons_succ]
          refine wpAnyG_take (i := 17) (oi := ?oi17q) (v := ?v17q) ?hi17q (by kernel_rfl) (by kernel_rfl) (by kernel_rfl) ?hQ17q (untilS_set (by decide)) hc ?hy17q hS ?rest17q
          case hi17q => (simp only [List.getElem?_toArray, List.getElem?_cons_succ, List.getElem?_cons_zero]; exact rfl)
          case hQ17q => exact fun _ _ _ h => h
          case hy17q => (refine Or.inl ⟨rfl, ?_⟩; (intro w _; go_simp; (try with_reducible rfl)))
          clear hc hS; intro hc hS
          simp only [Act.put, List.setIfInBounds_toArray, List.set_cons_zero, List.set_cons_succ]
          refine wpAnyG_take (i := 18) (oi := ?oi18q) (v := ?v18q) ?hi18q (by kernel_rfl) (by kernel_rfl) (by kernel_rfl) ?hQ18q (untilS_set (by decide)) hc ?hy18q hS ?rest18q
          case hi18q => (simp only [List.getElem?_toArray, List.getElem?_cons_succ, List.getElem?_cons_zero]; exact rfl)
          case hQ18q => exact fun _ _ _ h => h
          case hy18q => (refine Or.inl ⟨rfl, ?_⟩; (rintro w ⟨L, hsd, hL, hA, hB⟩; replace hB := hB (hsd.not (i := 18) (by kernel_rfl) hL); clear hsd hL; (try dsimp only at hA hB); go_simp; (try with_reducible rfl)))
          clear hc hS; intro hc hS
          simp only [Act.put, List.setIfInBounds_toArray, List.set_cons_zero, List.set_cons_succ]
          refine wpAnyG_take (i := 19) (oi := ?oi19q) (v := ?v19q) ?hi19q (by kernel_rfl) (by kernel_rfl) (by kernel_rfl) ?hQ19q (untilS_set (by decide)) hc ?hy19q hS ?rest19q
          case hi19q => (simp only [List.getElem?_toArray, List.getElem?_cons_succ, List.getElem?_cons_zero]; exact rfl)
          case hQ19q => exact fun _ _ _ h => h
          case hy19q => (refine Or.inl ⟨rfl, ?_⟩; (intro w _; go_simp; (try with_reducible rfl)))
          clear hc hS; intro hc hS
          simp only [Act.put, List.setIfInBounds_toArray, List.set_cons_zero, List.set_cons_succ]
          refine wpAnyG_take (i := 20) (oi := ?oi20q) (v := ?v20q) ?hi20q (by kernel_rfl) (by kernel_rfl) (by kernel_rfl) ?hQ20q (untilS_set (by decide)) hc ?hy20q hS ?rest20q
          case hi20q => (simp only [List.getElem?_toArray, List.getElem?_cons_succ, List.getElem?_cons_zero]; exact rfl)
          case hQ20q => exact fun _ _ _ h => h
          case hy20q => (refine Or.inl ⟨rfl, ?_⟩; (intro w _; go_simp; (try with_reducible rfl)))
          clear hc hS; intro hc hS
          simp only [Act.put, List.setIfInBounds_toArray, List.set_cons_zero, List.set_cons_succ]
          refine wpAnyG_take (i := 21) (oi := ?oi21q) (v := ?v21q) ?hi21q (by kernel_rfl) (by kernel_rfl) (by kernel_rfl) ?hQ21q (untilS_set (by decide)) hc ?hy21q hS ?rest21q
          case hi21q => (simp only [List.getElem?_toArray, List.getElem?_cons_succ, List.getElem?_cons_zero]; exact rfl)
          case hQ21q => exact fun _ _ _ h => h
          case hy21q => (refine Or.inl ⟨rfl, ?_⟩; (rintro w ⟨L, hsd, hL, hA, hB⟩; replace hB := hB (hsd.not (i := 21) (by kernel_rfl) hL); clear hsd hL; (try dsimp only at hA hB); go_simp; (try with_reducible rfl)))
          clear hc hS; intro hc hS
          simp only [Act.put, List.setIfInBounds_toArray, List.set_cons_zero, List.set_cons_succ]
          refine wpAnyG_take (i := 22) (oi := ?oi22q) (v := ?v22q) ?hi22q (by kernel_rfl) (by kernel_rfl) (by kernel_rfl) ?hQ22q (untilS_set (by decide)) hc ?hy22q hS ?rest22q
          case hi22q => (simp only [List.getElem?_toArray, List.getElem?_cons_succ, List.getElem?_cons_zero]; exact rfl)
          case hQ22q => exact fun _ _ _ h => h
          case hy22q => (refine Or.inl ⟨rfl, ?_⟩; (intro w _; go_simp; (try with_reducible rfl)))
          clear hc hS; intro hc hS
          simp only [Act.put, List.setIfInBounds_toArray, List.set_cons_zero, List.set_cons_succ]
          refine wpAnyG_take (i := 23) (oi := ?oi23q) (v := ?v23q) ?hi23q (by kernel_rfl) (by kernel_rfl) (by kernel_rfl) ?hQ23q (untilS_set (by decide)) hc ?hy23q hS ?rest23q
          case hi23q => (simp only [List.getElem?_toArray, List.getElem?_cons_succ, List.getElem?_cons_zero]; exact rfl)
          case hQ23q => exact fun _ _ _ h => h
          case hy23q => (refine Or.inl ⟨rfl, ?_⟩; (intro w _; go_simp; (try with_reducible rfl)))
          clear hc hS; intro hc hS
          simp only [Act.put, List.setIfInBounds_toArray, List.set_cons_zero, List.set_cons_succ]
          refine wpAnyG_take (i := 24) (oi := ?oi24q) (v := ?v24q) ?hi24q (by kernel_rfl) (by kernel_rfl) (by kernel_rfl) ?hQ24q (untilS_set (by decide)) hc ?hy24q hS ?rest24q
          case hi24q => (simp only [List.getElem?_toArray, List.getElem?_cons_succ, List.getElem?_cons_zero]; exact rfl)
          case hQ24q => exact fun _ _ _ h => h
          case hy24q => (refine Or.inl ⟨rfl, ?_⟩; (rintro w ⟨L, hsd, hL, hA, hB⟩; replace hB := hB (hsd.not (i := 24) (by kernel_rfl) hL); clear hsd hL; (try dsimp only at hA hB); go_simp; (try with_reducible rfl)))
          clear hc hS; intro hc hS
          simp only [Act.put, List.setIfInBounds_toArray, List.set_cons_zero, List.set_cons_succ]
          refine wpAnyG_take (i := 25) (oi := ?oi25q) (v := ?v25q) ?hi25q (by kernel_rfl) (by kernel_rfl) (by kernel_rfl) ?hQ25q (untilS_set (by decide)) hc ?hy25q hS ?rest25q
          case hi25q => (simp only [List.getElem?_toArray, List.getElem?_cons_succ, List.getElem?_cons_zero]; exact rfl)
          case hQ25q => exact fun _ _ _ h => h
          case hy25q => (refine Or.inl ⟨rfl, ?_⟩; (intro w _; go_simp; (try with_reducible rfl)))
          clear hc hS; intro hc hS
          simp only [Act.put, List.setIfInBounds_toArray, List.set_cons_zero, List.set_cons_succ]
          refine wpAnyG_take (i := 26) (oi := ?oi26q) (v := ?v26q) ?hi26q (by kernel_rfl) (by kernel_rfl) (by kernel_rfl) ?hQ26q (untilS_set (by decide)) hc ?hy26q hS ?rest26q
          case hi26q => (simp only [List.getElem?_toArray, List.getElem?_cons_succ, List.getElem?_cons_zero]; exact rfl)
          case hQ26q => exact fun _ _ _ h => h
          case hy26q => (refine Or.inl ⟨rfl, ?_⟩; (intro w _; go_simp; (try with_reducible rfl)))
          clear hc hS; intro hc hS
          simp only [Act.put, List.setIfInBounds_toArray, List.set_cons_zero, List.set_cons_succ]
          refine wpAnyG_take (i := 27) (oi := ?oi27q) (v := ?v27q) ?hi27q (by kernel_rfl) (by kernel_rfl) (by kernel_rfl) ?hQ27q (untilS_set (by decide)) hc ?hy27q hS ?rest27q
          case hi27q => (simp only [List.getElem?_toArray, List.getElem?_cons_succ, List.getElem?_cons_zero]; exact rfl)
          case hQ27q => exact fun _ _ _ h => h
          case hy27q => (refine Or.inl ⟨rfl, ?_⟩; (rintro w ⟨L, hsd, hL, hA, hB⟩; replace hB := hB (hsd.not (i := 27) (by kernel_rfl) hL); clear hsd hL; (try dsimp only at hA hB); go_simp; (try with_reducible rfl)))
          clear hc hS; intro hc hS
          simp only [Act.put, List.setIfInBounds_toArray, List.set_cons_zero, List.set_cons_succ]
          refine wpAnyG_take (i := 28) (oi := ?oi28q) (v := ?v28q) ?hi28q (by kernel_rfl) (by kernel_rfl) (by kernel_rfl) ?hQ28q (untilS_set (by decide)) hc ?hy28q hS ?rest28q
          case hi28q => (simp only [List.getElem?_toArray, List.getElem?_cons_succ, List.getElem?_cons_zero]; exact rfl)
          case hQ28q => exact fun _ _ _ h => h
          case hy28q => (refine Or.inl ⟨rfl, ?_⟩; (intro w _; go_simp; (try with_reducible rfl)))
          clear hc hS; intro hc hS
          simp only [Act.put, List.setIfInBounds_toArray, List.set_cons_zero, List.set_cons_succ]
          refine wpAnyG_take (i := 29) (oi := ?oi29q) (v := ?v29q) ?hi29q (by kernel_rfl) (by kernel_rfl) (by kernel_rfl) ?hQ29q (untilS_set (by decide)) hc ?hy29q hS ?rest29q
          case hi29q => (simp only [List.getElem?_toArray, List.getElem?_cons_succ, List.getElem?_cons_zero]; exact rfl)
          case hQ29q => exact fun _ _ _ h => h
          case hy29q => (refine Or.inl ⟨rfl, ?_⟩; (intro w _; go_simp; (try with_reducible rfl)))
          clear hc hS; intro hc hS
          simp only [Act.put, List.setIfInBounds_toArray, List.set_cons_zero, List.set_cons_succ]
          refine wpAnyG_take (i := 30) (oi := ?oi30q) (v := ?v30q) ?hi30q (by kernel_rfl) (by kernel_rfl) (by kernel_rfl) ?hQ30q (untilS_set (by decide)) hc ?hy30q hS ?rest30q
          case hi30q => (simp only [List.getElem?_toArray, List.getElem?_cons_succ, List.getElem?_cons_zero]; exact rfl)
          case hQ30q => exact fun _ _ _ h => h
          case hy30q => (refine Or.inl ⟨rfl, ?_⟩; (intro w _; go_simp; (try with_reducible rfl)))
          clear hc hS; intro hc hS
          simp only [Act.put, List.setIfInBounds_toArray, List.set_cons_zero, List.set_cons_succ]
          refine wpAnyG_take (i := 31) (oi := ?oi31q) (v := ?v31q) ?hi31q (by kernel_rfl) (by kernel_rfl) (by kernel_rfl) ?hQ31q (untilS_set (by decide)) hc ?hy31q hS ?rest31q
          case hi31q => (simp only [List.getElem?_toArray, List.getElem?_cons_succ, List.getElem?_cons_zero]; exact rfl)
          case hQ31q => exact fun _ _ _ h => h
          case hy31q => (refine Or.inl ⟨rfl, ?_⟩; (rintro w ⟨L, hsd, hL, hA, hB⟩; replace hB := hB (hsd.not (i := 31) (by kernel_rfl) hL); clear hsd hL; (try dsimp only at hA hB); go_simp; (try with_reducible rfl)))
          clear hc hS; intro hc hS
          simp only [Act.put, List.setIfInBounds_toArray, List.set_cons_zero, List.set_cons_succ]
          refine wpAnyG_take (i := 32) (oi := ?oi32q) (v := ?v32q) ?hi32q (by kernel_rfl) (by kernel_rfl) (by kernel_rfl) ?hQ32q (untilS_set (by decide)) hc ?hy32q hS ?rest32q
          case hi32q => (simp only [List.getElem?_toArray, List.getElem?_cons_succ, List.getElem?_cons_zero]; exact rfl)
          case hQ32q => exact fun _ _ _ h => h
          case hy32q => (refine Or.inl ⟨rfl, ?_⟩; (intro w _; go_simp; (try with_reducible rfl)))
          clear hc hS; intro hc hS
          simp only [Act.put, List.setIfInBounds_toArray, List.set_cons_zero, List.set_cons_succ]
          refine wpAnyG_take (i := 33) (oi := ?oi33q) (v := ?v33q) ?hi33q (by kernel_rfl) (by kernel_rfl) (by kernel_rfl) ?hQ33q (untilS_set (by decide)) hc ?hy33q hS ?rest33q
          case hi33q => (simp only [List.getElem?_toArray, List.getElem?_cons_succ, List.getElem?_cons_zero]; exact rfl)
          case hQ33q => exact fun _ _ _ h => h
          case hy33q => (refine Or.inl ⟨rfl, ?_⟩; (intro w _; go_simp; (try with_reducible rfl)))
          clear hc hS; intro hc hS
          simp only [Act.put, List.setIfInBounds_toArray, List.set_cons_zero, List.set_cons_succ]
          refine wpAnyG_only (i := 34) (o := ?oi34q) (by kernel_rfl) ?hi34q hc ?rest34q
          case hi34q => (simp only [List.getElem?_toArray, List.getElem?_cons_succ, List.getElem?_cons_zero]; exact rfl)
          clear hc; intro hc K hK; have HK := Lib.hid hK; clear hK
          go_simp
          refine HK.out _ _ (untilS_all (HAB.out _ ((((Below.refl _ _).alloc HSZ.out _).drew).drew)) _) ?_
          clear HK K hS; intro hS
          (try simp only [Act.put, List.setIfInBounds_toArray, List.set_cons_zero, List.set_cons_succ])
          refine wpAnyG_only (i := 35) (o := ?oi35q) (by kernel_rfl) ?hi35q hc ?rest35q
          case hi35q => (simp only [List.getElem?_toArray, List.getElem?_cons_succ, List.getElem?_cons_zero]; exact rfl)
          clear hc; intro hc K hK; have HK := Lib.hid hK; clear hK
          refine step_push rfl (.tmp 51) (.tmp 84) rfl (w3.heap.size + 1) _ (ys.take n) ((v1 + v2 + v3 + v4) / 4) _ wr.heap.size (by rfl) (by rfl) (alloc_cell wr _ _ _ _ rfl) (((HO.out.below ((Below.refl _ _).alloc (Nat.le_refl _) _)).drew).drew) HLN.out (by show _ ≤ (wr.alloc _).heap.size; rw [World.size_alloc]; exact Nat.le_succ_of_le HSZ.out) ?_
          intro v' w9 ho' hb'
          rw [HLE.out] at ho'
          obtain ⟨ar', cr', rfl, sr', ltr'⟩ := ho'.row
          have HBA : Hid (Below (w3.heap.size + 1) wr w9) := ((((Below.refl _ _).alloc HSZ.out _).drew).drew).trans hb'
          have HO9 := Lib.hid ho'
          have HP9 := Lib.hid (HP.out.later HBA.out (Nat.lt_succ_self _))
          clear ho' hb' sr' ltr'
          refine HK.out _ _ (untilS_all (HAB.out _ HBA.out) _) ?_
          clear HK K hS; intro hS
          (try simp only [Act.put, List.setIfInBounds_toArray, List.set_cons_zero, List.set_cons_succ])
          refine wpAnyG_take (i := 36) (oi := ?oi36q) (v := ?v36q) ?hi36q (by kernel_rfl) (by kernel_rfl) (by kernel_rfl) ?hQ36q (untilS_set (by decide)) hc ?hy36q hS ?rest36q
          case hi36q => (simp only [List.getElem?_toArray, List.getElem?_cons_succ, List.getElem?_cons_zero]; exact rfl)
          case hQ36q => exact fun _ _ _ h => h
          case hy36q => (refine Or.inl ⟨rfl, ?_⟩; (intro w _; go_simp; (try with_reducible rfl)))
          clear hc hS; intro hc hS
          simp only [Act.put, List.setIfInBounds_toArray, List.set_cons_zero, List.set_cons_succ]
          refine wpAnyG_only (i := 37) (o := ?oi37q) (by kernel_rfl) ?hi37q hc ?rest37q
          case hi37q => (simp only [List.getElem?_toArray, List.getElem?_cons_succ, List.getElem?_cons_zero]; exact rfl)
          clear hc; intro hc K hK; have HK := Lib.hid hK; clear hK
          have gf' := HP9.out.f2
          have g2' := HP9.out.o2
          go_simp
          refine HK.out _ _ (untilS_past (HA.out _ _ HBA.out) (by first | rfl | decide)) ?_
          clear HK K hS; intro hS
          (try simp only [Act.put, List.setIfInBounds_toArray, List.set_cons_zero, List.set_cons_succ])
          refine wpAnyG_done (by kernel_rfl) ?_ _
          clear hc hS
          go_wp2
          go_roundw
          case rel =>
            refine ⟨n + 1, ar', cr', by omega, by go_num, by rw [← HLL.out]; exact HP9.out.pix _, ?_, (HB.out.trans (HBA.out.mono (Nat.le_succ _))).setCell (Nat.le_refl _) _, ?_⟩
            · rw [HLT.out, ← HLL.out]; exact HO9.out.setBelow (Nat.lt_succ_self _) _
            · rw [World.size_setCell]; have := HBA.out.size; have := HSZ.out; omega
          case measure => simp [intOf]; omega
      · obtain rfl : n = T := by omega
        have hF : ys.take n = ys := List.take_of_length_le (by rw [HYL.out, HT.out]; exact Nat.le_refl _)
        rw [hF] at HO
        clear hF
        go_wp2
        refine bodyPost_ret (v := .tuple #[.agg #[.int .i64 A, .int .i64 C, .slice a' (n) c'], .int .i64 0]) (by rw [results_cell_tmp rfl]; go_simp) rfl ?_
        refine FPost.ok (base := w3.heap.size + 1) (ys := ys) ?_ (set3 (R := w.heap.size + 1) HBw.out (by omega) _ _ _) (((HO.out.setBelow (p := ⟨w.heap.size + 1, 0, none⟩) (by show w.heap.size + 1 < _; omega) _).setBelow (p := ⟨w.heap.size + 1, 1, none⟩) (by show w.heap.size + 1 < _; omega) _).setBelow (p := ⟨w.heap.size + 1, 2, none⟩) (by show w.heap.size + 1 < _; omega) _) (by rw [HYL.out, HT.out])
        rw [HVV.out]
end Go.Proofs.Ytknhfliefkkpfab
