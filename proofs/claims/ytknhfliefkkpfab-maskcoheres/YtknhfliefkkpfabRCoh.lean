
/- Coherence of the answers of layer 2: a contract. -/
import Derived.Test.YtknhfliefkkpfabMCoh
import Derived.Test.YtknhfliefkkpfabMCols2
namespace Go.Proofs.Ytknhfliefkkpfab
open Go.RowKit

/-- The pairs of the columns below i with j. -/
def colPN (N i j : Nat) : List (PN N) := (List.range i).filterMap (fun k => pairP N k j)
/-- The pairs of all columns below k. -/
def upC (N k : Nat) : List (PN N) := (List.range k).flatMap fun j => colPN N j j
theorem colPN_zero (N j : Nat) : colPN N 0 j = [] := rfl
theorem colPN_succ {N i j : Nat} (h : i < j) (hj : j < N) : colPN N (i + 1) j = colPN N i j ++ [⟨(i, j), h, hj⟩] := by
  unfold colPN
  rw [List.range_succ, List.filterMap_append]
  simp [pairP, h, hj]
theorem upC_succ (N k : Nat) : upC N (k + 1) = upC N k ++ colPN N k k := by
  unfold upC; rw [List.range_succ, List.flatMap_append]; simp
theorem mem_upC {N : Nat} (x : PN N) : x ∈ upC N N := by
  obtain ⟨⟨i, j⟩, h1, h2⟩ := x
  unfold upC colPN
  rw [List.mem_flatMap]
  refine ⟨j, List.mem_range.2 h2, ?_⟩
  rw [List.mem_filterMap]
  exact ⟨i, List.mem_range.2 h1, by unfold pairP; rw [dif_pos ⟨h1, h2⟩]⟩
theorem likeP_in' {m : List (List Int)} {N : Nat} (hN : colsM m = N) (hv : validM m = true) (x : PN N) (h : (likeP m x).2 = 0) : Red (likeP m x).1 ∧ (likeP m x).1.1 ≤ 10000 ∧ (likeP m x).1.2 ≤ 10000 ∧ (likeP m x).1.1 ≤ (likeP m x).1.2 := by
  subst hN; exact likeP_in hv x h
theorem best_in' {m : List (List Int)} {N : Nat} (hN : colsM m = N) (hv : validM m = true) (pre : List (PN N)) (hg : ∀ x ∈ pre, (likeP m x).2 = 0) :
    0 ≤ (bestL (pre.map fun x => (likeP m x).1)).1 ∧ (bestL (pre.map fun x => (likeP m x).1)).1 ≤ 10000 ∧ 1 ≤ (bestL (pre.map fun x => (likeP m x).1)).2 ∧ (bestL (pre.map fun x => (likeP m x).1)).2 ≤ 10000 := by
  subst hN; exact best_in hv pre hg
theorem cohV_bad {m : List (List Int)} {N : Nat} (hN : colsM m = N) (hv : validM m = true) (h2 : 2 ≤ N) (x : PN N) (h : (likeP m x).2 ≠ 0) : cohV m = ((0, 0), 8) := by
  subst hN
  have hb : badP m (colsM m) = true := by
    unfold badP
    rw [List.any_eq_true]
    exact ⟨x, mem_upPN _, by simpa using h⟩
  unfold cohV
  rw [if_pos hv, if_neg (by omega), if_pos hb]
theorem cohV_good {m : List (List Int)} {N : Nat} (hN : colsM m = N) (hv : validM m = true) (h2 : 2 ≤ N) (h : ∀ x ∈ upC N N, (likeP m x).2 = 0) : cohV m = (bestL ((upC N N).map fun x => (likeP m x).1), 0) := by
  subst hN
  have hb : badP m (colsM m) = false := by
    unfold badP
    rw [List.any_eq_false]
    intro x _
    simp [h x (mem_upC x)]
  unfold cohV
  rw [if_pos hv, if_neg (by omega), if_neg (by rw [hb]; decide)]
  congr 1
  refine bestL_same (fun r hr => ?_) (fun r => ?_)
  · obtain ⟨x, hx, rfl⟩ := List.mem_map.1 hr
    exact (likeP_in hv x (h x (mem_upC x))).1
  · simp only [List.mem_map]
    exact ⟨fun ⟨x, _, e⟩ => ⟨x, mem_upC x, e⟩, fun ⟨x, _, e⟩ => ⟨x, mem_upPN x, e⟩⟩
theorem RC.later {B : Nat} {V V' : World} (h : RC B V) {n : Nat} (hb : Below n V V') (hB : B < n) : RC B V' :=
  ⟨(hb.cell (p := ⟨B, 0, none⟩) hB).trans h.c0, (hb.cell (p := ⟨B, 1, none⟩) hB).trans h.c1, (hb.frozen (p := ⟨B, 0, none⟩) hB).trans h.f0, (hb.frozen (p := ⟨B, 1, none⟩) hB).trans h.f1, Nat.lt_of_lt_of_le h.lt hb.size⟩
/-- What holds ahead of each round: the zero result, the greatest so far. -/
structure RCohI (w : World) (m : List (List Int)) (G : Nat) {N : Nat} (pre : List (PN N)) (V : World) : Prop where
  good : ∀ x ∈ pre, (likeP m x).2 = 0
  res : RC w.heap.size V
  best : FBox G (bestL (pre.map fun x => (likeP m x).1)).1 (bestL (pre.map fun x => (likeP m x).1)).2 V
  gw : w.heap.size < G
  gv : G < V.heap.size
  below : Below w.heap.size w V
set_option maxRecDepth 100000 in
set_option maxHeartbeats 1000000 in
theorem rCoherence_any (a : Option Addr) (m : List (List Int)) (cap : Nat) (w : World) (hm : MOk m) (hs : Ms w a m) :
    Calls Try.prog 32 #[.slice a m.length cap] w (QPost (cohV m) w) := by
  have HM := Lib.hid hm; clear hm
  have HR0 := Lib.hid (RC.mk0 w 49)
  have HB0 : Hid (Below w.heap.size w (w.alloc (.cells #[.int .i64 0, .int .i64 0] 49))) := (Below.refl _ _).alloc (Nat.le_refl _) _
  have HS := Lib.hid hs; clear hs
  go_enter Try.func32, Try.ntmps32
  go_wp2_with fail
  have HW0 : Hid ((w.alloc (.cells #[.int .i64 0, .int .i64 0] 49)).heap.size = w.heap.size + 1) := by show _ = _; simp
  have HSA := Lib.hid (HS.out.alloc (.cells #[.int .i64 0, .int .i64 0] 49))
  generalize w.alloc (.cells #[.int .i64 0, .int .i64 0] 49) = W0 at *
  refine (rvalid_any _ _ _ _ HM.out HSA.out).mono ?_
  rintro e w1 ⟨rfl, rfl⟩
  cases hv : validM m
  · have HV := Lib.hid hv; clear hv
    obtain ⟨c0, c1, f0, f1, lt⟩ := HR0.out
    go_wp2
    (try simp only [Exit.inBlock, Exit.then])
    refine bodyPost_ret (v := .tuple #[.agg #[.int .i64 0, .int .i64 0], .int .i64 1]) (by rw [results_cell_tmp rfl]; go_simp) rfl ⟨?_, by unfold cohV; rw [HV.out]; rfl⟩
    exact set2_below HB0.out (Nat.le_refl _) _ _
  · have HV := Lib.hid hv; clear hv
    obtain ⟨hm1, hm6, hc1, hc10, _⟩ := validM_of HV.out
    obtain ⟨b, o, a0, c0, rfl, hcell0⟩ := row0 HSA.out hm1
    obtain ⟨N, hN⟩ : ∃ N, colsM m = N := ⟨_, rfl⟩
    have HN := Lib.hid hN
    rw [hN] at hc1 hc10 hcell0
    clear hN
    have hz : (0 : Int) < (m.length : Int) := by omega
    by_cases h2 : N < 2
    · have HX : Hid (cohV m = ((0, 0), 8)) := by show _ = _; unfold cohV; rw [if_pos HV.out, HN.out, if_pos h2]
      obtain ⟨c0, c1, f0, f1, lt⟩ := HR0.out
      go_wp2
      (try simp only [Exit.inBlock, Exit.then])
      refine bodyPost_ret (v := .tuple #[.agg #[.int .i64 0, .int .i64 0], .int .i64 8]) (by rw [results_cell_tmp rfl]; go_simp) rfl ⟨?_, by rw [HX.out]⟩
      exact set2_below HB0.out (Nat.le_refl _) _ _
    · have h2' : 2 ≤ N := by omega
      have h2d : ¬ ((N : Int) < 2) := by omega
      clear h2
      have hbl : b < W0.heap.size := cell_lt hcell0
      have hcell1 := (alloc_old W0 (.cells #[.int .i64 0, .int .i64 1] 49) b o hbl).trans hcell0
      go_wp2
      clear hcell0 hcell1
      have HI : Hid (RCohI w m W0.heap.size (N := N) (upC N 0) (W0.alloc (.cells #[.int .i64 0, .int .i64 1] 49))) := by
        show RCohI _ _ _ _ _
        refine ⟨fun x hx => by simp [upC] at hx, HR0.out.next ((Below.refl _ _).alloc (Nat.le_refl _) _), FBox.made _ 0 1 _ rfl, by rw [HW0.out]; omega, by rw [World.size_alloc]; omega, HB0.out.alloc (by rw [HW0.out]; omega) _⟩
      have HS1 := Lib.hid (HSA.out.alloc (.cells #[.int .i64 0, .int .i64 1] 49))
      generalize W0.alloc (.cells #[.int .i64 0, .int .i64 1] 49) = W1 at *
      generalize W0.heap.size = G at *
      have HSW := Lib.hid HS.out
      clear HS1 HR0 HB0 HSA HW0 hbl
      go_loopw [24] (fun i wr => ∃ k : Nat, k ≤ N ∧ i = .int .i64 k ∧ RCohI w m G (upC N k) wr) (fun i _ => N - (intOf i).toNat)
      case atStart => exact ⟨0, Nat.zero_le _, rfl, HI.out⟩
      case round =>
        clear HI
        obtain ⟨k, hk, rfl, hI⟩ := hrel
        have HI := Lib.hid hI; clear hI
        by_cases hlt : k < N
        · have HI2 : Hid (RCohI w m G (upC N k ++ colPN N 0 k) wr) := by show RCohI _ _ _ _ _; rw [colPN_zero, List.append_nil]; exact HI.out
          clear HI
          go_wp2
          go_loopw [28] (fun i wr => ∃ j : Nat, j ≤ k ∧ i = .int .i64 j ∧ RCohI w m G (upC N k ++ colPN N j k) wr) (fun i _ => k - (intOf i).toNat)
          case atStart => exact ⟨0, Nat.zero_le _, rfl, HI2.out⟩
          case round =>
            clear HI2
            obtain ⟨j, hjk, rfl, hI⟩ := hrel
            have HI := Lib.hid hI; clear hI
            by_cases hlj : j < k
            · have HLV : Hid (likeV m (j : Nat) (k : Nat) = likeP m (N := N) ⟨(j, k), hlj, hlt⟩) := by
                show _ = _
                exact likeV_ok HV.out (by unfold thereB; rw [HN.out]; simp; omega) (by unfold thereB; rw [HN.out]; simp; omega)
              have HSN : Hid (upC N k ++ colPN N (j + 1) k = (upC N k ++ colPN N j k) ++ [⟨(j, k), hlj, hlt⟩]) := by
                show _ = _
                rw [colPN_succ hlj hlt, List.append_assoc]
              have HLI := Lib.hid (likeP_in' HN.out HV.out (⟨(j, k), hlj, hlt⟩ : PN N))
              have HLE := Lib.hid (cohV_bad HN.out HV.out h2' (⟨(j, k), hlj, hlt⟩ : PN N))
              have HER : Hid ((likeP m (⟨(j, k), hlj, hlt⟩ : PN N)).2 ≠ 0 → likeP m (⟨(j, k), hlj, hlt⟩ : PN N) = ((0, 0), 8)) := fun h => likeC_err h
              have HGB := Lib.hid (best_in' HN.out HV.out _ HI.out.good)
              have HSV := Lib.hid (HSW.out.below HI.out.below)
              generalize hx : (⟨(j, k), hlj, hlt⟩ : PN N) = x at *
              have HX := Lib.hid hx; clear hx
              obtain ⟨⟨⟨rn, rd⟩, q⟩, hr⟩ : ∃ R, likeP m x = R := ⟨_, rfl⟩
              have HRR := Lib.hid hr
              have hlv := HLV.out
              rw [hr] at hlv HLI HLE HER
              have HLV2 := Lib.hid hlv
              clear hr hlv HLV
              go_wp2_with fail
              refine (rLikeness_any _ _ _ _ _ _ HM.out HSV.out).mono ?_
              rintro e w3 ⟨hb3, rfl⟩
              rw [HLV2.out]
              have HB3 := Lib.hid hb3; clear hb3
              have HR3 := Lib.hid (HI.out.res.next HB3.out)
              have HF3 := Lib.hid (HI.out.best.later HB3.out HI.out.gv)
              have HBW : Hid (Below w.heap.size w w3) := Below.next HI.out.below HB3.out (Nat.le_refl _)
              have hG3 : G < w3.heap.size := Nat.lt_of_lt_of_le HI.out.gv HB3.out.size
              have hgw := HI.out.gw
              dsimp only
              by_cases hq : q = 0
              · subst hq
                have hli := HLI.out rfl
                obtain ⟨hred, hl1, hl2, hl3⟩ := hli
                have HRED := Lib.hid hred
                obtain ⟨hr1, hr2, _⟩ := hred
                dsimp only at hr1 hr2 hl1 hl2 hl3
                have HGOOD : Hid (∀ y ∈ (upC N k ++ colPN N j k) ++ [x], (likeP m y).2 = 0) := fun y hy => by
                  rcases List.mem_append.1 hy with h | h
                  · exact HI.out.good y h
                  · obtain rfl : y = x := by simpa using h
                    rw [HRR.out]
                obtain ⟨⟨gn, gd⟩, hbest⟩ : ∃ g, bestL ((upC N k ++ colPN N j k).map fun x => (likeP m x).1) = g := ⟨_, rfl⟩
                have hgb := HGB.out
                have hf3 := HF3.out
                rw [hbest] at hgb hf3
                have HBE := Lib.hid hbest
                obtain ⟨g1, g2, g3, g4⟩ := hgb
                dsimp only at g1 g2 g3 g4
                have HF := Lib.hid hf3
                clear hbest hf3
                have hm1' := mul_in (a := rn) (b := gd) ⟨hr1, hl1⟩ ⟨by omega, g4⟩
                have hm2' := mul_in (a := gn) (b := rd) ⟨g1, g2⟩ ⟨by omega, hl2⟩
                have M1 : Hid (wrap64 (rn * gd) = rn * gd) := IntWalk.wrap64_in _ (by omega)
                have M2 : Hid (wrap64 (gn * rd) = gn * rd) := IntWalk.wrap64_in _ (by omega)
                clear hm1' hm2'
                have HB2 : Hid (bestL (((upC N k ++ colPN N j k) ++ [x]).map fun x => (likeP m x).1) = if gn * rd < rn * gd then (rn, rd) else (gn, gd)) := by
                  show _ = _
                  rw [List.map_append, List.map_singleton, bestL_snoc, HBE.out, HRR.out]; rfl
                have m1' := M1.out
                have m2' := M2.out
                obtain ⟨p0, p1, p2, p3⟩ := HF.out
                have RN := Lib.hid (HR3.out.next ((Below.refl _ _).alloc (Nat.le_refl _) (.cells #[.int .i64 rn, .int .i64 rd] 49)))
                have FN := Lib.hid (HF.out.later ((Below.refl _ _).alloc (Nat.le_refl _) (.cells #[.int .i64 rn, .int .i64 rd] 49)) hG3)
                have BN : Hid (Below w.heap.size w (w3.alloc (.cells #[.int .i64 rn, .int .i64 rd] 49))) := HBW.out.alloc HBW.out.size _
                by_cases hlt2 : gn * rd < rn * gd
                · go_wp2
                  go_roundw
                  case rel =>
                    refine ⟨j + 1, by omega, by go_num, ?_⟩
                    rw [HSN.out]
                    have hsz : (((w3.setCell ⟨G, 0, none⟩ (.int .i64 rn)).setCell ⟨G, 1, none⟩ (.int .i64 rd))).heap.size = w3.heap.size := by rw [World.size_setCell, World.size_setCell]
                    refine ⟨HGOOD.out, HR3.out.later ((((Below.refl G w3).setCell (Nat.le_refl _) _).setCell (Nat.le_refl _) _).alloc (by rw [hsz]; omega) _) hgw, ?_, hgw, by rw [World.size_alloc, hsz]; omega, ((HBW.out.setCell (by show _ ≤ G; omega) _).setCell (by show _ ≤ G; omega) _).alloc (by rw [hsz]; exact HBW.out.size) _⟩
                    rw [HB2.out, if_pos hlt2]; exact (HF.out.over rn rd).later ((Below.refl _ _).alloc (Nat.le_refl _) _) (by rw [hsz]; exact hG3)
                  case measure => simp [intOf]; omega
                · go_wp2
                  go_roundw
                  case rel =>
                    refine ⟨j + 1, by omega, by go_num, ?_⟩
                    rw [HSN.out]
                    refine ⟨HGOOD.out, RN.out, ?_, hgw, by rw [World.size_alloc]; omega, BN.out⟩
                    rw [HB2.out, if_neg hlt2]; exact FN.out
                  case measure => simp [intOf]; omega
              · have e0 : (q == 0) = false := by simpa using hq
                have e1 : (q != 0) = true := by simpa using hq
                have HXX := Lib.hid (HLE.out hq)
                have h8 : (((rn, rd), q) : (Int × Int) × Int) = ((0, 0), 8) := HER.out hq
                obtain ⟨⟨rfl, rfl⟩, rfl⟩ : (rn = 0 ∧ rd = 0) ∧ q = 8 := by simpa using h8
                clear h8 hq
                obtain ⟨c0, c1, f0, f1, lt⟩ := HR3.out
                go_wp2
                (try simp only [Exit.inBlock, Exit.then])
                refine bodyPost_ret (v := .tuple #[.agg #[.int .i64 0, .int .i64 0], .int .i64 8]) (by rw [results_cell_tmp rfl]; go_simp) rfl ⟨?_, by rw [HXX.out]⟩
                exact (set2_below HBW.out (Nat.le_refl _) _ _).alloc (by rw [World.size_setCell, World.size_setCell]; exact HBW.out.size) _
            · obtain rfl : j = k := by omega
              have HU : Hid (upC N (j + 1) = upC N j ++ colPN N j j) := upC_succ N j
              go_wp2
              go_roundw
              case rel => exact ⟨j + 1, by omega, by go_num, by rw [HU.out]; exact HI.out⟩
              case measure => simp [intOf]; omega
        · obtain rfl : k = N := by omega
          have HE := Lib.hid (cohV_good HN.out HV.out h2' HI.out.good)
          obtain ⟨⟨gn, gd⟩, hbest⟩ : ∃ g, bestL ((upC k k).map fun x => (likeP m x).1) = g := ⟨_, rfl⟩
          have hb := HI.out.best
          rw [hbest] at hb HE
          obtain ⟨p0, p1, p2, p3⟩ := hb
          obtain ⟨c0, c1, f0, f1, lt⟩ := HI.out.res
          have hgw := HI.out.gw
          clear hbest
          go_wp2
          (try simp only [Exit.inBlock, Exit.then])
          refine bodyPost_ret (v := .tuple #[.agg #[.int .i64 gn, .int .i64 gd], .int .i64 0]) (by rw [results_cell_tmp rfl]; go_simp) rfl ⟨?_, by rw [HE.out]⟩
          exact set2_below HI.out.below (Nat.le_refl _) _ _
end Go.Proofs.Ytknhfliefkkpfab
