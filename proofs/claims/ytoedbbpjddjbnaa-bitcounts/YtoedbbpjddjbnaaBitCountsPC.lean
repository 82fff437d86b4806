/- Parts of the proof of BitCounts: plain words, walks and contracts, each under its own heading. -/
import Derived.Test.YtoedbbpjddjbnaaBitCountsPB
import Derived.Test.YtoedbbpjddjbnaaBitCountsPA
import Derived.Test.YtoedbbpjddjbnaaProg
import Derived.BigQuiet
import Derived.Deep.QuietTactic
/- Bounds of layer 7 and of its answers: contracts. -/
namespace Go.Proofs.Ytoedbbpjddjbnaa
open Go.RowKit

set_option maxRecDepth 100000 in
set_option maxHeartbeats 2000000 in
theorem bBounds_any (p t : Int) (a : Option Addr) (cs : List Cl) (cap : Nat) (px : Int) (w : World) (hn : cs.length ≤ 1000000) (hlc : CLen cs) (hs : Cs w a cs) :
    Calls Try.prog 30 #[.agg #[.int .i64 p, .int .i64 t], .slice a cs.length cap, .int .i64 px] w fun e w' => e = .returned (.tuple #[.agg #[.int .i64 (boundsV p t cs px).1.1, .int .i64 (boundsV p t cs px).1.2], .int .i64 (boundsV p t cs px).2]) ∧ Below w.heap.size w w' := by
  have HS := Lib.hid hs; clear hs
  have HLC := Lib.hid hlc; clear hlc
  have qT : ∀ (w : World) (a : Option Addr) (n c n' c' : Nat), (binOp .eql 83 (.slice a n c) (.slice none n' c')).run Try.prog w = .ok (.bool a.isNone) w := fun w a n c n' c' => Lib.run_eql_slice_nil w _ _ a n c n' c' Try.underlying83
  obtain ⟨U, hU⟩ : ∃ U, (w.alloc (.cells #[.int .i64 p, .int .i64 t] 23)).alloc (.cells #[.int .i64 0, .int .i64 0] 34) = U := ⟨_, rfl⟩
  have HQR : Hid (Bp U (w.heap.size + 1) (.int .i64 0) (.int .i64 0)) := by
    have h := Bp.new (w.alloc (.cells #[.int .i64 p, .int .i64 t] 23)) (.int .i64 0) (.int .i64 0) 34
    rw [World.size_alloc, hU] at h; exact h
  have HFU : Hid (Fb w p t U) := by rw [← hU]; exact (Fb.new w p t _).next ((Below.refl _ _).alloc (Nat.le_refl _) _)
  obtain ⟨z0, z1, z2, z3, z4, z5⟩ := And.intro HFU.out.c0 (And.intro HFU.out.c1 (And.intro HQR.out.c0 (And.intro HQR.out.c1 (And.intro HQR.out.f0 HQR.out.f1))))
  cases h : valsB p t cs
  · have HV := Lib.hid (show boundsV p t cs px = ((0, 0), 1) by unfold boundsV; rw [h]; rfl)
    go_enter Try.func30, Try.ntmps30
    go_wp2_with (go_at_call 21; refine (bvalid_any p t a cs cap _ hn HLC.out (HFU.out.below_cs HS.out)).mono ?_; rintro e w1 ⟨rfl, hb1⟩; have F1 := Fb.next HFU.out hb1; have R1 := HQR.out.next hb1; obtain ⟨j0, j1, k0, k1, k2, k3⟩ := And.intro F1.c0 (And.intro F1.c1 (And.intro R1.c0 (And.intro R1.c1 (And.intro R1.f0 R1.f1)))); rw [h])
    have R2 := (R1.set0 (.int .i64 0)).set1 (.int .i64 0)
    have F2 := (F1.set (b := w.heap.size + 1) (i := 0) (by omega) (.int .i64 0)).set (b := w.heap.size + 1) (i := 1) (by omega) (.int .i64 0)
    obtain ⟨e0, e1⟩ := And.intro R2.c0 R2.c1
    refine bodyPost_ret (v := .tuple #[.agg #[.int .i64 0, .int .i64 0], .int .i64 1]) ?_ rfl ⟨by rw [HV.out], F2.below⟩
    rw [results_cell_tmp rfl]; go_simp
  · obtain ⟨P, T, rfl, rfl, hP1, hP, hT⟩ := vals_field h
    by_cases hpx : 0 ≤ px ∧ px < P
    case neg =>
      have HV := Lib.hid (show boundsV P T cs px = ((0, 0), 5) by unfold boundsV; rw [if_pos h, if_neg (by simp [rangeB]; omega)])
      have HX : Hid (px < 0 ∨ (0 ≤ px ∧ (P : Int) ≤ px)) := by show _ ∨ _; omega
      clear hpx
      rcases HX.out with hx | ⟨hx, hx2⟩
      all_goals
        go_enter Try.func30, Try.ntmps30
        go_wp2_with (go_at_call 21; refine (bvalid_any P T a cs cap _ hn HLC.out (HFU.out.below_cs HS.out)).mono ?_; rintro e w1 ⟨rfl, hb1⟩; have F1 := Fb.next HFU.out hb1; have R1 := HQR.out.next hb1; obtain ⟨j0, j1, k0, k1, k2, k3⟩ := And.intro F1.c0 (And.intro F1.c1 (And.intro R1.c0 (And.intro R1.c1 (And.intro R1.f0 R1.f1)))); rw [h])
        have R2 := (R1.set0 (.int .i64 0)).set1 (.int .i64 0)
        have F2 := (F1.set (b := w.heap.size + 1) (i := 0) (by omega) (.int .i64 0)).set (b := w.heap.size + 1) (i := 1) (by omega) (.int .i64 0)
        obtain ⟨e0, e1⟩ := And.intro R2.c0 R2.c1
        refine bodyPost_ret (v := .tuple #[.agg #[.int .i64 0, .int .i64 0], .int .i64 5]) ?_ rfl ⟨by rw [HV.out], F2.below⟩
        rw [results_cell_tmp rfl]; go_simp
    case pos =>
      obtain ⟨hx0, hx1⟩ := hpx
      obtain ⟨k, rfl⟩ : ∃ k : Nat, px = (k : Int) := ⟨px.toNat, by omega⟩
      have hk : k < P := by omega
      have HRB : Hid (rangeB (k : Int) 0 ((P : Int) - 1) = true) := by show _ = _; simp [rangeB]; omega
      obtain ⟨L, hL⟩ : ∃ L, fitP T P cs = L := ⟨_, rfl⟩
      have HVO := Lib.hid (vals_of h).2
      have HBD : Hid (∀ W, Cs W a cs → Calls Try.prog 70 #[.agg #[.int .i64 P, .int .i64 T], .slice a cs.length cap] W (BdPost P T L W)) := fun W hW => by rw [← hL]; exact bbounds_any P T hP1 hP hT a cs cap W hn HVO.out hW
      by_cases hL0 : L = []
      · have HV := Lib.hid (show boundsV P T cs k = ((0, 0), 8) by unfold boundsV; rw [if_pos h, if_pos HRB.out, Int.toNat_natCast, Int.toNat_natCast, hL, if_pos hL0])
        have HL0 := Lib.hid hL0
        clear hL hL0
        go_enter Try.func30, Try.ntmps30
        go_wp2_with (first
          | (go_at_call 21; refine (bvalid_any P T a cs cap _ hn HLC.out (HFU.out.below_cs HS.out)).mono ?_; rintro e w1 ⟨rfl, hb1⟩; have F1 := Fb.next HFU.out hb1; have R1 := HQR.out.next hb1; obtain ⟨j0, j1, k0, k1, k2, k3⟩ := And.intro F1.c0 (And.intro F1.c1 (And.intro R1.c0 (And.intro R1.c1 (And.intro R1.f0 R1.f1)))); rw [h])
          | (go_at_call 70; refine (HBD.out _ (F1.below_cs HS.out)).mono ?_; rintro e w2 ⟨hb2, (⟨-, rfl⟩ | ⟨hne, -⟩)⟩; rotate_left 1; exact absurd HL0.out hne; have F2 := Fb.next F1 hb2; have R2 := R1.next hb2; obtain ⟨m0, m1, m2, m3⟩ := And.intro R2.c0 (And.intro R2.c1 (And.intro R2.f0 R2.f1))))
        have R3 := (R2.set0 (.int .i64 0)).set1 (.int .i64 0)
        have F3 := (F2.set (b := w.heap.size + 1) (i := 0) (by omega) (.int .i64 0)).set (b := w.heap.size + 1) (i := 1) (by omega) (.int .i64 0)
        obtain ⟨e0, e1⟩ := And.intro R3.c0 R3.c1
        refine bodyPost_ret (v := .tuple #[.agg #[.int .i64 0, .int .i64 0], .int .i64 8]) ?_ rfl ⟨by rw [HV.out], F3.below⟩
        rw [results_cell_tmp rfl]; go_simp
      · have HV := Lib.hid (show boundsV P T cs k = ((loJ T L k, hiJ L k), 0) by unfold boundsV; rw [if_pos h, if_pos HRB.out, Int.toNat_natCast, Int.toNat_natCast, hL, if_neg hL0, Int.toNat_natCast])
        have HL0 := Lib.hid hL0
        clear hL hL0
        go_enter Try.func30, Try.ntmps30
        go_wp2_with (first
          | (go_at_call 21; refine (bvalid_any P T a cs cap _ hn HLC.out (HFU.out.below_cs HS.out)).mono ?_; rintro e w1 ⟨rfl, hb1⟩; have F1 := Fb.next HFU.out hb1; have R1 := HQR.out.next hb1; obtain ⟨j0, j1, k0, k1, k2, k3⟩ := And.intro F1.c0 (And.intro F1.c1 (And.intro R1.c0 (And.intro R1.c1 (And.intro R1.f0 R1.f1)))); rw [h])
          | (go_at_call 70; refine (HBD.out _ (F1.below_cs HS.out)).mono ?_; rintro e w2 ⟨hb2, (⟨he, -⟩ | ⟨-, g, rfl, ho2⟩)⟩; exact absurd he HL0.out; have F2 := Fb.next F1 hb2; have R2 := R1.next hb2; obtain ⟨m0, m1, m2, m3⟩ := And.intro R2.c0 (And.intro R2.c1 (And.intro R2.f0 R2.f1)); have hso : OwnS w2 w1.heap.size (.slice (some ⟨g, 0, none⟩) (spanL P T L).length P) (spanL P T L) := (by rw [spanL_len]; exact ho2); obtain ⟨⟨s0, -⟩, s2, -⟩ := hso.cell (spanL_at (T := T) (L := L) hk); dsimp only at s0 s2; clear ho2 hso))
        have R3 := (R2.set0 (.int .i64 (loJ T L k))).set1 (.int .i64 (hiJ L k))
        have F3 := (F2.set (b := w.heap.size + 1) (i := 0) (by omega) (.int .i64 (loJ T L k))).set (b := w.heap.size + 1) (i := 1) (by omega) (.int .i64 (hiJ L k))
        obtain ⟨e0, e1⟩ := And.intro R3.c0 R3.c1
        refine bodyPost_ret (v := .tuple #[.agg #[.int .i64 (loJ T L k), .int .i64 (hiJ L k)], .int .i64 0]) ?_ rfl ⟨by rw [HV.out], F3.below⟩
        rw [results_cell_tmp rfl]; go_simp
set_option maxRecDepth 100000 in
set_option maxHeartbeats 2000000 in
theorem rBounds_any (p t : Int) (a : Option Addr) (cs : List Cl) (cap : Nat) (px : Int) (w : World) (hn : cs.length ≤ 1000000) (hlc : CLen cs) (hs : Cs w a cs) :
    Calls Try.prog 31 #[.agg #[.int .i64 p, .int .i64 t], .slice a cs.length cap, .int .i64 px] w fun e w' => e = .returned (.tuple #[.agg #[.int .i64 (boundsV p t cs px).1.1, .int .i64 (boundsV p t cs px).1.2], .int .i64 (boundsV p t cs px).2]) ∧ Below w.heap.size w w' := by
  have HS := Lib.hid hs; clear hs
  have HLC := Lib.hid hlc; clear hlc
  obtain ⟨U, hU⟩ : ∃ U, (w.alloc (.cells #[.int .i64 p, .int .i64 t] 23)).alloc (.cells #[.int .i64 0, .int .i64 0] 34) = U := ⟨_, rfl⟩
  have HQR : Hid (Bp U (w.heap.size + 1) (.int .i64 0) (.int .i64 0)) := by
    have h := Bp.new (w.alloc (.cells #[.int .i64 p, .int .i64 t] 23)) (.int .i64 0) (.int .i64 0) 34
    rw [World.size_alloc, hU] at h; exact h
  have HFU : Hid (Fb w p t U) := by rw [← hU]; exact (Fb.new w p t _).next ((Below.refl _ _).alloc (Nat.le_refl _) _)
  obtain ⟨z0, z1, z2, z3, z4, z5⟩ := And.intro HFU.out.c0 (And.intro HFU.out.c1 (And.intro HQR.out.c0 (And.intro HQR.out.c1 (And.intro HQR.out.f0 HQR.out.f1))))
  cases h : valsB p t cs
  · have HV := Lib.hid (show boundsV p t cs px = ((0, 0), 1) by unfold boundsV; rw [h]; rfl)
    go_enter Try.func31, Try.ntmps31
    go_wp2_with (go_at_call 22; refine (rvalid_any p t a cs cap _ hn HLC.out (HFU.out.below_cs HS.out)).mono ?_; rintro e w1 ⟨rfl, hb1⟩; have F1 := Fb.next HFU.out hb1; have R1 := HQR.out.next hb1; obtain ⟨j0, j1, k0, k1, k2, k3⟩ := And.intro F1.c0 (And.intro F1.c1 (And.intro R1.c0 (And.intro R1.c1 (And.intro R1.f0 R1.f1)))); rw [h])
    have R9 := (R1.set0 (.int .i64 0)).set1 (.int .i64 0)
    have F9 := (F1.set (b := w.heap.size + 1) (i := 0) (by omega) (.int .i64 0)).set (b := w.heap.size + 1) (i := 1) (by omega) (.int .i64 0)
    obtain ⟨e0, e1⟩ := And.intro R9.c0 R9.c1
    refine bodyPost_ret (v := .tuple #[.agg #[.int .i64 0, .int .i64 0], .int .i64 1]) ?_ rfl ⟨by rw [HV.out], F9.below⟩
    rw [results_cell_tmp rfl]; go_simp
  · obtain ⟨P, T, rfl, rfl, hP1, hP, hT⟩ := vals_field h
    cases hrb : rangeB px 0 ((P : Int) - 1)
    · have HRB := Lib.hid hrb
      have HV := Lib.hid (show boundsV P T cs px = ((0, 0), 5) by unfold boundsV; rw [if_pos h, hrb]; rfl)
      clear hrb
      go_enter Try.func31, Try.ntmps31
      go_wp2_with (first | (go_at_call 22; refine (rvalid_any P T a cs cap _ hn HLC.out (HFU.out.below_cs HS.out)).mono ?_; rintro e w1 ⟨rfl, hb1⟩; have F1 := Fb.next HFU.out hb1; have R1 := HQR.out.next hb1; obtain ⟨j0, j1, k0, k1, k2, k3⟩ := And.intro F1.c0 (And.intro F1.c1 (And.intro R1.c0 (And.intro R1.c1 (And.intro R1.f0 R1.f1)))); rw [h]) | (go_at_call 60; refine (bin_any _ _ _ _).mono ?_; rintro e w9 ⟨rfl, rfl⟩; rw [HRB.out]))
      have R9 := (R1.set0 (.int .i64 0)).set1 (.int .i64 0)
      have F9 := (F1.set (b := w.heap.size + 1) (i := 0) (by omega) (.int .i64 0)).set (b := w.heap.size + 1) (i := 1) (by omega) (.int .i64 0)
      obtain ⟨e0, e1⟩ := And.intro R9.c0 R9.c1
      refine bodyPost_ret (v := .tuple #[.agg #[.int .i64 0, .int .i64 0], .int .i64 5]) ?_ rfl ⟨by rw [HV.out], F9.below⟩
      rw [results_cell_tmp rfl]; go_simp
    · have HRB := Lib.hid hrb
      have hpx : 0 ≤ px ∧ px < P := by simp [rangeB] at hrb; omega
      clear hrb
      obtain ⟨hx0, hx1⟩ := hpx
      obtain ⟨k, rfl⟩ : ∃ k : Nat, px = (k : Int) := ⟨px.toNat, by omega⟩
      have hk : k < P := by omega
      obtain ⟨L, hL⟩ : ∃ L, fitP T P cs = L := ⟨_, rfl⟩
      have HVO := Lib.hid (vals_of h).2
      have HRF : Hid (∀ W, Cs W a cs → Calls Try.prog 68 #[.agg #[.int .i64 P, .int .i64 T], .slice a cs.length cap] W fun e w' => ∃ va ads vc, e = .returned (.slice va L.length vc) ∧ HR W.heap.size (.slice va L.length vc) ads L w' ∧ Below W.heap.size W w') := fun W hW => by rw [← hL]; exact rfitting_two P T hP hT a cs cap W hn HVO.out hW
      by_cases hL0 : L = []
      · have HV := Lib.hid (show boundsV P T cs k = ((0, 0), 8) by unfold boundsV; rw [if_pos h, if_pos HRB.out, Int.toNat_natCast, Int.toNat_natCast, hL, if_pos hL0])
        subst hL0
        clear hL
        go_enter Try.func31, Try.ntmps31
        go_wp2_with (first | (go_at_call 22; refine (rvalid_any P T a cs cap _ hn HLC.out (HFU.out.below_cs HS.out)).mono ?_; rintro e w1 ⟨rfl, hb1⟩; have F1 := Fb.next HFU.out hb1; have R1 := HQR.out.next hb1; obtain ⟨j0, j1, k0, k1, k2, k3⟩ := And.intro F1.c0 (And.intro F1.c1 (And.intro R1.c0 (And.intro R1.c1 (And.intro R1.f0 R1.f1)))); rw [h]) | (go_at_call 60; refine (bin_any _ _ _ _).mono ?_; rintro e w9 ⟨rfl, rfl⟩; rw [HRB.out]) | (go_at_call 68; refine (HRF.out _ (F1.below_cs HS.out)).mono ?_; rintro e w2 ⟨va, ads, vc, rfl, -, hb2⟩; have F2 := Fb.next F1 hb2; have R2 := R1.next hb2; obtain ⟨m0, m1, m2, m3⟩ := And.intro R2.c0 (And.intro R2.c1 (And.intro R2.f0 R2.f1))))
        have R9 := (R2.set0 (.int .i64 0)).set1 (.int .i64 0)
        have F9 := (F2.set (b := w.heap.size + 1) (i := 0) (by omega) (.int .i64 0)).set (b := w.heap.size + 1) (i := 1) (by omega) (.int .i64 0)
        obtain ⟨e0, e1⟩ := And.intro R9.c0 R9.c1
        refine bodyPost_ret (v := .tuple #[.agg #[.int .i64 0, .int .i64 0], .int .i64 8]) ?_ rfl ⟨by rw [HV.out], F9.below⟩
        rw [results_cell_tmp rfl]; go_simp
      · have HV := Lib.hid (show boundsV P T cs k = ((loJ T L k, hiJ L k), 0) by unfold boundsV; rw [if_pos h, if_pos HRB.out, Int.toNat_natCast, Int.toNat_natCast, hL, if_neg hL0, Int.toNat_natCast])
        have hn0 : 0 < L.length := List.length_pos_iff.2 hL0
        obtain ⟨N, hN⟩ : ∃ N, L.length = N := ⟨_, rfl⟩
        have HRC : Hid (∀ (base g lc : Nat) (ads : List (Option Addr × Nat)) (W : World), HR base (.slice (some ⟨g, 0, none⟩) N lc) ads L W → Calls Try.prog 71 #[.slice (some ⟨g, 0, none⟩) N lc, .int .i64 k] W fun e w' => e = .returned (.agg #[.int .i64 (loJ T L k), .int .i64 (hiJ L k)]) ∧ Below W.heap.size W w') := fun base g lc ads W hr => by
          rw [← hN] at hr ⊢
          exact rbounds_fit P T hP hT cs hk base g lc ads L hL hL0 W hr
        have HSH : Hid (∀ (base : Nat) (va : Option Addr) (vc : Nat) (ads : List (Option Addr × Nat)) (W : World), HR base (.slice va N vc) ads L W → ∃ g, va = some ⟨g, 0, none⟩) := fun base va vc ads W hr => by
          rw [← hN] at hr
          cases L with
          | nil => exact absurd rfl hL0
          | cons x L => exact hr_some hr
        rw [hN] at HRF hn0
        have hnb : ((N : Int) == 0) = false := by simp; omega
        clear hL hL0 hN
        go_enter Try.func31, Try.ntmps31
        go_wp2_with (first | (go_at_call 22; refine (rvalid_any P T a cs cap _ hn HLC.out (HFU.out.below_cs HS.out)).mono ?_; rintro e w1 ⟨rfl, hb1⟩; have F1 := Fb.next HFU.out hb1; have R1 := HQR.out.next hb1; obtain ⟨j0, j1, k0, k1, k2, k3⟩ := And.intro F1.c0 (And.intro F1.c1 (And.intro R1.c0 (And.intro R1.c1 (And.intro R1.f0 R1.f1)))); rw [h]) | (go_at_call 60; refine (bin_any _ _ _ _).mono ?_; rintro e w9 ⟨rfl, rfl⟩; rw [HRB.out]) | (go_at_call 68; refine (HRF.out _ (F1.below_cs HS.out)).mono ?_; rintro e w2 ⟨va, ads, vc, rfl, hr2, hb2⟩; have F2 := Fb.next F1 hb2; have R2 := R1.next hb2; obtain ⟨g, rfl⟩ := HSH.out _ _ _ _ _ hr2; have HR2 := Lib.hid hr2; clear hr2) | (go_at_call 71; refine (HRC.out _ g vc ads _ HR2.out).mono ?_; rintro e w3 ⟨rfl, hb3⟩; have F3 := Fb.next F2 hb3; have R3 := R2.next hb3; obtain ⟨m0, m1, m2, m3⟩ := And.intro R3.c0 (And.intro R3.c1 (And.intro R3.f0 R3.f1))))
        have R9 := (R3.set0 (.int .i64 (loJ T L k))).set1 (.int .i64 (hiJ L k))
        have F9 := (F3.set (b := w.heap.size + 1) (i := 0) (by omega) (.int .i64 (loJ T L k))).set (b := w.heap.size + 1) (i := 1) (by omega) (.int .i64 (hiJ L k))
        obtain ⟨e0, e1⟩ := And.intro R9.c0 R9.c1
        refine bodyPost_ret (v := .tuple #[.agg #[.int .i64 (loJ T L k), .int .i64 (hiJ L k)], .int .i64 0]) ?_ rfl ⟨by rw [HV.out], F9.below⟩
        rw [results_cell_tmp rfl]; go_simp
end Go.Proofs.Ytoedbbpjddjbnaa
/- SameInts of the answers of layer 1: a contract. -/
namespace Go.Proofs.Ytoedbbpjddjbnaa
open Go.RowKit

theorem lawsame_any (a : Option Addr) (xs : List Int) (ca : Nat) (b : Option Addr) (ys : List Int) (cb : Nat) (w : World) (hx : xs.length ≤ 140737488351232) (hy : ys.length ≤ 140737488351232) (ha : Sl w a xs) (hb : Sl w b ys) :
    Calls Try.prog 29 #[.slice a xs.length ca, .slice b ys.length cb] w fun e w' => e = .returned (.bool (decide (xs = ys))) ∧ ∃ n, w' = w.drewN n := by
  have HA := Lib.hid ha; clear ha
  have HB := Lib.hid hb; clear hb
  by_cases hl : xs.length = ys.length
  · have hb : ((xs.length : Int) == (ys.length : Int)) = true := by simp [hl]
    have hb' : ((xs.length : Int) != (ys.length : Int)) = false := by simp [hl]
    have HL := Lib.hid hl; clear hl
    go_enter Try.func29, Try.ntmps29
    go_wp2
    go_loopw [13] (fun i wr => ∃ k nd : Nat, k ≤ xs.length ∧ i = .int .i64 k ∧ wr = w.drewN nd ∧ ∀ j, j < k → xs[j]?.getD 0 = ys[j]?.getD 0) (fun i _ => xs.length - (intOf i).toNat)
    case atStart => exact ⟨0, 0, Nat.zero_le _, rfl, rfl, fun j h => by omega⟩
    case round =>
      obtain ⟨k, nd, hk, rfl, rfl, hno⟩ := hrel
      have HN := Lib.hid hno; clear hno
      by_cases hlt : k < xs.length
      · have hly : k < ys.length := by rw [← HL.out]; exact hlt
        obtain ⟨b1, o1, x, rfl, hc1, HX⟩ := HA.out.at hlt
        obtain ⟨b2, o2, y, rfl, hc2, HY⟩ := HB.out.at hly
        by_cases he : x = y
        · subst he
          go_wp2
          go_quiet (fail)
          go_wp2
          go_roundw
          case rel => exact ⟨k + 1, _, by omega, by go_num, rfl, fun j hj => by
              by_cases hj' : j = k
              · subst hj'; rw [HX.out, HY.out]
              · exact HN.out j (by omega)⟩
          case measure => simp [intOf]; omega
        · have hne : (x == y) = false := by simpa using he
          have hne' : (x != y) = true := by simpa using he
          have HE : Hid (decide (xs = ys) = false) := by
            show decide (xs = ys) = false
            rw [decide_eq_false_iff_not]
            rintro rfl
            have h1 := HX.out
            have h2 := HY.out
            rw [h1] at h2
            exact he (by simpa using h2)
          clear he
          go_wp2
          go_quiet (fail)
          go_wp2
          go_ret
          exact ⟨ret_bool HE.out.symm, _, World.drewN_drewN _ _ _⟩
      · have HE : Hid (decide (xs = ys) = true) := by
          show decide (xs = ys) = true
          rw [decide_eq_true_iff]
          refine List.ext_getElem HL.out (fun j h1 h2 => ?_)
          have := HN.out j (by omega)
          simpa [h1, h2] using this
        go_wp2
        go_ret
        exact ⟨ret_bool HE.out.symm, _, rfl⟩
  · have hb : ((xs.length : Int) == (ys.length : Int)) = false := by simp; omega
    have hb' : ((xs.length : Int) != (ys.length : Int)) = true := by simp; omega
    have HX : Hid (decide (xs = ys) = false) := by
      show decide (xs = ys) = false
      rw [decide_eq_false_iff_not]; rintro rfl; exact hl rfl
    clear hl
    go_enter Try.func29, Try.ntmps29
    go_wp2
    go_ret
    exact ⟨ret_bool HX.out.symm, 0, rfl⟩

theorem Sl.below' {w w' : World} {a : Option Addr} {xs : List Int} (h : Sl w a xs) {B : Nat} (hb : Below B w w') (hB : w.heap.size ≤ B) : Sl w' a xs := h.below (hb.mono hB)
end Go.Proofs.Ytoedbbpjddjbnaa
/- BitCounts: the walk. Written by mk_bitcounts.py. -/
namespace Go.Proofs.Ytoedbbpjddjbnaa.bitCounts
open Go.RowKit

theorem first_len (p t : Int) (cs : List Cl) : (firstV p t cs).1.length ≤ 8 := by
  unfold firstV
  split
  · rename_i h
    obtain ⟨P, T, rfl, rfl, _, hP, hT⟩ := vals_field h
    rw [Int.toNat_natCast, Int.toNat_natCast]
    cases hf : fitP T P cs with
    | nil => simp [firstOf]
    | cons x L =>
      have := (dig_ok (P := P) hT (List.mem_filter.1 (show x ∈ fitP T P cs by rw [hf]; simp)).1).1
      simp only [firstOf]; omega
  · simp
theorem known_len (p t : Int) (cs : List Cl) : (knownV p t cs).1.length ≤ 8 := by
  unfold knownV
  split
  · rename_i h
    obtain ⟨P, T, rfl, rfl, _, hP, hT⟩ := vals_field h
    rw [Int.toNat_natCast, Int.toNat_natCast]
    split
    · simp
    · exact Nat.le_trans (knTo_len _ _ _) hP
  · simp
set_option maxRecDepth 1000000 in
set_option maxHeartbeats 6400000 in
theorem walk (x0 y0 : Int) (b1 : Option Addr) (cs1 : List Cl) (c1 : Nat) (b2 : Option Addr) (xs2 : List Int) (c2 : Nat) (m3 : Int) (w : World) (_rx0 : I64 x0) (_ry0 : I64 y0) (h1 : Cs w b1 cs1) (l1 : cs1.length ≤ 9223372036854775807) (r1 : ∀ c ∈ cs1, c.1.length ≤ 9223372036854775807) (h2 : Sl w b2 xs2) (l2 : xs2.length ≤ 9223372036854775807) (_r2 : ∀ x ∈ xs2, I64 x) (_r3 : I64 m3) :
    Calls Try.prog 4 #[.agg #[.int .i64 x0, .int .i64 y0], .slice b1 cs1.length c1, .slice b2 xs2.length c2, .int .i64 m3] w fun e w' => e = .returned (.bool true) ∧ Below w.heap.size w w' := by
  have HF := Lib.hid (Fb.new w x0 y0 23)
  have HAW : Hid (∀ V, Fb w x0 y0 V → Calls Try.prog 12 #[] V fun e w' => e = .returned (.bool true) ∧ Fb w x0 y0 w') := fun V h => (awake7_any V).mono fun e w' ⟨k1, k2⟩ => ⟨k1, h.next k2⟩
  have HFE : Hid (∀ V, Fb w x0 y0 V → Calls Try.prog 10 #[.agg #[.int .i64 x0, .int .i64 y0], .int .i64 1100] V fun e w' => e = .returned (.bool (fewB x0 y0 1100)) ∧ Fb w x0 y0 w') := fun V h => (few7_any x0 y0 1100 V).mono fun e w' ⟨k1, k2⟩ => ⟨k1, h.next k2⟩
  have HFI : Hid (∀ V, Fb w x0 y0 V → Calls Try.prog 11 #[.slice b1 cs1.length c1] V fun e w' => e = .returned (.bool (fitB cs1)) ∧ Fb w x0 y0 w') := fun V h => (fit7_any b1 cs1 c1 V l1 r1 (h.below_cs h1)).mono fun e w' ⟨k1, k2⟩ => ⟨k1, h.next k2⟩
  by_cases hskip : fewB x0 y0 1100 = true ∧ fitB cs1 = true ∧ ¬ (20 : Int) < (xs2.length : Int)
  case neg =>
    cases hfe : fewB x0 y0 1100
    · rw [hfe] at HFE
      clear h1 r1 h2 hskip
      go_enter Try.func4, Try.ntmps4
      go_wp2_with (first
        | (go_at_call 10; refine (HFE.out _ HF.out).mono ?_; rintro e w0 ⟨rfl, F0⟩; obtain ⟨a00, a01⟩ := And.intro F0.c0 F0.c1)
        | (go_at_call 12; refine (HAW.out _ F0).mono ?_; rintro e w99 ⟨rfl, F99⟩))
      all_goals go_ret
      all_goals exact ⟨rfl, F99.below⟩
    · rw [hfe] at HFE
      cases hfi : fitB cs1
      · rw [hfi] at HFI
        clear h1 r1 h2 hskip
        go_enter Try.func4, Try.ntmps4
        go_wp2_with (first
          | (go_at_call 10; refine (HFE.out _ HF.out).mono ?_; rintro e w0 ⟨rfl, F0⟩; obtain ⟨a00, a01⟩ := And.intro F0.c0 F0.c1)
          | (go_at_call 11; refine (HFI.out _ F0).mono ?_; rintro e w1 ⟨rfl, F1⟩; obtain ⟨a10, a11⟩ := And.intro F1.c0 F1.c1)
          | (go_at_call 12; refine (HAW.out _ F1).mono ?_; rintro e w99 ⟨rfl, F99⟩))
        all_goals go_ret
        all_goals exact ⟨rfl, F99.below⟩
      · rw [hfi] at HFI
        have hg2 : (20 : Int) < (xs2.length : Int) := by
          by_cases h : (20 : Int) < (xs2.length : Int)
          · exact h
          · exact absurd ⟨hfe, hfi, h⟩ hskip
        clear h1 r1 h2 hskip
        go_enter Try.func4, Try.ntmps4
        go_wp2_with (first
          | (go_at_call 10; refine (HFE.out _ HF.out).mono ?_; rintro e w0 ⟨rfl, F0⟩; obtain ⟨a00, a01⟩ := And.intro F0.c0 F0.c1)
          | (go_at_call 11; refine (HFI.out _ F0).mono ?_; rintro e w1 ⟨rfl, F1⟩; obtain ⟨a10, a11⟩ := And.intro F1.c0 F1.c1)
          | (go_at_call 12; refine (HAW.out _ F1).mono ?_; rintro e w99 ⟨rfl, F99⟩))
        all_goals go_ret
        all_goals exact ⟨rfl, F99.below⟩
  case pos =>
    obtain ⟨hfe, hfi, hg2⟩ := hskip
    rw [hfe] at HFE
    rw [hfi] at HFI
    have hcl : CLen cs1 ∧ cs1.length ≤ 1000000 := by
      unfold fitB at hfi
      simp only [Bool.and_eq_true, List.all_eq_true, decide_eq_true_eq] at hfi
      exact ⟨fun c hc => by have := hfi.1 c hc; omega, by omega⟩
    have hfl := first_len x0 y0 cs1
    have hkl := known_len x0 y0 cs1
    obtain ⟨⟨fb, fe⟩, hfv⟩ : ∃ r, fitsV x0 y0 cs1 xs2 = r := ⟨_, rfl⟩
    obtain ⟨⟨cn, ce⟩, hcv⟩ : ∃ r, countV x0 y0 cs1 = r := ⟨_, rfl⟩
    obtain ⟨⟨fr, fre⟩, hrv⟩ : ∃ r, firstV x0 y0 cs1 = r := ⟨_, rfl⟩
    obtain ⟨⟨⟨bl, bh⟩, be⟩, hbv⟩ : ∃ r, boundsV x0 y0 cs1 m3 = r := ⟨_, rfl⟩
    obtain ⟨⟨kn, ke⟩, hkv⟩ : ∃ r, knownV x0 y0 cs1 = r := ⟨_, rfl⟩
    rw [hrv] at hfl
    rw [hkv] at hkl
    dsimp only at hfl hkl
    have HF1 : Hid (∀ V, Fb w x0 y0 V → Calls Try.prog 23 #[.agg #[.int .i64 x0, .int .i64 y0], .slice b1 cs1.length c1, .slice b2 xs2.length c2] V fun e w' => e = .returned (.tuple #[.bool fb, .int .i64 fe]) ∧ Fb w x0 y0 w') := fun V h => (bFits_any x0 y0 b1 cs1 c1 b2 xs2 c2 V hcl.2 hcl.1 (by omega) (h.below_cs h1) (h.sl h2)).mono fun e w' ⟨k1, k2⟩ => ⟨by rw [hfv] at k1; exact k1, h.next k2⟩
    have HF2 : Hid (∀ V, Fb w x0 y0 V → Calls Try.prog 24 #[.agg #[.int .i64 x0, .int .i64 y0], .slice b1 cs1.length c1, .slice b2 xs2.length c2] V fun e w' => e = .returned (.tuple #[.bool fb, .int .i64 fe]) ∧ Fb w x0 y0 w') := fun V h => (rFits_any x0 y0 b1 cs1 c1 b2 xs2 c2 V hcl.2 hcl.1 (by omega) (h.below_cs h1) (h.sl h2)).mono fun e w' ⟨k1, k2⟩ => ⟨by rw [hfv] at k1; exact k1, h.next k2⟩
    have HC1 : Hid (∀ V, Fb w x0 y0 V → Calls Try.prog 25 #[.agg #[.int .i64 x0, .int .i64 y0], .slice b1 cs1.length c1] V fun e w' => e = .returned (.tuple #[.int .i64 cn, .int .i64 ce]) ∧ Fb w x0 y0 w') := fun V h => (bcount_any x0 y0 b1 cs1 c1 V hcl.2 hcl.1 (h.below_cs h1)).mono fun e w' ⟨k1, k2⟩ => ⟨by rw [hcv] at k1; exact k1, h.next k2⟩
    have HC2 : Hid (∀ V, Fb w x0 y0 V → Calls Try.prog 26 #[.agg #[.int .i64 x0, .int .i64 y0], .slice b1 cs1.length c1] V fun e w' => e = .returned (.tuple #[.int .i64 cn, .int .i64 ce]) ∧ Fb w x0 y0 w') := fun V h => (rcount_any x0 y0 b1 cs1 c1 V hcl.2 hcl.1 (h.below_cs h1)).mono fun e w' ⟨k1, k2⟩ => ⟨by rw [hcv] at k1; exact k1, h.next k2⟩
    have HB1 : Hid (∀ V, Fb w x0 y0 V → Calls Try.prog 30 #[.agg #[.int .i64 x0, .int .i64 y0], .slice b1 cs1.length c1, .int .i64 m3] V fun e w' => e = .returned (.tuple #[.agg #[.int .i64 bl, .int .i64 bh], .int .i64 be]) ∧ Fb w x0 y0 w') := fun V h => (bBounds_any x0 y0 b1 cs1 c1 m3 V hcl.2 hcl.1 (h.below_cs h1)).mono fun e w' ⟨k1, k2⟩ => ⟨by rw [hbv] at k1; exact k1, h.next k2⟩
    have HB2 : Hid (∀ V, Fb w x0 y0 V → Calls Try.prog 31 #[.agg #[.int .i64 x0, .int .i64 y0], .slice b1 cs1.length c1, .int .i64 m3] V fun e w' => e = .returned (.tuple #[.agg #[.int .i64 bl, .int .i64 bh], .int .i64 be]) ∧ Below V.heap.size V w') := fun V h => (rBounds_any x0 y0 b1 cs1 c1 m3 V hcl.2 hcl.1 (h.below_cs h1)).mono fun e w' ⟨k1, k2⟩ => ⟨by rw [hbv] at k1; exact k1, k2⟩
    have HT1 : Hid (∀ V, Fb w x0 y0 V → Calls Try.prog 27 #[.agg #[.int .i64 x0, .int .i64 y0], .slice b1 cs1.length c1] V fun e w' => Below V.heap.size V w' ∧ ∃ a cap, e = .returned (.tuple #[.slice a fr.length cap, .int .i64 fre]) ∧ Sl w' a fr) := fun V h => by
      have k := bfirst_any x0 y0 b1 cs1 c1 V hcl.2 hcl.1 (h.below_cs h1)
      rw [hrv] at k; exact k
    have HT2 : Hid (∀ V, Fb w x0 y0 V → Calls Try.prog 28 #[.agg #[.int .i64 x0, .int .i64 y0], .slice b1 cs1.length c1] V fun e w' => Below V.heap.size V w' ∧ ∃ a cap, e = .returned (.tuple #[.slice a fr.length cap, .int .i64 fre]) ∧ Sl w' a fr) := fun V h => by
      have k := rfirst_any x0 y0 b1 cs1 c1 V hcl.2 hcl.1 (h.below_cs h1)
      rw [hrv] at k; exact k
    have HK1 : Hid (∀ V, Fb w x0 y0 V → Calls Try.prog 32 #[.agg #[.int .i64 x0, .int .i64 y0], .slice b1 cs1.length c1] V fun e w' => Below V.heap.size V w' ∧ ∃ a cap, e = .returned (.tuple #[.slice a kn.length cap, .int .i64 ke]) ∧ Sl w' a kn) := fun V h => by
      have k := bknown_any x0 y0 b1 cs1 c1 V hcl.2 hcl.1 (h.below_cs h1)
      rw [hkv] at k; exact k
    have HK2 : Hid (∀ V, Fb w x0 y0 V → Calls Try.prog 33 #[.agg #[.int .i64 x0, .int .i64 y0], .slice b1 cs1.length c1] V fun e w' => Below V.heap.size V w' ∧ ∃ a cap, e = .returned (.tuple #[.slice a kn.length cap, .int .i64 ke]) ∧ Sl w' a kn) := fun V h => by
      have k := rknown_any x0 y0 b1 cs1 c1 V hcl.2 hcl.1 (h.below_cs h1)
      rw [hkv] at k; exact k
    have HSA : Hid (∀ W ra rc rb rd, Sl W ra fr → Sl W rb fr → Calls Try.prog 29 #[.slice ra fr.length rc, .slice rb fr.length rd] W fun e w' => e = .returned (.bool true) ∧ Below W.heap.size W w') := fun W ra rc rb rd k1 k2 => (lawsame_any ra fr rc rb fr rd W (by omega) (by omega) k1 k2).mono fun e w' ⟨j1, n, j2⟩ => ⟨by simpa using j1, by rw [j2]; exact below_drewN (Below.refl _ _) _⟩
    have HSB : Hid (∀ W ra rc rb rd, Sl W ra kn → Sl W rb kn → Calls Try.prog 29 #[.slice ra kn.length rc, .slice rb kn.length rd] W fun e w' => e = .returned (.bool true) ∧ Below W.heap.size W w') := fun W ra rc rb rd k1 k2 => (lawsame_any ra kn rc rb kn rd W (by omega) (by omega) k1 k2).mono fun e w' ⟨j1, n, j2⟩ => ⟨by simpa using j1, by rw [j2]; exact below_drewN (Below.refl _ _) _⟩
    clear h1 r1 h2 hfv hcv hrv hbv hkv hfe hfi hcl hfl hkl
    go_enter Try.func4, Try.ntmps4
    go_wp2_with (first
      | (go_at_call 10; refine (HFE.out _ HF.out).mono ?_; rintro e w0 ⟨rfl, F0⟩; obtain ⟨a00, a01⟩ := And.intro F0.c0 F0.c1)
      | (go_at_call 11; refine (HFI.out _ F0).mono ?_; rintro e w1 ⟨rfl, F1⟩; obtain ⟨a10, a11⟩ := And.intro F1.c0 F1.c1)
      | (go_at_call 23; refine (HF1.out _ F1).mono ?_; rintro e w2 ⟨rfl, F2⟩; obtain ⟨a20, a21⟩ := And.intro F2.c0 F2.c1)
      | (go_at_call 24; refine (HF2.out _ F2).mono ?_; rintro e w3 ⟨rfl, F3⟩; obtain ⟨a30, a31⟩ := And.intro F3.c0 F3.c1)
      | (go_at_call 25; refine (HC1.out _ F3).mono ?_; rintro e w4 ⟨rfl, F4⟩; obtain ⟨a40, a41⟩ := And.intro F4.c0 F4.c1)
      | (go_at_call 26; refine (HC2.out _ F4).mono ?_; rintro e w5 ⟨rfl, F5⟩; obtain ⟨a50, a51⟩ := And.intro F5.c0 F5.c1)
      | (go_at_call 27; refine (HT1.out _ F5).mono ?_; rintro e w6 ⟨hb6, ra6, rc6, rfl, hs6⟩; have F6 := F5.next hb6; have S6 := hs6; obtain ⟨a60, a61⟩ := And.intro F6.c0 F6.c1)
      | (go_at_call 28; refine (HT2.out _ F6).mono ?_; rintro e w7 ⟨hb7, ra7, rc7, rfl, hs7⟩; have F7 := F6.next hb7; have S7 := hs7; obtain ⟨a70, a71⟩ := And.intro F7.c0 F7.c1; have S6 := S6.below hb7)
      | (go_at_call 29; with_reducible refine (HSA.out _ ra6 rc6 ra7 rc7 S6 S7).mono ?_; rintro e w8 ⟨rfl, hb8⟩; have F8 := F7.next hb8; obtain ⟨a80, a81⟩ := And.intro F8.c0 F8.c1)
      | (go_at_call 30; refine (HB1.out _ F8).mono ?_; rintro e w9 ⟨rfl, FF9⟩; have hA9 : Below w9.heap.size w9 (w9.alloc (.cells #[.int .i64 bl, .int .i64 bh] 34)) := (Below.refl _ _).alloc (Nat.le_refl _) _; have F9 := FF9.next hA9; have P9 := Bp.new w9 (.int .i64 bl) (.int .i64 bh) 34; obtain ⟨a90, a91⟩ := And.intro F9.c0 F9.c1)
      | (go_at_call 31; refine (HB2.out _ F9).mono ?_; rintro e w10 ⟨rfl, hb10⟩; have hA10 : Below w10.heap.size w10 (w10.alloc (.cells #[.int .i64 bl, .int .i64 bh] 34)) := (Below.refl _ _).alloc (Nat.le_refl _) _; have F10 := (F9.next hb10).next hA10; have P9 := (P9.next hb10).next hA10; have P10 := Bp.new w10 (.int .i64 bl) (.int .i64 bh) 34; obtain ⟨a100, a101⟩ := And.intro F10.c0 F10.c1)
      | (go_at_call 32; refine (HK1.out _ F10).mono ?_; rintro e w11 ⟨hb11, ra11, rc11, rfl, hs11⟩; have F11 := F10.next hb11; have S11 := hs11; obtain ⟨a110, a111⟩ := And.intro F11.c0 F11.c1; have P9 := P9.next hb11; have P10 := P10.next hb11)
      | (go_at_call 33; refine (HK2.out _ F11).mono ?_; rintro e w12 ⟨hb12, ra12, rc12, rfl, hs12⟩; have F12 := F11.next hb12; have S12 := hs12; obtain ⟨a120, a121⟩ := And.intro F12.c0 F12.c1; have S11 := S11.below hb12; have P9 := P9.next hb12; have P10 := P10.next hb12; obtain ⟨d0, d1⟩ := And.intro P9.c0 P9.c1; obtain ⟨d2, d3⟩ := And.intro P10.c0 P10.c1)
      | (go_at_call 29; with_reducible refine (HSB.out _ ra11 rc11 ra12 rc12 S11 S12).mono ?_; rintro e w13 ⟨rfl, hb13⟩; have F13 := F12.next hb13; obtain ⟨a130, a131⟩ := And.intro F13.c0 F13.c1)
      | (go_at_call 12; refine (HAW.out _ F13).mono ?_; rintro e w99 ⟨rfl, F99⟩))
    all_goals go_ret
    all_goals exact ⟨rfl, F99.below⟩
end Go.Proofs.Ytoedbbpjddjbnaa.bitCounts
