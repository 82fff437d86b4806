
/- Mirrored and Turned of layer 1: contracts. -/
import Derived.Test.YtknhfliefkkpfabMoved
import Derived.Test.YtknhfliefkkpfabPBox
import Derived.Test.YtknhfliefkkpfabMots
import Derived.Test.YtknhfliefkkpfabSums2
import Derived.Deep.RegionHeldLaw
namespace Go.Proofs.Ytknhfliefkkpfab
open Go.RowKit

/-- A picture that was moved, and the error. -/
def turnV (q : Nat) (wide high : Int) (xs : List Int) : (Int × Int × List Int) × Int :=
  if validPicB wide high xs = false then ((0, 0, []), 1) else (((wideQ q wide.toNat high.toNat : Nat), (if q = 1 ∨ q = 3 then wide else high), movedL q wide.toNat high.toNat xs), 0)
theorem turnV_1 {q : Nat} {wide high : Int} {xs : List Int} (h : validPicB wide high xs = false) : turnV q wide high xs = ((0, 0, []), 1) := by simp [turnV, h]
theorem turnV_0 {q W H : Nat} {xs : List Int} (h : validPicB W H xs = true) : turnV q W H xs = ((((wideQ q W H : Nat) : Int), (if q = 1 ∨ q = 3 then (W : Int) else H), movedL q W H xs), 0) := by
  unfold turnV; rw [if_neg (by simp [h])]; rfl
theorem movedQ_any (q : Nat) (hq : q < 5) (W H R B : Nat) (h1W : 1 ≤ W) (hW : W ≤ 16) (h1H : 1 ≤ H) (hH : H ≤ 16) (a : Option Addr) (xs : List Int) (ca : Nat) (hg : Int) (w : World) (hl : xs.length = W * H) (hs : Sl w a xs) (hc : Caps W H R B w) (hR : R < w.heap.size) (hBB : B < w.heap.size) (wd : Int) (hwd : wd = (wideQ q W H : Nat)) :
    Calls Try.prog 52 #[.agg #[.int .i64 W, .int .i64 H, .slice a xs.length ca], .int .i64 wd, .int .i64 hg, motF q R B] w (VPost (wideQ q W H : Nat) hg (movedL q W H xs) w) := by
  subst hwd
  obtain rfl | rfl | rfl | rfl | rfl : q = 0 ∨ q = 1 ∨ q = 2 ∨ q = 3 ∨ q = 4 := by omega
  · exact moved0_any W H R B h1W hW h1H hH a xs ca hg w hl hs hc hR hBB
  · exact moved1_any W H R B h1W hW h1H hH a xs ca hg w hl hs hc hR hBB
  · exact moved2_any W H R B h1W hW h1H hH a xs ca hg w hl hs hc hR hBB
  · exact moved3_any W H R B h1W hW h1H hH a xs ca hg w hl hs hc hR hBB
  · exact moved4_any W H R B h1W hW h1H hH a xs ca hg w hl hs hc hR hBB
theorem idx_mot (k R B : Nat) (hk : k < 5) (w : World) : (Instr.index 71 (.agg #[motF 0 R B, motF 1 R B, motF 2 R B, motF 3 R B, motF 4 R B]) (.int .i64 (k : Int))).run Try.prog w = .ok (motF k R B) w := by
  have h := Try.underlying71
  have s : ∀ w, (sizeOf 70).run Try.prog w = .ok 1 w := fun w => by simp [go_sem]
  obtain rfl | rfl | rfl | rfl | rfl : k = 0 ∨ k = 1 ∨ k = 2 ∨ k = 3 ∨ k = 4 := by omega
  all_goals simp [Instr.index, run_underlying h, asIntOf, s, motF, go_sem]
set_option maxRecDepth 100000 in
set_option maxHeartbeats 800000 in
theorem mirrored_any (wide high : Int) (a : Option Addr) (xs : List Int) (ca : Nat) (w : World) (hl : xs.length ≤ 140737488351232) (hs : Sl w a xs) :
    Calls Try.prog 23 #[.agg #[.int .i64 wide, .int .i64 high, .slice a xs.length ca]] w (FPost (turnV 4 wide high xs) w) := by
  have HS := Lib.hid hs; clear hs
  have M0 := Lib.hid (MvBox.mk0 w (.int .i64 wide) (.int .i64 high) (.slice a xs.length ca) 24 24)
  have HB0 : Hid (Below w.heap.size w ((w.alloc (.cells #[.int .i64 wide, .int .i64 high, .slice a xs.length ca] 24)).alloc (.cells #[.int .i64 0, .int .i64 0, .slice none 0 0] 24))) := ((Below.refl _ _).alloc (Nat.le_refl _) _).alloc (by simp) _
  go_enter Try.func23, Try.ntmps23
  go_wp2_with fail
  generalize (w.alloc (.cells #[.int .i64 wide, .int .i64 high, .slice a xs.length ca] 24)).alloc (.cells #[.int .i64 0, .int .i64 0, .slice none 0 0] 24) = V0 at *
  refine (valid_any wide high a xs ca V0 hl (HS.out.below HB0.out)).mono ?_
  rintro e w3 ⟨rfl, hb1⟩
  have M3 := Lib.hid (M0.out.next hb1 M0.out.sz)
  have HB3 := Lib.hid (Below.trans HB0.out (hb1.mono (Nat.le_trans (Nat.le_add_right _ 2) M0.out.sz)))
  clear hb1 M0 HB0
  cases hv : validPicB wide high xs
  · have HV := Lib.hid hv; clear hv
    obtain ⟨c0, c1, c2, e0, e1, e2, f0, f1, f2, sz⟩ := M3.out
    go_wp2
    (try simp only [Exit.inBlock, Exit.then])
    refine bodyPost_ret (v := .tuple #[.agg #[.int .i64 0, .int .i64 0, .slice none 0 0], .int .i64 1]) (by rw [results_cell_tmp rfl]; go_simp) rfl ?_
    exact FPost.err 1 (turnV_1 HV.out) (set3 HB3.out (by omega) _ _ _)
  · obtain ⟨w0, w1, g0, g1, hlen, _⟩ := validPic_of hv
    obtain ⟨W, rfl⟩ := Int.eq_ofNat_of_zero_le (show 0 ≤ wide by omega)
    obtain ⟨H, rfl⟩ := Int.eq_ofNat_of_zero_le (show 0 ≤ high by omega)
    have hlen' : xs.length = W * H := by exact_mod_cast hlen
    have HV := Lib.hid hv; clear hv
    have HL := Lib.hid hlen'; clear hlen hlen'
    have HW : Hid (1 ≤ W ∧ W ≤ 16 ∧ 1 ≤ H ∧ H ≤ 16) := by show _ ∧ _; omega
    clear w0 w1 g0 g1
    obtain ⟨c0, c1, c2, e0, e1, e2, f0, f1, f2, sz⟩ := M3.out
    have HWQ : Hid ((W : Int) = ((wideQ 4 W H : Nat) : Int)) := by show _ = _; simp [wideQ]
    have h45 : 4 < 5 := by omega
    obtain ⟨ys, hys⟩ : ∃ ys, movedL 4 W H xs = ys := ⟨_, rfl⟩
    have HYS := Lib.hid hys; clear hys
    have HD3 : Hid (Below w3.heap.size w3 w3.drew) := (Below.refl _ _).drew
    go_wp2
    go_region_held_law (fun w' => w'.cell? ⟨w.heap.size, 0, none⟩ = some (.int .i64 W) ∧ w'.cell? ⟨w.heap.size, 1, none⟩ = some (.int .i64 H) ∧ w'.cell? ⟨w.heap.size, 2, none⟩ = some (.slice a xs.length ca)) (first | exact ⟨by assumption, by assumption, by assumption⟩ | go_keep) (first
      | (go_at_call 53
         with_reducible refine (motions_any W H HW.out.2.1 HW.out.2.2.2 a xs.length ca _).mono ?_
         rintro e w5 ⟨R, B, rfl, hcaps, hR, hB, hb5⟩
         have hix : ∀ w, (Instr.index 71 (.agg #[motF 0 R B, motF 1 R B, motF 2 R B, motF 3 R B, motF 4 R B]) (.int .i64 4)).run Try.prog w = .ok (motF 4 R B) w := idx_mot 4 R B (by omega)
         have HB35 := Lib.hid (HD3.out.trans hb5)
         have HCR := Lib.hid (And.intro hcaps (And.intro hR hB))
         clear hcaps hR hB hb5 c0 c1 c2 e0 e1 e2 f0 f1 f2 sz
         obtain ⟨c0, c1, c2, e0, e1, e2, f0, f1, f2, sz⟩ := (M3.out.next HB35.out M3.out.sz))
      | (go_at_call 52
         with_reducible refine (movedQ_any 4 h45 W H R B HW.out.1 HW.out.2.1 HW.out.2.2.1 HW.out.2.2.2 a xs ca _ _ HL.out ((HS.out.below HB3.out).below HB35.out) HCR.out.1 HCR.out.2.1 HCR.out.2.2 _ HWQ.out).mono ?_
         rintro e w6 ⟨hb6, g6, a6, n6, cap6, he, hn6, hg6, ho6⟩
         rw [HYS.out] at hn6 ho6
         rw [← HWQ.out] at he
         subst he
         have HB36 := Lib.hid (HB35.out.trans (hb6.mono HB35.out.size))
         have HO6 := Lib.hid (And.intro hn6 (And.intro (Nat.le_trans HB35.out.size hg6) ho6))
         clear hn6 hg6 ho6 hb6 hix c0 c1 c2 e0 e1 e2 f0 f1 f2 sz
         obtain ⟨c0, c1, c2, e0, e1, e2, f0, f1, f2, sz⟩ := (M3.out.next HB36.out M3.out.sz)))
    all_goals
      go_wp2
      refine bodyPost_ret (v := .tuple #[.agg #[.int .i64 W, .int .i64 H, .slice a6 n6 cap6], .int .i64 0]) (by rw [results_cell_tmp rfl]; go_simp) rfl ?_
      have hW3 : w.heap.size + 2 ≤ w3.heap.size := M3.out.sz
      have hG6 := HO6.out.2.1
      refine FPost.ok (base := g6) (ys := ys) ?_ (set3 (R := w.heap.size + 1) (HB3.out.trans (HB36.out.mono (by omega))) (by omega) _ _ _) (((HO6.out.2.2.setBelow (p := ⟨w.heap.size + 1, 0, none⟩) (by show w.heap.size + 1 < g6; omega) _).setBelow (p := ⟨w.heap.size + 1, 1, none⟩) (by show w.heap.size + 1 < g6; omega) _).setBelow (p := ⟨w.heap.size + 1, 2, none⟩) (by show w.heap.size + 1 < g6; omega) _) HO6.out.1
      rw [turnV_0 HV.out, HYS.out, ← HWQ.out]; rfl

set_option maxRecDepth 100000 in
set_option maxHeartbeats 800000 in
theorem turned_any (wide high : Int) (a : Option Addr) (xs : List Int) (ca : Nat) (qs : Int) (_ : -9223372036854775808 ≤ qs) (_ : qs ≤ 9223372036854775807) (w : World) (hl : xs.length ≤ 140737488351232) (hs : Sl w a xs) :
    Calls Try.prog 20 #[.agg #[.int .i64 wide, .int .i64 high, .slice a xs.length ca], .int .i64 qs] w (FPost (turnV (qs % 4).toNat wide high xs) w) := by
  have HS := Lib.hid hs; clear hs
  have M0 := Lib.hid (MvBox.mk0 w (.int .i64 wide) (.int .i64 high) (.slice a xs.length ca) 24 24)
  have HB0 : Hid (Below w.heap.size w ((w.alloc (.cells #[.int .i64 wide, .int .i64 high, .slice a xs.length ca] 24)).alloc (.cells #[.int .i64 0, .int .i64 0, .slice none 0 0] 24))) := ((Below.refl _ _).alloc (Nat.le_refl _) _).alloc (by simp) _
  obtain ⟨k, hk⟩ : ∃ k : Nat, (qs % 4).toNat = k := ⟨_, rfl⟩
  have hkE : qs % 4 = (k : Int) := by omega
  have hk4 : k < 4 := by omega
  have HM : Hid ((qs.tmod 4 + 4).tmod 4 = (k : Int) ∧ -4 < qs.tmod 4 ∧ qs.tmod 4 < 4) := by
    show _ ∧ _
    refine ⟨?_, ?_, ?_⟩
    · rw [Int.tmod_eq_emod_of_nonneg (by have h1 := Int.tmod_eq_emod (a := qs) (b := 4); split at h1 <;> omega)]
      have h1 := Int.tmod_eq_emod (a := qs) (b := 4)
      split at h1 <;> omega
    · have h1 := Int.tmod_eq_emod (a := qs) (b := 4)
      split at h1 <;> omega
    · have h1 := Int.tmod_eq_emod (a := qs) (b := 4)
      split at h1 <;> omega
  rw [hk]
  clear hk hkE
  have HK4 := Lib.hid hk4; clear hk4
  go_enter Try.func20, Try.ntmps20
  go_wp2_with fail
  generalize (w.alloc (.cells #[.int .i64 wide, .int .i64 high, .slice a xs.length ca] 24)).alloc (.cells #[.int .i64 0, .int .i64 0, .slice none 0 0] 24) = V0 at *
  refine (valid_any wide high a xs ca V0 hl (HS.out.below HB0.out)).mono ?_
  rintro e w3 ⟨rfl, hb1⟩
  have M3 := Lib.hid (M0.out.next hb1 M0.out.sz)
  have HB3 := Lib.hid (Below.trans HB0.out (hb1.mono (Nat.le_trans (Nat.le_add_right _ 2) M0.out.sz)))
  clear hb1 M0 HB0
  cases hv : validPicB wide high xs
  · have HV := Lib.hid hv; clear hv
    obtain ⟨c0, c1, c2, e0, e1, e2, f0, f1, f2, sz⟩ := M3.out
    go_wp2
    (try simp only [Exit.inBlock, Exit.then])
    refine bodyPost_ret (v := .tuple #[.agg #[.int .i64 0, .int .i64 0, .slice none 0 0], .int .i64 1]) (by rw [results_cell_tmp rfl]; go_simp) rfl ?_
    exact FPost.err 1 (turnV_1 HV.out) (set3 HB3.out (by omega) _ _ _)
  · obtain ⟨w0, w1, g0, g1, hlen, _⟩ := validPic_of hv
    obtain ⟨W, rfl⟩ := Int.eq_ofNat_of_zero_le (show 0 ≤ wide by omega)
    obtain ⟨H, rfl⟩ := Int.eq_ofNat_of_zero_le (show 0 ≤ high by omega)
    have hlen' : xs.length = W * H := by exact_mod_cast hlen
    have HV := Lib.hid hv; clear hv
    have HL := Lib.hid hlen'; clear hlen hlen'
    have HW : Hid (1 ≤ W ∧ W ≤ 16 ∧ 1 ≤ H ∧ H ≤ 16) := by show _ ∧ _; omega
    clear w0 w1 g0 g1
    obtain ⟨c0, c1, c2, e0, e1, e2, f0, f1, f2, sz⟩ := M3.out
    have hwz : wrap64 (qs.tmod 4 + 4) = qs.tmod 4 + 4 := by have := HM.out; exact IntWalk.wrap64_in (qs.tmod 4 + 4) (by omega)
    have hwk := HM.out.1
    go_wp2
    clear hwz hwk
    go_region_held_law (fun w' => w'.cell? ⟨w.heap.size, 0, none⟩ = some (.int .i64 W) ∧ w'.cell? ⟨w.heap.size, 1, none⟩ = some (.int .i64 H) ∧ w'.cell? ⟨w.heap.size, 2, none⟩ = some (.slice a xs.length ca)) (first | exact ⟨by assumption, by assumption, by assumption⟩ | go_keep) (fail)
    obtain rfl | rfl | rfl | rfl : k = 0 ∨ k = 1 ∨ k = 2 ∨ k = 3 := by have := HK4.out; omega
    · have HWQ : Hid ((W : Int) = ((wideQ 0 W H : Nat) : Int)) := by show _ = _; simp [wideQ]
      have h45 : 0 < 5 := by omega
      obtain ⟨ys, hys⟩ : ∃ ys, movedL 0 W H xs = ys := ⟨_, rfl⟩
      have HYS := Lib.hid hys; clear hys
      have HD3 : Hid (Below w3.heap.size w3 w3.drew.drew) := ((Below.refl _ _).drew).drew
      go_wp2
      go_region_held_law (fun w' => w'.cell? ⟨w.heap.size, 0, none⟩ = some (.int .i64 W) ∧ w'.cell? ⟨w.heap.size, 1, none⟩ = some (.int .i64 H) ∧ w'.cell? ⟨w.heap.size, 2, none⟩ = some (.slice a xs.length ca)) (first | exact ⟨by assumption, by assumption, by assumption⟩ | go_keep) (first
        | (go_at_call 53
           with_reducible refine (motions_any W H HW.out.2.1 HW.out.2.2.2 a xs.length ca _).mono ?_
           rintro e w5 ⟨R, B, rfl, hcaps, hR, hB, hb5⟩
           have hix : ∀ w, (Instr.index 71 (.agg #[motF 0 R B, motF 1 R B, motF 2 R B, motF 3 R B, motF 4 R B]) (.int .i64 0)).run Try.prog w = .ok (motF 0 R B) w := idx_mot 0 R B (by omega)
           have HB35 := Lib.hid (HD3.out.trans hb5)
           have HCR := Lib.hid (And.intro hcaps (And.intro hR hB))
           clear hcaps hR hB hb5 c0 c1 c2 e0 e1 e2 f0 f1 f2 sz
           obtain ⟨c0, c1, c2, e0, e1, e2, f0, f1, f2, sz⟩ := (M3.out.next HB35.out M3.out.sz))
        | (go_at_call 52
           with_reducible refine (movedQ_any 0 h45 W H R B HW.out.1 HW.out.2.1 HW.out.2.2.1 HW.out.2.2.2 a xs ca _ _ HL.out ((HS.out.below HB3.out).below HB35.out) HCR.out.1 HCR.out.2.1 HCR.out.2.2 _ HWQ.out).mono ?_
           rintro e w6 ⟨hb6, g6, a6, n6, cap6, he, hn6, hg6, ho6⟩
           rw [HYS.out] at hn6 ho6
           rw [← HWQ.out] at he
           subst he
           have HB36 := Lib.hid (HB35.out.trans (hb6.mono HB35.out.size))
           have HO6 := Lib.hid (And.intro hn6 (And.intro (Nat.le_trans HB35.out.size hg6) ho6))
           clear hn6 hg6 ho6 hb6 hix c0 c1 c2 e0 e1 e2 f0 f1 f2 sz
           obtain ⟨c0, c1, c2, e0, e1, e2, f0, f1, f2, sz⟩ := (M3.out.next HB36.out M3.out.sz)))
      all_goals
        go_wp2
        refine bodyPost_ret (v := .tuple #[.agg #[.int .i64 W, .int .i64 H, .slice a6 n6 cap6], .int .i64 0]) (by rw [results_cell_tmp rfl]; go_simp) rfl ?_
        have hW3 : w.heap.size + 2 ≤ w3.heap.size := M3.out.sz
        have hG6 := HO6.out.2.1
        refine FPost.ok (base := g6) (ys := ys) ?_ (set3 (R := w.heap.size + 1) (HB3.out.trans (HB36.out.mono (by omega))) (by omega) _ _ _) (((HO6.out.2.2.setBelow (p := ⟨w.heap.size + 1, 0, none⟩) (by show w.heap.size + 1 < g6; omega) _).setBelow (p := ⟨w.heap.size + 1, 1, none⟩) (by show w.heap.size + 1 < g6; omega) _).setBelow (p := ⟨w.heap.size + 1, 2, none⟩) (by show w.heap.size + 1 < g6; omega) _) HO6.out.1
        rw [turnV_0 HV.out, HYS.out, ← HWQ.out]; rfl
    · have HWQ : Hid ((H : Int) = ((wideQ 1 W H : Nat) : Int)) := by show _ = _; simp [wideQ]
      have h45 : 1 < 5 := by omega
      obtain ⟨ys, hys⟩ : ∃ ys, movedL 1 W H xs = ys := ⟨_, rfl⟩
      have HYS := Lib.hid hys; clear hys
      have HD3 : Hid (Below w3.heap.size w3 w3.drew.drew) := ((Below.refl _ _).drew).drew
      go_wp2
      go_region_held_law (fun w' => w'.cell? ⟨w.heap.size, 0, none⟩ = some (.int .i64 W) ∧ w'.cell? ⟨w.heap.size, 1, none⟩ = some (.int .i64 H) ∧ w'.cell? ⟨w.heap.size, 2, none⟩ = some (.slice a xs.length ca)) (first | exact ⟨by assumption, by assumption, by assumption⟩ | go_keep) (first
        | (go_at_call 53
           with_reducible refine (motions_any W H HW.out.2.1 HW.out.2.2.2 a xs.length ca _).mono ?_
           rintro e w5 ⟨R, B, rfl, hcaps, hR, hB, hb5⟩
           have hix : ∀ w, (Instr.index 71 (.agg #[motF 0 R B, motF 1 R B, motF 2 R B, motF 3 R B, motF 4 R B]) (.int .i64 1)).run Try.prog w = .ok (motF 1 R B) w := idx_mot 1 R B (by omega)
           have HB35 := Lib.hid (HD3.out.trans hb5)
           have HCR := Lib.hid (And.intro hcaps (And.intro hR hB))
           clear hcaps hR hB hb5 c0 c1 c2 e0 e1 e2 f0 f1 f2 sz
           obtain ⟨c0, c1, c2, e0, e1, e2, f0, f1, f2, sz⟩ := (M3.out.next HB35.out M3.out.sz))
        | (go_at_call 52
           with_reducible refine (movedQ_any 1 h45 W H R B HW.out.1 HW.out.2.1 HW.out.2.2.1 HW.out.2.2.2 a xs ca _ _ HL.out ((HS.out.below HB3.out).below HB35.out) HCR.out.1 HCR.out.2.1 HCR.out.2.2 _ HWQ.out).mono ?_
           rintro e w6 ⟨hb6, g6, a6, n6, cap6, he, hn6, hg6, ho6⟩
           rw [HYS.out] at hn6 ho6
           rw [← HWQ.out] at he
           subst he
           have HB36 := Lib.hid (HB35.out.trans (hb6.mono HB35.out.size))
           have HO6 := Lib.hid (And.intro hn6 (And.intro (Nat.le_trans HB35.out.size hg6) ho6))
           clear hn6 hg6 ho6 hb6 hix c0 c1 c2 e0 e1 e2 f0 f1 f2 sz
           obtain ⟨c0, c1, c2, e0, e1, e2, f0, f1, f2, sz⟩ := (M3.out.next HB36.out M3.out.sz)))
      all_goals
        go_wp2
        refine bodyPost_ret (v := .tuple #[.agg #[.int .i64 H, .int .i64 W, .slice a6 n6 cap6], .int .i64 0]) (by rw [results_cell_tmp rfl]; go_simp) rfl ?_
        have hW3 : w.heap.size + 2 ≤ w3.heap.size := M3.out.sz
        have hG6 := HO6.out.2.1
        refine FPost.ok (base := g6) (ys := ys) ?_ (set3 (R := w.heap.size + 1) (HB3.out.trans (HB36.out.mono (by omega))) (by omega) _ _ _) (((HO6.out.2.2.setBelow (p := ⟨w.heap.size + 1, 0, none⟩) (by show w.heap.size + 1 < g6; omega) _).setBelow (p := ⟨w.heap.size + 1, 1, none⟩) (by show w.heap.size + 1 < g6; omega) _).setBelow (p := ⟨w.heap.size + 1, 2, none⟩) (by show w.heap.size + 1 < g6; omega) _) HO6.out.1
        rw [turnV_0 HV.out, HYS.out, ← HWQ.out]; rfl
    · have HWQ : Hid ((W : Int) = ((wideQ 2 W H : Nat) : Int)) := by show _ = _; simp [wideQ]
      have h45 : 2 < 5 := by omega
      obtain ⟨ys, hys⟩ : ∃ ys, movedL 2 W H xs = ys := ⟨_, rfl⟩
      have HYS := Lib.hid hys; clear hys
      have HD3 : Hid (Below w3.heap.size w3 w3.drew.drew) := ((Below.refl _ _).drew).drew
      go_wp2
      go_region_held_law (fun w' => w'.cell? ⟨w.heap.size, 0, none⟩ = some (.int .i64 W) ∧ w'.cell? ⟨w.heap.size, 1, none⟩ = some (.int .i64 H) ∧ w'.cell? ⟨w.heap.size, 2, none⟩ = some (.slice a xs.length ca)) (first | exact ⟨by assumption, by assumption, by assumption⟩ | go_keep) (first
        | (go_at_call 53
           with_reducible refine (motions_any W H HW.out.2.1 HW.out.2.2.2 a xs.length ca _).mono ?_
           rintro e w5 ⟨R, B, rfl, hcaps, hR, hB, hb5⟩
           have hix : ∀ w, (Instr.index 71 (.agg #[motF 0 R B, motF 1 R B, motF 2 R B, motF 3 R B, motF 4 R B]) (.int .i64 2)).run Try.prog w = .ok (motF 2 R B) w := idx_mot 2 R B (by omega)
           have HB35 := Lib.hid (HD3.out.trans hb5)
           have HCR := Lib.hid (And.intro hcaps (And.intro hR hB))
           clear hcaps hR hB hb5 c0 c1 c2 e0 e1 e2 f0 f1 f2 sz
           obtain ⟨c0, c1, c2, e0, e1, e2, f0, f1, f2, sz⟩ := (M3.out.next HB35.out M3.out.sz))
        | (go_at_call 52
           with_reducible refine (movedQ_any 2 h45 W H R B HW.out.1 HW.out.2.1 HW.out.2.2.1 HW.out.2.2.2 a xs ca _ _ HL.out ((HS.out.below HB3.out).below HB35.out) HCR.out.1 HCR.out.2.1 HCR.out.2.2 _ HWQ.out).mono ?_
           rintro e w6 ⟨hb6, g6, a6, n6, cap6, he, hn6, hg6, ho6⟩
           rw [HYS.out] at hn6 ho6
           rw [← HWQ.out] at he
           subst he
           have HB36 := Lib.hid (HB35.out.trans (hb6.mono HB35.out.size))
           have HO6 := Lib.hid (And.intro hn6 (And.intro (Nat.le_trans HB35.out.size hg6) ho6))
           clear hn6 hg6 ho6 hb6 hix c0 c1 c2 e0 e1 e2 f0 f1 f2 sz
           obtain ⟨c0, c1, c2, e0, e1, e2, f0, f1, f2, sz⟩ := (M3.out.next HB36.out M3.out.sz)))
      all_goals
        go_wp2
        refine bodyPost_ret (v := .tuple #[.agg #[.int .i64 W, .int .i64 H, .slice a6 n6 cap6], .int .i64 0]) (by rw [results_cell_tmp rfl]; go_simp) rfl ?_
        have hW3 : w.heap.size + 2 ≤ w3.heap.size := M3.out.sz
        have hG6 := HO6.out.2.1
        refine FPost.ok (base := g6) (ys := ys) ?_ (set3 (R := w.heap.size + 1) (HB3.out.trans (HB36.out.mono (by omega))) (by omega) _ _ _) (((HO6.out.2.2.setBelow (p := ⟨w.heap.size + 1, 0, none⟩) (by show w.heap.size + 1 < g6; omega) _).setBelow (p := ⟨w.heap.size + 1, 1, none⟩) (by show w.heap.size + 1 < g6; omega) _).setBelow (p := ⟨w.heap.size + 1, 2, none⟩) (by show w.heap.size + 1 < g6; omega) _) HO6.out.1
        rw [turnV_0 HV.out, HYS.out, ← HWQ.out]; rfl
    · have HWQ : Hid ((H : Int) = ((wideQ 3 W H : Nat) : Int)) := by show _ = _; simp [wideQ]
      have h45 : 3 < 5 := by omega
      obtain ⟨ys, hys⟩ : ∃ ys, movedL 3 W H xs = ys := ⟨_, rfl⟩
      have HYS := Lib.hid hys; clear hys
      have HD3 : Hid (Below w3.heap.size w3 w3.drew.drew) := ((Below.refl _ _).drew).drew
      go_wp2
      go_region_held_law (fun w' => w'.cell? ⟨w.heap.size, 0, none⟩ = some (.int .i64 W) ∧ w'.cell? ⟨w.heap.size, 1, none⟩ = some (.int .i64 H) ∧ w'.cell? ⟨w.heap.size, 2, none⟩ = some (.slice a xs.length ca)) (first | exact ⟨by assumption, by assumption, by assumption⟩ | go_keep) (first
        | (go_at_call 53
           with_reducible refine (motions_any W H HW.out.2.1 HW.out.2.2.2 a xs.length ca _).mono ?_
           rintro e w5 ⟨R, B, rfl, hcaps, hR, hB, hb5⟩
           have hix : ∀ w, (Instr.index 71 (.agg #[motF 0 R B, motF 1 R B, motF 2 R B, motF 3 R B, motF 4 R B]) (.int .i64 3)).run Try.prog w = .ok (motF 3 R B) w := idx_mot 3 R B (by omega)
           have HB35 := Lib.hid (HD3.out.trans hb5)
           have HCR := Lib.hid (And.intro hcaps (And.intro hR hB))
           clear hcaps hR hB hb5 c0 c1 c2 e0 e1 e2 f0 f1 f2 sz
           obtain ⟨c0, c1, c2, e0, e1, e2, f0, f1, f2, sz⟩ := (M3.out.next HB35.out M3.out.sz))
        | (go_at_call 52
           with_reducible refine (movedQ_any 3 h45 W H R B HW.out.1 HW.out.2.1 HW.out.2.2.1 HW.out.2.2.2 a xs ca _ _ HL.out ((HS.out.below HB3.out).below HB35.out) HCR.out.1 HCR.out.2.1 HCR.out.2.2 _ HWQ.out).mono ?_
           rintro e w6 ⟨hb6, g6, a6, n6, cap6, he, hn6, hg6, ho6⟩
           rw [HYS.out] at hn6 ho6
           rw [← HWQ.out] at he
           subst he
           have HB36 := Lib.hid (HB35.out.trans (hb6.mono HB35.out.size))
           have HO6 := Lib.hid (And.intro hn6 (And.intro (Nat.le_trans HB35.out.size hg6) ho6))
           clear hn6 hg6 ho6 hb6 hix c0 c1 c2 e0 e1 e2 f0 f1 f2 sz
           obtain ⟨c0, c1, c2, e0, e1, e2, f0, f1, f2, sz⟩ := (M3.out.next HB36.out M3.out.sz)))
      all_goals
        go_wp2
        refine bodyPost_ret (v := .tuple #[.agg #[.int .i64 H, .int .i64 W, .slice a6 n6 cap6], .int .i64 0]) (by rw [results_cell_tmp rfl]; go_simp) rfl ?_
        have hW3 : w.heap.size + 2 ≤ w3.heap.size := M3.out.sz
        have hG6 := HO6.out.2.1
        refine FPost.ok (base := g6) (ys := ys) ?_ (set3 (R := w.heap.size + 1) (HB3.out.trans (HB36.out.mono (by omega))) (by omega) _ _ _) (((HO6.out.2.2.setBelow (p := ⟨w.heap.size + 1, 0, none⟩) (by show w.heap.size + 1 < g6; omega) _).setBelow (p := ⟨w.heap.size + 1, 1, none⟩) (by show w.heap.size + 1 < g6; omega) _).setBelow (p := ⟨w.heap.size + 1, 2, none⟩) (by show w.heap.size + 1 < g6; omega) _) HO6.out.1
        rw [turnV_0 HV.out, HYS.out, ← HWQ.out]; rfl
end Go.Proofs.Ytknhfliefkkpfab
