
/- Likeness of layer 2: words and a contract. -/
import Derived.Test.YtacbciamehchjaaMLow
namespace Go.Proofs.Ytacbciamehchjaa
open Go.RowKit

def columnV (m : List (List Int)) (j : Int) : List Int × Int := if validM m = true then (if thereB m j = true then (colM m j.toNat, 0) else ([], 5)) else ([], 1)
def prodV (m : List (List Int)) (i j : Int) : Int × Int := if validM m = true then (if thereB m i = true ∧ thereB m j = true then (dot (colM m i.toNat) (colM m j.toNat), 0) else (0, 5)) else (0, 1)
def likeV (m : List (List Int)) (i j : Int) : (Int × Int) × Int := if validM m = true then (if thereB m i = true ∧ thereB m j = true then likeC (colM m i.toNat) (colM m j.toNat) else ((0, 0), 5)) else ((0, 0), 1)
def namedV (m : List (List Int)) (ps : List Int) : Int := if validM m = true then (if ps.all (thereB m) = true then 0 else 5) else 1
/-- What a function that returns a number and an error returns. -/
def NPost (r : Int × Int) (w : World) (e : Ending) (w' : World) : Prop := Below w.heap.size w w' ∧ e = .returned (.tuple #[.int .i64 r.1, .int .i64 r.2])
theorem there_nat {m : List (List Int)} {j : Int} (h : thereB m j = true) : ∃ n : Nat, j = n ∧ n < colsM m := by
  simp [thereB] at h
  exact ⟨j.toNat, by omega, by omega⟩
theorem rangeB_there {m : List (List Int)} {j : Int} : rangeB j 0 ((colsM m : Int) - 1) = thereB m j := by
  unfold rangeB thereB; congr 1; rw [decide_eq_decide]; omega
theorem sl_lit1 (V : World) (x : Int) (t : TypeId) {B : Nat} (hB : B = V.heap.size) : Sl (V.alloc (.cells #[.int .i64 x] t)) (some ⟨B, 0, none⟩) [x] := by
  subst hB
  intro k hk
  have : k = 0 := by simpa using hk
  subst this
  exact ⟨_, _, rfl, alloc_cell _ _ _ _ _ rfl⟩
theorem sl_lit2 (V : World) (x y : Int) (t : TypeId) {B : Nat} (hB : B = V.heap.size) : Sl (V.alloc (.cells #[.int .i64 x, .int .i64 y] t)) (some ⟨B, 0, none⟩) [x, y] := by
  subst hB
  intro k hk
  have : k = 0 ∨ k = 1 := by simp at hk; omega
  rcases this with rfl | rfl
  · exact ⟨_, _, rfl, alloc_cell _ _ _ _ _ rfl⟩
  · exact ⟨_, _, rfl, alloc_cell _ _ _ _ _ rfl⟩

/-- The cell of a fraction that is to be returned, still zero. -/
structure RC (B : Nat) (w : World) : Prop where
  c0 : w.cell? ⟨B, 0, none⟩ = some (.int .i64 0)
  c1 : w.cell? ⟨B, 1, none⟩ = some (.int .i64 0)
  f0 : w.frozen? ⟨B, 0, none⟩ = false
  f1 : w.frozen? ⟨B, 1, none⟩ = false
  lt : B < w.heap.size
theorem RC.mk0 (w : World) (t : TypeId) : RC w.heap.size (w.alloc (.cells #[.int .i64 0, .int .i64 0] t)) :=
  ⟨alloc_cell _ _ _ _ _ rfl, alloc_cell _ _ _ _ _ rfl, by simp, by simp, by simp⟩
theorem RC.next {B : Nat} {w w' : World} (h : RC B w) (hb : Below w.heap.size w w') : RC B w' :=
  ⟨(hb.cell (p := ⟨B, 0, none⟩) h.lt).trans h.c0, (hb.cell (p := ⟨B, 1, none⟩) h.lt).trans h.c1, (hb.frozen (p := ⟨B, 0, none⟩) h.lt).trans h.f0, (hb.frozen (p := ⟨B, 1, none⟩) h.lt).trans h.f1, Nat.lt_of_lt_of_le h.lt hb.size⟩
theorem set2_below {w V : World} {B : Nat} (h : Below w.heap.size w V) (hB : w.heap.size ≤ B) (x y : Value) : Below w.heap.size w ((V.setCell ⟨B, 0, none⟩ x).setCell ⟨B, 1, none⟩ y) := (h.setCell hB _).setCell hB _
theorem prodV_ok {m : List (List Int)} {i j : Nat} (h : validM m = true) (hi : thereB m i = true) (hj : thereB m j = true) : prodV m i j = (dot (colM m i) (colM m j), 0) := by
  unfold prodV; rw [h, hi, hj]; rfl
theorem likeV_ok {m : List (List Int)} {i j : Nat} (h : validM m = true) (hi : thereB m i = true) (hj : thereB m j = true) : likeV m i j = likeC (colM m i) (colM m j) := by
  unfold likeV; rw [h, hi, hj]; rfl

set_option maxRecDepth 100000 in
set_option maxHeartbeats 400000 in
theorem mLikeness_any (a : Option Addr) (m : List (List Int)) (cap : Nat) (i j : Int) (w : World) (hm : MOk m) (hs : Ms w a m) :
    Calls Try.prog 42 #[.slice a m.length cap, .int .i64 i, .int .i64 j] w (QPost (likeV m i j) w) := by
  have HM := Lib.hid hm; clear hm
  have HR0 := Lib.hid (RC.mk0 w 44)
  have HS := Lib.hid (hs.alloc (.cells #[.int .i64 0, .int .i64 0] 44)); clear hs
  have HB0 : Hid (Below w.heap.size w (w.alloc (.cells #[.int .i64 0, .int .i64 0] 44))) := (Below.refl _ _).alloc (Nat.le_refl _) _
  go_enter Try.func42, Try.ntmps42
  go_wp2_with fail
  generalize w.alloc (.cells #[.int .i64 0, .int .i64 0] 44) = W0 at *
  refine (mvalid_any _ _ _ _ HM.out HS.out).mono ?_
  rintro e w1 ⟨rfl, hb1⟩
  have HB1 : Hid (Below w.heap.size w w1) := Below.next HB0.out hb1 (Nat.le_refl _)
  have HS1 := Lib.hid (HS.out.below hb1)
  have HR1 := Lib.hid (HR0.out.next hb1); clear hb1
  cases hv : validM m
  · have HV := Lib.hid hv; clear hv
    obtain ⟨c0, c1, f0, f1, lt⟩ := HR1.out
    go_wp2
    (try simp only [Exit.inBlock, Exit.then])
    refine bodyPost_ret (v := .tuple #[.agg #[.int .i64 0, .int .i64 0], .int .i64 1]) (by rw [results_cell_tmp rfl]; go_simp) rfl ⟨?_, by unfold likeV; rw [HV.out]; rfl⟩
    exact set2_below HB1.out (Nat.le_refl _) _ _
  · have HV := Lib.hid hv; clear hv
    go_wp2_with fail
    refine (there_any _ _ _ _ _ HV.out HS1.out).mono ?_
    rintro e w2 ⟨rfl, rfl⟩
    cases hti : thereB m i
    · have HT := Lib.hid hti; clear hti
      obtain ⟨c0, c1, f0, f1, lt⟩ := HR1.out
      go_wp2
      (try simp only [Exit.inBlock, Exit.then])
      refine bodyPost_ret (v := .tuple #[.agg #[.int .i64 0, .int .i64 0], .int .i64 5]) (by rw [results_cell_tmp rfl]; go_simp) rfl ⟨?_, by unfold likeV; rw [HV.out, HT.out]; rfl⟩
      exact set2_below HB1.out (Nat.le_refl _) _ _
    · have HTI := Lib.hid hti; clear hti
      go_wp2_with fail
      refine (there_any _ _ _ _ _ HV.out HS1.out).mono ?_
      rintro e w2 ⟨rfl, rfl⟩
      cases htj : thereB m j
      · have HT := Lib.hid htj; clear htj
        obtain ⟨c0, c1, f0, f1, lt⟩ := HR1.out
        go_wp2
        (try simp only [Exit.inBlock, Exit.then])
        refine bodyPost_ret (v := .tuple #[.agg #[.int .i64 0, .int .i64 0], .int .i64 5]) (by rw [results_cell_tmp rfl]; go_simp) rfl ⟨?_, by unfold likeV; rw [HV.out, HTI.out, HT.out]; rfl⟩
        exact set2_below HB1.out (Nat.le_refl _) _ _
      · have HTJ := Lib.hid htj; clear htj
        obtain ⟨i, rfl, hi⟩ := there_nat HTI.out
        obtain ⟨j, rfl, hj⟩ := there_nat HTJ.out
        have CI := Lib.hid (colM_all HV.out hi)
        have CJ := Lib.hid (colM_all HV.out hj)
        have h6 := (validM_of HV.out).2.1
        go_wp2_with fail
        refine (mcolumn_any _ m _ i _ HV.out hi HS1.out).mono ?_
        rintro e w3 ⟨hb3, a3, c3, rfl, s3⟩
        have HB3 : Hid (Below w.heap.size w w3) := Below.next HB1.out hb3 (Nat.le_refl _)
        have HR3 := Lib.hid (HR1.out.next hb3)
        have HSM3 := Lib.hid (HS1.out.below hb3)
        have HS3 := Lib.hid s3; clear s3 hb3
        go_wp2_with fail
        refine (mcolumn_any _ m _ j _ HV.out hj HSM3.out).mono ?_
        rintro e w4 ⟨hb4, a4, c4, rfl, s4⟩
        have HB4 : Hid (Below w.heap.size w w4) := Below.next HB3.out hb4 (Nat.le_refl _)
        have HR4 := Lib.hid (HR3.out.next hb4)
        have HS34 := Lib.hid (HS3.out.below hb4)
        have HS4 := Lib.hid s4; clear s4 hb4
        have l1 : (colM m i).length ≤ 10 := by rw [colM_length]; omega
        have l2 : Hid ((colM m i).length = (colM m j).length) := by show _ = _; rw [colM_length, colM_length]
        go_wp2_with fail
        refine (likeness_any _ _ _ _ _ _ _ CI.out CJ.out l2.out l1 HS34.out HS4.out).mono ?_
        rintro e w5 ⟨hb5, rfl⟩
        have HB5 : Hid (Below w.heap.size w w5) := Below.next HB4.out hb5 (Nat.le_refl _)
        have HR5 := Lib.hid (HR4.out.next hb5); clear hb5
        obtain ⟨⟨⟨n, d⟩, q⟩, hr⟩ : ∃ r, likeC (colM m i) (colM m j) = r := ⟨_, rfl⟩
        have HL : Hid (likeV m i j = ((n, d), q)) := by show _ = _; rw [likeV_ok HV.out HTI.out HTJ.out, hr]
        rw [hr]
        clear hr
        dsimp only
        obtain ⟨c0, c1, f0, f1, lt⟩ := HR5.out
        go_wp2
        (try simp only [Exit.inBlock, Exit.then])
        refine bodyPost_ret (v := .tuple #[.agg #[.int .i64 n, .int .i64 d], .int .i64 q]) (by rw [results_cell_tmp rfl]; go_simp) rfl ⟨?_, by rw [HL.out]⟩
        exact set2_below HB5.out (Nat.le_refl _) _ _

end Go.Proofs.Ytacbciamehchjaa
