/- Column, Product and Likeness of layer 2 and of its answers: contracts. -/
import Derived.Test.YtkakjfijmekdjabMLow
namespace Go.Proofs.Ytkakjfijmekdjab
open Go.RowKit

def columnV (m : List (List Int)) (j : Int) : List Int × Int := if validM m = true then (if thereB m j = true then (colM m j.toNat, 0) else ([], 5)) else ([], 1)
def prodV (m : List (List Int)) (i j : Int) : Int × Int := if validM m = true then (if thereB m i = true ∧ thereB m j = true then (dot (colM m i.toNat) (colM m j.toNat), 0) else (0, 5)) else (0, 1)
def likeV (m : List (List Int)) (i j : Int) : (Int × Int) × Int := if validM m = true then (if thereB m i = true ∧ thereB m j = true then likeC (colM m i.toNat) (colM m j.toNat) else ((0, 0), 5)) else ((0, 0), 1)
def namedV (m : List (List Int)) (ps : List Int) : Int := if validM m = true then (if ps.all (thereB m) = true then 0 else 5) else 1
/-- What a function that returns a number and an error returns. -/
def NPost (r : Int × Int) (w : World) (e : Ending) (w' : World) : Prop := Below w.heap.size w w' ∧ e = .returned (.tuple #[.int .i64 r.1, .int .i64 r.2])
theorem there_nat {m : List (List Int)} {j : Int} (h : thereB m j = true) : ∃ n : Nat, j = n ∧ n < colsM m := by
  simp [thereB] at h
  exact ⟨j.toNat, by omega, by omega⟩
theorem rangeB_there {m : List (List Int)} {j : Int} : rangeB j 0 ((colsM m : Int) - 1) = thereB m j := by
  unfold rangeB thereB; congr 1; rw [decide_eq_decide]; omega
theorem sl_lit1 (V : World) (x : Int) (t : TypeId) {B : Nat} (hB : B = V.heap.size) : Sl (V.alloc (.cells #[.int .i64 x] t)) (some ⟨B, 0, none⟩) [x] := by
  subst hB
  intro k hk
  have : k = 0 := by simpa using hk
  subst this
  exact ⟨_, _, rfl, alloc_cell _ _ _ _ _ rfl⟩
theorem sl_lit2 (V : World) (x y : Int) (t : TypeId) {B : Nat} (hB : B = V.heap.size) : Sl (V.alloc (.cells #[.int .i64 x, .int .i64 y] t)) (some ⟨B, 0, none⟩) [x, y] := by
  subst hB
  intro k hk
  have : k = 0 ∨ k = 1 := by simp at hk; omega
  rcases this with rfl | rfl
  · exact ⟨_, _, rfl, alloc_cell _ _ _ _ _ rfl⟩
  · exact ⟨_, _, rfl, alloc_cell _ _ _ _ _ rfl⟩

set_option maxRecDepth 100000 in
theorem named_any (a : Option Addr) (m : List (List Int)) (cap : Nat) (b : Option Addr) (ps : List Int) (cb : Nat) (w : World) (hm : MOk m) (hl : ps.length ≤ 9223372036854775807) (hs : Ms w a m) (hp : Sl w b ps) :
    Calls Try.prog 55 #[.slice a m.length cap, .slice b ps.length cb] w fun e w' => e = .returned (.int .i64 (namedV m ps)) ∧ w = w' := by
  have HM := Lib.hid hm; clear hm
  have HS := Lib.hid hs; clear hs
  have HP := Lib.hid hp; clear hp
  cases hv : validM m
  · have HV : Hid (namedV m ps = 1) := by show namedV m ps = 1; unfold namedV; rw [hv]; rfl
    go_enter Try.func55, Try.ntmps55
    go_wp2_with (go_at_call 45; refine (rvalid_any _ _ _ _ HM.out HS.out).mono ?_; rintro e w' ⟨rfl, rfl⟩)
    go_ret
    exact ⟨ret_i64 HV.out.symm, rfl⟩
  · obtain ⟨hm1, hm6, hc1, hc10, _⟩ := validM_of hv
    have HV : Hid (namedV m ps = if ps.all (thereB m) = true then 0 else 5) := by show namedV m ps = _; unfold namedV; rw [hv]; rfl
    obtain ⟨b0, o0, a0, c0, rfl, hcell⟩ := row0 HS.out hm1
    go_enter Try.func55, Try.ntmps55
    go_wp2_with (go_at_call 45; refine (rvalid_any _ _ _ _ HM.out HS.out).mono ?_; rintro e w' ⟨rfl, rfl⟩)
    clear hv
    go_loop [12] (fun i => ∃ k : Nat, k ≤ ps.length ∧ i = .int .i64 k ∧ ∀ j, j < k → thereB m (ps[j]?.getD 0) = true) (fun i => ps.length - (intOf i).toNat)
    case atStart => exact ⟨0, Nat.zero_le _, rfl, fun j h => by omega⟩
    case round =>
      obtain ⟨k, hk, rfl, hno⟩ := hrel
      have HO := Lib.hid hno; clear hno
      by_cases hlt : k < ps.length
      · obtain ⟨b1, o1, x, rfl, hcx, HX⟩ := HP.out.at hlt
        cases ht : thereB m x
        · have HT := Lib.hid ht; clear ht
          go_wp2_with (go_at_call 71; refine (mwithin_any _ _ _ _).mono ?_; rintro e w' ⟨rfl, rfl⟩; rw [rangeB_there, HT.out])
          go_ret
          refine ⟨ret_i64 ?_, rfl⟩
          rw [HV.out, if_neg]
          rw [List.all_eq_true]; intro h
          have := h x (List.mem_of_getElem? HX.out)
          rw [HT.out] at this; cases this
        · have HT := Lib.hid ht; clear ht
          go_wp2_with (go_at_call 71; refine (mwithin_any _ _ _ _).mono ?_; rintro e w' ⟨rfl, rfl⟩; rw [rangeB_there, HT.out])
          go_round
          case rel => exact ⟨k + 1, by omega, by go_num, fun j hj => by
              by_cases hj' : j = k
              · subst hj'; rw [HX.out]; exact HT.out
              · exact HO.out j (by omega)⟩
          case measure => simp [intOf]; omega
      · go_wp2
        go_ret
        refine ⟨ret_i64 ?_, rfl⟩
        rw [HV.out, if_pos]
        rw [List.all_eq_true]; intro x hx
        obtain ⟨i, hi, rfl⟩ := List.mem_iff_getElem.1 hx
        have := HO.out i (by omega)
        simpa [hi] using this
theorem namedV_no {m : List (List Int)} {ps : List Int} (h : validM m = false) : namedV m ps = 1 := by unfold namedV; rw [h]; rfl

set_option maxRecDepth 100000 in
theorem mColumn_any (a : Option Addr) (m : List (List Int)) (cap : Nat) (j : Int) (w : World) (hm : MOk m) (hs : Ms w a m) :
    Calls Try.prog 14 #[.slice a m.length cap, .int .i64 j] w (LPost (columnV m j) w) := by
  have HM := Lib.hid hm; clear hm
  have HS := Lib.hid hs; clear hs
  go_enter Try.func14, Try.ntmps14
  go_wp2_with fail
  refine (mvalid_any _ _ _ _ HM.out HS.out).mono ?_
  rintro e w1 ⟨rfl, hb1⟩
  have HB1 := Lib.hid hb1; clear hb1
  cases hv : validM m
  · have HV := Lib.hid hv; clear hv
    go_wp2
    go_ret2
    exact LPost.err 1 (by unfold columnV; rw [HV.out]; rfl) HB1.out
  · have HV := Lib.hid hv; clear hv
    go_wp2_with fail
    refine (there_any _ _ _ _ _ HV.out (HS.out.below HB1.out)).mono ?_
    rintro e w2 ⟨rfl, rfl⟩
    cases ht : thereB m j
    · have HT := Lib.hid ht; clear ht
      go_wp2
      go_ret2
      exact LPost.err 5 (by unfold columnV; rw [HV.out, HT.out]; rfl) HB1.out
    · have HT := Lib.hid ht; clear ht
      obtain ⟨n, rfl, hn⟩ := there_nat HT.out
      go_wp2_with fail
      refine (mcolumn_any _ m _ n _ HV.out hn (HS.out.below HB1.out)).mono ?_
      rintro e w3 ⟨hb3, a3, c3, rfl, s3⟩
      have HB3 := Lib.hid hb3; clear hb3
      have HS3 := Lib.hid s3; clear s3
      go_wp2
      go_ret2
      exact ⟨HB1.out.trans (HB3.out.mono HB1.out.size), a3, c3, by unfold columnV; rw [HV.out, HT.out]; rfl, by unfold columnV; rw [HV.out, HT.out]; exact HS3.out⟩
set_option maxRecDepth 100000 in
theorem rColumn_any (a : Option Addr) (m : List (List Int)) (cap : Nat) (j : Int) (w : World) (hm : MOk m) (hs : Ms w a m) :
    Calls Try.prog 15 #[.slice a m.length cap, .int .i64 j] w (LPost (columnV m j) w) := by
  have HM := Lib.hid hm; clear hm
  have HS := Lib.hid (hs.alloc (.cells #[.int .i64 j] 3)); clear hs
  have HB1 : Hid (Below w.heap.size w (w.alloc (.cells #[.int .i64 j] 3))) := (Below.refl _ _).alloc (Nat.le_refl _) _
  have HL : Hid (Sl (w.alloc (.cells #[.int .i64 j] 3)) (some ⟨w.heap.size, 0, none⟩) [j]) := sl_lit1 _ _ _ rfl
  obtain ⟨f, hf⟩ : ∃ f, namedV m [j] = f := ⟨_, rfl⟩
  have HF := Lib.hid hf; clear hf
  have HD : Hid (columnV m j = if f = 0 then (colM m j.toNat, 0) else ([], f)) := by
    show columnV m j = _
    rw [← HF.out]; unfold namedV columnV
    cases validM m <;> cases h : thereB m j <;> simp [h]
  go_enter Try.func15, Try.ntmps15
  go_wp2_with fail
  refine (named_any _ m _ _ [j] _ _ HM.out (by simp) HS.out HL.out).mono ?_
  rintro e w1 ⟨rfl, rfl⟩
  rw [HF.out]
  by_cases h0 : f = 0
  · subst h0
    have hh : validM m = true ∧ thereB m j = true := by
      have := HF.out; unfold namedV at this
      cases hv : validM m <;> cases h : thereB m j <;> simp [hv, h] at this ⊢
    obtain ⟨hv, ht⟩ := hh
    have HV := Lib.hid hv; clear hv
    obtain ⟨n, hjn, hn⟩ := there_nat ht
    clear ht
    subst hjn
    go_wp2_with fail
    refine (rcolumn_any _ m _ n _ HV.out hn HS.out).mono ?_
    rintro e w3 ⟨hb3, a3, c3, rfl, s3⟩
    have HB3 := Lib.hid hb3; clear hb3
    have HS3 := Lib.hid s3; clear s3
    go_wp2
    go_ret2
    exact ⟨HB1.out.trans (HB3.out.mono HB1.out.size), a3, c3, by rw [HD.out]; rfl, by rw [HD.out]; exact HS3.out⟩
  · have e0 : (f == 0) = false := by simpa using h0
    have e1 : (f != 0) = true := by simpa using h0
    have H0 := Lib.hid h0; clear h0
    go_wp2
    go_ret2
    exact LPost.err f (by rw [HD.out, if_neg H0.out]) HB1.out
end Go.Proofs.Ytkakjfijmekdjab
