/- Rows, Pixels and Shown of layer 2; Rows, Pixels, Read and Back of its answers: contracts. -/
import Derived.Test.YtkakjfijmekdjaaMRead
import Derived.Test.YtkakjfijmekdjaaMLike
namespace Go.Proofs.Ytkakjfijmekdjaa
open Go.RowKit

def rowsV (m : List (List Int)) : Int × Int := if validM m = true then (m.length, 0) else (0, 1)
def pixelsV (m : List (List Int)) : Int × Int := if validM m = true then (colsM m, 0) else (0, 1)
theorem rowsV_no {m : List (List Int)} (h : validM m = false) : rowsV m = (0, 1) := by unfold rowsV; rw [h]; rfl
theorem rowsV_ok {m : List (List Int)} (h : validM m = true) : rowsV m = ((m.length : Int), 0) := by unfold rowsV; rw [h, if_pos rfl]
theorem pixelsV_no {m : List (List Int)} (h : validM m = false) : pixelsV m = (0, 1) := by unfold pixelsV; rw [h]; rfl
theorem pixelsV_ok {m : List (List Int)} (h : validM m = true) : pixelsV m = ((colsM m : Int), 0) := by unfold pixelsV; rw [h, if_pos rfl]

theorem mrows_any (a : Option Addr) (m : List (List Int)) (cap : Nat) (w : World) (hm : MOk m) (hs : Ms w a m) :
    Calls Try.prog 55 #[.slice a m.length cap] w (NPost (rowsV m) w) := by
  have HM := Lib.hid hm; clear hm
  have HS := Lib.hid hs; clear hs
  go_enter Try.func55, Try.ntmps55
  go_wp2_with fail
  refine (mvalid_any _ _ _ _ HM.out HS.out).mono ?_
  rintro e w1 ⟨rfl, hb1⟩
  cases hv : validM m
  · have HV := Lib.hid hv; clear hv
    go_wp2
    go_ret2
    exact ⟨hb1, by rw [rowsV_no HV.out]; rfl⟩
  · have HV := Lib.hid hv; clear hv
    go_wp2
    go_ret2
    exact ⟨hb1, by rw [rowsV_ok HV.out]; rfl⟩
theorem rrows_any (a : Option Addr) (m : List (List Int)) (cap : Nat) (w : World) (hm : MOk m) (hs : Ms w a m) :
    Calls Try.prog 56 #[.slice a m.length cap] w (NPost (rowsV m) w) := by
  have HM := Lib.hid hm; clear hm
  have HS := Lib.hid hs; clear hs
  go_enter Try.func56, Try.ntmps56
  go_wp2_with fail
  refine (rvalid_any _ _ _ _ HM.out HS.out).mono ?_
  rintro e w1 ⟨rfl, rfl⟩
  cases hv : validM m
  · have HV := Lib.hid hv; clear hv
    go_wp2
    go_ret2
    exact ⟨Below.refl _ _, by rw [rowsV_no HV.out]; rfl⟩
  · have HV := Lib.hid hv; clear hv
    go_wp2
    go_ret2
    exact ⟨Below.refl _ _, by rw [rowsV_ok HV.out]; rfl⟩
theorem mpixels_any (a : Option Addr) (m : List (List Int)) (cap : Nat) (w : World) (hm : MOk m) (hs : Ms w a m) :
    Calls Try.prog 57 #[.slice a m.length cap] w (NPost (pixelsV m) w) := by
  have HM := Lib.hid hm; clear hm
  have HS := Lib.hid hs; clear hs
  go_enter Try.func57, Try.ntmps57
  go_wp2_with fail
  refine (mvalid_any _ _ _ _ HM.out HS.out).mono ?_
  rintro e w1 ⟨rfl, hb1⟩
  cases hv : validM m
  · have HV := Lib.hid hv; clear hv
    go_wp2
    go_ret2
    exact ⟨hb1, by rw [pixelsV_no HV.out]; rfl⟩
  · have hm1 := (validM_of hv).1
    obtain ⟨b0, o0, a0, c0, rfl, hcell⟩ := row0 (HS.out.below hb1) hm1
    have HV := Lib.hid hv; clear hv
    go_wp2
    go_ret2
    exact ⟨hb1, by rw [pixelsV_ok HV.out]; rfl⟩
theorem rpixels_any (a : Option Addr) (m : List (List Int)) (cap : Nat) (w : World) (hm : MOk m) (hs : Ms w a m) :
    Calls Try.prog 58 #[.slice a m.length cap] w (NPost (pixelsV m) w) := by
  have HM := Lib.hid hm; clear hm
  have HS := Lib.hid hs; clear hs
  go_enter Try.func58, Try.ntmps58
  go_wp2_with fail
  refine (rvalid_any _ _ _ _ HM.out HS.out).mono ?_
  rintro e w1 ⟨rfl, rfl⟩
  cases hv : validM m
  · have HV := Lib.hid hv; clear hv
    go_wp2
    go_ret2
    exact ⟨Below.refl _ _, by rw [pixelsV_no HV.out]; rfl⟩
  · have hm1 := (validM_of hv).1
    obtain ⟨b0, o0, a0, c0, rfl, hcell⟩ := row0 HS.out hm1
    have HV := Lib.hid hv; clear hv
    go_wp2
    go_ret2
    exact ⟨Below.refl _ _, by rw [pixelsV_ok HV.out]; rfl⟩
theorem mshown_any (a : Option Addr) (m : List (List Int)) (cap : Nat) (b : Option Addr) (xs : List Int) (c : Nat) (w : World) (hm : MOk m) (hl : xs.length ≤ 9223372036854775807) (hs : Ms w a m) (hx : Sl w b xs) :
    Calls Try.prog 61 #[.slice a m.length cap, .slice b xs.length c] w fun e w' => e = .returned (.bool (shownM m xs)) ∧ Below w.heap.size w w' := by
  have HM := Lib.hid hm; clear hm
  have HS := Lib.hid hs; clear hs
  have HX := Lib.hid hx; clear hx
  have HD : Hid (shownM m xs = (validM m && decide (fitsV xs (colsM m) 1000000 = 0))) := Lib.hid rfl
  go_enter Try.func61, Try.ntmps61
  go_wp2_with fail
  refine (mvalid_any _ _ _ _ HM.out HS.out).mono ?_
  rintro e w1 ⟨rfl, hb1⟩
  have HB1 := Lib.hid hb1; clear hb1
  cases hv : validM m
  · rw [hv] at HD
    clear hv
    go_wp2
    go_ret
    exact ⟨ret_bool (by rw [HD.out]; simp), HB1.out⟩
  · rw [hv] at HD
    have hm1 := (validM_of hv).1
    clear hv
    obtain ⟨b0, o0, a0, c0, rfl, hcell⟩ := row0 (HS.out.below HB1.out) hm1
    obtain ⟨f, hf⟩ : ∃ f, fitsV xs (colsM m) 1000000 = f := ⟨_, rfl⟩
    have HF := Lib.hid hf; clear hf
    go_wp2_with fail
    refine (fits_any _ _ _ _ _ (by omega) (by omega) _ hl (HX.out.below HB1.out)).mono ?_
    rintro e w2 ⟨rfl, hb2⟩
    rw [HF.out]
    have HB2 : Hid (Below w.heap.size w w2) := HB1.out.trans (hb2.mono HB1.out.size)
    clear hb2 hcell
    by_cases h0 : f = 0
    · subst h0
      go_wp2
      go_ret
      exact ⟨ret_bool (by rw [HD.out, HF.out]; simp), HB2.out⟩
    · have e0 : (f == 0) = false := by simpa using h0
      have H0 := Lib.hid h0; clear h0
      go_wp2
      go_ret
      exact ⟨ret_bool (by rw [HD.out, HF.out]; simp [H0.out]), HB2.out⟩

set_option maxRecDepth 100000 in
set_option maxHeartbeats 400000 in
theorem rread_any (a : Option Addr) (m : List (List Int)) (cap : Nat) (b : Option Addr) (xs : List Int) (cb : Nat) (w : World) (hm : MOk m) (hl : xs.length ≤ 9223372036854775807) (hs : Ms w a m) (hx : Sl w b xs) :
    Calls Try.prog 64 #[.slice a m.length cap, .slice b xs.length cb] w (LPost (readV m xs) w) := by
  have HM := Lib.hid hm; clear hm
  have HS := Lib.hid hs; clear hs
  have HX := Lib.hid hx; clear hx
  go_enter Try.func64, Try.ntmps64
  go_wp2_with fail
  refine (rvalid_any _ _ _ _ HM.out HS.out).mono ?_
  rintro e w1 ⟨rfl, rfl⟩
  cases hv : validM m
  · have HV := Lib.hid hv; clear hv
    go_wp2
    go_ret2
    exact LPost.err 1 (readV_no HV.out) (Below.refl _ _)
  · obtain ⟨hm1, hm6, hc1, hc10, _⟩ := validM_of hv
    have HV := Lib.hid hv; clear hv
    obtain ⟨b0, o0, a0, c0, rfl, hcell⟩ := row0 HS.out hm1
    obtain ⟨f, hf⟩ : ∃ f, fitsV xs (colsM m) 1000000 = f := ⟨_, rfl⟩
    have HF := Lib.hid hf; clear hf
    go_wp2_with fail
    refine (rlisted_any _ _ _ _ _ (by omega) (by omega) _ hl HX.out).mono ?_
    rintro e w2 ⟨rfl, rfl⟩
    rw [HF.out]
    clear hcell
    by_cases h0 : f = 0
    · subst h0
      obtain ⟨hxl, hxa⟩ := fitsV_0 HF.out
      have hxl' : xs.length ≤ 10 := by omega
      have HXL : Hid (xs.length = colsM m) := by show xs.length = colsM m; omega
      clear hxl
      have HXA := Lib.hid hxa; clear hxa
      have HT : Hid (∀ k r, m[k]? = some r → (readL m xs).take (k + 1) = (readL m xs).take k ++ [dot r xs]) := by
        intro k r hr
        have hk : k < m.length := (List.getElem?_eq_some_iff.1 hr).1
        rw [List.take_succ_eq_append_getElem (by rw [readL_length]; exact hk)]
        congr 2
        simp [readL, (List.getElem?_eq_some_iff.1 hr).2]
      go_wp2
      go_loopw [7, 24] (fun v i wr => ∃ (k : Nat), k ≤ m.length ∧ i = .int .i64 k ∧ OwnI wr w.heap.size v ((readL m xs).take k) ∧ Below w.heap.size w wr) (fun _ i _ => m.length - (intOf i).toNat)
      case atStart => exact ⟨0, Nat.zero_le _, rfl, OwnI.nil _ _, Below.refl _ _⟩
      case round =>
        obtain ⟨k, hk, rfl, hO, hB⟩ := hrel
        have HO := Lib.hid hO; clear hO
        have HB3 := Lib.hid hB; clear hB
        by_cases hlt : k < m.length
        · obtain ⟨b1, o1, ai, r, ci, he1, hcell, hsl, HR⟩ := (HS.out.below HB3.out).at hlt
          obtain ⟨rfl, rfl⟩ : b0 = b1 ∧ o0 = o1 := by simpa using he1
          clear he1
          obtain ⟨hrl, hra⟩ := validM_row HV.out HR.out
          have hr10 : r.length ≤ 10 := by omega
          have hrx : r.length ≤ xs.length := by have := HXL.out; omega
          have HPB := Lib.hid (PB_of hra HXA.out hrx (by omega))
          have HSL := Lib.hid hsl; clear hsl
          clear hrl hra
          go_wp2_with fail
          refine (rdot_any _ _ _ _ _ _ _ hr10 hrx hl HPB.out HSL.out (HX.out.below HB3.out)).mono ?_
          rintro e w5 ⟨rfl, n5, hw5⟩
          have hb5 := drew_below hw5; clear hw5
          have HO5 := Lib.hid (HO.out.below hb5)
          have HB5 : Hid (Below w.heap.size w w5) := Below.next HB3.out hb5 (Nat.le_refl _)
          clear hb5
          go_wp2_with (at_builtin; go_must (refine wpList_push rfl (.tmp 28) (.tmp 32) rfl w.heap.size _ ((readL m xs).take k) _ _ _ _ rfl rfl rfl HO5.out (by rw [List.length_take]; omega) HB5.out.size ?_); intro v' w9 ho' hb')
          go_roundw
          case rel => exact ⟨k + 1, by omega, by go_num, by rw [HT.out k r HR.out]; exact ho', HB5.out.trans hb'⟩
          case measure => simp [intOf]; omega
        · obtain rfl : k = m.length := by omega
          go_wp2
          go_ret2
          exact LPost.own (by rw [readV_ok HV.out HF.out, List.take_of_length_le (by rw [readL_length]; exact Nat.le_refl _)]) HB3.out HO.out
    · have e0 : (f == 0) = false := by simpa using h0
      have e1 : (f != 0) = true := by simpa using h0
      have H0 := Lib.hid h0; clear h0
      go_wp2
      go_ret2
      exact LPost.err f (readV_err HV.out HF.out H0.out) (Below.refl _ _)
set_option maxRecDepth 100000 in
set_option maxHeartbeats 400000 in
theorem rback_any (a : Option Addr) (m : List (List Int)) (cap : Nat) (b : Option Addr) (xs : List Int) (cb : Nat) (w : World) (hm : MOk m) (hl : xs.length ≤ 9223372036854775807) (hs : Ms w a m) (hx : Sl w b xs) :
    Calls Try.prog 66 #[.slice a m.length cap, .slice b xs.length cb] w (LPost (backV m xs) w) := by
  have HM := Lib.hid hm; clear hm
  have HS := Lib.hid hs; clear hs
  have HX := Lib.hid hx; clear hx
  go_enter Try.func66, Try.ntmps66
  go_wp2_with fail
  refine (rvalid_any _ _ _ _ HM.out HS.out).mono ?_
  rintro e w1 ⟨rfl, rfl⟩
  cases hv : validM m
  · have HV := Lib.hid hv; clear hv
    go_wp2
    go_ret2
    exact LPost.err 1 (backV_no HV.out) (Below.refl _ _)
  · obtain ⟨hm1, hm6, hc1, hc10, _⟩ := validM_of hv
    have HV := Lib.hid hv; clear hv
    obtain ⟨f, hf⟩ : ∃ f, fitsV xs m.length 1000000000 = f := ⟨_, rfl⟩
    have HF := Lib.hid hf; clear hf
    go_wp2_with fail
    refine (rlisted_any _ _ _ _ _ (by omega) (by omega) _ hl HX.out).mono ?_
    rintro e w2 ⟨rfl, rfl⟩
    rw [HF.out]
    by_cases h0 : f = 0
    · subst h0
      obtain ⟨hxl, hxa⟩ := fitsV_0 HF.out
      have hxl' : xs.length ≤ 10 := by omega
      have HXL : Hid (xs.length = m.length) := by show xs.length = m.length; omega
      clear hxl
      have HXA := Lib.hid hxa; clear hxa
      have HT : Hid (∀ k, k < colsM m → (backL m xs).take (k + 1) = (backL m xs).take k ++ [dot (colM m k) xs]) := by
        intro k hk
        rw [List.take_succ_eq_append_getElem (by rw [backL_length]; exact hk)]
        congr 2
        simp [backL]
      obtain ⟨b0, o0, a0, c0, rfl, hcell⟩ := row0 HS.out hm1
      go_wp2
      clear hcell
      go_loopw [7, 23] (fun v i wr => ∃ (k : Nat), k ≤ colsM m ∧ i = .int .i64 k ∧ OwnI wr w.heap.size v ((backL m xs).take k) ∧ Below w.heap.size w wr) (fun _ i _ => colsM m - (intOf i).toNat)
      case atStart => exact ⟨0, Nat.zero_le _, rfl, OwnI.nil _ _, Below.refl _ _⟩
      case round =>
        obtain ⟨k, hk, rfl, hO, hB⟩ := hrel
        have HO := Lib.hid hO; clear hO
        have HB3 := Lib.hid hB; clear hB
        by_cases hlt : k < colsM m
        · have hcl : (colM m k).length ≤ 10 := by rw [colM_length]; omega
          have hcx : (colM m k).length ≤ xs.length := by rw [colM_length]; have := HXL.out; omega
          have HPB := Lib.hid (PB_of (colM_all HV.out hlt) HXA.out hcx (by omega))
          go_wp2_with fail
          refine (rcolumn_any _ m cap k _ HV.out hlt (HS.out.below HB3.out)).mono ?_
          rintro e w4 ⟨hb4, a4, c4, rfl, s4⟩
          have HO4 := Lib.hid (HO.out.below hb4)
          have HB4 : Hid (Below w.heap.size w w4) := Below.next HB3.out hb4 (Nat.le_refl _)
          have HS4 := Lib.hid s4; clear s4 hb4
          go_wp2_with fail
          refine (rdot_any _ _ _ _ _ _ _ hcl hcx hl HPB.out HS4.out (HX.out.below HB4.out)).mono ?_
          rintro e w5 ⟨rfl, n5, hw5⟩
          have hb5 := drew_below hw5; clear hw5
          have HO5 := Lib.hid (HO4.out.below hb5)
          have HB5 : Hid (Below w.heap.size w w5) := Below.next HB4.out hb5 (Nat.le_refl _)
          clear hb5
          go_wp2_with (at_builtin; go_must (refine wpList_push rfl (.tmp 26) (.tmp 32) rfl w.heap.size _ ((backL m xs).take k) _ _ _ _ rfl rfl rfl HO5.out (by rw [List.length_take]; omega) HB5.out.size ?_); intro v' w9 ho' hb')
          go_roundw
          case rel => exact ⟨k + 1, by omega, by go_num, by rw [HT.out k hlt]; exact ho', HB5.out.trans hb'⟩
          case measure => simp [intOf]; omega
        · obtain rfl : k = colsM m := by omega
          go_wp2
          go_ret2
          exact LPost.own (by rw [backV_ok HV.out HF.out, List.take_of_length_le (by rw [backL_length]; exact Nat.le_refl _)]) HB3.out HO.out
    · have e0 : (f == 0) = false := by simpa using h0
      have e1 : (f != 0) = true := by simpa using h0
      have H0 := Lib.hid h0; clear h0
      go_wp2
      go_ret2
      exact LPost.err f (backV_err HV.out HF.out H0.out) (Below.refl _ _)
end Go.Proofs.Ytkakjfijmekdjaa
