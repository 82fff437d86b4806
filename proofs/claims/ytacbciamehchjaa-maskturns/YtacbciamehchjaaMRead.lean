
/- Read and Back of layer 2: contracts. -/
import Derived.Test.YtacbciamehchjaaMCol2
namespace Go.Proofs.Ytacbciamehchjaa
open Go.RowKit

theorem fitsV_0 {l : List Int} {n lim : Int} (h : fitsV l n lim = 0) : (l.length : Int) = n ∧ allB lim l = true := by
  unfold fitsV at h
  split at h
  · rename_i h1
    split at h
    · rename_i h2; exact ⟨h1, h2⟩
    · cases h
  · cases h
theorem readV_no {m : List (List Int)} {x : List Int} (h : validM m = false) : readV m x = ([], 1) := by unfold readV; rw [h]; rfl
theorem readV_err {m : List (List Int)} {x : List Int} {f : Int} (h : validM m = true) (hf : fitsV x (colsM m) 1000000 = f) (h0 : f ≠ 0) : readV m x = ([], f) := by
  unfold readV; rw [h, if_pos rfl, hf, if_neg h0]
theorem readV_ok {m : List (List Int)} {x : List Int} (h : validM m = true) (hf : fitsV x (colsM m) 1000000 = 0) : readV m x = (readL m x, 0) := by
  unfold readV; rw [h, if_pos rfl, hf, if_pos rfl]
theorem backV_no {m : List (List Int)} {x : List Int} (h : validM m = false) : backV m x = ([], 1) := by unfold backV; rw [h]; rfl
theorem backV_err {m : List (List Int)} {x : List Int} {f : Int} (h : validM m = true) (hf : fitsV x m.length 1000000000 = f) (h0 : f ≠ 0) : backV m x = ([], f) := by
  unfold backV; rw [h, if_pos rfl, hf, if_neg h0]
theorem backV_ok {m : List (List Int)} {x : List Int} (h : validM m = true) (hf : fitsV x m.length 1000000000 = 0) : backV m x = (backL m x, 0) := by
  unfold backV; rw [h, if_pos rfl, hf, if_pos rfl]

set_option maxRecDepth 100000 in
set_option maxHeartbeats 400000 in
theorem mread_any (a : Option Addr) (m : List (List Int)) (cap : Nat) (b : Option Addr) (xs : List Int) (cb : Nat) (w : World) (hm : MOk m) (hl : xs.length ≤ 9223372036854775807) (hs : Ms w a m) (hx : Sl w b xs) :
    Calls Try.prog 22 #[.slice a m.length cap, .slice b xs.length cb] w (LPost (readV m xs) w) := by
  have HM := Lib.hid hm; clear hm
  have HS := Lib.hid hs; clear hs
  have HX := Lib.hid hx; clear hx
  obtain ⟨i0, hi, hz0, hz1, hz2⟩ := info_parts Try.infoInt
  go_enter Try.func22, Try.ntmps22
  go_wp2_with fail
  refine (mvalid_any _ _ _ _ HM.out HS.out).mono ?_
  rintro e w1 ⟨rfl, hb1⟩
  have HB1 := Lib.hid hb1; clear hb1
  cases hv : validM m
  · have HV := Lib.hid hv; clear hv
    go_wp2
    go_ret2
    exact LPost.err 1 (readV_no HV.out) HB1.out
  · obtain ⟨hm1, hm6, hc1, hc10, _⟩ := validM_of hv
    have HV := Lib.hid hv; clear hv
    obtain ⟨b0, o0, a0, c0, rfl, hcell⟩ := row0 (HS.out.below HB1.out) hm1
    obtain ⟨f, hf⟩ : ∃ f, fitsV xs (colsM m) 1000000 = f := ⟨_, rfl⟩
    have HF := Lib.hid hf; clear hf
    go_wp2_with fail
    refine (fits_any _ _ _ _ _ (by omega) (by omega) _ hl (HX.out.below HB1.out)).mono ?_
    rintro e w2 ⟨rfl, hb2⟩
    rw [HF.out]
    have HB2 : Hid (Below w.heap.size w w2) := HB1.out.trans (hb2.mono HB1.out.size)
    clear hb2 hcell
    by_cases h0 : f = 0
    · subst h0
      obtain ⟨hxl, hxa⟩ := fitsV_0 HF.out
      have hxl' : xs.length ≤ 10 := by omega
      have HXL : Hid (xs.length = colsM m) := by show xs.length = colsM m; omega
      clear hxl
      have HXA := Lib.hid hxa; clear hxa
      go_wp2_with (with_reducible refine wpList_make_full _ rfl (.tmp 23) (.tmp 23) 22 rfl w2.heap.size 3 i0 (.int .i64 0) 1 Try.underlying22 hi hz0 hz1 .i64 .i64 (m.length : Int) (m.length : Int) m.length rfl rfl rfl rfl (by rw [hz2]; omega) (by unfold maxLen; omega) (Nat.le_refl _) ?_)
      rotate_left
      intro w4 hown hgrow
      have HO4 : Hid (OwnI w4 w2.heap.size (.slice (some ⟨w2.heap.size, 0, none⟩) m.length m.length) (List.replicate m.length 0)) := by
        have z := zeros_are m.length
        rw [Nat.mul_one] at z
        show w4.ownsRow _ _ _ _ _ _
        rw [List.length_replicate, ← z]; exact hown
      have HB4 : Hid (Below w2.heap.size w2 w4) := (Below.refl _ _).grown hgrow (Nat.le_refl _) (fun k e => by cases e)
      clear hown hgrow
      go_wp2
      go_loopw [27] (fun i wr => ∃ (k : Nat) (zs : List Int), k ≤ m.length ∧ i = .int .i64 k ∧ OwnI wr w2.heap.size (.slice (some ⟨w2.heap.size, 0, none⟩) m.length m.length) zs ∧ FillK (fun i => dot (rowM m i) xs) m.length k zs ∧ Below w2.heap.size w2 wr) (fun i _ => m.length - (intOf i).toNat)
      case atStart => exact ⟨0, _, Nat.zero_le _, rfl, HO4.out, FillK.start _ _ _ (by simp), HB4.out⟩
      case round =>
        obtain ⟨k, zs, hk, rfl, hO, hA, hB⟩ := hrel
        have HO := Lib.hid hO; clear hO
        have HFK := Lib.hid hA; clear hA
        have HB3 := Lib.hid hB; clear hB
        have HBw : Hid (Below w.heap.size w wr) := HB2.out.trans (HB3.out.mono HB2.out.size)
        by_cases hlt : k < m.length
        · obtain ⟨b1, o1, ai, r, ci, he1, hcell, hsl, HR⟩ := (HS.out.below HBw.out).at hlt
          obtain ⟨rfl, rfl⟩ : b0 = b1 ∧ o0 = o1 := by simpa using he1
          clear he1
          obtain ⟨hrl, hra⟩ := validM_row HV.out HR.out
          have hr10 : r.length ≤ 10 := by omega
          have hrx : r.length ≤ xs.length := by have := HXL.out; omega
          have HPB := Lib.hid (PB_of hra HXA.out hrx (by omega))
          have HSL := Lib.hid hsl; clear hsl
          clear hrl hra
          obtain ⟨hcz, hfz⟩ := HO.out.cell (j := k) (by rw [HFK.out.len]; exact hlt)
          have hgV := HO.out.lt
          go_wp2_with (go_at_call 45; refine (product_any _ _ _ _ _ _ _ hr10 hrx hl HPB.out HSL.out (HX.out.below HBw.out)).mono ?_; rintro e w5 ⟨rfl, rfl⟩)
          go_roundw
          case rel =>
            exact ⟨k + 1, zs.set k (dot r xs), by omega, by go_num, HO.out.stored k _, HFK.out.next hlt (by rw [rowM_some HR.out]), HB3.out.setCell hgV.2 _⟩
          case measure => simp [intOf]; omega
        · obtain rfl : k = m.length := by omega
          have HZ := Lib.hid HFK.out.all
          go_wp2
          go_ret2
          exact LPost.own (by rw [readV_ok HV.out HF.out, HZ.out, readL_range]) HBw.out HO.out
    · have e0 : (f == 0) = false := by simpa using h0
      have e1 : (f != 0) = true := by simpa using h0
      have H0 := Lib.hid h0; clear h0
      go_wp2
      go_ret2
      exact LPost.err f (readV_err HV.out HF.out H0.out) HB2.out

end Go.Proofs.Ytacbciamehchjaa
