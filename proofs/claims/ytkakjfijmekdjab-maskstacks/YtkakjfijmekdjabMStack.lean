/- Stacked of layer 2 and of its answers: contracts. -/
import Derived.Test.YtkakjfijmekdjabMCopy
import Derived.Test.YtkakjfijmekdjabMVal2
import Derived.Test.YtkakjfijmekdjabMCol
namespace Go.Proofs.Ytkakjfijmekdjab
open Go.RowKit

def stackedV (a b : List (List Int)) : List (List Int) × Int := if (validM a && validM b) = true then (if colsM a = colsM b then (if a.length + b.length ≤ 6 then (a ++ b, 0) else ([], 4)) else ([], 9)) else ([], 1)
theorem stackedV_1 {a b : List (List Int)} (h : (validM a && validM b) = false) : stackedV a b = ([], 1) := by unfold stackedV; rw [h]; rfl
theorem stackedV_9 {a b : List (List Int)} (h1 : validM a = true) (h2 : validM b = true) (h : ¬ colsM a = colsM b) : stackedV a b = ([], 9) := by unfold stackedV; rw [h1, h2, if_pos (by rfl : (true && true) = true), if_neg h]
theorem stackedV_4 {a b : List (List Int)} (h1 : validM a = true) (h2 : validM b = true) (h : colsM a = colsM b) (h6 : ¬ a.length + b.length ≤ 6) : stackedV a b = ([], 4) := by unfold stackedV; rw [h1, h2, if_pos (by rfl : (true && true) = true), if_pos h, if_neg h6]
theorem stackedV_0 {a b : List (List Int)} (h1 : validM a = true) (h2 : validM b = true) (h : colsM a = colsM b) (h6 : a.length + b.length ≤ 6) : stackedV a b = (a ++ b, 0) := by unfold stackedV; rw [h1, h2, if_pos (by rfl : (true && true) = true), if_pos h, if_pos h6]
theorem valid_rows {m : List (List Int)} (h : validM m = true) : ∀ r ∈ m, 1 ≤ r.length ∧ r.length ≤ 10 := fun r hr => by
  obtain ⟨_, _, h1, h10, h2⟩ := validM_of h
  have := (h2 r hr).1
  omega
theorem OwnM.form {w : World} {base : Nat} {v : Value} {hs : List RH} {sk : Nat} (h : OwnM w base v hs sk) (h1 : 1 ≤ hs.length) : ∃ g cap, v = .slice (some ⟨g, 0, none⟩) hs.length cap ∧ hs.length ≤ cap ∧ cap ≤ maxLen ∧ base ≤ g ∧ g < w.heap.size := by
  obtain ⟨_, ⟨_, h0⟩ | ⟨g, cap, cur, rfl, hg, hh, h2, h3, _⟩⟩ := h.own
  · omega
  · exact ⟨g, cap, rfl, h2, h3, hg, (Array.getElem?_eq_some_iff.1 hh).1⟩
theorem rowsOf_append (a b : List RH) : rowsOf (a ++ b) = rowsOf a ++ rowsOf b := by simp [rowsOf]
/-- What the rows of a second copy are to the first. -/
theorem second_rows {w1 w2 : World} {base : Nat} {v1 v2 : Value} {hs1 hs2 : List RH} {k1 k2 : Nat} (h1 : OwnM w1 base v1 hs1 k1) (h2 : OwnM w2 w1.heap.size v2 hs2 k2) (hk : hs2.length ≤ k2) (hh : RowsHigh hs2 w1.heap.size) :
    ∀ (i : Nat) (h : RH), hs2[i]? = some h → Sl w2 h.1 h.2.1 ∧ ∀ ad, h.1 = some ad → ad.block < w2.heap.size ∧ v1.ownBlock ≠ some ad.block := by
  intro i h e
  have hi : i ≠ k2 := by have := (List.getElem?_eq_some_iff.1 e).1; omega
  refine ⟨h2.rows i h e hi, fun ad ha => ⟨(h2.apart i h e hi ad ha).1, fun hv => ?_⟩⟩
  have := (World.ownsRow.lt h1.own ad.block hv).2
  have := hh i h e ad ha
  omega
set_option maxRecDepth 100000 in
set_option maxHeartbeats 400000 in
theorem mStacked_any (a : Option Addr) (m : List (List Int)) (ca : Nat) (b : Option Addr) (m' : List (List Int)) (cb : Nat) (w : World) (hm : MOk m) (hm' : MOk m') (ha : Ms w a m) (hb : Ms w b m') :
    Calls Try.prog 33 #[.slice a m.length ca, .slice b m'.length cb] w (MPost (stackedV m m') w) := by
  have HM := Lib.hid hm; clear hm
  have HM' := Lib.hid hm'; clear hm'
  have HA := Lib.hid ha; clear ha
  have HB := Lib.hid hb; clear hb
  go_enter Try.func33, Try.ntmps33
  go_wp2_with fail
  refine (mvalid_any _ _ _ _ HM.out HA.out).mono ?_
  rintro e w1 ⟨rfl, hb1⟩
  have HB1 : Hid (Below w.heap.size w w1) := hb1
  clear hb1
  cases hv : validM m
  · have HV : Hid (stackedV m m' = ([], 1)) := stackedV_1 (by rw [hv]; rfl)
    clear hv
    go_wp2
    go_ret2
    exact MPost.err 1 HV.out HB1.out
  · go_wp2_with fail
    refine (mvalid_any _ _ _ _ HM'.out (HB.out.below HB1.out)).mono ?_
    rintro e w2 ⟨rfl, hb2⟩
    have HB2 : Hid (Below w.heap.size w w2) := Below.next HB1.out hb2 (Nat.le_refl _)
    clear hb2
    cases hv' : validM m'
    · have HV : Hid (stackedV m m' = ([], 1)) := stackedV_1 (by rw [hv, hv']; rfl)
      clear hv hv'
      go_wp2
      go_ret2
      exact MPost.err 1 HV.out HB2.out
    · obtain ⟨h1, h6, hc1, hc10, _⟩ := validM_of hv
      obtain ⟨h1', h6', hc1', hc10', _⟩ := validM_of hv'
      have HV := Lib.hid hv; clear hv
      have HV' := Lib.hid hv'; clear hv'
      obtain ⟨b0, o0, a0, c0, rfl, hcell⟩ := row0 (HA.out.below HB2.out) h1
      obtain ⟨b1, o1, a1, c1, rfl, hcell'⟩ := row0 (HB.out.below HB2.out) h1'
      by_cases he : colsM m = colsM m'
      · have e1 : ((colsM m : Int) != (colsM m' : Int)) = false := by simp [he]
        have HE := Lib.hid he; clear he
        go_wp2
        go_quiet (fail)
        clear hcell hcell' e1
        have HB3 : Hid (Below w.heap.size w (w2.drewN nq)) := below_drewN HB2.out _
        generalize w2.drewN nq = w3 at *
        by_cases hs : m.length + m'.length ≤ 6
        · have HVV := Lib.hid (stackedV_0 HV.out HV'.out HE.out hs)
          go_wp2_with fail
          refine (mcopied_any _ m _ _ h1 h6 (valid_rows HV.out) (HA.out.below HB3.out)).mono ?_
          rintro e w4 ⟨hb4, v4, hs4, rfl, ho4, hh4, hr4, _⟩
          have HB4 : Hid (Below w.heap.size w w4) := Below.next HB3.out hb4 (Nat.le_refl _)
          have HO4 := Lib.hid ho4; clear ho4
          have HR4 := Lib.hid hr4; clear hr4 hh4
          have HSZ := Lib.hid hb4.size; clear hb4
          go_wp2_with fail
          refine (mcopied_any _ m' _ _ h1' h6' (valid_rows HV'.out) (HB.out.below HB4.out)).mono ?_
          rintro e w5 ⟨hb5, v5, hs5, rfl, ho5, hh5, hr5, _⟩
          have HB5 : Hid (Below w.heap.size w w5) := Below.next HB4.out hb5 (Nat.le_refl _)
          have HO45 := Lib.hid (HO4.out.below hb5)
          have HSEC := Lib.hid (second_rows HO4.out ho5 (Nat.le_refl _) hh5)
          have HR5 := Lib.hid hr5; clear hr5 hh5
          have HL4 : Hid (hs4.length = m.length) := by show _ = _; rw [← rowsOf_length, HR4.out]
          have HL5 : Hid (hs5.length = m'.length) := by show _ = _; rw [← rowsOf_length, HR5.out]
          obtain ⟨g5, c5, rfl, _, _, _, _⟩ := ho5.form (by rw [HL5.out]; exact h1')
          have HCL : Hid (∀ (j : Nat) (h : RH), hs5[j]? = some h → w5.cell? ⟨g5, 0 + j, none⟩ = some (hdv h)) := fun j h e => by rw [Nat.zero_add]; exact (ho5.cell e).1
          have HLB : Hid (w3.heap.size ≤ w5.heap.size) := Nat.le_trans HSZ.out hb5.size
          clear ho5 hb5
          go_wp2_with (at_builtin; go_must (refine wpList_pushMs rfl (.tmp 30) (.tmp 32) rfl w3.heap.size _ hs4 hs5 g5 0 c5 _ rfl rfl HCL.out HO45.out HSEC.out (by rw [HL4.out, HL5.out]; omega) (by rw [HL5.out]; exact h1') HLB.out ?_); intro v' w9 ho' hb')
          go_ret2
          exact MPost.own (by rw [HVV.out, rowsOf_append, HR4.out, HR5.out]) (HB5.out.trans (hb'.mono HB3.out.size)) ho' (Nat.le_refl _)
        · have HVV := Lib.hid (stackedV_4 HV.out HV'.out HE.out hs)
          have hs' : 6 < m.length + m'.length := by omega
          clear hs
          go_wp2
          go_ret2
          exact MPost.err 4 HVV.out HB3.out
      · have e1 : ((colsM m : Int) != (colsM m' : Int)) = true := by simp; omega
        have HVV := Lib.hid (stackedV_9 HV.out HV'.out he)
        clear he
        go_wp2
        go_quiet (fail)
        go_wp2
        go_ret2
        exact MPost.err 9 HVV.out (below_drewN HB2.out _)
set_option maxRecDepth 100000 in
set_option maxHeartbeats 400000 in
theorem rStacked_any (a : Option Addr) (m : List (List Int)) (ca : Nat) (b : Option Addr) (m' : List (List Int)) (cb : Nat) (w : World) (hm : MOk m) (hm' : MOk m') (ha : Ms w a m) (hb : Ms w b m') :
    Calls Try.prog 34 #[.slice a m.length ca, .slice b m'.length cb] w (MPost (stackedV m m') w) := by
  have HM := Lib.hid hm; clear hm
  have HM' := Lib.hid hm'; clear hm'
  have HA := Lib.hid ha; clear ha
  have HB := Lib.hid hb; clear hb
  go_enter Try.func34, Try.ntmps34
  go_wp2_with fail
  refine (rvalid_any _ _ _ _ HM.out HA.out).mono ?_
  rintro e w1 ⟨rfl, rfl⟩
  have HB1 : Hid (Below w.heap.size w w) := Below.refl _ _
  skip
  cases hv : validM m
  · have HV : Hid (stackedV m m' = ([], 1)) := stackedV_1 (by rw [hv]; rfl)
    clear hv
    go_wp2
    go_ret2
    exact MPost.err 1 HV.out HB1.out
  · go_wp2_with fail
    refine (rvalid_any _ _ _ _ HM'.out (HB.out.below HB1.out)).mono ?_
    rintro e w2 ⟨rfl, rfl⟩
    have HB2 : Hid (Below w.heap.size w w) := Below.refl _ _
    skip
    cases hv' : validM m'
    · have HV : Hid (stackedV m m' = ([], 1)) := stackedV_1 (by rw [hv, hv']; rfl)
      clear hv hv'
      go_wp2
      go_ret2
      exact MPost.err 1 HV.out HB2.out
    · obtain ⟨h1, h6, hc1, hc10, _⟩ := validM_of hv
      obtain ⟨h1', h6', hc1', hc10', _⟩ := validM_of hv'
      have HV := Lib.hid hv; clear hv
      have HV' := Lib.hid hv'; clear hv'
      obtain ⟨b0, o0, a0, c0, rfl, hcell⟩ := row0 (HA.out.below HB2.out) h1
      obtain ⟨b1, o1, a1, c1, rfl, hcell'⟩ := row0 (HB.out.below HB2.out) h1'
      by_cases he : colsM m = colsM m'
      · have e1 : ((colsM m : Int) != (colsM m' : Int)) = false := by simp [he]
        have HE := Lib.hid he; clear he
        go_wp2
        go_quiet (fail)
        clear hcell hcell' e1
        have HB3 : Hid (Below w.heap.size w (w.drewN nq)) := below_drewN HB2.out _
        generalize w.drewN nq = w3 at *
        by_cases hs : m.length + m'.length ≤ 6
        · have HVV := Lib.hid (stackedV_0 HV.out HV'.out HE.out hs)
          go_wp2_with fail
          refine (rcopied_any _ m _ _ h6 (valid_rows HV.out) (HA.out.below HB3.out)).mono ?_
          rintro e w4 ⟨hb4, v4, hs4, rfl, ho4, hh4, hr4, _⟩
          have HB4 : Hid (Below w.heap.size w w4) := Below.next HB3.out hb4 (Nat.le_refl _)
          have HO4 := Lib.hid ho4; clear ho4
          have HR4 := Lib.hid hr4; clear hr4 hh4
          have HSZ := Lib.hid hb4.size; clear hb4
          go_wp2_with fail
          refine (rcopied_any _ m' _ _ h6' (valid_rows HV'.out) (HB.out.below HB4.out)).mono ?_
          rintro e w5 ⟨hb5, v5, hs5, rfl, ho5, hh5, hr5, _⟩
          have HB5 : Hid (Below w.heap.size w w5) := Below.next HB4.out hb5 (Nat.le_refl _)
          have HO45 := Lib.hid (HO4.out.below hb5)
          have HSEC := Lib.hid (second_rows HO4.out ho5 (Nat.le_refl _) hh5)
          have HR5 := Lib.hid hr5; clear hr5 hh5
          have HL4 : Hid (hs4.length = m.length) := by show _ = _; rw [← rowsOf_length, HR4.out]
          have HL5 : Hid (hs5.length = m'.length) := by show _ = _; rw [← rowsOf_length, HR5.out]
          obtain ⟨g5, c5, rfl, _, _, _, _⟩ := ho5.form (by rw [HL5.out]; exact h1')
          have HCL : Hid (∀ (j : Nat) (h : RH), hs5[j]? = some h → w5.cell? ⟨g5, 0 + j, none⟩ = some (hdv h)) := fun j h e => by rw [Nat.zero_add]; exact (ho5.cell e).1
          have HLB : Hid (w3.heap.size ≤ w5.heap.size) := Nat.le_trans HSZ.out hb5.size
          clear ho5 hb5
          go_wp2_with (at_builtin; go_must (refine wpList_pushMs rfl (.tmp 30) (.tmp 32) rfl w3.heap.size _ hs4 hs5 g5 0 c5 _ rfl rfl HCL.out HO45.out HSEC.out (by rw [HL4.out, HL5.out]; omega) (by rw [HL5.out]; exact h1') HLB.out ?_); intro v' w9 ho' hb')
          go_ret2
          exact MPost.own (by rw [HVV.out, rowsOf_append, HR4.out, HR5.out]) (HB5.out.trans (hb'.mono HB3.out.size)) ho' (Nat.le_refl _)
        · have HVV := Lib.hid (stackedV_4 HV.out HV'.out HE.out hs)
          have hs' : 6 < m.length + m'.length := by omega
          clear hs
          go_wp2
          go_ret2
          exact MPost.err 4 HVV.out HB3.out
      · have e1 : ((colsM m : Int) != (colsM m' : Int)) = true := by simp; omega
        have HVV := Lib.hid (stackedV_9 HV.out HV'.out he)
        clear he
        go_wp2
        go_quiet (fail)
        go_wp2
        go_ret2
        exact MPost.err 9 HVV.out (below_drewN HB2.out _)
end Go.Proofs.Ytkakjfijmekdjab
