/- Parts of the proof of SparseTwins: plain words, walks and contracts, each under its own heading. -/
import Derived.Test.YtfnomiingelfaaaSparseTwinsPB
import Derived.Test.YtfnomiingelfaaaSparseTwinsPE
import Derived.Test.YtfnomiingelfaaaSparseTwinsPD
import Derived.Test.YtfnomiingelfaaaSparseTwinsPC
import Derived.StillTailTactics
import Derived.RegionTactic
import Derived.WalkSmall
import Derived.Laws.ResultCell
import Derived.Test.YtfnomiingelfaaaSparseTwinsPA
/- IsTwins of layer 4, both sides: contracts. Written by mk_sptwinb.py. -/
namespace Go.Proofs.Ytfnomiingelfaaa
open Go.RowKit

def twinB (m : List (List Int)) (k : Int) (x y : List Int) : Bool := rangeB k 1 10 && decide (nzTo x x.length ≤ k) && decide (nzTo y y.length ≤ k) && decide ((readV m x).2 = 0) && decide ((readV m y).2 = 0) && decide ((readV m x).1 = (readV m y).1) && !decide (x = y)
theorem readV_short (m : List (List Int)) (x : List Int) : (readV m x).1.length ≤ 6 := by
  unfold readV
  split
  · rename_i hv
    split
    · show (readL m x).length ≤ 6
      unfold readL
      rw [List.length_map]
      exact (validM_of hv).2.1
    · exact Nat.zero_le _
  · exact Nat.zero_le _
theorem shown_read (m : List (List Int)) (x : List Int) : shownM m x = decide ((readV m x).2 = 0) := by
  unfold shownM readV
  cases hv : validM m
  · simp
  · by_cases h : fitsV x (colsM m) 1000000 = 0 <;> simp [h]
theorem belw {w V V' : World} (hb : Below w.heap.size w V) (h : Below V.heap.size V V') : Below w.heap.size w V' := hb.trans (h.mono hb.size)
set_option maxRecDepth 100000 in
set_option maxHeartbeats 4000000 in
theorem stwins_any (a : Option Addr) (m : List (List Int)) (cap : Nat) (b : Option Addr) (xs : List Int) (cb : Nat) (c : Option Addr) (ys : List Int) (cc : Nat) (k : Int) (w : World) (hm : MOk m) (hl1 : xs.length ≤ 1000) (hl2 : ys.length ≤ 1000) (hs : Ms w a m) (hx : Sl w b xs) (hy : Sl w c ys) :
    Calls Try.prog 11 #[.slice a m.length cap, .int .i64 k, .slice b xs.length cb, .slice c ys.length cc] w fun e w' => e = .returned (.bool (twinB m k xs ys)) ∧ Below w.heap.size w w' := by
  have HTB : Hid (twinB m k xs ys = (rangeB k 1 10 && decide (nzTo xs xs.length ≤ k) && decide (nzTo ys ys.length ≤ k) && decide ((readV m xs).2 = 0) && decide ((readV m ys).2 = 0) && decide ((readV m xs).1 = (readV m ys).1) && !decide (xs = ys))) := rfl
  have HXL := Lib.hid (readV_short m xs)
  have HYL := Lib.hid (readV_short m ys)
  obtain ⟨⟨X, e0⟩, hX⟩ : ∃ r, readV m xs = r := ⟨_, rfl⟩
  obtain ⟨⟨Y, f0⟩, hY⟩ : ∃ r, readV m ys = r := ⟨_, rfl⟩
  rw [hX, hY] at HTB
  rw [hX] at HXL
  rw [hY] at HYL
  dsimp only at HTB HXL HYL
  have HSX : Hid (shownM m xs = decide (e0 = 0)) := by show _ = _; rw [shown_read, hX]
  have HSY : Hid (shownM m ys = decide (f0 = 0)) := by show _ = _; rw [shown_read, hY]
  have HXE := Lib.hid hX; have HYE := Lib.hid hY; clear hX hY
  obtain ⟨n1, hn1⟩ : ∃ n, nzTo xs xs.length = n := ⟨_, rfl⟩
  obtain ⟨n2, hn2⟩ : ∃ n, nzTo ys ys.length = n := ⟨_, rfl⟩
  obtain ⟨q1, hq1⟩ : ∃ q, decide (X = Y) = q := ⟨_, rfl⟩
  obtain ⟨q2, hq2⟩ : ∃ q, decide (xs = ys) = q := ⟨_, rfl⟩
  obtain ⟨q0, hq0⟩ : ∃ q, rangeB k 1 10 = q := ⟨_, rfl⟩
  rw [hn1, hn2, hq1, hq2, hq0] at HTB
  have HN1 := Lib.hid hn1; have HN2 := Lib.hid hn2; have HQ1 := Lib.hid hq1; have HQ2 := Lib.hid hq2; have HQ0 := Lib.hid hq0
  clear hn1 hn2 hq1 hq2 hq0
  have HM := Lib.hid hm; have HS := Lib.hid hs; have HX := Lib.hid hx; have HY := Lib.hid hy; have L1 := Lib.hid hl1; have L2 := Lib.hid hl2
  clear hm hs hx hy hl1 hl2

  by_cases h1 : k < 1
  · have hr0 : q0 = false := by rw [← HQ0.out]; simp [rangeB]; omega
    subst hr0
    have HR : Hid (twinB m k xs ys = false) := by show _ = _; rw [HTB.out]; simp
    rw [HR.out]
    clear HTB
    go_enter Try.func11, Try.ntmps11
    go_wp2_with (first
        | (go_at_call 26; refine (lit_any _ _ _ _ (by first | exact L1.out | exact L2.out) (by first | exact HX.out | exact HY.out)).mono ?_; rintro e wn ⟨rfl, rfl⟩; first | rw [HN1.out] | rw [HN2.out])
        | (go_at_call 27; refine (mread_any _ _ _ _ _ _ _ HM.out (by first | exact Nat.le_trans L1.out (by decide) | exact Nat.le_trans L2.out (by decide)) (by first | exact HS.out | exact HS.out.below HB1.out) (by first | exact HX.out | exact HY.out.below HB1.out)).mono ?_; rintro e wn hp; first
        | (rw [HXE.out] at hp; obtain ⟨hb, ax, cx, rfl, hsx⟩ := hp; dsimp only at hsx ⊢; have HB1 := Lib.hid hb; have HRX := Lib.hid hsx; clear hb hsx)
        | (rw [HYE.out] at hp; obtain ⟨hb, ay, cy, rfl, hsy⟩ := hp; dsimp only at hsy ⊢; have HB2 := Lib.hid (belw HB1.out hb); have HRY := Lib.hid hsy; have HRX2 := Lib.hid (HRX.out.below hb); clear hb hsy))
        | (go_at_call 28; refine (slEq_any _ _ _ _ _ _ _ (by first | exact Nat.le_trans L1.out (by decide) | exact Nat.le_trans HXL.out (by decide)) (by first | exact Nat.le_trans L2.out (by decide) | exact Nat.le_trans HYL.out (by decide)) (by first | exact HRX2.out | exact (HX.out.below HB2.out).below (below_drewN (Below.refl _ _) _)) (by first | exact HRY.out | exact (HY.out.below HB2.out).below (below_drewN (Below.refl _ _) _))).mono ?_; rintro e wn ⟨rfl, nd, rfl⟩; first | rw [HQ1.out] | rw [HQ2.out]))
    all_goals go_ret
    all_goals (first | exact ⟨rfl, Below.refl _ _⟩ | exact ⟨rfl, HB2.out⟩ | exact ⟨rfl, HD0.out⟩ | exact ⟨rfl, below_drewN HB2.out _⟩ | exact ⟨rfl, below_drewN (below_drewN HB2.out _) _⟩)
  by_cases h2 : 10 < k
  · have hr0 : q0 = false := by rw [← HQ0.out]; simp [rangeB]; omega
    subst hr0
    have HR : Hid (twinB m k xs ys = false) := by show _ = _; rw [HTB.out]; simp
    rw [HR.out]
    clear HTB
    go_enter Try.func11, Try.ntmps11
    go_wp2_with (first
        | (go_at_call 26; refine (lit_any _ _ _ _ (by first | exact L1.out | exact L2.out) (by first | exact HX.out | exact HY.out)).mono ?_; rintro e wn ⟨rfl, rfl⟩; first | rw [HN1.out] | rw [HN2.out])
        | (go_at_call 27; refine (mread_any _ _ _ _ _ _ _ HM.out (by first | exact Nat.le_trans L1.out (by decide) | exact Nat.le_trans L2.out (by decide)) (by first | exact HS.out | exact HS.out.below HB1.out) (by first | exact HX.out | exact HY.out.below HB1.out)).mono ?_; rintro e wn hp; first
        | (rw [HXE.out] at hp; obtain ⟨hb, ax, cx, rfl, hsx⟩ := hp; dsimp only at hsx ⊢; have HB1 := Lib.hid hb; have HRX := Lib.hid hsx; clear hb hsx)
        | (rw [HYE.out] at hp; obtain ⟨hb, ay, cy, rfl, hsy⟩ := hp; dsimp only at hsy ⊢; have HB2 := Lib.hid (belw HB1.out hb); have HRY := Lib.hid hsy; have HRX2 := Lib.hid (HRX.out.below hb); clear hb hsy))
        | (go_at_call 28; refine (slEq_any _ _ _ _ _ _ _ (by first | exact Nat.le_trans L1.out (by decide) | exact Nat.le_trans HXL.out (by decide)) (by first | exact Nat.le_trans L2.out (by decide) | exact Nat.le_trans HYL.out (by decide)) (by first | exact HRX2.out | exact (HX.out.below HB2.out).below (below_drewN (Below.refl _ _) _)) (by first | exact HRY.out | exact (HY.out.below HB2.out).below (below_drewN (Below.refl _ _) _))).mono ?_; rintro e wn ⟨rfl, nd, rfl⟩; first | rw [HQ1.out] | rw [HQ2.out]))
    all_goals go_ret
    all_goals (first | exact ⟨rfl, Below.refl _ _⟩ | exact ⟨rfl, HB2.out⟩ | exact ⟨rfl, HD0.out⟩ | exact ⟨rfl, below_drewN HB2.out _⟩ | exact ⟨rfl, below_drewN (below_drewN HB2.out _) _⟩)
  have hr0 : q0 = true := by rw [← HQ0.out]; simp [rangeB]; omega
  subst hr0
  by_cases h3 : k < n1
  · have hd : decide (n1 ≤ k) = false := by simp; omega
    have HR : Hid (twinB m k xs ys = false) := by show _ = _; rw [HTB.out]; rw [hd]; simp
    clear hd
    rw [HR.out]
    clear HTB
    go_enter Try.func11, Try.ntmps11
    go_wp2_with (first
        | (go_at_call 26; refine (lit_any _ _ _ _ (by first | exact L1.out | exact L2.out) (by first | exact HX.out | exact HY.out)).mono ?_; rintro e wn ⟨rfl, rfl⟩; first | rw [HN1.out] | rw [HN2.out])
        | (go_at_call 27; refine (mread_any _ _ _ _ _ _ _ HM.out (by first | exact Nat.le_trans L1.out (by decide) | exact Nat.le_trans L2.out (by decide)) (by first | exact HS.out | exact HS.out.below HB1.out) (by first | exact HX.out | exact HY.out.below HB1.out)).mono ?_; rintro e wn hp; first
        | (rw [HXE.out] at hp; obtain ⟨hb, ax, cx, rfl, hsx⟩ := hp; dsimp only at hsx ⊢; have HB1 := Lib.hid hb; have HRX := Lib.hid hsx; clear hb hsx)
        | (rw [HYE.out] at hp; obtain ⟨hb, ay, cy, rfl, hsy⟩ := hp; dsimp only at hsy ⊢; have HB2 := Lib.hid (belw HB1.out hb); have HRY := Lib.hid hsy; have HRX2 := Lib.hid (HRX.out.below hb); clear hb hsy))
        | (go_at_call 28; refine (slEq_any _ _ _ _ _ _ _ (by first | exact Nat.le_trans L1.out (by decide) | exact Nat.le_trans HXL.out (by decide)) (by first | exact Nat.le_trans L2.out (by decide) | exact Nat.le_trans HYL.out (by decide)) (by first | exact HRX2.out | exact (HX.out.below HB2.out).below (below_drewN (Below.refl _ _) _)) (by first | exact HRY.out | exact (HY.out.below HB2.out).below (below_drewN (Below.refl _ _) _))).mono ?_; rintro e wn ⟨rfl, nd, rfl⟩; first | rw [HQ1.out] | rw [HQ2.out]))
    all_goals go_ret
    all_goals (first | exact ⟨rfl, Below.refl _ _⟩ | exact ⟨rfl, HB2.out⟩ | exact ⟨rfl, HD0.out⟩ | exact ⟨rfl, below_drewN HB2.out _⟩ | exact ⟨rfl, below_drewN (below_drewN HB2.out _) _⟩)
  by_cases h4 : k < n2
  · have hd : decide (n2 ≤ k) = false := by simp; omega
    have HR : Hid (twinB m k xs ys = false) := by show _ = _; rw [HTB.out]; rw [hd]; simp
    clear hd
    rw [HR.out]
    clear HTB
    go_enter Try.func11, Try.ntmps11
    go_wp2_with (first
        | (go_at_call 26; refine (lit_any _ _ _ _ (by first | exact L1.out | exact L2.out) (by first | exact HX.out | exact HY.out)).mono ?_; rintro e wn ⟨rfl, rfl⟩; first | rw [HN1.out] | rw [HN2.out])
        | (go_at_call 27; refine (mread_any _ _ _ _ _ _ _ HM.out (by first | exact Nat.le_trans L1.out (by decide) | exact Nat.le_trans L2.out (by decide)) (by first | exact HS.out | exact HS.out.below HB1.out) (by first | exact HX.out | exact HY.out.below HB1.out)).mono ?_; rintro e wn hp; first
        | (rw [HXE.out] at hp; obtain ⟨hb, ax, cx, rfl, hsx⟩ := hp; dsimp only at hsx ⊢; have HB1 := Lib.hid hb; have HRX := Lib.hid hsx; clear hb hsx)
        | (rw [HYE.out] at hp; obtain ⟨hb, ay, cy, rfl, hsy⟩ := hp; dsimp only at hsy ⊢; have HB2 := Lib.hid (belw HB1.out hb); have HRY := Lib.hid hsy; have HRX2 := Lib.hid (HRX.out.below hb); clear hb hsy))
        | (go_at_call 28; refine (slEq_any _ _ _ _ _ _ _ (by first | exact Nat.le_trans L1.out (by decide) | exact Nat.le_trans HXL.out (by decide)) (by first | exact Nat.le_trans L2.out (by decide) | exact Nat.le_trans HYL.out (by decide)) (by first | exact HRX2.out | exact (HX.out.below HB2.out).below (below_drewN (Below.refl _ _) _)) (by first | exact HRY.out | exact (HY.out.below HB2.out).below (below_drewN (Below.refl _ _) _))).mono ?_; rintro e wn ⟨rfl, nd, rfl⟩; first | rw [HQ1.out] | rw [HQ2.out]))
    all_goals go_ret
    all_goals (first | exact ⟨rfl, Below.refl _ _⟩ | exact ⟨rfl, HB2.out⟩ | exact ⟨rfl, HD0.out⟩ | exact ⟨rfl, below_drewN HB2.out _⟩ | exact ⟨rfl, below_drewN (below_drewN HB2.out _) _⟩)
  have hd1 : decide (n1 ≤ k) = true := by simp; omega
  have hd2 : decide (n2 ≤ k) = true := by simp; omega
  rw [hd1, hd2] at HTB
  clear hd1 hd2
  by_cases he : e0 = 0
  case neg =>
    have ye : (e0 == 0) = false := by simpa using he
    have HR : Hid (twinB m k xs ys = false) := by show _ = _; rw [HTB.out]; simp [he]
    clear he
    rw [HR.out]
    clear HTB
    go_enter Try.func11, Try.ntmps11
    go_wp2_with (first
        | (go_at_call 26; refine (lit_any _ _ _ _ (by first | exact L1.out | exact L2.out) (by first | exact HX.out | exact HY.out)).mono ?_; rintro e wn ⟨rfl, rfl⟩; first | rw [HN1.out] | rw [HN2.out])
        | (go_at_call 27; refine (mread_any _ _ _ _ _ _ _ HM.out (by first | exact Nat.le_trans L1.out (by decide) | exact Nat.le_trans L2.out (by decide)) (by first | exact HS.out | exact HS.out.below HB1.out) (by first | exact HX.out | exact HY.out.below HB1.out)).mono ?_; rintro e wn hp; first
        | (rw [HXE.out] at hp; obtain ⟨hb, ax, cx, rfl, hsx⟩ := hp; dsimp only at hsx ⊢; have HB1 := Lib.hid hb; have HRX := Lib.hid hsx; clear hb hsx)
        | (rw [HYE.out] at hp; obtain ⟨hb, ay, cy, rfl, hsy⟩ := hp; dsimp only at hsy ⊢; have HB2 := Lib.hid (belw HB1.out hb); have HRY := Lib.hid hsy; have HRX2 := Lib.hid (HRX.out.below hb); clear hb hsy))
        | (go_at_call 28; refine (slEq_any _ _ _ _ _ _ _ (by first | exact Nat.le_trans L1.out (by decide) | exact Nat.le_trans HXL.out (by decide)) (by first | exact Nat.le_trans L2.out (by decide) | exact Nat.le_trans HYL.out (by decide)) (by first | exact HRX2.out | exact (HX.out.below HB2.out).below (below_drewN (Below.refl _ _) _)) (by first | exact HRY.out | exact (HY.out.below HB2.out).below (below_drewN (Below.refl _ _) _))).mono ?_; rintro e wn ⟨rfl, nd, rfl⟩; first | rw [HQ1.out] | rw [HQ2.out]))
    all_goals go_ret
    all_goals (first | exact ⟨rfl, Below.refl _ _⟩ | exact ⟨rfl, HB2.out⟩ | exact ⟨rfl, HD0.out⟩ | exact ⟨rfl, below_drewN HB2.out _⟩ | exact ⟨rfl, below_drewN (below_drewN HB2.out _) _⟩)
  subst he
  by_cases hf : f0 = 0
  case neg =>
    have yf : (f0 == 0) = false := by simpa using hf
    have HR : Hid (twinB m k xs ys = false) := by show _ = _; rw [HTB.out]; simp [hf]
    clear hf
    rw [HR.out]
    clear HTB
    go_enter Try.func11, Try.ntmps11
    go_wp2_with (first
        | (go_at_call 26; refine (lit_any _ _ _ _ (by first | exact L1.out | exact L2.out) (by first | exact HX.out | exact HY.out)).mono ?_; rintro e wn ⟨rfl, rfl⟩; first | rw [HN1.out] | rw [HN2.out])
        | (go_at_call 27; refine (mread_any _ _ _ _ _ _ _ HM.out (by first | exact Nat.le_trans L1.out (by decide) | exact Nat.le_trans L2.out (by decide)) (by first | exact HS.out | exact HS.out.below HB1.out) (by first | exact HX.out | exact HY.out.below HB1.out)).mono ?_; rintro e wn hp; first
        | (rw [HXE.out] at hp; obtain ⟨hb, ax, cx, rfl, hsx⟩ := hp; dsimp only at hsx ⊢; have HB1 := Lib.hid hb; have HRX := Lib.hid hsx; clear hb hsx)
        | (rw [HYE.out] at hp; obtain ⟨hb, ay, cy, rfl, hsy⟩ := hp; dsimp only at hsy ⊢; have HB2 := Lib.hid (belw HB1.out hb); have HRY := Lib.hid hsy; have HRX2 := Lib.hid (HRX.out.below hb); clear hb hsy))
        | (go_at_call 28; refine (slEq_any _ _ _ _ _ _ _ (by first | exact Nat.le_trans L1.out (by decide) | exact Nat.le_trans HXL.out (by decide)) (by first | exact Nat.le_trans L2.out (by decide) | exact Nat.le_trans HYL.out (by decide)) (by first | exact HRX2.out | exact (HX.out.below HB2.out).below (below_drewN (Below.refl _ _) _)) (by first | exact HRY.out | exact (HY.out.below HB2.out).below (below_drewN (Below.refl _ _) _))).mono ?_; rintro e wn ⟨rfl, nd, rfl⟩; first | rw [HQ1.out] | rw [HQ2.out]))
    all_goals go_ret
    all_goals (first | exact ⟨rfl, Below.refl _ _⟩ | exact ⟨rfl, HB2.out⟩ | exact ⟨rfl, HD0.out⟩ | exact ⟨rfl, below_drewN HB2.out _⟩ | exact ⟨rfl, below_drewN (below_drewN HB2.out _) _⟩)
  subst hf
  cases q1
  · skip
    have HR : Hid (twinB m k xs ys = false) := by show _ = _; rw [HTB.out]; simp
    rw [HR.out]
    clear HTB
    go_enter Try.func11, Try.ntmps11
    go_wp2_with (first
        | (go_at_call 26; refine (lit_any _ _ _ _ (by first | exact L1.out | exact L2.out) (by first | exact HX.out | exact HY.out)).mono ?_; rintro e wn ⟨rfl, rfl⟩; first | rw [HN1.out] | rw [HN2.out])
        | (go_at_call 27; refine (mread_any _ _ _ _ _ _ _ HM.out (by first | exact Nat.le_trans L1.out (by decide) | exact Nat.le_trans L2.out (by decide)) (by first | exact HS.out | exact HS.out.below HB1.out) (by first | exact HX.out | exact HY.out.below HB1.out)).mono ?_; rintro e wn hp; first
        | (rw [HXE.out] at hp; obtain ⟨hb, ax, cx, rfl, hsx⟩ := hp; dsimp only at hsx ⊢; have HB1 := Lib.hid hb; have HRX := Lib.hid hsx; clear hb hsx)
        | (rw [HYE.out] at hp; obtain ⟨hb, ay, cy, rfl, hsy⟩ := hp; dsimp only at hsy ⊢; have HB2 := Lib.hid (belw HB1.out hb); have HRY := Lib.hid hsy; have HRX2 := Lib.hid (HRX.out.below hb); clear hb hsy))
        | (go_at_call 28; refine (slEq_any _ _ _ _ _ _ _ (by first | exact Nat.le_trans L1.out (by decide) | exact Nat.le_trans HXL.out (by decide)) (by first | exact Nat.le_trans L2.out (by decide) | exact Nat.le_trans HYL.out (by decide)) (by first | exact HRX2.out | exact (HX.out.below HB2.out).below (below_drewN (Below.refl _ _) _)) (by first | exact HRY.out | exact (HY.out.below HB2.out).below (below_drewN (Below.refl _ _) _))).mono ?_; rintro e wn ⟨rfl, nd, rfl⟩; first | rw [HQ1.out] | rw [HQ2.out]))
    all_goals go_ret
    all_goals (first | exact ⟨rfl, Below.refl _ _⟩ | exact ⟨rfl, HB2.out⟩ | exact ⟨rfl, HD0.out⟩ | exact ⟨rfl, below_drewN HB2.out _⟩ | exact ⟨rfl, below_drewN (below_drewN HB2.out _) _⟩)
  cases q2
  · skip
    have HR : Hid (twinB m k xs ys = true) := by show _ = _; rw [HTB.out]; simp
    rw [HR.out]
    clear HTB
    go_enter Try.func11, Try.ntmps11
    go_wp2_with (first
        | (go_at_call 26; refine (lit_any _ _ _ _ (by first | exact L1.out | exact L2.out) (by first | exact HX.out | exact HY.out)).mono ?_; rintro e wn ⟨rfl, rfl⟩; first | rw [HN1.out] | rw [HN2.out])
        | (go_at_call 27; refine (mread_any _ _ _ _ _ _ _ HM.out (by first | exact Nat.le_trans L1.out (by decide) | exact Nat.le_trans L2.out (by decide)) (by first | exact HS.out | exact HS.out.below HB1.out) (by first | exact HX.out | exact HY.out.below HB1.out)).mono ?_; rintro e wn hp; first
        | (rw [HXE.out] at hp; obtain ⟨hb, ax, cx, rfl, hsx⟩ := hp; dsimp only at hsx ⊢; have HB1 := Lib.hid hb; have HRX := Lib.hid hsx; clear hb hsx)
        | (rw [HYE.out] at hp; obtain ⟨hb, ay, cy, rfl, hsy⟩ := hp; dsimp only at hsy ⊢; have HB2 := Lib.hid (belw HB1.out hb); have HRY := Lib.hid hsy; have HRX2 := Lib.hid (HRX.out.below hb); clear hb hsy))
        | (go_at_call 28; refine (slEq_any _ _ _ _ _ _ _ (by first | exact Nat.le_trans L1.out (by decide) | exact Nat.le_trans HXL.out (by decide)) (by first | exact Nat.le_trans L2.out (by decide) | exact Nat.le_trans HYL.out (by decide)) (by first | exact HRX2.out | exact (HX.out.below HB2.out).below (below_drewN (Below.refl _ _) _)) (by first | exact HRY.out | exact (HY.out.below HB2.out).below (below_drewN (Below.refl _ _) _))).mono ?_; rintro e wn ⟨rfl, nd, rfl⟩; first | rw [HQ1.out] | rw [HQ2.out]))
    all_goals go_ret
    all_goals (first | exact ⟨rfl, Below.refl _ _⟩ | exact ⟨rfl, HB2.out⟩ | exact ⟨rfl, HD0.out⟩ | exact ⟨rfl, below_drewN HB2.out _⟩ | exact ⟨rfl, below_drewN (below_drewN HB2.out _) _⟩)
  · skip
    have HR : Hid (twinB m k xs ys = false) := by show _ = _; rw [HTB.out]; simp
    rw [HR.out]
    clear HTB
    go_enter Try.func11, Try.ntmps11
    go_wp2_with (first
        | (go_at_call 26; refine (lit_any _ _ _ _ (by first | exact L1.out | exact L2.out) (by first | exact HX.out | exact HY.out)).mono ?_; rintro e wn ⟨rfl, rfl⟩; first | rw [HN1.out] | rw [HN2.out])
        | (go_at_call 27; refine (mread_any _ _ _ _ _ _ _ HM.out (by first | exact Nat.le_trans L1.out (by decide) | exact Nat.le_trans L2.out (by decide)) (by first | exact HS.out | exact HS.out.below HB1.out) (by first | exact HX.out | exact HY.out.below HB1.out)).mono ?_; rintro e wn hp; first
        | (rw [HXE.out] at hp; obtain ⟨hb, ax, cx, rfl, hsx⟩ := hp; dsimp only at hsx ⊢; have HB1 := Lib.hid hb; have HRX := Lib.hid hsx; clear hb hsx)
        | (rw [HYE.out] at hp; obtain ⟨hb, ay, cy, rfl, hsy⟩ := hp; dsimp only at hsy ⊢; have HB2 := Lib.hid (belw HB1.out hb); have HRY := Lib.hid hsy; have HRX2 := Lib.hid (HRX.out.below hb); clear hb hsy))
        | (go_at_call 28; refine (slEq_any _ _ _ _ _ _ _ (by first | exact Nat.le_trans L1.out (by decide) | exact Nat.le_trans HXL.out (by decide)) (by first | exact Nat.le_trans L2.out (by decide) | exact Nat.le_trans HYL.out (by decide)) (by first | exact HRX2.out | exact (HX.out.below HB2.out).below (below_drewN (Below.refl _ _) _)) (by first | exact HRY.out | exact (HY.out.below HB2.out).below (below_drewN (Below.refl _ _) _))).mono ?_; rintro e wn ⟨rfl, nd, rfl⟩; first | rw [HQ1.out] | rw [HQ2.out]))
    all_goals go_ret
    all_goals (first | exact ⟨rfl, Below.refl _ _⟩ | exact ⟨rfl, HB2.out⟩ | exact ⟨rfl, HD0.out⟩ | exact ⟨rfl, below_drewN HB2.out _⟩ | exact ⟨rfl, below_drewN (below_drewN HB2.out _) _⟩)
set_option maxRecDepth 100000 in
set_option maxHeartbeats 4000000 in
theorem rtwins_any (a : Option Addr) (m : List (List Int)) (cap : Nat) (b : Option Addr) (xs : List Int) (cb : Nat) (c : Option Addr) (ys : List Int) (cc : Nat) (k : Int) (w : World) (hm : MOk m) (hl1 : xs.length ≤ 1000) (hl2 : ys.length ≤ 1000) (hs : Ms w a m) (hx : Sl w b xs) (hy : Sl w c ys) :
    Calls Try.prog 12 #[.slice a m.length cap, .int .i64 k, .slice b xs.length cb, .slice c ys.length cc] w fun e w' => e = .returned (.bool (twinB m k xs ys)) ∧ Below w.heap.size w w' := by
  have HTB : Hid (twinB m k xs ys = (rangeB k 1 10 && decide (nzTo xs xs.length ≤ k) && decide (nzTo ys ys.length ≤ k) && decide ((readV m xs).2 = 0) && decide ((readV m ys).2 = 0) && decide ((readV m xs).1 = (readV m ys).1) && !decide (xs = ys))) := rfl
  have HXL := Lib.hid (readV_short m xs)
  have HYL := Lib.hid (readV_short m ys)
  obtain ⟨⟨X, e0⟩, hX⟩ : ∃ r, readV m xs = r := ⟨_, rfl⟩
  obtain ⟨⟨Y, f0⟩, hY⟩ : ∃ r, readV m ys = r := ⟨_, rfl⟩
  rw [hX, hY] at HTB
  rw [hX] at HXL
  rw [hY] at HYL
  dsimp only at HTB HXL HYL
  have HSX : Hid (shownM m xs = decide (e0 = 0)) := by show _ = _; rw [shown_read, hX]
  have HSY : Hid (shownM m ys = decide (f0 = 0)) := by show _ = _; rw [shown_read, hY]
  have HXE := Lib.hid hX; have HYE := Lib.hid hY; clear hX hY
  obtain ⟨n1, hn1⟩ : ∃ n, nzTo xs xs.length = n := ⟨_, rfl⟩
  obtain ⟨n2, hn2⟩ : ∃ n, nzTo ys ys.length = n := ⟨_, rfl⟩
  obtain ⟨q1, hq1⟩ : ∃ q, decide (X = Y) = q := ⟨_, rfl⟩
  obtain ⟨q2, hq2⟩ : ∃ q, decide (xs = ys) = q := ⟨_, rfl⟩
  obtain ⟨q0, hq0⟩ : ∃ q, rangeB k 1 10 = q := ⟨_, rfl⟩
  rw [hn1, hn2, hq1, hq2, hq0] at HTB
  have HN1 := Lib.hid hn1; have HN2 := Lib.hid hn2; have HQ1 := Lib.hid hq1; have HQ2 := Lib.hid hq2; have HQ0 := Lib.hid hq0
  clear hn1 hn2 hq1 hq2 hq0
  have HM := Lib.hid hm; have HS := Lib.hid hs; have HX := Lib.hid hx; have HY := Lib.hid hy; have L1 := Lib.hid hl1; have L2 := Lib.hid hl2
  clear hm hs hx hy hl1 hl2

  by_cases he : e0 = 0
  case neg =>
    have ye : decide (e0 = 0) = false := by simpa using he
    rw [ye] at HSX
    have HR : Hid (twinB m k xs ys = false) := by show _ = _; rw [HTB.out]; rw [ye]; simp
    clear he ye
    rw [HR.out]
    clear HTB
    go_enter Try.func12, Try.ntmps12
    go_wp2_with (first
        | (go_at_call 30; refine (some_any _ _ _ _ (by first | exact L1.out | exact L2.out) (by first | exact HX.out | exact HY.out)).mono ?_; rintro e wn ⟨rfl, rfl⟩; first | rw [HN1.out] | rw [HN2.out])
        | (go_at_call 31; refine (rread_any _ _ _ _ _ _ _ HM.out (by first | exact Nat.le_trans L1.out (by decide) | exact Nat.le_trans L2.out (by decide)) (by first | exact HS.out.below HD0.out | exact HS.out.below HB1.out) (by first | exact HX.out.below HD0.out | exact HY.out.below HB1.out)).mono ?_; rintro e wn hp; first
        | (rw [HXE.out] at hp; obtain ⟨hb, ax, cx, rfl, hsx⟩ := hp; dsimp only at hsx ⊢; have HB1 := Lib.hid (belw HD0.out hb); have HRX := Lib.hid hsx; clear hb hsx)
        | (rw [HYE.out] at hp; obtain ⟨hb, ay, cy, rfl, hsy⟩ := hp; dsimp only at hsy ⊢; have HB2 := Lib.hid (belw HB1.out hb); have HRY := Lib.hid hsy; have HRX2 := Lib.hid (HRX.out.below hb); clear hb hsy))
        | (go_at_call 25; refine (sameInts_any _ _ _ _ _ _ _ (by first | exact Nat.le_trans L1.out (by decide) | exact Nat.le_trans HXL.out (by decide)) (by first | exact Nat.le_trans L2.out (by decide) | exact Nat.le_trans HYL.out (by decide)) (by first | exact HX.out | exact HRX2.out) (by first | exact HY.out | exact HRY.out)).mono ?_; rintro e wn ⟨rfl, nd, rfl⟩; first | (rw [HQ2.out]; have HD0 : Hid (Below w.heap.size w (w.drewN nd)) := below_drewN (Below.refl _ _) _) | rw [HQ1.out])
        | (go_at_call 24; refine (rshown_any _ _ _ _ _ _ _ HM.out (by first | exact Nat.le_trans L1.out (by decide) | exact Nat.le_trans L2.out (by decide)) HS.out (by first | exact HX.out | exact HY.out)).mono ?_; rintro e wn ⟨rfl, rfl⟩; first | rw [HSX.out] | rw [HSY.out])
        | (go_at_call 29; refine (rwithin4_any _ _ _ _).mono ?_; rintro e wn ⟨rfl, rfl⟩; rw [HQ0.out]))
    all_goals go_ret
    all_goals (first | exact ⟨rfl, Below.refl _ _⟩ | exact ⟨rfl, HB2.out⟩ | exact ⟨rfl, HD0.out⟩ | exact ⟨rfl, below_drewN HB2.out _⟩ | exact ⟨rfl, below_drewN (below_drewN HB2.out _) _⟩)
  subst he
  rw [decide_eq_true (rfl : (0 : Int) = 0)] at HSX
  by_cases hf : f0 = 0
  case neg =>
    have yf : decide (f0 = 0) = false := by simpa using hf
    rw [yf] at HSY
    have HR : Hid (twinB m k xs ys = false) := by show _ = _; rw [HTB.out]; rw [yf]; simp
    clear hf yf
    rw [HR.out]
    clear HTB
    go_enter Try.func12, Try.ntmps12
    go_wp2_with (first
        | (go_at_call 30; refine (some_any _ _ _ _ (by first | exact L1.out | exact L2.out) (by first | exact HX.out | exact HY.out)).mono ?_; rintro e wn ⟨rfl, rfl⟩; first | rw [HN1.out] | rw [HN2.out])
        | (go_at_call 31; refine (rread_any _ _ _ _ _ _ _ HM.out (by first | exact Nat.le_trans L1.out (by decide) | exact Nat.le_trans L2.out (by decide)) (by first | exact HS.out.below HD0.out | exact HS.out.below HB1.out) (by first | exact HX.out.below HD0.out | exact HY.out.below HB1.out)).mono ?_; rintro e wn hp; first
        | (rw [HXE.out] at hp; obtain ⟨hb, ax, cx, rfl, hsx⟩ := hp; dsimp only at hsx ⊢; have HB1 := Lib.hid (belw HD0.out hb); have HRX := Lib.hid hsx; clear hb hsx)
        | (rw [HYE.out] at hp; obtain ⟨hb, ay, cy, rfl, hsy⟩ := hp; dsimp only at hsy ⊢; have HB2 := Lib.hid (belw HB1.out hb); have HRY := Lib.hid hsy; have HRX2 := Lib.hid (HRX.out.below hb); clear hb hsy))
        | (go_at_call 25; refine (sameInts_any _ _ _ _ _ _ _ (by first | exact Nat.le_trans L1.out (by decide) | exact Nat.le_trans HXL.out (by decide)) (by first | exact Nat.le_trans L2.out (by decide) | exact Nat.le_trans HYL.out (by decide)) (by first | exact HX.out | exact HRX2.out) (by first | exact HY.out | exact HRY.out)).mono ?_; rintro e wn ⟨rfl, nd, rfl⟩; first | (rw [HQ2.out]; have HD0 : Hid (Below w.heap.size w (w.drewN nd)) := below_drewN (Below.refl _ _) _) | rw [HQ1.out])
        | (go_at_call 24; refine (rshown_any _ _ _ _ _ _ _ HM.out (by first | exact Nat.le_trans L1.out (by decide) | exact Nat.le_trans L2.out (by decide)) HS.out (by first | exact HX.out | exact HY.out)).mono ?_; rintro e wn ⟨rfl, rfl⟩; first | rw [HSX.out] | rw [HSY.out])
        | (go_at_call 29; refine (rwithin4_any _ _ _ _).mono ?_; rintro e wn ⟨rfl, rfl⟩; rw [HQ0.out]))
    all_goals go_ret
    all_goals (first | exact ⟨rfl, Below.refl _ _⟩ | exact ⟨rfl, HB2.out⟩ | exact ⟨rfl, HD0.out⟩ | exact ⟨rfl, below_drewN HB2.out _⟩ | exact ⟨rfl, below_drewN (below_drewN HB2.out _) _⟩)
  subst hf
  rw [decide_eq_true (rfl : (0 : Int) = 0)] at HSY
  cases q0
  · skip
    have HR : Hid (twinB m k xs ys = false) := by show _ = _; rw [HTB.out]; simp
    rw [HR.out]
    clear HTB
    go_enter Try.func12, Try.ntmps12
    go_wp2_with (first
        | (go_at_call 30; refine (some_any _ _ _ _ (by first | exact L1.out | exact L2.out) (by first | exact HX.out | exact HY.out)).mono ?_; rintro e wn ⟨rfl, rfl⟩; first | rw [HN1.out] | rw [HN2.out])
        | (go_at_call 31; refine (rread_any _ _ _ _ _ _ _ HM.out (by first | exact Nat.le_trans L1.out (by decide) | exact Nat.le_trans L2.out (by decide)) (by first | exact HS.out.below HD0.out | exact HS.out.below HB1.out) (by first | exact HX.out.below HD0.out | exact HY.out.below HB1.out)).mono ?_; rintro e wn hp; first
        | (rw [HXE.out] at hp; obtain ⟨hb, ax, cx, rfl, hsx⟩ := hp; dsimp only at hsx ⊢; have HB1 := Lib.hid (belw HD0.out hb); have HRX := Lib.hid hsx; clear hb hsx)
        | (rw [HYE.out] at hp; obtain ⟨hb, ay, cy, rfl, hsy⟩ := hp; dsimp only at hsy ⊢; have HB2 := Lib.hid (belw HB1.out hb); have HRY := Lib.hid hsy; have HRX2 := Lib.hid (HRX.out.below hb); clear hb hsy))
        | (go_at_call 25; refine (sameInts_any _ _ _ _ _ _ _ (by first | exact Nat.le_trans L1.out (by decide) | exact Nat.le_trans HXL.out (by decide)) (by first | exact Nat.le_trans L2.out (by decide) | exact Nat.le_trans HYL.out (by decide)) (by first | exact HX.out | exact HRX2.out) (by first | exact HY.out | exact HRY.out)).mono ?_; rintro e wn ⟨rfl, nd, rfl⟩; first | (rw [HQ2.out]; have HD0 : Hid (Below w.heap.size w (w.drewN nd)) := below_drewN (Below.refl _ _) _) | rw [HQ1.out])
        | (go_at_call 24; refine (rshown_any _ _ _ _ _ _ _ HM.out (by first | exact Nat.le_trans L1.out (by decide) | exact Nat.le_trans L2.out (by decide)) HS.out (by first | exact HX.out | exact HY.out)).mono ?_; rintro e wn ⟨rfl, rfl⟩; first | rw [HSX.out] | rw [HSY.out])
        | (go_at_call 29; refine (rwithin4_any _ _ _ _).mono ?_; rintro e wn ⟨rfl, rfl⟩; rw [HQ0.out]))
    all_goals go_ret
    all_goals (first | exact ⟨rfl, Below.refl _ _⟩ | exact ⟨rfl, HB2.out⟩ | exact ⟨rfl, HD0.out⟩ | exact ⟨rfl, below_drewN HB2.out _⟩ | exact ⟨rfl, below_drewN (below_drewN HB2.out _) _⟩)
  by_cases h3 : k < n1
  · have hd : decide (n1 ≤ k) = false := by simp; omega
    have HR : Hid (twinB m k xs ys = false) := by show _ = _; rw [HTB.out]; rw [hd]; simp
    clear hd
    rw [HR.out]
    clear HTB
    go_enter Try.func12, Try.ntmps12
    go_wp2_with (first
        | (go_at_call 30; refine (some_any _ _ _ _ (by first | exact L1.out | exact L2.out) (by first | exact HX.out | exact HY.out)).mono ?_; rintro e wn ⟨rfl, rfl⟩; first | rw [HN1.out] | rw [HN2.out])
        | (go_at_call 31; refine (rread_any _ _ _ _ _ _ _ HM.out (by first | exact Nat.le_trans L1.out (by decide) | exact Nat.le_trans L2.out (by decide)) (by first | exact HS.out.below HD0.out | exact HS.out.below HB1.out) (by first | exact HX.out.below HD0.out | exact HY.out.below HB1.out)).mono ?_; rintro e wn hp; first
        | (rw [HXE.out] at hp; obtain ⟨hb, ax, cx, rfl, hsx⟩ := hp; dsimp only at hsx ⊢; have HB1 := Lib.hid (belw HD0.out hb); have HRX := Lib.hid hsx; clear hb hsx)
        | (rw [HYE.out] at hp; obtain ⟨hb, ay, cy, rfl, hsy⟩ := hp; dsimp only at hsy ⊢; have HB2 := Lib.hid (belw HB1.out hb); have HRY := Lib.hid hsy; have HRX2 := Lib.hid (HRX.out.below hb); clear hb hsy))
        | (go_at_call 25; refine (sameInts_any _ _ _ _ _ _ _ (by first | exact Nat.le_trans L1.out (by decide) | exact Nat.le_trans HXL.out (by decide)) (by first | exact Nat.le_trans L2.out (by decide) | exact Nat.le_trans HYL.out (by decide)) (by first | exact HX.out | exact HRX2.out) (by first | exact HY.out | exact HRY.out)).mono ?_; rintro e wn ⟨rfl, nd, rfl⟩; first | (rw [HQ2.out]; have HD0 : Hid (Below w.heap.size w (w.drewN nd)) := below_drewN (Below.refl _ _) _) | rw [HQ1.out])
        | (go_at_call 24; refine (rshown_any _ _ _ _ _ _ _ HM.out (by first | exact Nat.le_trans L1.out (by decide) | exact Nat.le_trans L2.out (by decide)) HS.out (by first | exact HX.out | exact HY.out)).mono ?_; rintro e wn ⟨rfl, rfl⟩; first | rw [HSX.out] | rw [HSY.out])
        | (go_at_call 29; refine (rwithin4_any _ _ _ _).mono ?_; rintro e wn ⟨rfl, rfl⟩; rw [HQ0.out]))
    all_goals go_ret
    all_goals (first | exact ⟨rfl, Below.refl _ _⟩ | exact ⟨rfl, HB2.out⟩ | exact ⟨rfl, HD0.out⟩ | exact ⟨rfl, below_drewN HB2.out _⟩ | exact ⟨rfl, below_drewN (below_drewN HB2.out _) _⟩)
  by_cases h4 : k < n2
  · have hd : decide (n2 ≤ k) = false := by simp; omega
    have HR : Hid (twinB m k xs ys = false) := by show _ = _; rw [HTB.out]; rw [hd]; simp
    clear hd
    rw [HR.out]
    clear HTB
    go_enter Try.func12, Try.ntmps12
    go_wp2_with (first
        | (go_at_call 30; refine (some_any _ _ _ _ (by first | exact L1.out | exact L2.out) (by first | exact HX.out | exact HY.out)).mono ?_; rintro e wn ⟨rfl, rfl⟩; first | rw [HN1.out] | rw [HN2.out])
        | (go_at_call 31; refine (rread_any _ _ _ _ _ _ _ HM.out (by first | exact Nat.le_trans L1.out (by decide) | exact Nat.le_trans L2.out (by decide)) (by first | exact HS.out.below HD0.out | exact HS.out.below HB1.out) (by first | exact HX.out.below HD0.out | exact HY.out.below HB1.out)).mono ?_; rintro e wn hp; first
        | (rw [HXE.out] at hp; obtain ⟨hb, ax, cx, rfl, hsx⟩ := hp; dsimp only at hsx ⊢; have HB1 := Lib.hid (belw HD0.out hb); have HRX := Lib.hid hsx; clear hb hsx)
        | (rw [HYE.out] at hp; obtain ⟨hb, ay, cy, rfl, hsy⟩ := hp; dsimp only at hsy ⊢; have HB2 := Lib.hid (belw HB1.out hb); have HRY := Lib.hid hsy; have HRX2 := Lib.hid (HRX.out.below hb); clear hb hsy))
        | (go_at_call 25; refine (sameInts_any _ _ _ _ _ _ _ (by first | exact Nat.le_trans L1.out (by decide) | exact Nat.le_trans HXL.out (by decide)) (by first | exact Nat.le_trans L2.out (by decide) | exact Nat.le_trans HYL.out (by decide)) (by first | exact HX.out | exact HRX2.out) (by first | exact HY.out | exact HRY.out)).mono ?_; rintro e wn ⟨rfl, nd, rfl⟩; first | (rw [HQ2.out]; have HD0 : Hid (Below w.heap.size w (w.drewN nd)) := below_drewN (Below.refl _ _) _) | rw [HQ1.out])
        | (go_at_call 24; refine (rshown_any _ _ _ _ _ _ _ HM.out (by first | exact Nat.le_trans L1.out (by decide) | exact Nat.le_trans L2.out (by decide)) HS.out (by first | exact HX.out | exact HY.out)).mono ?_; rintro e wn ⟨rfl, rfl⟩; first | rw [HSX.out] | rw [HSY.out])
        | (go_at_call 29; refine (rwithin4_any _ _ _ _).mono ?_; rintro e wn ⟨rfl, rfl⟩; rw [HQ0.out]))
    all_goals go_ret
    all_goals (first | exact ⟨rfl, Below.refl _ _⟩ | exact ⟨rfl, HB2.out⟩ | exact ⟨rfl, HD0.out⟩ | exact ⟨rfl, below_drewN HB2.out _⟩ | exact ⟨rfl, below_drewN (below_drewN HB2.out _) _⟩)
  have hd1 : decide (n1 ≤ k) = true := by simp; omega
  have hd2 : decide (n2 ≤ k) = true := by simp; omega
  rw [hd1, hd2] at HTB
  clear hd1 hd2
  cases q2
  case true =>
    have HR : Hid (twinB m k xs ys = false) := by show _ = _; rw [HTB.out]; simp
    rw [HR.out]
    clear HTB
    go_enter Try.func12, Try.ntmps12
    go_wp2_with (first
        | (go_at_call 30; refine (some_any _ _ _ _ (by first | exact L1.out | exact L2.out) (by first | exact HX.out | exact HY.out)).mono ?_; rintro e wn ⟨rfl, rfl⟩; first | rw [HN1.out] | rw [HN2.out])
        | (go_at_call 31; refine (rread_any _ _ _ _ _ _ _ HM.out (by first | exact Nat.le_trans L1.out (by decide) | exact Nat.le_trans L2.out (by decide)) (by first | exact HS.out.below HD0.out | exact HS.out.below HB1.out) (by first | exact HX.out.below HD0.out | exact HY.out.below HB1.out)).mono ?_; rintro e wn hp; first
        | (rw [HXE.out] at hp; obtain ⟨hb, ax, cx, rfl, hsx⟩ := hp; dsimp only at hsx ⊢; have HB1 := Lib.hid (belw HD0.out hb); have HRX := Lib.hid hsx; clear hb hsx)
        | (rw [HYE.out] at hp; obtain ⟨hb, ay, cy, rfl, hsy⟩ := hp; dsimp only at hsy ⊢; have HB2 := Lib.hid (belw HB1.out hb); have HRY := Lib.hid hsy; have HRX2 := Lib.hid (HRX.out.below hb); clear hb hsy))
        | (go_at_call 25; refine (sameInts_any _ _ _ _ _ _ _ (by first | exact Nat.le_trans L1.out (by decide) | exact Nat.le_trans HXL.out (by decide)) (by first | exact Nat.le_trans L2.out (by decide) | exact Nat.le_trans HYL.out (by decide)) (by first | exact HX.out | exact HRX2.out) (by first | exact HY.out | exact HRY.out)).mono ?_; rintro e wn ⟨rfl, nd, rfl⟩; first | (rw [HQ2.out]; have HD0 : Hid (Below w.heap.size w (w.drewN nd)) := below_drewN (Below.refl _ _) _) | rw [HQ1.out])
        | (go_at_call 24; refine (rshown_any _ _ _ _ _ _ _ HM.out (by first | exact Nat.le_trans L1.out (by decide) | exact Nat.le_trans L2.out (by decide)) HS.out (by first | exact HX.out | exact HY.out)).mono ?_; rintro e wn ⟨rfl, rfl⟩; first | rw [HSX.out] | rw [HSY.out])
        | (go_at_call 29; refine (rwithin4_any _ _ _ _).mono ?_; rintro e wn ⟨rfl, rfl⟩; rw [HQ0.out]))
    all_goals go_ret
    all_goals (first | exact ⟨rfl, Below.refl _ _⟩ | exact ⟨rfl, HB2.out⟩ | exact ⟨rfl, HD0.out⟩ | exact ⟨rfl, below_drewN HB2.out _⟩ | exact ⟨rfl, below_drewN (below_drewN HB2.out _) _⟩)
  cases q1
  · skip
    have HR : Hid (twinB m k xs ys = false) := by show _ = _; rw [HTB.out]; simp
    rw [HR.out]
    clear HTB
    go_enter Try.func12, Try.ntmps12
    go_wp2_with (first
        | (go_at_call 30; refine (some_any _ _ _ _ (by first | exact L1.out | exact L2.out) (by first | exact HX.out | exact HY.out)).mono ?_; rintro e wn ⟨rfl, rfl⟩; first | rw [HN1.out] | rw [HN2.out])
        | (go_at_call 31; refine (rread_any _ _ _ _ _ _ _ HM.out (by first | exact Nat.le_trans L1.out (by decide) | exact Nat.le_trans L2.out (by decide)) (by first | exact HS.out.below HD0.out | exact HS.out.below HB1.out) (by first | exact HX.out.below HD0.out | exact HY.out.below HB1.out)).mono ?_; rintro e wn hp; first
        | (rw [HXE.out] at hp; obtain ⟨hb, ax, cx, rfl, hsx⟩ := hp; dsimp only at hsx ⊢; have HB1 := Lib.hid (belw HD0.out hb); have HRX := Lib.hid hsx; clear hb hsx)
        | (rw [HYE.out] at hp; obtain ⟨hb, ay, cy, rfl, hsy⟩ := hp; dsimp only at hsy ⊢; have HB2 := Lib.hid (belw HB1.out hb); have HRY := Lib.hid hsy; have HRX2 := Lib.hid (HRX.out.below hb); clear hb hsy))
        | (go_at_call 25; refine (sameInts_any _ _ _ _ _ _ _ (by first | exact Nat.le_trans L1.out (by decide) | exact Nat.le_trans HXL.out (by decide)) (by first | exact Nat.le_trans L2.out (by decide) | exact Nat.le_trans HYL.out (by decide)) (by first | exact HX.out | exact HRX2.out) (by first | exact HY.out | exact HRY.out)).mono ?_; rintro e wn ⟨rfl, nd, rfl⟩; first | (rw [HQ2.out]; have HD0 : Hid (Below w.heap.size w (w.drewN nd)) := below_drewN (Below.refl _ _) _) | rw [HQ1.out])
        | (go_at_call 24; refine (rshown_any _ _ _ _ _ _ _ HM.out (by first | exact Nat.le_trans L1.out (by decide) | exact Nat.le_trans L2.out (by decide)) HS.out (by first | exact HX.out | exact HY.out)).mono ?_; rintro e wn ⟨rfl, rfl⟩; first | rw [HSX.out] | rw [HSY.out])
        | (go_at_call 29; refine (rwithin4_any _ _ _ _).mono ?_; rintro e wn ⟨rfl, rfl⟩; rw [HQ0.out]))
    all_goals go_ret
    all_goals (first | exact ⟨rfl, Below.refl _ _⟩ | exact ⟨rfl, HB2.out⟩ | exact ⟨rfl, HD0.out⟩ | exact ⟨rfl, below_drewN HB2.out _⟩ | exact ⟨rfl, below_drewN (below_drewN HB2.out _) _⟩)
  · skip
    have HR : Hid (twinB m k xs ys = true) := by show _ = _; rw [HTB.out]; simp
    rw [HR.out]
    clear HTB
    go_enter Try.func12, Try.ntmps12
    go_wp2_with (first
        | (go_at_call 30; refine (some_any _ _ _ _ (by first | exact L1.out | exact L2.out) (by first | exact HX.out | exact HY.out)).mono ?_; rintro e wn ⟨rfl, rfl⟩; first | rw [HN1.out] | rw [HN2.out])
        | (go_at_call 31; refine (rread_any _ _ _ _ _ _ _ HM.out (by first | exact Nat.le_trans L1.out (by decide) | exact Nat.le_trans L2.out (by decide)) (by first | exact HS.out.below HD0.out | exact HS.out.below HB1.out) (by first | exact HX.out.below HD0.out | exact HY.out.below HB1.out)).mono ?_; rintro e wn hp; first
        | (rw [HXE.out] at hp; obtain ⟨hb, ax, cx, rfl, hsx⟩ := hp; dsimp only at hsx ⊢; have HB1 := Lib.hid (belw HD0.out hb); have HRX := Lib.hid hsx; clear hb hsx)
        | (rw [HYE.out] at hp; obtain ⟨hb, ay, cy, rfl, hsy⟩ := hp; dsimp only at hsy ⊢; have HB2 := Lib.hid (belw HB1.out hb); have HRY := Lib.hid hsy; have HRX2 := Lib.hid (HRX.out.below hb); clear hb hsy))
        | (go_at_call 25; refine (sameInts_any _ _ _ _ _ _ _ (by first | exact Nat.le_trans L1.out (by decide) | exact Nat.le_trans HXL.out (by decide)) (by first | exact Nat.le_trans L2.out (by decide) | exact Nat.le_trans HYL.out (by decide)) (by first | exact HX.out | exact HRX2.out) (by first | exact HY.out | exact HRY.out)).mono ?_; rintro e wn ⟨rfl, nd, rfl⟩; first | (rw [HQ2.out]; have HD0 : Hid (Below w.heap.size w (w.drewN nd)) := below_drewN (Below.refl _ _) _) | rw [HQ1.out])
        | (go_at_call 24; refine (rshown_any _ _ _ _ _ _ _ HM.out (by first | exact Nat.le_trans L1.out (by decide) | exact Nat.le_trans L2.out (by decide)) HS.out (by first | exact HX.out | exact HY.out)).mono ?_; rintro e wn ⟨rfl, rfl⟩; first | rw [HSX.out] | rw [HSY.out])
        | (go_at_call 29; refine (rwithin4_any _ _ _ _).mono ?_; rintro e wn ⟨rfl, rfl⟩; rw [HQ0.out]))
    all_goals go_ret
    all_goals (first | exact ⟨rfl, Below.refl _ _⟩ | exact ⟨rfl, HB2.out⟩ | exact ⟨rfl, HD0.out⟩ | exact ⟨rfl, below_drewN HB2.out _⟩ | exact ⟨rfl, below_drewN (below_drewN HB2.out _) _⟩)
end Go.Proofs.Ytfnomiingelfaaa
/- Circuit and Spark of the answers: contracts. -/
namespace Go.Proofs.Ytfnomiingelfaaa
open Go.RowKit

set_option maxRecDepth 100000 in
set_option maxHeartbeats 800000 in
theorem rcircuits_no (a : Option Addr) (m : List (List Int)) (cap : Nat) (w : World) (hv : validM m = false) (hm : MOk m) (hs : Ms w a m) :
    Calls Try.prog 59 #[.slice a m.length cap] w fun e w' => e = .returned (.tuple #[.slice none 0 0, .int .i64 1]) ∧ w = w' := by
  have HVA : Hid (Calls Try.prog 34 #[.slice a m.length cap] w fun e w' => e = .returned (.bool false) ∧ w = w') := by rw [← hv]; exact rvalid_any a m cap w hm hs
  clear hv hm hs
  go_enter Try.func59, Try.ntmps59
  go_wp2_with (go_at_call 34; refine HVA.out.mono ?_; rintro e w1 ⟨rfl, rfl⟩)
  go_ret2
  exact ⟨rfl, rfl⟩
set_option maxRecDepth 100000 in
set_option maxHeartbeats 800000 in
theorem rcircuit_any (a : Option Addr) (m : List (List Int)) (cap : Nat) (w : World) (hm : MOk m) (hs : Ms w a m) : Calls Try.prog 37 #[.slice a m.length cap] w (LPost (circuitV m) w) := by
  cases hv : validM m with
  | false =>
    have HC := Lib.hid (rcircuits_no a m cap w hv hm hs)
    have HE : Hid (circuitV m = ([], 1)) := by show _ = _; unfold circuitV; rw [hv]; rfl
    clear hv hm hs
    go_enter Try.func37, Try.ntmps37
    go_wp2_with (go_at_call 59; refine HC.out.mono ?_; rintro e w1 ⟨rfl, rfl⟩)
    go_ret2
    exact LPost.err 1 HE.out (Below.refl _ _)
  | true =>
    have h0 := rcircuits_any a m cap w hv hm hs
    rw [circs_same hv] at h0
    have HC := Lib.hid h0
    have HE : Hid (circuitV m = match circsAll m with | [] => ([], 8) | h :: _ => (h, 0)) := by show _ = _; unfold circuitV; rw [if_pos hv]; cases circsAll m <;> rfl
    obtain ⟨L, hL⟩ : ∃ L, circsAll m = L := ⟨_, rfl⟩
    rw [hL] at HC HE
    clear hv hm hs h0 hL
    cases L with
    | nil =>
      go_enter Try.func37, Try.ntmps37
      go_wp2_with (go_at_call 59; refine HC.out.mono ?_; rintro e w1 ⟨ca, cc, rfl, _, hb⟩; have HB := Lib.hid hb; clear hb)
      go_ret2
      exact LPost.err 8 HE.out HB.out
    | cons h t =>
      obtain ⟨n, hn⟩ : ∃ n, (h :: t).length = n := ⟨_, rfl⟩
      have hn1 : (0 : Int) < (n : Int) := by have : n = t.length + 1 := by rw [← hn]; rfl
                                             omega
      have hn2 : ((n : Int) == 0) = false := by simp; omega
      rw [hn] at HC
      have HN := Lib.hid hn
      clear hn
      go_enter Try.func37, Try.ntmps37
      go_wp2_with fail
      refine HC.out.mono ?_
      rintro e w1 ⟨ca, cc, rfl, hms, hb⟩
      have HB := Lib.hid hb
      obtain ⟨b, o, ah, ch, rfl, hc, hsl⟩ := hms 0 (by rw [HN.out]; omega)
      have hc : w1.cell? ⟨b, o, none⟩ = some (.slice ah h.length ch) := hc
      have hsl : Sl w1 ah h := hsl
      have HSL := Lib.hid hsl
      clear hb hms hsl
      go_wp2
      go_ret2
      exact ⟨HB.out, ah, ch, by rw [HE.out]; rfl, by rw [HE.out]; exact HSL.out⟩
set_option maxRecDepth 100000 in
set_option maxHeartbeats 800000 in
theorem rspark_any (a : Option Addr) (m : List (List Int)) (cap : Nat) (w : World) (hm : MOk m) (hs : Ms w a m) :
    Calls Try.prog 16 #[.slice a m.length cap] w fun e w' => e = .returned (.tuple #[.int .i64 (sparkV m).1, .int .i64 (sparkV m).2]) ∧ Below w.heap.size w w' := by
  have HCI : Hid (Calls Try.prog 37 #[.slice a m.length cap] w (LPost (circuitV m) w)) := rcircuit_any a m cap w hm hs
  have HL := Lib.hid (circuitV_len (m := m))
  have HSP : Hid (sparkV m = if (circuitV m).2 = 0 then (nzTo (circuitV m).1 (circuitV m).1.length, 0) else (0, (circuitV m).2)) := rfl
  clear hm hs
  obtain ⟨⟨h, e0⟩, hr⟩ : ∃ r, circuitV m = r := ⟨_, rfl⟩
  rw [hr] at HCI HL HSP
  dsimp only at HL HSP
  clear hr
  by_cases he : e0 = 0
  · subst he
    rw [if_pos rfl] at HSP
    rw [HSP.out]
    dsimp only
    clear HSP
    go_enter Try.func16, Try.ntmps16
    go_wp2_with (go_at_call 37; refine HCI.out.mono ?_; rintro e w1 ⟨hb1, ah, ch, rfl, hsl⟩; dsimp only at hsl ⊢; have HB := Lib.hid hb1; have HS := Lib.hid hsl; clear hb1 hsl)
    go_loopw [6, 19] (fun v i wr => ∃ k : Nat, k ≤ h.length ∧ i = .int .i64 k ∧ v = .int .i64 (nzTo h k) ∧ wr = w1) (fun _ i _ => h.length - (intOf i).toNat)
    case atStart => exact ⟨0, Nat.zero_le _, rfl, rfl, rfl⟩
    case round =>
      obtain ⟨k, hk, rfl, rfl, rfl⟩ := hrel
      have hl := HL.out
      by_cases hlt : k < h.length
      · obtain ⟨b, o, x, rfl, hc, hx⟩ := HS.out.at hlt
        have hgx := gt_some' hx.out
        have hin := nzTo_in h k
        by_cases h0 : x = 0
        · subst h0
          have HT : Hid (nzTo h (k + 1) = nzTo h k) := by show _ = _; rw [nzTo, if_pos hgx]
          clear hgx
          go_wp2
          go_roundw
          case rel => exact ⟨k + 1, by omega, by go_num, by rw [HT.out], by first | trivial | rfl⟩
          case measure => simp [intOf]; omega
        · have HT : Hid (nzTo h (k + 1) = nzTo h k + 1) := by show _ = _; rw [nzTo, if_neg (by rw [hgx]; exact h0)]
          clear hgx
          have hne : (x != 0) = true := by simpa using h0
          obtain ⟨n, hn⟩ : ∃ n, nzTo h k = n := ⟨_, rfl⟩
          rw [hn] at hin HT ⊢
          clear hn
          go_wp2
          go_roundw
          case rel => exact ⟨k + 1, by omega, by go_num, by rw [HT.out], by first | trivial | rfl⟩
          case measure => simp [intOf]; omega
      · obtain rfl : k = h.length := by omega
        go_wp2
        go_ret2
        exact ⟨rfl, HB.out⟩
  · rw [if_neg he] at HSP
    rw [HSP.out]
    dsimp only
    have hne : (e0 != 0) = true := by simpa using he
    clear HSP he
    go_enter Try.func16, Try.ntmps16
    go_wp2_with (go_at_call 37; refine HCI.out.mono ?_; rintro e w1 ⟨hb1, ah, ch, rfl, hsl⟩; dsimp only; have HB := Lib.hid hb1; clear hb1 hsl)
    go_ret2
    exact ⟨rfl, HB.out⟩
end Go.Proofs.Ytfnomiingelfaaa
/- Fractions in lowest terms, and the likeness of two columns of layer 2: contracts. -/
namespace Go.Proofs.Ytfnomiingelfaaa
open Go.RowKit

end Go.Proofs.Ytfnomiingelfaaa
/- Likeness of layer 2: words and a contract. -/
namespace Go.Proofs.Ytfnomiingelfaaa
open Go.RowKit

def NPost (r : Int × Int) (w : World) (e : Ending) (w' : World) : Prop := Below w.heap.size w w' ∧ e = .returned (.tuple #[.int .i64 r.1, .int .i64 r.2])
structure RC (B : Nat) (w : World) : Prop where
  c0 : w.cell? ⟨B, 0, none⟩ = some (.int .i64 0)
  c1 : w.cell? ⟨B, 1, none⟩ = some (.int .i64 0)
  f0 : w.frozen? ⟨B, 0, none⟩ = false
  f1 : w.frozen? ⟨B, 1, none⟩ = false
  lt : B < w.heap.size
theorem RC.next {B : Nat} {w w' : World} (h : RC B w) (hb : Below w.heap.size w w') : RC B w' :=
  ⟨(hb.cell (p := ⟨B, 0, none⟩) h.lt).trans h.c0, (hb.cell (p := ⟨B, 1, none⟩) h.lt).trans h.c1, (hb.frozen (p := ⟨B, 0, none⟩) h.lt).trans h.f0, (hb.frozen (p := ⟨B, 1, none⟩) h.lt).trans h.f1, Nat.lt_of_lt_of_le h.lt hb.size⟩
end Go.Proofs.Ytfnomiingelfaaa
/- Pixels of layer 2: a contract (of MRead2). -/
namespace Go.Proofs.Ytfnomiingelfaaa
open Go.RowKit

def pixelsV (m : List (List Int)) : Int × Int := if validM m = true then (colsM m, 0) else (0, 1)
theorem pixelsV_no {m : List (List Int)} (h : validM m = false) : pixelsV m = (0, 1) := by unfold pixelsV; rw [h]; rfl
theorem pixelsV_ok {m : List (List Int)} (h : validM m = true) : pixelsV m = ((colsM m : Int), 0) := by unfold pixelsV; rw [h, if_pos rfl]

theorem mpixels_any (a : Option Addr) (m : List (List Int)) (cap : Nat) (w : World) (hm : MOk m) (hs : Ms w a m) :
    Calls Try.prog 36 #[.slice a m.length cap] w (NPost (pixelsV m) w) := by
  have HM := Lib.hid hm; clear hm
  have HS := Lib.hid hs; clear hs
  go_enter Try.func36, Try.ntmps36
  go_wp2_with fail
  refine (mvalid_any _ _ _ _ HM.out HS.out).mono ?_
  rintro e w1 ⟨rfl, hb1⟩
  cases hv : validM m
  · have HV := Lib.hid hv; clear hv
    go_wp2
    go_ret2
    exact ⟨hb1, by rw [pixelsV_no HV.out]; rfl⟩
  · have hm1 := (validM_of hv).1
    obtain ⟨b0, o0, a0, c0, rfl, hcell⟩ := row0 (HS.out.below hb1) hm1
    have HV := Lib.hid hv; clear hv
    go_wp2
    go_ret2
    exact ⟨hb1, by rw [pixelsV_ok HV.out]; rfl⟩
end Go.Proofs.Ytfnomiingelfaaa
/- Sure of layer 4: a contract (a part of SpSure, on its own: never import both). -/
namespace Go.Proofs.Ytfnomiingelfaaa
open Go.RowKit Go.Shelf

def sureV (m : List (List Int)) : Int × Int := if (sparkV m).2 = 8 then ((colsM m : Int), 0) else if (sparkV m).2 = 0 then (((sparkV m).1 - 1).tdiv 2, 0) else (0, (sparkV m).2)
theorem spark_in (m : List (List Int)) : 0 ≤ (sparkV m).1 ∧ (sparkV m).1 ≤ 10 := by
  unfold sparkV
  split
  · have h1 := nzTo_in (circuitV m).1 (circuitV m).1.length
    have h2 := circuitV_len (m := m)
    dsimp only
    omega
  · exact ⟨Int.le_refl 0, by omega⟩
theorem spark_none {m : List (List Int)} (h : (sparkV m).2 = 8) : validM m = true := by
  unfold sparkV at h
  split at h
  · cases h
  · unfold circuitV at h
    split at h
    · assumption
    · cases h
set_option maxRecDepth 100000 in
set_option maxHeartbeats 800000 in
theorem ssure_any (a : Option Addr) (m : List (List Int)) (cap : Nat) (w : World) (hm : MOk m) (hs : Ms w a m) :
    Calls Try.prog 15 #[.slice a m.length cap] w fun e w' => e = .returned (.tuple #[.int .i64 (sureV m).1, .int .i64 (sureV m).2]) ∧ Below w.heap.size w w' := by
  have HSP := Lib.hid (spark_any a m cap w hm hs)
  obtain ⟨⟨s, e0⟩, hse⟩ : ∃ r, sparkV m = r := ⟨_, rfl⟩
  have HSV : Hid (sureV m = if e0 = 8 then ((colsM m : Int), 0) else if e0 = 0 then ((s - 1).tdiv 2, 0) else (0, e0)) := by show _ = _; unfold sureV; rw [hse]
  have hs01 := spark_in m
  rw [hse] at HSP hs01
  dsimp only at HSP hs01
  by_cases h8 : e0 = 8
  · subst h8
    obtain ⟨N, hN⟩ : ∃ N, colsM m = N := ⟨_, rfl⟩
    have hE8 := spark_none (m := m) (by rw [hse])
    have hv := hE8
    have HE : Hid (sureV m = ((N : Int), 0)) := by show _ = _; rw [HSV.out, if_pos rfl, hN]
    rw [HE.out]
    obtain ⟨hm1, hm6, hc1, hc10, hrows⟩ := validM_of hv
    · clear hse HSV hs01
      have HPI : Hid (∀ W, Below w.heap.size w W → Calls Try.prog 36 #[.slice a m.length cap] W (NPost ((N : Int), 0) W)) := fun W hb => by
        have h := mpixels_any a m cap W hm (hs.below hb)
        rw [show pixelsV m = ((N : Int), 0) by unfold pixelsV; rw [if_pos hv, hN]] at h
        exact h
      clear hs hm hrows hc1 hc10 hm1 hm6 hN hv hE8
      go_enter Try.func15, Try.ntmps15
      go_wp2_with (first
        | (go_at_call 35; refine HSP.out.mono ?_; rintro e w2 ⟨rfl, hb⟩; have HB := Lib.hid hb;  clear hb)
        | (go_at_call 36; refine (HPI.out _ HB.out).mono ?_; rintro e w3 ⟨hb3, rfl⟩; have HB3 : Hid (Below w.heap.size w w3) := HB.out.trans (hb3.mono HB.out.size); clear hb3))
      go_ret2
      exact ⟨rfl, HB3.out⟩
  · have y8 : (e0 == 8) = false := by simpa using h8
    by_cases h0 : e0 = 0
    · subst h0
      have HE : Hid (sureV m = ((s - 1).tdiv 2, 0)) := by show _ = _; rw [HSV.out, if_neg h8, if_pos rfl]
      rw [HE.out]
      have hs1 : IntKind.i64.wrap (s - 1) = s - 1 := IntWalk.i64_in _ (by omega)
      have hs2 : IntKind.i64.wrap ((s - 1).tdiv 2) = (s - 1).tdiv 2 := by
        have h1 : ((s - 1).tdiv 2).natAbs = (s - 1).natAbs / 2 := Int.natAbs_tdiv _ _
        exact IntWalk.i64_in _ (by omega)
      clear hse HSV hm hs h8
      go_enter Try.func15, Try.ntmps15
      go_wp2_with (go_at_call 35; refine HSP.out.mono ?_; rintro e w2 ⟨rfl, hb⟩; have HB := Lib.hid hb; clear hb)
      go_ret2
      exact ⟨by first | rfl | (congr 3; omega), HB.out⟩
    · have y1 : (e0 == 0) = false := by simpa using h0
      have y2 : (e0 != 0) = true := by simpa using h0
      have HE : Hid (sureV m = (0, e0)) := by show _ = _; rw [HSV.out, if_neg h8, if_neg h0]
      rw [HE.out]
      clear hse HSV hm hs h8 h0 hs01
      go_enter Try.func15, Try.ntmps15
      go_wp2_with (go_at_call 35; refine HSP.out.mono ?_; rintro e w2 ⟨rfl, hb⟩; have HB := Lib.hid hb; clear hb)
      go_ret2
      exact ⟨rfl, HB.out⟩
end Go.Proofs.Ytfnomiingelfaaa
/- Twins: what the two parts of a circuit are, and how small twins are. Plain mathematics. Speaks of no program. -/
namespace Go.Proofs.Ytfnomiingelfaaa
open Go.RowKit

theorem read_row {m : List (List Int)} (hv : validM m = true) (x : List Int) {i : Nat} (hi : i < m.length) : gt (readL m x) i = sumTo (fun c => a0 m i c * gt x c) (colsM m) := by
  have e : gt (readL m x) i = dot (rowL m i) x := by unfold readL gt rowL; simp [hi]
  rw [e]
  unfold dot
  rw [((validM_of hv).2.2.2.2 _ (rowL_mem hi)).1]
  rfl
theorem sum_sub (f g : Nat → Int) : ∀ n, sumTo (fun c => f c - g c) n = sumTo f n - sumTo g n
  | 0 => rfl
  | n + 1 => by
    show sumTo (fun c => f c - g c) n + (f n - g n) = sumTo f n + f n - (sumTo g n + g n)
    rw [sum_sub f g n]; omega
theorem read_same {m : List (List Int)} (hv : validM m = true) (x y : List Int) : readL m x = readL m y ↔ KerF m fun j => gt x j - gt y j := by
  have hs : ∀ i, i < m.length → sumTo (fun c => a0 m i c * (gt x c - gt y c)) (colsM m) = gt (readL m x) i - gt (readL m y) i := fun i hi => by
    rw [read_row hv x hi, read_row hv y hi, ← sum_sub]
    exact sumTo_congr _ fun c _ => by rw [Int.mul_sub]
  constructor
  · intro e i hi
    rw [hs i hi, e]; omega
  · intro h
    refine ext_gt (by simp [readL]) fun i hi => ?_
    have hi : i < m.length := by simpa [readL] using hi
    have := h i hi
    rw [hs i hi] at this
    omega
theorem nz_diff (a b : List Int) : ∀ n, (((List.range n).filter fun j => gt a j - gt b j != 0).length : Int) ≤ nzTo a n + nzTo b n
  | 0 => by simp [nzTo]
  | n + 1 => by
    have ih := nz_diff a b n
    rw [List.range_succ, List.filter_append, List.length_append, nzTo, nzTo]
    by_cases e1 : gt a n = 0
    · by_cases e2 : gt b n = 0
      · simp only [e1, e2, List.filter_cons, List.filter_nil]; simp; omega
      · have : (List.filter (fun j => gt a j - gt b j != 0) [n]).length ≤ 1 := List.length_filter_le _ [n]
        rw [if_pos e1, if_neg e2]; omega
    · have : (List.filter (fun j => gt a j - gt b j != 0) [n]).length ≤ 1 := List.length_filter_le _ [n]
      rw [if_neg e1]
      split <;> omega
theorem tw_nz {h : List Int} {k : Int} (hk : 0 ≤ k) : ∀ i, i ≤ h.length → nzTo (twA h k h.length) i = (if nzTo h i ≤ k then nzTo h i else k) ∧ nzTo (twB h k h.length) i = (if nzTo h i ≤ k then 0 else nzTo h i - k)
  | 0, _ => by simp [nzTo, hk]
  | i + 1, hi => by
    obtain ⟨h1, h2⟩ := tw_nz (h := h) hk i (by omega)
    have g1 := gt_twA (h := h) (k := k) (i := h.length) (j := i) (by omega)
    have g2 := gt_twB (h := h) (k := k) (i := h.length) (j := i) (by omega)
    rw [if_pos (show i < h.length by omega)] at g1 g2
    conv => lhs; lhs; unfold nzTo
    conv => rhs; lhs; unfold nzTo
    rw [g1, g2, h1, h2, show nzTo h (i + 1) = if gt h i = 0 then nzTo h i else nzTo h i + 1 from rfl]
    by_cases e : gt h i = 0
    · rw [if_pos e]
      constructor
      · rw [e]; simp
      · rw [e]; simp
    · rw [if_neg e]
      by_cases q : nzTo h i < k
      · rw [if_pos q, if_pos q, if_neg e, if_pos (by omega : nzTo h i ≤ k), if_pos (by omega : nzTo h i + 1 ≤ k)]
        exact ⟨rfl, by simp; omega⟩
      · rw [if_neg q, if_neg q, if_neg (by omega : ¬ -gt h i = 0)]
        by_cases q2 : nzTo h i ≤ k
        · rw [if_pos q2, if_neg (by omega : ¬ nzTo h i + 1 ≤ k)]
          exact ⟨by simp; omega, by omega⟩
        · rw [if_neg q2, if_neg (by omega : ¬ nzTo h i + 1 ≤ k)]
          exact ⟨by simp, by omega⟩
theorem circ_least {m : List (List Int)} (h0 : (circuitV m).2 = 0) : validM m = true ∧ ∃ S, SetP m S ∧ 1 ≤ S.length ∧ CircP m S (circuitV m).1 := by
  unfold circuitV at h0 ⊢
  split at h0
  · rename_i hv
    refine ⟨hv, ?_⟩
    rw [if_pos hv]
    split at h0
    · cases h0
    · rename_i c t e
      obtain ⟨S, hS, h1, hB, rfl⟩ := (circsAll_mem hv).1 (show c ∈ circsAll m by rw [e]; simp)
      exact ⟨S, hS, h1, circP hv hS h1 hB⟩
  · cases h0
theorem spark_is {m : List (List Int)} (h0 : (circuitV m).2 = 0) : sparkV m = (nzTo (circuitV m).1 (circuitV m).1.length, 0) := by unfold sparkV; rw [if_pos h0]
theorem fits_0 {x : List Int} {n : Nat} (hl : x.length = n) (hb : ∀ j, j < n → -1000000 ≤ gt x j ∧ gt x j ≤ 1000000) : fitsV x n 1000000 = 0 := by
  unfold fitsV
  rw [if_pos (by omega), if_pos (allB_all fun j hj => hb j (by omega))]
theorem twins_ok {m : List (List Int)} {k : Int} (h : (twinsV m k).2 = 0) : twinB m k (twinsV m k).1.1 (twinsV m k).1.2 = true ∧ ((twinsV m k).1.1.length ≤ 10 ∧ (twinsV m k).1.2.length ≤ 10) ∧ (∀ x ∈ (twinsV m k).1.1, -160 ≤ x ∧ x ≤ 160) ∧ ∀ x ∈ (twinsV m k).1.2, -160 ≤ x ∧ x ≤ 160 := by
  unfold twinsV at h ⊢
  split at h
  · rename_i hv
    rw [if_pos hv]
    split at h
    · rename_i hr
      rw [if_pos hr]
      split at h
      · rename_i hc
        rw [if_pos hc]
        split at h
        · cases h
        · rename_i hn
          rw [if_neg hn]
          obtain ⟨_, S, hS, h1, hcp⟩ := circ_least hc
          have h160 := circuit_160 hc
          have hlen := circuitV_len (m := m)
          obtain ⟨c, hcc⟩ : ∃ c, (circuitV m).1 = c := ⟨_, rfl⟩
          rw [hcc] at hn hcp h160 hlen ⊢
          dsimp only
          have hk : 1 ≤ k ∧ k ≤ 10 := by simpa [rangeB] using hr
          obtain ⟨z1, z2⟩ := tw_nz (h := c) (k := k) (by omega) c.length (Nat.le_refl _)
          have hA : ∀ j, j < c.length → gt (twA c k c.length) j = if nzTo c j < k then gt c j else 0 := fun j hj => by rw [gt_twA hj, if_pos hj]
          have hB : ∀ j, j < c.length → gt (twB c k c.length) j = if nzTo c j < k then 0 else -gt c j := fun j hj => by rw [gt_twB hj, if_pos hj]
          have bA : ∀ j, j < c.length → -160 ≤ gt (twA c k c.length) j ∧ gt (twA c k c.length) j ≤ 160 := fun j hj => by rw [hA j hj]; have := h160 j; split <;> omega
          have bB : ∀ j, j < c.length → -160 ≤ gt (twB c k c.length) j ∧ gt (twB c k c.length) j ≤ 160 := fun j hj => by rw [hB j hj]; have := h160 j; split <;> omega
          have lA := twA_len c k c.length
          have lB := twB_len c k c.length
          obtain ⟨A, hAe⟩ : ∃ A, twA c k c.length = A := ⟨_, rfl⟩
          obtain ⟨B, hBe⟩ : ∃ B, twB c k c.length = B := ⟨_, rfl⟩
          rw [hAe] at z1 hA bA lA ⊢
          rw [hBe] at z2 hB bB lB ⊢
          refine ⟨?_, ⟨by omega, by omega⟩, fun x hx => ?_, fun x hx => ?_⟩
          · have f1 : fitsV A (colsM m) 1000000 = 0 := fits_0 (by rw [lA, hcp.len]) fun j hj => by have := bA j (by rw [hcp.len]; exact hj); omega
            have f2 : fitsV B (colsM m) 1000000 = 0 := fits_0 (by rw [lB, hcp.len]) fun j hj => by have := bB j (by rw [hcp.len]; exact hj); omega
            unfold twinB
            rw [readV_ok hv f1, readV_ok hv f2, hr, lA, lB, z1, z2]
            have hd : ∀ j, j < c.length → gt A j - gt B j = gt c j := fun j hj => by rw [hA j hj, hB j hj]; split <;> omega
            have hread : readL m A = readL m B := (read_same hv A B).2 fun i hi => by
              rw [← hcp.ker i hi]
              exact sumTo_congr _ fun j hj => by show a0 m i j * (gt A j - gt B j) = _; rw [hd j (by rw [hcp.len]; exact hj)]
            have hne : ¬ A = B := fun e => by
              have h2 := hcp.first
              have h3 := hd (pos S 0) (by rw [hcp.len]; exact hS.lt (by omega))
              rw [e] at h3
              omega
            dsimp only
            rw [hread]
            have d1 : (if nzTo c c.length ≤ k then nzTo c c.length else k) ≤ k := by split <;> omega
            have d2 : (if nzTo c c.length ≤ k then 0 else nzTo c c.length - k) ≤ k := by split <;> omega
            rw [decide_eq_true d1, decide_eq_true d2, decide_eq_false hne]
            simp
          · obtain ⟨j, hj, rfl⟩ := mem_gt.1 hx
            exact bA j (by omega)
          · obtain ⟨j, hj, rfl⟩ := mem_gt.1 hx
            exact bB j (by omega)
      · rename_i hc; exact absurd h hc
    · cases h
  · cases h
theorem twins_big {m : List (List Int)} {k : Int} {a b : List Int} (h : twinB m k a b = true) : (sureV m).1 < k := by
  unfold twinB at h
  simp only [Bool.and_eq_true, decide_eq_true_eq, Bool.not_eq_true', decide_eq_false_iff_not] at h
  obtain ⟨⟨⟨⟨⟨⟨hr, ha⟩, hb⟩, ra⟩, rb⟩, hab⟩, hne⟩ := h
  have hv : validM m = true := by
    unfold readV at ra
    split at ra
    · assumption
    · cases ra
  have fa : fitsV a (colsM m) 1000000 = 0 := by
    refine Classical.byContradiction fun e => ?_
    rw [readV_err hv rfl e] at ra
    exact e ra
  have fb : fitsV b (colsM m) 1000000 = 0 := by
    refine Classical.byContradiction fun e => ?_
    rw [readV_err hv rfl e] at rb
    exact e rb
  rw [readV_ok hv fa, readV_ok hv fb] at hab
  have hab : readL m a = readL m b := hab
  have la := (fitsV_0 fa).1
  have lb := (fitsV_0 fb).1
  have hk := (read_same hv a b).1 hab
  have hex : ∃ j, j < colsM m ∧ gt a j - gt b j ≠ 0 := by
    refine Classical.byContradiction fun e => hne (ext_gt (by omega) fun j hj => ?_)
    exact Classical.byContradiction fun e2 => e ⟨j, by omega, by omega⟩
  obtain ⟨S, s1, s2, s3, _, s5⟩ := circ_in hv _ (fun j => gt a j - gt b j) (Nat.le_refl _) hk hex
  obtain ⟨S0, t, q1, q2, q3, q4, q5⟩ := circs_first hv s1 s2 s3
  have hc : circuitV m = (circH m S0, 0) := by unfold circuitV; rw [if_pos hv, q1]
  have hsz := (circP hv q2 q3 q4).size q2
  have hsp := spark_is (m := m) (by rw [hc])
  rw [hc] at hsp
  have hsu : (sureV m).1 = ((sparkV m).1 - 1).tdiv 2 := by unfold sureV; rw [hsp]; rfl
  rw [hsu, hsp]
  dsimp only
  rw [hsz, Int.tdiv_eq_ediv_of_nonneg (by omega)]
  have hsup : ((suppL m fun j => gt a j - gt b j).length : Int) ≤ 2 * k := by
    have := nz_diff a b (colsM m)
    unfold suppL
    rw [List.length_map]
    have e1 : a.length = colsM m := by omega
    have e2 : b.length = colsM m := by omega
    rw [e1] at ha
    rw [e2] at hb
    show ((List.filter (fun j => gt a j - gt b j != 0) (List.range (colsM m))).length : Int) ≤ 2 * k
    omega
  omega
theorem twins_one {m : List (List Int)} (hs : (sparkV m).2 = 0) (h10 : (sureV m).1 < 10) : (twinsV m ((sureV m).1 + 1)).2 = 0 := by
  have hc : (circuitV m).2 = 0 := by
    refine Classical.byContradiction fun e => ?_
    unfold sparkV at hs
    rw [if_neg e] at hs
    exact e hs
  obtain ⟨hv, S, hS, h1, hcp⟩ := circ_least hc
  have hsp := spark_is hc
  have hsu : (sureV m).1 = ((sparkV m).1 - 1).tdiv 2 := by unfold sureV; rw [hs]; rfl
  have hs1 : 1 ≤ (sparkV m).1 := by
    rw [hsp, hcp.size hS]
    show 1 ≤ ((S.length : Nat) : Int)
    omega
  rw [Int.tdiv_eq_ediv_of_nonneg (by omega)] at hsu
  unfold twinsV
  rw [if_pos hv, if_pos (by simp [rangeB]; omega), if_pos hc, if_neg]
  have : (sparkV m).1 = nzTo (circuitV m).1 (circuitV m).1.length := by rw [hsp]
  omega
theorem twins_err (m : List (List Int)) (k : Int) : (twinsV m k).2 = if validM m = true then (if rangeB k 1 10 = true then (if (sparkV m).2 ≠ 0 ∨ 2 * k < (sparkV m).1 then 8 else 0) else 7) else 1 := by
  unfold twinsV
  by_cases hv : validM m = true
  · rw [if_pos hv, if_pos hv]
    by_cases hr : rangeB k 1 10 = true
    · rw [if_pos hr, if_pos hr]
      by_cases hc : (circuitV m).2 = 0
      · rw [if_pos hc, spark_is hc]
        by_cases h3 : 2 * k < nzTo (circuitV m).1 (circuitV m).1.length
        · rw [if_pos h3, if_pos (.inr h3)]
        · rw [if_neg h3, if_neg]
          rintro (e | e)
          · exact e rfl
          · exact h3 e
      · have hs : sparkV m = (0, (circuitV m).2) := by unfold sparkV; rw [if_neg hc]
        rw [if_neg hc, hs, if_pos (.inl hc)]
        unfold circuitV at hc ⊢
        rw [if_pos hv] at hc ⊢
        split at hc
        · rfl
        · exact absurd rfl hc
    · rw [if_neg hr, if_neg hr]
  · rw [if_neg hv, if_neg hv]
theorem twins_bd (m : List (List Int)) (k : Int) : ((twinsV m k).1.1.length ≤ 10 ∧ (twinsV m k).1.2.length ≤ 10) ∧ ∀ x ∈ (twinsV m k).1.1 ++ (twinsV m k).1.2, -160 ≤ x ∧ x ≤ 160 := by
  by_cases h : (twinsV m k).2 = 0
  · obtain ⟨_, h1, h2, h3⟩ := twins_ok h
    refine ⟨h1, fun x hx => ?_⟩
    rcases List.mem_append.1 hx with e | e
    · exact h2 x e
    · exact h3 x e
  · have e : (twinsV m k).1 = ([], []) := by
      unfold twinsV at h ⊢
      split
      · rename_i hv
        rw [if_pos hv] at h
        split
        · rename_i hr
          rw [if_pos hr] at h
          split
          · rename_i hc
            rw [if_pos hc] at h
            split
            · rfl
            · rename_i hn
              rw [if_neg hn] at h
              exact absurd rfl h
          · rfl
        · rfl
      · rfl
    rw [e]
    exact ⟨⟨Nat.zero_le _, Nat.zero_le _⟩, fun x hx => by cases hx⟩
theorem sure_in (m : List (List Int)) : 0 ≤ (sureV m).1 ∧ (sureV m).1 ≤ 10 := by
  have h := spark_in m
  unfold sureV
  split
  · rename_i h8
    have := (validM_of (spark_none h8)).2.2.2.1
    dsimp only
    omega
  · split
    · dsimp only
      have h1 : (((sparkV m).1 - 1).tdiv 2).natAbs = ((sparkV m).1 - 1).natAbs / 2 := Int.natAbs_tdiv _ _
      by_cases e : (sparkV m).1 = 0
      · rw [e]; decide
      · rw [Int.tdiv_eq_ediv_of_nonneg (by omega)]; omega
    · exact ⟨Int.le_refl 0, by show (0 : Int) ≤ 10; omega⟩
end Go.Proofs.Ytfnomiingelfaaa
/- Twin of the answers of layer 4: a contract. -/
namespace Go.Proofs.Ytfnomiingelfaaa
open Go.RowKit

set_option maxRecDepth 100000 in
set_option maxHeartbeats 1600000 in
theorem rtwin_any (a : Option Addr) (m : List (List Int)) (cap : Nat) (k : Int) (w : World) (hm : MOk m) (hs : Ms w a m) :
    Calls Try.prog 14 #[.slice a m.length cap, .int .i64 k] w fun e w' => e = .returned (.int .i64 (twinsV m k).2) ∧ Below w.heap.size w w' := by
  have HVA : Hid (Calls Try.prog 34 #[.slice a m.length cap] w fun e w' => e = .returned (.bool (validM m)) ∧ w = w') := rvalid_any a m cap w hm hs
  have HSP : Hid (Calls Try.prog 16 #[.slice a m.length cap] w fun e w' => e = .returned (.tuple #[.int .i64 (sparkV m).1, .int .i64 (sparkV m).2]) ∧ Below w.heap.size w w') := rspark_any a m cap w hm hs
  have HTE := Lib.hid (twins_err m k)
  have hs01 := spark_in m
  clear hm hs
  obtain ⟨⟨s, e0⟩, hse⟩ : ∃ r, sparkV m = r := ⟨_, rfl⟩
  obtain ⟨v, hv⟩ : ∃ v, validM m = v := ⟨_, rfl⟩
  obtain ⟨q, hq⟩ : ∃ q, rangeB k 1 10 = q := ⟨_, rfl⟩
  rw [hse] at HSP hs01 HTE
  rw [hv] at HVA HTE
  rw [hq] at HTE
  dsimp only at HSP hs01 HTE
  have HQ := Lib.hid hq
  clear hse hv
  cases v
  case false =>
    have HE : Hid ((twinsV m k).2 = 1) := HTE.out
    rw [HE.out]
    clear HTE hq
    go_enter Try.func14, Try.ntmps14
    go_wp2_with (go_at_call 34; refine HVA.out.mono ?_; rintro e w1 ⟨rfl, rfl⟩)
    go_ret
    exact ⟨rfl, Below.refl _ _⟩
  case true =>
  rw [if_pos rfl] at HTE
  cases q
  case false =>
    have HE : Hid ((twinsV m k).2 = 7) := HTE.out
    rw [HE.out]
    clear HTE hq
    go_enter Try.func14, Try.ntmps14
    go_wp2_with (first
      | (go_at_call 34; refine HVA.out.mono ?_; rintro e w1 ⟨rfl, rfl⟩)
      | (go_at_call 29; refine (rwithin4_any _ _ _ _).mono ?_; rintro e wn ⟨rfl, rfl⟩; rw [HQ.out]))
    go_ret
    exact ⟨rfl, Below.refl _ _⟩
  case true =>
  rw [if_pos rfl] at HTE
  have hk : 1 ≤ k ∧ k ≤ 10 := by simpa [rangeB] using hq
  have w2k : IntKind.i64.wrap (2 * k) = 2 * k := IntWalk.i64_in _ (by omega)
  clear hq
  by_cases he : e0 = 0
  case neg =>
    have HE : Hid ((twinsV m k).2 = 8) := by show _ = _; rw [HTE.out, if_pos (.inl he)]
    rw [HE.out]
    have y2 : (e0 != 0) = true := by simpa using he
    clear HTE he
    go_enter Try.func14, Try.ntmps14
    go_wp2_with (first
      | (go_at_call 34; refine HVA.out.mono ?_; rintro e w1 ⟨rfl, rfl⟩)
      | (go_at_call 29; refine (rwithin4_any _ _ _ _).mono ?_; rintro e wn ⟨rfl, rfl⟩; rw [HQ.out])
      | (go_at_call 16; refine HSP.out.mono ?_; rintro e w2 ⟨rfl, hb⟩; have HB := Lib.hid hb; clear hb))
    go_ret
    exact ⟨rfl, HB.out⟩
  subst he
  by_cases h3 : 2 * k < s
  · have HE : Hid ((twinsV m k).2 = 8) := by show _ = _; rw [HTE.out, if_pos (.inr h3)]
    rw [HE.out]
    clear HTE
    go_enter Try.func14, Try.ntmps14
    go_wp2_with (first
      | (go_at_call 34; refine HVA.out.mono ?_; rintro e w1 ⟨rfl, rfl⟩)
      | (go_at_call 29; refine (rwithin4_any _ _ _ _).mono ?_; rintro e wn ⟨rfl, rfl⟩; rw [HQ.out])
      | (go_at_call 16; refine HSP.out.mono ?_; rintro e w2 ⟨rfl, hb⟩; have HB := Lib.hid hb; clear hb))
    go_ret
    exact ⟨rfl, HB.out⟩
  · have HE : Hid ((twinsV m k).2 = 0) := by
      show _ = _
      rw [HTE.out, if_neg]
      rintro (e | e)
      · exact e rfl
      · exact h3 e
    rw [HE.out]
    clear HTE
    go_enter Try.func14, Try.ntmps14
    go_wp2_with (first
      | (go_at_call 34; refine HVA.out.mono ?_; rintro e w1 ⟨rfl, rfl⟩)
      | (go_at_call 29; refine (rwithin4_any _ _ _ _).mono ?_; rintro e wn ⟨rfl, rfl⟩; rw [HQ.out])
      | (go_at_call 16; refine HSP.out.mono ?_; rintro e w2 ⟨rfl, hb⟩; have HB := Lib.hid hb; clear hb))
    go_ret
    exact ⟨rfl, HB.out⟩
end Go.Proofs.Ytfnomiingelfaaa
/- SameRatios of equal lists, long of two lists: contracts. -/
namespace Go.Proofs.Ytfnomiingelfaaa
open Go.RowKit

set_option maxRecDepth 1000000 in
set_option maxHeartbeats 1600000 in
theorem sameRat_any (a : Option Addr) (ps : List (Int × Int)) (ca : Nat) (b : Option Addr) (cb : Nat) (w : World) (hl : ps.length ≤ 1000) (ha : Rl w a ps) (hb : Rl w b ps) :
    Calls Try.prog 39 #[.slice a ps.length ca, .slice b ps.length cb] w fun e w' => e = .returned (.bool true) ∧ ∃ n, w' = w.drewN n := by
  have HA := Lib.hid ha; clear ha
  have HB := Lib.hid hb; clear hb
  obtain ⟨n, hn⟩ : ∃ n, ps.length = n := ⟨_, rfl⟩
  have HN := Lib.hid hn
  rw [hn] at hl ⊢
  clear hn
  go_enter Try.func39, Try.ntmps39
  go_wp2
  go_loopw [13] (fun i wr => ∃ k nd : Nat, k ≤ n ∧ i = .int .i64 k ∧ wr = w.drewN nd) (fun i _ => n - (intOf i).toNat)
  case atStart => exact ⟨0, 0, Nat.zero_le _, rfl, rfl⟩
  case round =>
    obtain ⟨k, nd, hk, rfl, rfl⟩ := hrel
    by_cases hlt : k < n
    · obtain ⟨p, hp⟩ : ∃ p, ps[k]? = some p := ⟨ps[k]'(by rw [HN.out]; exact hlt), by simp [HN.out, hlt]⟩
      obtain ⟨b1, rfl, a1, a2⟩ := HA.out k p hp
      obtain ⟨b2, rfl, c1, c2⟩ := HB.out k p hp
      obtain ⟨p1, p2⟩ := p
      dsimp only at a1 a2 c1 c2
      have hk0 : (k : Int) < (n : Int) := by omega
      clear hp
      go_wp2
      go_quiet (fail)
      all_goals
        go_wp2
        go_roundw
        case rel => exact ⟨k + 1, _, by omega, by go_num, by first | rfl | exact World.drewN_drewN _ _ _⟩
        case measure => simp [intOf]; omega
    · obtain rfl : k = n := by omega
      go_wp2
      go_ret
      exact ⟨rfl, _, rfl⟩
end Go.Proofs.Ytfnomiingelfaaa
/- SameFit of equal fits; Sure: contracts. -/
namespace Go.Proofs.Ytfnomiingelfaaa
open Go.RowKit Go.Shelf

set_option maxRecDepth 100000 in
set_option maxHeartbeats 800000 in
theorem sameFit_any (qa : Option Addr) (px : List Int) (qc : Nat) (va : Option Addr) (vs : List (Int × Int)) (vc : Nat) (qa2 : Option Addr) (qc2 : Nat) (va2 : Option Addr) (vc2 : Nat) (w : World) (hl : px.length ≤ 1000) (hl2 : vs.length ≤ 1000) (s1 : Sl w qa px) (s2 : Sl w qa2 px) (r1 : Rl w va vs) (r2 : Rl w va2 vs) :
    Calls Try.prog 19 #[.agg #[.slice qa px.length qc, .slice va vs.length vc], .agg #[.slice qa2 px.length qc2, .slice va2 vs.length vc2]] w fun e w' => e = .returned (.bool true) ∧ Below w.heap.size w w' := by
  obtain ⟨V1, hV1⟩ : ∃ V1, w.alloc (.cells #[.slice qa px.length qc, .slice va vs.length vc] 41) = V1 := ⟨_, rfl⟩
  obtain ⟨V, hV⟩ : ∃ V, V1.alloc (.cells #[.slice qa2 px.length qc2, .slice va2 vs.length vc2] 41) = V := ⟨_, rfl⟩
  have hb1 : Below w.heap.size w V1 := by rw [← hV1]; exact (Below.refl _ _).alloc (Nat.le_refl _) _
  have hb2 : Below V1.heap.size V1 V := by rw [← hV]; exact (Below.refl _ _).alloc (Nat.le_refl _) _
  have hbv : Below w.heap.size w V := hb1.trans (hb2.mono hb1.size)
  have HBV := Lib.hid hbv
  have HQ : Hid (∀ n, (V.drewN n).cell? ⟨w.heap.size, 0, none⟩ = some (.slice qa px.length qc) ∧ (V.drewN n).cell? ⟨w.heap.size, 1, none⟩ = some (.slice va vs.length vc)) := fun n => by
    obtain ⟨q0, q1, _, _⟩ := box2 hV1 (V.drewN n) (below_drewN hb2 n)
    exact ⟨q0, q1⟩
  have HF : Hid (∀ n, (V.drewN n).cell? ⟨V1.heap.size, 0, none⟩ = some (.slice qa2 px.length qc2) ∧ (V.drewN n).cell? ⟨V1.heap.size, 1, none⟩ = some (.slice va2 vs.length vc2)) := fun n => by
    obtain ⟨q0, q1, _, _⟩ := box2 hV (V.drewN n) (below_drewN (Below.refl _ _) n)
    exact ⟨q0, q1⟩
  obtain ⟨f0, f1, _, _⟩ := box2 hV V (Below.refl _ _)
  obtain ⟨g0, g1, _, _⟩ := box2 hV1 V hb2
  have HSI : Hid (Calls Try.prog 25 #[.slice qa px.length qc, .slice qa2 px.length qc2] V fun e w' => e = .returned (.bool true) ∧ ∃ n, w' = V.drewN n) := by
    refine (sameInts_any qa px qc qa2 px qc2 V (by omega) (by omega) (s1.below hbv) (s2.below hbv)).mono ?_
    rintro e w' ⟨rfl, h⟩
    exact ⟨by simp, h⟩
  have HSR : Hid (∀ n, Calls Try.prog 39 #[.slice va vs.length vc, .slice va2 vs.length vc2] (V.drewN n) fun e w' => e = .returned (.bool true) ∧ ∃ k, w' = (V.drewN n).drewN k) := fun n => sameRat_any va vs vc va2 vc2 (V.drewN n) hl2 ((r1.below hbv).below (below_drewN (Below.refl _ _) n)) ((r2.below hbv).below (below_drewN (Below.refl _ _) n))
  obtain ⟨pl, hpl⟩ : ∃ pl, px.length = pl := ⟨_, rfl⟩
  obtain ⟨vl, hvl⟩ : ∃ vl, vs.length = vl := ⟨_, rfl⟩
  rw [hpl] at HQ HF f0 g0 HSI ⊢
  rw [hvl] at HQ HF f1 g1 HSR hV1 hV ⊢
  rw [hpl] at hV1 hV
  clear s1 s2 r1 r2 hb1 hb2 hbv hpl hvl
  go_enter Try.func19, Try.ntmps19
  go_wp2_with (first
    | (go_at_call 25; refine HSI.out.mono ?_; rintro e w1 ⟨rfl, n1, rfl⟩; obtain ⟨f0, f1⟩ := HF.out n1; obtain ⟨g0, g1⟩ := HQ.out n1)
    | (go_at_call 39; refine (HSR.out _).mono ?_; rintro e w2 ⟨rfl, n2, rfl⟩))
  go_ret
  exact ⟨rfl, below_drewN HBV.out _⟩
theorem sure_two (a : Option Addr) (w : World) (hs : Ms w a twoM) : Calls Try.prog 15 #[.slice a twoM.length 2] w fun e w' => e = .returned (.tuple #[.int .i64 1, .int .i64 0]) ∧ Below w.heap.size w w' := by
  have HSP : Hid (Calls Try.prog 35 #[.slice a twoM.length 2] w fun e w' => e = .returned (.tuple #[.int .i64 3, .int .i64 0]) ∧ Below w.heap.size w w') := by
    have := spark_any a twoM 2 w (mok_of two_valid) hs
    rw [two_spark] at this
    exact this
  clear hs
  go_enter Try.func15, Try.ntmps15
  go_wp2_with (go_at_call 35; refine HSP.out.mono ?_; rintro e w2 ⟨rfl, hb⟩; have HB := Lib.hid hb; clear hb)
  go_ret2
  exact ⟨rfl, HB.out⟩
end Go.Proofs.Ytfnomiingelfaaa
/- The sanity check of layer 4: the document's example; long of one list. Written by mk_spawake.py. -/
namespace Go.Proofs.Ytfnomiingelfaaa
open Go.RowKit Go.Shelf

theorem two_sparsest : sparsestV twoM [1, 1] = ([([1], [(1, 1)])], 0) := by decide +kernel
theorem two4_any (w : World) : Calls Try.prog 18 #[] w fun e w' => ∃ a, e = .returned (.slice a twoM.length 2) ∧ Ms w' a twoM ∧ Below w.heap.size w w' := by
  go_enter Try.func18, Try.ntmps18
  go_wp2
  go_ret
  have e1 : (w.alloc (.cells #[.int .i64 1, .int .i64 1, .int .i64 0] 3)).heap.size = w.heap.size + 1 := World.size_alloc _ _
  have e2 : ((w.alloc (.cells #[.int .i64 1, .int .i64 1, .int .i64 0] 3)).alloc (.cells #[.int .i64 0, .int .i64 1, .int .i64 1] 3)).heap.size = w.heap.size + 2 := by rw [World.size_alloc, e1]
  have s1 : Sl (w.alloc (.cells #[.int .i64 1, .int .i64 1, .int .i64 0] 3)) (some ⟨w.heap.size, 0, none⟩) [1, 1, 0] := sl_new w [1, 1, 0] _
  have s2 : Sl ((w.alloc (.cells #[.int .i64 1, .int .i64 1, .int .i64 0] 3)).alloc (.cells #[.int .i64 0, .int .i64 1, .int .i64 1] 3)) (some ⟨w.heap.size + 1, 0, none⟩) [0, 1, 1] := by
    rw [← e1]; exact sl_new _ [0, 1, 1] _
  refine ⟨_, rfl, ?_, (((Below.refl _ _).alloc (Nat.le_refl _) _).alloc (by omega) _).alloc (by omega) _⟩
  intro i hi
  have hc : ∀ k v, (#[Value.slice (some ⟨w.heap.size, 0, none⟩) 3 3, Value.slice (some ⟨w.heap.size + 1, 0, none⟩) 3 3] : Array Value)[k]? = some v → (((w.alloc (.cells #[.int .i64 1, .int .i64 1, .int .i64 0] 3)).alloc (.cells #[.int .i64 0, .int .i64 1, .int .i64 1] 3)).alloc (.cells #[.slice (some ⟨w.heap.size, 0, none⟩) 3 3, .slice (some ⟨w.heap.size + 1, 0, none⟩) 3 3] 24)).cell? ⟨w.heap.size + 1 + 1, k, none⟩ = some v := by
    intro k v h
    rw [← show _ = w.heap.size + 1 + 1 from e2]
    exact alloc_cell _ _ _ _ _ h
  match i, hi with
  | 0, _ => exact ⟨_, 0, _, 3, rfl, hc 0 _ rfl, (s1.below ((Below.refl _ _).alloc (Nat.le_refl _) _)).below ((Below.refl _ _).alloc (Nat.le_refl _) _)⟩
  | 1, _ => exact ⟨_, 0, _, 3, rfl, hc 1 _ rfl, s2.below ((Below.refl _ _).alloc (Nat.le_refl _) _)⟩
theorem rl_new1 (w : World) (a b : Int) (t : TypeId) : Rl (w.alloc (.cells #[.int .i64 a, .int .i64 b] t)) (some ⟨w.heap.size, 0, none⟩) [(a, b)] := by
  intro j p hj
  match j, hj with
  | 0, hj =>
    obtain rfl : (a, b) = p := by simpa using hj
    exact ⟨_, rfl, alloc_cell _ _ _ _ _ rfl, alloc_cell _ _ _ _ _ rfl⟩
  | j + 1, hj => simp at hj
set_option maxRecDepth 100000 in
set_option maxHeartbeats 1600000 in
theorem awake4_any (w : World) : Calls Try.prog 7 #[] w fun e w' => e = .returned (.bool true) ∧ Below w.heap.size w w' := by
  have mk2 : MOk twoM := mok_of two_valid
  have HTO : Hid (∀ (w1 : World) (a : Option Addr), Ms w1 a twoM → Calls Try.prog 17 #[.slice a twoM.length 2, .slice (some ⟨w1.heap.size, 0, none⟩) 2 2] (w1.alloc (.cells #[.int .i64 1, .int .i64 1] 3)) fun e w' => Below w1.heap.size w1 w' ∧ ∃ qa qc va vc, e = .returned (.tuple #[.agg #[.slice qa 1 qc, .slice va 1 vc], .int .i64 0]) ∧ Sl w' qa [1] ∧ Rl w' va [(1, 1)]) := fun w1 a h => by
    have hs : Sl (w1.alloc (.cells #[.int .i64 1, .int .i64 1] 3)) (some ⟨w1.heap.size, 0, none⟩) [1, 1] := sl_new w1 [1, 1] _
    have hb : Below w1.heap.size w1 (w1.alloc (.cells #[.int .i64 1, .int .i64 1] 3)) := (Below.refl _ _).alloc (Nat.le_refl _) _
    have hr : RowE (sparsestV twoM [1, 1]) := by rw [two_sparsest]; exact .inl ⟨rfl, by simp⟩
    have k := sstop_any (sparsestV twoM [1, 1]) hr a twoM.length 2 (some ⟨w1.heap.size, 0, none⟩) 2 2 (w1.alloc (.cells #[.int .i64 1, .int .i64 1] 3)) (fun W hW => sparsest_any a twoM 2 _ [1, 1] 2 W mk2 (by decide) ((h.below hb).below hW) (hs.below hW))
    rw [two_sparsest] at k
    refine k.mono ?_
    rintro e w' ⟨h1, qa, qc, va, vc, he, h2, h3⟩
    exact ⟨hb.trans (h1.mono hb.size), qa, qc, va, vc, he, h2, h3⟩
  have HSU : Hid (∀ (w1 : World) (a : Option Addr), Ms w1 a twoM → Calls Try.prog 15 #[.slice a twoM.length 2] w1 fun e w' => e = .returned (.tuple #[.int .i64 1, .int .i64 0]) ∧ Below w1.heap.size w1 w') := fun w1 a h => sure_two a w1 h
  have HSF : Hid (∀ (w5 : World) (qa : Option Addr) (qc : Nat) (va : Option Addr) (vc : Nat), Sl w5 qa [1] → Rl w5 va [(1, 1)] → Calls Try.prog 19 #[.agg #[.slice qa 1 qc, .slice va 1 vc], .agg #[.slice (some ⟨w5.heap.size, 0, none⟩) 1 1, .slice (some ⟨w5.heap.size + 1, 0, none⟩) 1 1]] ((w5.alloc (.cells #[.int .i64 1] 3)).alloc (.cells #[.int .i64 1, .int .i64 1] 47)) fun e w' => e = .returned (.bool true) ∧ Below w5.heap.size w5 w') := fun w5 qa qc va vc hq hv => by
    have e1 : (w5.alloc (.cells #[.int .i64 1] 3)).heap.size = w5.heap.size + 1 := World.size_alloc _ _
    have s1 : Sl (w5.alloc (.cells #[.int .i64 1] 3)) (some ⟨w5.heap.size, 0, none⟩) [1] := sl_new w5 [1] _
    have b1 : Below w5.heap.size w5 (w5.alloc (.cells #[.int .i64 1] 3)) := (Below.refl _ _).alloc (Nat.le_refl _) _
    have b2 : Below (w5.alloc (.cells #[.int .i64 1] 3)).heap.size (w5.alloc (.cells #[.int .i64 1] 3)) ((w5.alloc (.cells #[.int .i64 1] 3)).alloc (.cells #[.int .i64 1, .int .i64 1] 47)) := (Below.refl _ _).alloc (Nat.le_refl _) _
    have r1 : Rl ((w5.alloc (.cells #[.int .i64 1] 3)).alloc (.cells #[.int .i64 1, .int .i64 1] 47)) (some ⟨w5.heap.size + 1, 0, none⟩) [(1, 1)] := by rw [← e1]; exact rl_new1 _ 1 1 _
    have b3 := b1.trans (b2.mono b1.size)
    have k := sameFit_any qa [1] qc va [(1, 1)] vc (some ⟨w5.heap.size, 0, none⟩) 1 (some ⟨w5.heap.size + 1, 0, none⟩) 1 _ (by decide) (by decide) (hq.below b3) (s1.below b2) (hv.below b3) r1
    exact k.mono fun e w' ⟨k1, k2⟩ => ⟨k1, b3.trans (k2.mono b3.size)⟩
  clear mk2
  go_enter Try.func7, Try.ntmps7
  go_wp2_with (first
    | (go_at_call 17; refine (HTO.out _ _ HM.out).mono ?_; rintro e w3 ⟨hb3, qa, qc, va, vc, rfl, hq, hv⟩
       obtain ⟨wb, hwb⟩ : ∃ wb, w3.alloc (.cells #[.slice qa 1 qc, .slice va 1 vc] 41) = wb := ⟨_, rfl⟩
       have HBX := Lib.hid (box2 hwb)
       have HSB : Hid (w3.heap.size < wb.heap.size) := by show _ < _; rw [← hwb, World.size_alloc]; omega
       have hbb : Below w3.heap.size w3 wb := by rw [← hwb]; exact (Below.refl _ _).alloc (Nat.le_refl _) _
       have HWB : Hid (Below w.heap.size w wb) := (HB.out.trans (hb3.mono HB.out.size)).trans (hbb.mono (Nat.le_trans HB.out.size hb3.size))
       have HQ : Hid (Sl wb qa [1]) := hq.below hbb; have HV : Hid (Rl wb va [(1, 1)]) := hv.below hbb; clear hb3 hq hv hbb)
    | (go_at_call 18; refine (two4_any _).mono ?_; rintro e w4 ⟨a4, rfl, hm4, hb4⟩; have HM4 := Lib.hid hm4; have HB4 : Hid (Below wb.heap.size wb w4) := hb4; clear hm4 hb4)
    | (go_at_call 18; refine (two4_any _).mono ?_; rintro e w1 ⟨a1, rfl, hm1, hb1⟩; have HM := Lib.hid hm1; have HB := Lib.hid hb1; clear hm1 hb1)
    | (go_at_call 15; refine (HSU.out _ _ HM4.out).mono ?_; rintro e w5 ⟨rfl, hb5⟩; have HB5 : Hid (Below wb.heap.size wb w5) := HB4.out.trans (hb5.mono HB4.out.size); obtain ⟨x0, x1, _, _⟩ := HBX.out w5 HB5.out; clear hb5)
    | (go_at_call 19; refine (HSF.out w5 qa qc va vc (HQ.out.below HB5.out) (HV.out.below HB5.out)).mono ?_; rintro e w6 ⟨rfl, hb6⟩; have HB6 := Lib.hid hb6; clear hb6))
  go_ret
  exact ⟨rfl, HWB.out.trans ((HB5.out.trans (HB6.out.mono HB5.out.size)).mono HWB.out.size)⟩
end Go.Proofs.Ytfnomiingelfaaa
/- long of two lists. -/
namespace Go.Proofs.Ytfnomiingelfaaa
open Go.RowKit Go.Shelf
set_option maxRecDepth 100000 in
theorem long42_any (b o : Nat) (a0 : Option Addr) (n0 c0 : Nat) (a1 : Option Addr) (n1 c1 cap : Nat) (w : World) (_h0 : n0 ≤ 9223372036854775807) (_h1 : n1 ≤ 9223372036854775807) (hc0 : w.cell? ⟨b, o, none⟩ = some (.slice a0 n0 c0)) (hc1 : w.cell? ⟨b, o + 1, none⟩ = some (.slice a1 n1 c1)) :
    Calls Try.prog 6 #[.slice (some ⟨b, o, none⟩) 2 cap] w fun e w' => ∃ q, e = .returned (.bool q) ∧ (q = false → n0 ≤ 100 ∧ n1 ≤ 100) ∧ w = w' := by
  go_enter Try.func6, Try.ntmps6
  go_wp2
  go_loopw [7] (fun i wr => ∃ k : Nat, k ≤ 2 ∧ i = .int .i64 k ∧ wr = w ∧ (1 ≤ k → n0 ≤ 100) ∧ (2 ≤ k → n1 ≤ 100)) (fun i _ => 2 - (intOf i).toNat)
  case atStart => exact ⟨0, by omega, rfl, rfl, fun h => by omega, fun h => by omega⟩
  case round =>
    obtain ⟨k, hk, rfl, rfl, q0, q1⟩ := hrel
    by_cases hlt : k < 2
    · have hcell : ∃ ak nk ck, wr.cell? ⟨b, o + k, none⟩ = some (.slice ak nk ck) ∧ (nk ≤ 100 → (1 ≤ k + 1 → n0 ≤ 100) ∧ (2 ≤ k + 1 → n1 ≤ 100)) := by
        match k, hlt with
        | 0, _ => exact ⟨a0, n0, c0, hc0, fun h => ⟨fun _ => h, fun h2 => by omega⟩⟩
        | 1, _ => exact ⟨a1, n1, c1, hc1, fun h => ⟨fun _ => q0 (by omega), fun _ => h⟩⟩
      obtain ⟨ak, nk, ck, hck, hok⟩ := hcell
      have HOK := Lib.hid hok
      clear hok hc0 hc1
      by_cases h : nk > 100
      · have hk2 : (k : Int) < 2 := by omega
        go_wp2
        go_ret
        exact ⟨true, rfl, (fun h => absurd h (by decide)), rfl⟩
      · have hk2 : (k : Int) < 2 := by omega
        go_wp2
        go_roundw
        case rel => exact ⟨k + 1, by omega, by go_num, by first | trivial | rfl, (HOK.out (by omega)).1, (HOK.out (by omega)).2⟩
        case measure => simp [intOf]; omega
    · obtain rfl : k = 2 := by omega
      go_wp2
      go_ret
      exact ⟨_, rfl, fun _ => ⟨q0 (by omega), q1 (by omega)⟩, rfl⟩
theorem bel_trn {w V V' : World} (hb : Below w.heap.size w V) (h : Below V.heap.size V V') : Below w.heap.size w V' := hb.trans (h.mono hb.size)
end Go.Proofs.Ytfnomiingelfaaa
/- append of any list of ints to a slice of the call's own. -/
namespace Go.Proofs.Ytfnomiingelfaaa
open Go.RowKit


theorem run_append_owned_empty {w : World} (base : Nat) (t ty e : TypeId) (i : TypeInfo) (size : Nat) (ht : Try.prog.underlying t = some (.slice e)) (hi : Try.prog.info? e = some i)
    (v : Value) (n : Nat) (xs : List Value) (hown : w.ownsRow base e size v n xs) (q : Option Addr) (c : Nat) :
    (Builtin.append_ #[t, t] ty #[v, .slice q 0 c]).run Try.prog w = .ok v w := by
  cases q with
  | none =>
    rcases hown.2 with ⟨rfl, rfl⟩ | ⟨g, cap, cur, rfl, _, _, hnc, _⟩
    · simp [Builtin.append_, run_underlying ht, sizeOf, typeInfo, hi, Builtin.lenOf, Builtin.firstCells]
    · simp [Builtin.append_, run_underlying ht, sizeOf, typeInfo, hi, Builtin.lenOf, Builtin.firstCells, hnc, storeCells]
  | some b =>
    rcases hown.2 with ⟨rfl, rfl⟩ | ⟨g, cap, cur, rfl, _, _, hnc, _⟩
    · simp [Builtin.append_, run_underlying ht, sizeOf, typeInfo, hi, Builtin.lenOf, Builtin.firstCells, loadCells, loadCellsFrom]
    · simp [Builtin.append_, run_underlying ht, sizeOf, typeInfo, hi, Builtin.lenOf, Builtin.firstCells, hnc, storeCells, loadCells, loadCellsFrom]
theorem wpList_catA {ops : Array Oper} {rest : List Oper} {o : Oper} {a : Act} {Q : Exit → Act → World → Prop} (hgd : o.guard = none) (s x : Operand)
    (ho : o.op = .call { callee := .builtin .append, args := #[s, x], argTypes := #[24, 24] }) (base : Nat) (v : Value) (zs : List Int) (pa : Option Addr) (ys : List Int) (c : Nat) (V : World)
    (hs : a.eval s = v) (hx : a.eval x = .slice pa ys.length c) (hown : OwnI V base v zs) (hsl : Sl V pa ys) (hl : zs.length + ys.length ≤ 100000) (hbase : base ≤ V.heap.size)
    (h : ∀ v' w', OwnI w' base v' (zs ++ ys) → Below base V w' → wpList Try.prog ops Q rest (a.put o.dst v') w') : wpList Try.prog ops Q (o :: rest) a V := by
  cases ys with
  | nil =>
    obtain ⟨i0, hi, hz0, hz1, hz2⟩ := info_parts Try.infoInt
    refine wpList_plain hgd fun K hK => ?_
    have hrun := run_append_owned_empty base 24 o.type 3 i0 1 Try.underlying24 hi v zs.length (zs.map (Value.int .i64)) hown pa c
    unfold Oper.wp
    simp [execOp, ho, resolve, invoke, builtin, hs, hx, hrun, Result.andThen]
    exact hK _ _ (h v V (by rw [List.append_nil]; exact hown) (Below.refl _ _))
  | cons y ys =>
    obtain ⟨b, off, rfl, _⟩ := hsl 0 (by simp)
    exact wpList_catS hgd s x ho base v zs b off (y :: ys) c V hs hx hown hsl (by simpa using hl) hbase h
end Go.Proofs.Ytfnomiingelfaaa
/- Light of the statements, whatever it says; Circuits of the answers, whole. -/
namespace Go.Proofs.Ytfnomiingelfaaa
open Go.RowKit

set_option maxRecDepth 100000 in
set_option maxHeartbeats 800000 in
theorem light_any (a : Option Addr) (m : List (List Int)) (cap : Nat) (w : World) (hl : m.length ≤ 9223372036854775807) (hs : Ms w a m) :
    Calls Try.prog 5 #[.slice a m.length cap] w fun e w' => (∃ b, e = .returned (.bool b)) ∧ w = w' := by
  have HS := Lib.hid hs; clear hs
  go_enter Try.func5, Try.ntmps5
  go_wp2
  go_loopw [3, 8] (fun v i wr => ∃ k : Nat, k ≤ m.length ∧ i = .int .i64 k ∧ (∃ n, v = .int .i64 n) ∧ wr = w) (fun _ i _ => m.length - (intOf i).toNat)
  case atStart => exact ⟨0, Nat.zero_le _, rfl, ⟨_, rfl⟩, rfl⟩
  case round =>
    obtain ⟨k, hk, rfl, ⟨n, rfl⟩, rfl⟩ := hrel
    by_cases hlt : k < m.length
    · obtain ⟨b, o, ai, r, ci, rfl, hc, _, hr⟩ := HS.out.at hlt
      clear hr
      obtain ⟨rl, hrl⟩ : ∃ rl, r.length = rl := ⟨_, rfl⟩
      rw [hrl] at hc
      clear hrl
      by_cases h7 : (7 : Int) < rl
      · by_cases h10 : (rl : Int) ≤ 10
        · go_wp2
          go_ret
          exact ⟨⟨_, rfl⟩, rfl⟩
        · go_wp2
          go_roundw
          case rel => exact ⟨k + 1, by omega, by go_num, ⟨_, rfl⟩, by first | trivial | rfl⟩
          case measure => simp [intOf]; omega
      · go_wp2
        go_roundw
        case rel => exact ⟨k + 1, by omega, by go_num, ⟨_, rfl⟩, by first | trivial | rfl⟩
        case measure => simp [intOf]; omega
    · obtain rfl : k = m.length := by omega
      go_wp2
      go_ret
      exact ⟨⟨_, rfl⟩, rfl⟩
end Go.Proofs.Ytfnomiingelfaaa
/- SparseTwins: the walk. Written by mk_sptwalk.py. -/
namespace Go.Proofs.Ytfnomiingelfaaa.sparseTwins
open Go.RowKit Go.Shelf
set_option maxRecDepth 1000000 in
set_option maxHeartbeats 8000000 in
theorem walk (b0 : Option Addr) (m0 : List (List Int)) (c0 : Nat) (m1 : Int) (b2 : Option Addr) (xs2 : List Int) (c2 : Nat) (b3 : Option Addr) (xs3 : List Int) (c3 : Nat) (w : World) (h0 : Ms w b0 m0) (r0 : MOk m0) (_r1 : I64 m1) (h2 : Sl w b2 xs2) (l2 : xs2.length ≤ 9223372036854775807) (_r2 : ∀ x ∈ xs2, I64 x) (h3 : Sl w b3 xs3) (l3 : xs3.length ≤ 9223372036854775807) (_r3 : ∀ x ∈ xs3, I64 x) :
    Calls Try.prog 4 #[.slice b0 m0.length c0, .int .i64 m1, .slice b2 xs2.length c2, .slice b3 xs3.length c3] w fun e w' => e = .returned (.bool true) ∧ Below w.heap.size w w' := by
  have HLI : Hid (Calls Try.prog 5 #[.slice b0 m0.length c0] w fun e w' => (∃ b, e = .returned (.bool b)) ∧ w = w') := light_any b0 m0 c0 w r0.1 h0
  obtain ⟨wl, hwl⟩ : ∃ wl, w.alloc (.cells #[.slice b2 xs2.length c2, .slice b3 xs3.length c3] 24) = wl := ⟨_, rfl⟩
  have hbl : Below w.heap.size w wl := by rw [← hwl]; exact (Below.refl _ _).alloc (Nat.le_refl _) _
  have HLN : Hid (Calls Try.prog 6 #[.slice (some ⟨w.heap.size, 0, none⟩) 2 2] wl fun e w' => w' = wl ∧ (e = .returned (.bool true) ∨ e = .returned (.bool false) ∧ Hid (xs2.length ≤ 100 ∧ xs3.length ≤ 100))) := by
    refine (long42_any w.heap.size 0 b2 xs2.length c2 b3 xs3.length c3 2 wl l2 l3 (by rw [← hwl]; exact alloc_cell w _ _ _ _ rfl) (by rw [← hwl]; exact alloc_cell w _ _ _ _ rfl)).mono ?_
    rintro e w' ⟨q, k1, k2, k3⟩
    refine ⟨k3.symm, ?_⟩
    cases q
    · exact .inr ⟨k1, k2 rfl⟩
    · exact .inl k1
  have HB1 := Lib.hid hbl
  have HX1 : Hid (Sl wl b2 xs2) := h2.below hbl
  have HY1 : Hid (Sl wl b3 xs3) := h3.below hbl
  have HIS : Hid (∀ (xs ys : List Int) b cb c cc V, xs.length ≤ 1000 → ys.length ≤ 1000 → Below w.heap.size w V → Sl V b xs → Sl V c ys → Calls Try.prog 11 #[.slice b0 m0.length c0, .int .i64 m1, .slice b xs.length cb, .slice c ys.length cc] V fun e w' => e = .returned (.bool (twinB m0 m1 xs ys)) ∧ Below V.heap.size V w') := fun xs ys b cb c cc V k1 k2 hb k3 k4 => stwins_any b0 m0 c0 b xs cb c ys cc m1 V r0 k1 k2 (h0.below hb) k3 k4
  have HIR : Hid (∀ (xs ys : List Int) b cb c cc V, xs.length ≤ 1000 → ys.length ≤ 1000 → Below w.heap.size w V → Sl V b xs → Sl V c ys → Calls Try.prog 12 #[.slice b0 m0.length c0, .int .i64 m1, .slice b xs.length cb, .slice c ys.length cc] V fun e w' => e = .returned (.bool (twinB m0 m1 xs ys)) ∧ Below V.heap.size V w') := fun xs ys b cb c cc V k1 k2 hb k3 k4 => rtwins_any b0 m0 c0 b xs cb c ys cc m1 V r0 k1 k2 (h0.below hb) k3 k4
  have HTW : Hid (∀ k V, Below w.heap.size w V → Calls Try.prog 13 #[.slice b0 m0.length c0, .int .i64 k] V (TWPost (twinsV m0 k) V)) := fun k V hb => stwinsX_any b0 m0 c0 k V r0 (h0.below hb)
  have HTR : Hid (∀ V, Below w.heap.size w V → Calls Try.prog 14 #[.slice b0 m0.length c0, .int .i64 m1] V fun e w' => e = .returned (.int .i64 (twinsV m0 m1).2) ∧ Below V.heap.size V w') := fun V hb => rtwin_any b0 m0 c0 m1 V r0 (h0.below hb)
  have HSU : Hid (∀ V, Below w.heap.size w V → Calls Try.prog 15 #[.slice b0 m0.length c0] V fun e w' => e = .returned (.tuple #[.int .i64 (sureV m0).1, .int .i64 (sureV m0).2]) ∧ Below V.heap.size V w') := fun V hb => ssure_any b0 m0 c0 V r0 (h0.below hb)
  have HSK : Hid (∀ V, Below w.heap.size w V → Calls Try.prog 16 #[.slice b0 m0.length c0] V fun e w' => e = .returned (.tuple #[.int .i64 (sparkV m0).1, .int .i64 (sparkV m0).2]) ∧ Below V.heap.size V w') := fun V hb => rspark_any b0 m0 c0 V r0 (h0.below hb)
  have hbd := twins_bd m0 m1
  have hok := twins_ok (m := m0) (k := m1)
  have hbig := twins_big (m := m0) (k := m1) (a := xs2) (b := xs3)
  have hone := twins_one (m := m0)
  have hsin := sure_in m0
  obtain ⟨⟨sa, se⟩, hsv⟩ : ∃ r, sureV m0 = r := ⟨_, rfl⟩
  obtain ⟨⟨ka, ke⟩, hkv⟩ : ∃ r, sparkV m0 = r := ⟨_, rfl⟩
  obtain ⟨⟨⟨A, B⟩, e0⟩, htv⟩ : ∃ r, twinsV m0 m1 = r := ⟨_, rfl⟩
  rw [hsv] at HSU hbig hone hsin
  rw [hkv] at HSK hone
  rw [htv] at HTR hbd hok
  dsimp only at HSU HSK HTR hbd hok hbig hone hsin
  obtain ⟨⟨⟨A2, B2⟩, g0⟩, htv2⟩ : ∃ r, twinsV m0 (sa + 1) = r := ⟨_, rfl⟩
  rw [htv2] at hone
  dsimp only at hone
  obtain ⟨tw, htw⟩ : ∃ t, twinB m0 m1 xs2 xs3 = t := ⟨_, rfl⟩
  rw [htw] at hbig
  have HTB1 := Lib.hid htw
  have HT1 := Lib.hid htv
  have HT2 := Lib.hid htv2
  have HL : Hid (A.length ≤ 1000 ∧ B.length ≤ 1000) := by show _ ∧ _; omega
  have HL20 : Hid (A.length + B.length ≤ 20) := by show _ ≤ _; omega
  have HAB : Hid (∀ x ∈ A ++ B, -160 ≤ x ∧ x ≤ 160) := hbd.2
  have wsa : IntKind.i64.wrap (sa + 1) = sa + 1 := IntWalk.i64_in _ (by omega)
  have HTL : Hid ((tw = false ∨ tw = true ∧ sa < m1) ∧ (((ke != 0) = true ∧ (ke == 0) = false) ∨ (ke = 0 ∧ 10 ≤ sa) ∨ (ke = 0 ∧ sa < 10 ∧ g0 = 0))) := by
    refine ⟨?_, ?_⟩
    · cases tw
      · exact .inl rfl
      · exact .inr ⟨rfl, hbig rfl⟩
    · by_cases e : ke = 0
      · by_cases e2 : sa < 10
        · exact .inr (.inr ⟨e, e2, hone e e2⟩)
        · exact .inr (.inl ⟨e, by omega⟩)
      · exact .inl ⟨by simpa using e, by simpa using e⟩
  have HSE : Hid (se = 0 ∨ (se != 0) = true ∧ (se == 0) = false) := by
    show _ ∨ _
    by_cases e : se = 0
    · exact .inl e
    · exact .inr ⟨by simpa using e, by simpa using e⟩
  have HTB2 : Hid (e0 = 0 → twinB m0 m1 A B = true) := fun e => (hok e).1
  obtain ⟨L, hLE⟩ : ∃ L, A ++ B = L := ⟨_, rfl⟩
  have HLE := Lib.hid hLE
  rw [hLE] at HAB
  have hll : L.length ≤ 20 := by rw [← hLE, List.length_append]; exact HL20.out
  clear hLE
  obtain ⟨ml, hml⟩ : ∃ ml, m0.length = ml := ⟨_, rfl⟩
  rw [hml] at HLI HIS HIR HTW HTR HSU HSK ⊢
  clear h0 r0 h2 h3 _r1 _r2 _r3 hbd hok hbig hone hsin hsv hkv htv htv2 htw hml hbl
  by_cases hz : e0 = 0
  case pos =>
    subst hz
    have HTZ : Hid (twinB m0 m1 A B = true) := HTB2.out rfl
    clear HTB2
    go_enter Try.func4, Try.ntmps4
    go_wp2_with (first
      | (go_at_call 5; refine HLI.out.mono ?_; rintro e w0 ⟨⟨bb, rfl⟩, rfl⟩; cases bb)
      | (go_at_call 6; refine HLN.out.mono ?_; rintro e w1 ⟨rfl, rfl | ⟨rfl, HQ⟩⟩)
      | (go_at_call 7; refine (awake4_any _).mono ?_; rintro e w20 ⟨rfl, hb20⟩)
      | (go_at_call 11; refine (HIS.out _ _ _ _ _ _ _ (by first | exact HL.out.1 | exact Nat.le_trans HQ.out.1 (by decide)) (by first | exact HL.out.2 | exact Nat.le_trans HQ.out.2 (by decide)) (by first | exact HB1.out | exact HB6.out) (by first | exact HX1.out | exact HX6.out) (by first | exact HY1.out | exact HY6.out)).mono ?_; rintro e wn ⟨rfl, hb⟩; first
        | (rw [HTB1.out]; have HB2 := Lib.hid (bel_trn HB1.out hb); have HX2 := Lib.hid (HX1.out.below hb); have HY2 := Lib.hid (HY1.out.below hb); clear hb)
        | (rw [HTZ.out]; have HB7 := Lib.hid (bel_trn HB6.out hb); have HX7 := Lib.hid (HX6.out.below hb); have HY7 := Lib.hid (HY6.out.below hb); clear hb))
      | (go_at_call 12; refine (HIR.out _ _ _ _ _ _ _ (by first | exact HL.out.1 | exact Nat.le_trans HQ.out.1 (by decide)) (by first | exact HL.out.2 | exact Nat.le_trans HQ.out.2 (by decide)) (by first | exact HB2.out | exact HB5.out) (by first | exact HX2.out | exact HX5.out) (by first | exact HY2.out | exact HY5.out)).mono ?_; rintro e wn ⟨rfl, hb⟩; first
        | (rw [HTB1.out]; have HB3 := Lib.hid (bel_trn HB2.out hb); have HX3 := Lib.hid (HX2.out.below hb); have HY3 := Lib.hid (HY2.out.below hb); clear hb)
        | (rw [HTZ.out]; have HB6 := Lib.hid (bel_trn HB5.out hb); have HX6 := Lib.hid (HX5.out.below hb); have HY6 := Lib.hid (HY5.out.below hb); clear hb))
      | (go_at_call 13; refine (HTW.out _ _ (by first | exact HB3.out | exact HB10.out)).mono ?_; rintro e wn hp; first
        | (rw [HT1.out] at hp; obtain ⟨hb, xa, xc, ya, yc, rfl, hsx, hsy⟩ := hp; dsimp only at hsx hsy ⊢; clear HX3 HY3; have HX4 := Lib.hid hsx; have HY4 := Lib.hid hsy; have HB4 := Lib.hid (bel_trn HB3.out hb); clear hb hsx hsy)
        | (rw [HT2.out] at hp; obtain ⟨hb, xa2, xc2, ya2, yc2, rfl, hsx, hsy⟩ := hp; dsimp only at hsx hsy ⊢; have HB11 := Lib.hid (bel_trn HB10.out hb); clear hb hsx hsy))
      | (go_at_call 14; refine (HTR.out _ HB4.out).mono ?_; rintro e wn ⟨rfl, hb⟩; have HB5 := Lib.hid (bel_trn HB4.out hb); have HX5 := Lib.hid (HX4.out.below hb); have HY5 := Lib.hid (HY4.out.below hb); clear hb)
      | (at_builtin; refine wpList_catA rfl (.tmp 74) (.tmp 75) rfl wn.heap.size _ [] xa A xc _ rfl rfl (World.ownsRow_lit (base := wn.heap.size) (size := 1) wn #[] 0 (Nat.le_refl _) (by unfold maxLen; omega) rfl) (HX7.out.below ((Below.refl _ _).alloc (Nat.le_refl _) _)) (by have := HL20.out; show 0 + A.length ≤ _; omega) (by rw [World.size_alloc]; omega) ?_; intro v2 w8 ho2 hb2; rw [List.nil_append] at ho2; have HO2 := Lib.hid ho2; have HB8 : Hid (Below wn.heap.size wn w8) := ((Below.refl _ _).alloc (Nat.le_refl _) _).trans hb2; clear ho2 hb2)
      | (at_builtin; refine wpList_catA rfl (.tmp 76) (.tmp 77) rfl wn.heap.size _ A ya B yc _ rfl rfl HO2.out (HY7.out.below HB8.out) (by have := HL20.out; omega) HB8.out.size ?_; intro v3 w9 ho3 hb3; rw [HLE.out] at ho3; obtain ⟨fa, fc, rfl, sf, _⟩ := ho3.parts; have HSF := Lib.hid sf; have HB9 : Hid (Below w.heap.size w w9) := bel_trn HB7.out (HB8.out.trans hb3); clear ho3 hb3 sf))
    all_goals first
      | (go_ret
         first
           | exact ⟨rfl, hb20⟩
           | exact ⟨rfl, bel_trn HB1.out hb20⟩)
      | skip
    go_loopw [80] (fun i wr => ∃ j : Nat, j ≤ L.length ∧ i = .int .i64 j ∧ wr = w9) (fun i _ => L.length - (intOf i).toNat)
    case atStart => exact ⟨0, Nat.zero_le _, rfl, rfl⟩
    case round =>
      obtain ⟨j, hj, rfl, rfl⟩ := hrel
      by_cases hlt : j < L.length
      · obtain ⟨bq, oq, x, rfl, hc, hx⟩ := HSF.out.at hlt
        have hxb := HAB.out x (List.mem_of_getElem? hx.out)
        clear hx
        go_wp2
        go_roundw
        case rel => exact ⟨j + 1, by omega, by go_num, by first | trivial | rfl⟩
        case measure => simp [intOf]; omega
      · obtain rfl : j = L.length := by omega
        go_wp2_with (first
          | (go_at_call 15; refine (HSU.out _ HB9.out).mono ?_; rintro e wn ⟨rfl, hb⟩; have HB10 := Lib.hid (bel_trn HB9.out hb); clear hb; rcases HSE.out with rfl | ⟨y1, y2⟩)
          | (go_at_call 13; refine (HTW.out _ _ HB10.out).mono ?_; rintro e wn hp; rw [HT2.out] at hp; obtain ⟨hb, xa2, xc2, ya2, yc2, rfl, _, _⟩ := hp; dsimp only; have HB11 := Lib.hid (bel_trn HB10.out hb); clear hb)
          | (go_at_call 16; refine (HSK.out _ HB11.out).mono ?_; rintro e wn ⟨rfl, hb⟩; have HB12 := Lib.hid (bel_trn HB11.out hb); clear hb; rcases HTL.out with ⟨rfl | ⟨rfl, hkk⟩, ⟨y3, y4⟩ | ⟨rfl, hs10⟩ | ⟨rfl, hs10, rfl⟩⟩)
          | (go_at_call 7; refine (awake4_any _).mono ?_; rintro e w20 ⟨rfl, hb20⟩))
        all_goals go_ret
        all_goals first
          | exact ⟨rfl, bel_trn HB12.out hb20⟩
          | exact ⟨rfl, bel_trn HB10.out hb20⟩
  case neg =>
    have yz : (e0 == 0) = false := by simpa using hz
    have yz2 : (e0 != 0) = true := by simpa using hz
    clear HTB2 hz
    go_enter Try.func4, Try.ntmps4
    go_wp2_with (first
      | (go_at_call 5; refine HLI.out.mono ?_; rintro e w0 ⟨⟨bb, rfl⟩, rfl⟩; cases bb)
      | (go_at_call 6; refine HLN.out.mono ?_; rintro e w1 ⟨rfl, rfl | ⟨rfl, HQ⟩⟩)
      | (go_at_call 7; refine (awake4_any _).mono ?_; rintro e w20 ⟨rfl, hb20⟩)
      | (go_at_call 11; refine (HIS.out _ _ _ _ _ _ _ (by first | exact HL.out.1 | exact Nat.le_trans HQ.out.1 (by decide)) (by first | exact HL.out.2 | exact Nat.le_trans HQ.out.2 (by decide)) (by first | exact HB1.out | exact HB6.out) (by first | exact HX1.out | exact HX6.out) (by first | exact HY1.out | exact HY6.out)).mono ?_; rintro e wn ⟨rfl, hb⟩; first
        | (rw [HTB1.out]; have HB2 := Lib.hid (bel_trn HB1.out hb); have HX2 := Lib.hid (HX1.out.below hb); have HY2 := Lib.hid (HY1.out.below hb); clear hb)
        | (rw [HTZ.out]; have HB7 := Lib.hid (bel_trn HB6.out hb); have HX7 := Lib.hid (HX6.out.below hb); have HY7 := Lib.hid (HY6.out.below hb); clear hb))
      | (go_at_call 12; refine (HIR.out _ _ _ _ _ _ _ (by first | exact HL.out.1 | exact Nat.le_trans HQ.out.1 (by decide)) (by first | exact HL.out.2 | exact Nat.le_trans HQ.out.2 (by decide)) (by first | exact HB2.out | exact HB5.out) (by first | exact HX2.out | exact HX5.out) (by first | exact HY2.out | exact HY5.out)).mono ?_; rintro e wn ⟨rfl, hb⟩; first
        | (rw [HTB1.out]; have HB3 := Lib.hid (bel_trn HB2.out hb); have HX3 := Lib.hid (HX2.out.below hb); have HY3 := Lib.hid (HY2.out.below hb); clear hb)
        | (rw [HTZ.out]; have HB6 := Lib.hid (bel_trn HB5.out hb); have HX6 := Lib.hid (HX5.out.below hb); have HY6 := Lib.hid (HY5.out.below hb); clear hb))
      | (go_at_call 13; refine (HTW.out _ _ (by first | exact HB3.out | exact HB10.out)).mono ?_; rintro e wn hp; first
        | (rw [HT1.out] at hp; obtain ⟨hb, xa, xc, ya, yc, rfl, hsx, hsy⟩ := hp; dsimp only at hsx hsy ⊢; clear HX3 HY3; have HX4 := Lib.hid hsx; have HY4 := Lib.hid hsy; have HB4 := Lib.hid (bel_trn HB3.out hb); clear hb hsx hsy)
        | (rw [HT2.out] at hp; obtain ⟨hb, xa2, xc2, ya2, yc2, rfl, hsx, hsy⟩ := hp; dsimp only at hsx hsy ⊢; have HB11 := Lib.hid (bel_trn HB10.out hb); clear hb hsx hsy))
      | (go_at_call 14; refine (HTR.out _ HB4.out).mono ?_; rintro e wn ⟨rfl, hb⟩; have HB5 := Lib.hid (bel_trn HB4.out hb); have HX5 := Lib.hid (HX4.out.below hb); have HY5 := Lib.hid (HY4.out.below hb); clear hb)
      | (at_builtin; refine wpList_catA rfl (.tmp 74) (.tmp 75) rfl wn.heap.size _ [] xa A xc _ rfl rfl (World.ownsRow_lit (base := wn.heap.size) (size := 1) wn #[] 0 (Nat.le_refl _) (by unfold maxLen; omega) rfl) (HX5.out.below ((Below.refl _ _).alloc (Nat.le_refl _) _)) (by have := HL20.out; show 0 + A.length ≤ _; omega) (by rw [World.size_alloc]; omega) ?_; intro v2 w8 ho2 hb2; rw [List.nil_append] at ho2; have HO2 := Lib.hid ho2; have HB8 : Hid (Below wn.heap.size wn w8) := ((Below.refl _ _).alloc (Nat.le_refl _) _).trans hb2; clear ho2 hb2)
      | (at_builtin; refine wpList_catA rfl (.tmp 76) (.tmp 77) rfl wn.heap.size _ A ya B yc _ rfl rfl HO2.out (HY5.out.below HB8.out) (by have := HL20.out; omega) HB8.out.size ?_; intro v3 w9 ho3 hb3; rw [HLE.out] at ho3; obtain ⟨fa, fc, rfl, sf, _⟩ := ho3.parts; have HSF := Lib.hid sf; have HB9 : Hid (Below w.heap.size w w9) := bel_trn HB5.out (HB8.out.trans hb3); clear ho3 hb3 sf))
    all_goals first
      | (go_ret
         first
           | exact ⟨rfl, hb20⟩
           | exact ⟨rfl, bel_trn HB1.out hb20⟩)
      | skip
    go_loopw [80] (fun i wr => ∃ j : Nat, j ≤ L.length ∧ i = .int .i64 j ∧ wr = w9) (fun i _ => L.length - (intOf i).toNat)
    case atStart => exact ⟨0, Nat.zero_le _, rfl, rfl⟩
    case round =>
      obtain ⟨j, hj, rfl, rfl⟩ := hrel
      by_cases hlt : j < L.length
      · obtain ⟨bq, oq, x, rfl, hc, hx⟩ := HSF.out.at hlt
        have hxb := HAB.out x (List.mem_of_getElem? hx.out)
        clear hx
        go_wp2
        go_roundw
        case rel => exact ⟨j + 1, by omega, by go_num, by first | trivial | rfl⟩
        case measure => simp [intOf]; omega
      · obtain rfl : j = L.length := by omega
        go_wp2_with (first
          | (go_at_call 15; refine (HSU.out _ HB9.out).mono ?_; rintro e wn ⟨rfl, hb⟩; have HB10 := Lib.hid (bel_trn HB9.out hb); clear hb; rcases HSE.out with rfl | ⟨y1, y2⟩)
          | (go_at_call 13; refine (HTW.out _ _ HB10.out).mono ?_; rintro e wn hp; rw [HT2.out] at hp; obtain ⟨hb, xa2, xc2, ya2, yc2, rfl, _, _⟩ := hp; dsimp only; have HB11 := Lib.hid (bel_trn HB10.out hb); clear hb)
          | (go_at_call 16; refine (HSK.out _ HB11.out).mono ?_; rintro e wn ⟨rfl, hb⟩; have HB12 := Lib.hid (bel_trn HB11.out hb); clear hb; rcases HTL.out with ⟨rfl | ⟨rfl, hkk⟩, ⟨y3, y4⟩ | ⟨rfl, hs10⟩ | ⟨rfl, hs10, rfl⟩⟩)
          | (go_at_call 7; refine (awake4_any _).mono ?_; rintro e w20 ⟨rfl, hb20⟩))
        all_goals go_ret
        all_goals first
          | exact ⟨rfl, bel_trn HB12.out hb20⟩
          | exact ⟨rfl, bel_trn HB10.out hb20⟩
end Go.Proofs.Ytfnomiingelfaaa.sparseTwins
