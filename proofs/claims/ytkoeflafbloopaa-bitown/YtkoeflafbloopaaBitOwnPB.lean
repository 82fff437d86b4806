/- Parts of the proof of BitOwn: plain words, walks and contracts, each under its own heading. -/
import Derived.Test.YtkoeflafbloopaaBitOwnPA
import Derived.Deep.QuietTactic
import Derived.BigQuiet
/- A picture fits its own cells: plain facts for BitOwn. -/
namespace Go.Proofs.Ytkoeflafbloopaa
open Go.RowKit

theorem fits_one {p t : Int} {xs x : List Int} {lo hi : Int} (hb : browB p t xs = true) (hE : shownE p t x = 0) (hl : limB lo hi = true) (h1 : lo ≤ prodL xs x) (h2 : prodL xs x ≤ hi) : fitsV p t [(xs, lo, hi)] x = (true, 0) := by
  have hv : valsB p t [(xs, lo, hi)] = true := by
    have h3 : vfB p t = true := by unfold browB at hb; rw [Bool.and_eq_true] at hb; exact hb.1
    unfold valsB
    simp [h3, ccB, hb, hl]
  unfold fitsV
  rw [if_pos hv, if_pos hE]
  simp [inC, rangeB, h1, h2]
theorem quant_fits {p t : Int} {xs x : List Int} {st : Int} (h : (quantV p t xs x st).2 = 0) : fitsV p t [(quantV p t xs x st).1] x = (true, 0) := by
  unfold quantV at h ⊢
  by_cases h0 : (sumV p t xs x).2 = 0
  · rw [if_pos h0] at h ⊢
    by_cases h1 : rangeB st 1 100 = true
    · rw [if_pos h1]
      obtain ⟨hb, hE, s1, s2⟩ := sum_small h0
      have hst : 1 ≤ st ∧ st ≤ 100 := by simpa [rangeB] using h1
      have hq := (quant_ok ⟨s1, s2⟩ hst).2.2.2
      have hpl : (sumV p t xs x).1 = prodL xs x := by unfold sumV; rw [if_pos hb, if_pos hE]
      refine fits_one hb hE hq ?_ ?_
      · rw [← hpl]; exact Int.mul_ediv_self_le (by omega)
      · have := Int.lt_mul_ediv_self_add (x := (sumV p t xs x).1) (k := st) (by omega)
        rw [← hpl]; omega
    · rw [if_neg h1] at h; exact absurd h (by decide)
  · rw [if_neg h0] at h; exact absurd h h0
theorem bit_fits {p t : Int} {xs x : List Int} {th : Int} (h : (bitV p t xs x th).2 = 0) : fitsV p t [(bitV p t xs x th).1] x = (true, 0) := by
  unfold bitV at h ⊢
  by_cases h0 : (sumV p t xs x).2 = 0
  · rw [if_pos h0] at h ⊢
    by_cases h1 : rangeB th (-99) 100 = true
    · rw [if_pos h1]
      obtain ⟨hb, hE, s1, s2⟩ := sum_small h0
      have hst : -99 ≤ th ∧ th ≤ 100 := by simpa [rangeB] using h1
      have hpl : (sumV p t xs x).1 = prodL xs x := by unfold sumV; rw [if_pos hb, if_pos hE]
      by_cases hc : th ≤ (sumV p t xs x).1
      · rw [if_pos hc]
        exact fits_one hb hE (by simp [limB]; omega) (by rw [← hpl]; exact hc) (by rw [← hpl]; omega)
      · rw [if_neg hc]
        exact fits_one hb hE (by simp [limB]; omega) (by rw [← hpl]; omega) (by rw [← hpl]; omega)
    · rw [if_neg h1] at h; exact absurd h (by decide)
  · rw [if_neg h0] at h; exact absurd h h0
theorem cs_new1 (W : World) (ra : Option Addr) (xs : List Int) (rc : Nat) (lo hi : Int) (ty : TypeId) (hs : Sl W ra xs) : Cs (W.alloc (.cells #[.slice ra xs.length rc, .int .i64 lo, .int .i64 hi] ty)) (some ⟨W.heap.size, 0, none⟩) [(xs, lo, hi)] := by
  intro j c hj
  match j, hj with
  | 0, hj =>
    simp at hj; subst hj
    exact ⟨W.heap.size, 0, ra, rc, rfl, alloc_cell _ _ _ _ _ rfl, alloc_cell _ _ _ _ _ rfl, alloc_cell _ _ _ _ _ rfl, hs.below ((Below.refl _ _).alloc (Nat.le_refl _) _)⟩
end Go.Proofs.Ytkoeflafbloopaa
/- SameCell of layer 7's answers: a contract. -/
namespace Go.Proofs.Ytkoeflafbloopaa
open Go.RowKit

set_option maxRecDepth 1000000 in
set_option maxHeartbeats 2000000 in
theorem samecell_any (ra : Option Addr) (xs : List Int) (rc : Nat) (rb : Option Addr) (rd : Nat) (lo hi : Int) (w : World) (hl : xs.length ≤ 140737488351232) (ha : Sl w ra xs) (hb : Sl w rb xs) :
    Calls Try.prog 40 #[.agg #[.slice ra xs.length rc, .int .i64 lo, .int .i64 hi], .agg #[.slice rb xs.length rd, .int .i64 lo, .int .i64 hi]] w fun e w' => e = .returned (.bool true) ∧ Below w.heap.size w w' := by
  obtain ⟨U1, hU1⟩ : ∃ U, w.alloc (.cells #[.slice ra xs.length rc, .int .i64 lo, .int .i64 hi] 49) = U := ⟨_, rfl⟩
  obtain ⟨U, hU⟩ : ∃ U, U1.alloc (.cells #[.slice rb xs.length rd, .int .i64 lo, .int .i64 hi] 49) = U := ⟨_, rfl⟩
  have hb1 : Below w.heap.size w U1 := by rw [← hU1]; exact (Below.refl _ _).alloc (Nat.le_refl _) _
  have hb2 : Below U1.heap.size U1 U := by rw [← hU]; exact (Below.refl _ _).alloc (Nat.le_refl _) _
  have HB : Hid (Below w.heap.size w U) := hb1.trans (hb2.mono hb1.size)
  have C1 : Cb w.heap.size ra xs.length rc lo hi U := (show Cb w.heap.size ra xs.length rc lo hi U1 by rw [← hU1]; exact Cb.new _ _ _ _ _ _ _).next hb2
  have C2 : Cb U1.heap.size rb xs.length rd lo hi U := by rw [← hU]; exact Cb.new _ _ _ _ _ _ _
  obtain ⟨z0, z1, z2⟩ := And.intro C1.c0 (And.intro C1.c1 C1.c2)
  obtain ⟨z3, z4, z5⟩ := And.intro C2.c0 (And.intro C2.c1 C2.c2)
  have HA := Lib.hid (ha.below HB.out)
  have HB2 := Lib.hid (hb.below HB.out)
  clear ha hb hb1 hb2 C1 C2
  go_enter Try.func40, Try.ntmps40
  go_wp2
  go_loopw [30] (fun i wr => ∃ k nd : Nat, k ≤ xs.length ∧ i = .int .i64 k ∧ wr = U.drewN nd) (fun i _ => xs.length - (intOf i).toNat)
  case atStart => exact ⟨0, 0, Nat.zero_le _, rfl, rfl⟩
  case round =>
    obtain ⟨k, nd, hk, rfl, rfl⟩ := hrel
    by_cases hlt : k < xs.length
    · obtain ⟨b1, o1, x, rfl, hcx, HX⟩ := HA.out.at hlt
      obtain ⟨b2, o2, y, rfl, hcy, HY⟩ := HB2.out.at hlt
      obtain rfl : x = y := by have := HX.out.symm.trans HY.out; simpa using this
      go_wp2
      go_quiet (fail)
      go_wp2
      go_roundw
      case rel => exact ⟨k + 1, _, by omega, by go_num, rfl⟩
      case measure => simp [intOf]; omega
    · go_wp2
      go_ret
      exact ⟨rfl, below_drewN HB.out _⟩
end Go.Proofs.Ytkoeflafbloopaa
/- Bit of layer 7's answers: contracts. -/
namespace Go.Proofs.Ytkoeflafbloopaa
open Go.RowKit

theorem results_cell1 {fn : Func} {p : Tmp} {ty : TypeId} (h : fn.results = #[.cell p ty]) (tmps : Array Value) (P : Program) (w : World) :
    (results fn tmps).run P w = ((asAddr (tmps.getD p undef)).run P w).andThen fun a w₁ => (loadVar ty a).run P w₁ := by
  simp only [results, h]
  simp [Sem.run_bind, Result.andThen]
def bitB (sm th : Int) : Int × Int := if th ≤ sm then (th, 100) else (-100, th - 1)
set_option maxRecDepth 100000 in
set_option maxHeartbeats 1000000 in
theorem rbit1_any (b0 o0 : Nat) (xs : List Int) (ca : Nat) (b : Option Addr) (ys : List Int) (cb : Nat) (th : Int) (w : World) (hx1 : 1 ≤ xs.length) (hq : xs.length ≤ 8 ∧ xs.length = ys.length ∧ okL (-1) 1 xs = true ∧ okL 0 3 ys = true) (hth : -99 ≤ th ∧ th ≤ 100) (ha : Sl w (some ⟨b0, o0, none⟩) xs) (hb : Sl w b ys) :
    Calls Try.prog 76 #[.slice (some ⟨b0, o0, none⟩) xs.length ca, .slice b ys.length cb, .int .i64 th] w fun e w' => ∃ g gc, e = .returned (.agg #[.slice (some ⟨g, 0, none⟩) xs.length gc, .int .i64 (bitB (prodL xs ys) th).1, .int .i64 (bitB (prodL xs ys) th).2]) ∧ (w.heap.size ≤ g ∧ Sl w' (some ⟨g, 0, none⟩) xs) ∧ Below w.heap.size w w' := by
  obtain ⟨U, hU⟩ : ∃ U, w.alloc (.cells #[.slice none 0 0, .int .i64 0, .int .i64 0] 49) = U := ⟨_, rfl⟩
  have HB : Hid (Below w.heap.size w U) := by rw [← hU]; exact (Below.refl _ _).alloc (Nat.le_refl _) _
  have HR : Hid (Bt U w.heap.size (.slice none 0 0) (.int .i64 0) (.int .i64 0)) := by show Bt _ _ _ _ _; rw [← hU]; exact Bt.new _ _ _ _ _
  have HQ := Lib.hid hq
  have HS := Lib.hid (ha.below HB.out)
  have HSM := Lib.hid (rsum_any (some ⟨b0, o0, none⟩) xs ca b ys cb U hq.1 hq.2.1 hq.2.2.1 hq.2.2.2 (ha.below HB.out) (hb.below HB.out))
  obtain ⟨z2, z3, z4, z5, z6, z7⟩ := And.intro HR.out.c0 (And.intro HR.out.c1 (And.intro HR.out.c2 (And.intro HR.out.f0 (And.intro HR.out.f1 HR.out.f2))))
  obtain ⟨sm, hsm⟩ : ∃ r, prodL xs ys = r := ⟨_, rfl⟩
  rw [hsm] at HSM ⊢
  obtain ⟨h1, h2⟩ := hth
  clear hq ha hb hsm
  have HOE := Lib.hid (own_lit0 U)
  have HBE : Hid (Below U.heap.size U (U.alloc (.cells #[] 3))) := (Below.refl _ _).alloc (Nat.le_refl _) _
  by_cases hc : th ≤ sm
  · have HV := Lib.hid (show bitB sm th = (th, 100) from if_pos hc)
    go_enter Try.func76, Try.ntmps76
    go_wp2_with (first
      | (go_at_call 58; refine HSM.out.mono ?_; rintro e w1 ⟨rfl, rfl⟩)
      | (at_builtin; refine wpList_catS rfl (.tmp 12) (.tmp 13) rfl U.heap.size _ [] b0 o0 xs ca _ rfl rfl HOE.out (HS.out.below HBE.out) (by have := HQ.out.1; simp; omega) HBE.out.size ?_; intro v1 w5 ho1 hb1; rw [List.nil_append] at ho1; have hbw5 := HBE.out.trans hb1; obtain ⟨g, gc, rfl, hg⟩ := ho1.shape hx1; have HO1 := Lib.hid (OwnI.sl ho1); have HGG : Hid (w.heap.size < g) := (by have := HR.out.lt; have := (OwnI.lt ho1).2; show _ < _; omega); have HBW5 := Lib.hid hbw5; have R5 := HR.out.next hbw5; obtain ⟨k2, k3, k4, k5, k6, k7⟩ := And.intro R5.c0 (And.intro R5.c1 (And.intro R5.c2 (And.intro R5.f0 (And.intro R5.f1 R5.f2)))); clear ho1 hbw5 hb1 hg))
    have R6 := ((R5.set0 (.slice (some ⟨g, 0, none⟩) xs.length gc)).set1 (.int .i64 th)).set2 (.int .i64 100)
    obtain ⟨y2, y3, y4⟩ := And.intro R6.c0 (And.intro R6.c1 R6.c2)
    have hne : ∀ ad : Addr, some (⟨g, 0, none⟩ : Addr) = some ad → ad.block ≠ w.heap.size := fun ad e => by cases e; have := HGG.out; show g ≠ _; omega
    have hbF : Below w.heap.size w (((w5.setCell ⟨w.heap.size, 0, none⟩ (.slice (some ⟨g, 0, none⟩) xs.length gc)).setCell ⟨w.heap.size, 1, none⟩ (.int .i64 th)).setCell ⟨w.heap.size, 2, none⟩ (.int .i64 100)) :=
      (((HB.out.trans (HBW5.out.mono HB.out.size)).setCell (p := ⟨w.heap.size, 0, none⟩) (Nat.le_refl _) _).setCell (p := ⟨w.heap.size, 1, none⟩) (Nat.le_refl _) _).setCell (p := ⟨w.heap.size, 2, none⟩) (Nat.le_refl _) _
    refine bodyPost_ret (v := .agg #[.slice (some ⟨g, 0, none⟩) xs.length gc, .int .i64 th, .int .i64 100]) ?_ rfl ⟨g, gc, by rw [HV.out], ⟨Nat.le_of_lt HGG.out, sl_apart (sl_apart (sl_apart HO1.out hne _) hne _) hne _⟩, hbF⟩
    rw [results_cell1 rfl]; go_simp
  · have HV := Lib.hid (show bitB sm th = (-100, th - 1) from if_neg hc)
    go_enter Try.func76, Try.ntmps76
    go_wp2_with (first
      | (go_at_call 58; refine HSM.out.mono ?_; rintro e w1 ⟨rfl, rfl⟩)
      | (at_builtin; refine wpList_catS rfl (.tmp 17) (.tmp 18) rfl U.heap.size _ [] b0 o0 xs ca _ rfl rfl HOE.out (HS.out.below HBE.out) (by have := HQ.out.1; simp; omega) HBE.out.size ?_; intro v1 w5 ho1 hb1; rw [List.nil_append] at ho1; have hbw5 := HBE.out.trans hb1; obtain ⟨g, gc, rfl, hg⟩ := ho1.shape hx1; have HO1 := Lib.hid (OwnI.sl ho1); have HGG : Hid (w.heap.size < g) := (by have := HR.out.lt; have := (OwnI.lt ho1).2; show _ < _; omega); have HBW5 := Lib.hid hbw5; have R5 := HR.out.next hbw5; obtain ⟨k2, k3, k4, k5, k6, k7⟩ := And.intro R5.c0 (And.intro R5.c1 (And.intro R5.c2 (And.intro R5.f0 (And.intro R5.f1 R5.f2)))); clear ho1 hbw5 hb1 hg))
    have R6 := ((R5.set0 (.slice (some ⟨g, 0, none⟩) xs.length gc)).set1 (.int .i64 (-100))).set2 (.int .i64 (th - 1))
    obtain ⟨y2, y3, y4⟩ := And.intro R6.c0 (And.intro R6.c1 R6.c2)
    have hne : ∀ ad : Addr, some (⟨g, 0, none⟩ : Addr) = some ad → ad.block ≠ w.heap.size := fun ad e => by cases e; have := HGG.out; show g ≠ _; omega
    have hbF : Below w.heap.size w (((w5.setCell ⟨w.heap.size, 0, none⟩ (.slice (some ⟨g, 0, none⟩) xs.length gc)).setCell ⟨w.heap.size, 1, none⟩ (.int .i64 (-100))).setCell ⟨w.heap.size, 2, none⟩ (.int .i64 (th - 1))) :=
      (((HB.out.trans (HBW5.out.mono HB.out.size)).setCell (p := ⟨w.heap.size, 0, none⟩) (Nat.le_refl _) _).setCell (p := ⟨w.heap.size, 1, none⟩) (Nat.le_refl _) _).setCell (p := ⟨w.heap.size, 2, none⟩) (Nat.le_refl _) _
    refine bodyPost_ret (v := .agg #[.slice (some ⟨g, 0, none⟩) xs.length gc, .int .i64 (-100), .int .i64 (th - 1)]) ?_ rfl ⟨g, gc, by rw [HV.out], ⟨Nat.le_of_lt HGG.out, sl_apart (sl_apart (sl_apart HO1.out hne _) hne _) hne _⟩, hbF⟩
    rw [results_cell1 rfl]; go_simp
end Go.Proofs.Ytkoeflafbloopaa
/- Bit of layer 7's answers: the contract. Written by mk_bbitr.py. -/
namespace Go.Proofs.Ytkoeflafbloopaa
open Go.RowKit

set_option maxRecDepth 100000 in
set_option maxHeartbeats 1000000 in
theorem rbit_any (p t : Int) (a : Option Addr) (xs : List Int) (ca : Nat) (b : Option Addr) (ys : List Int) (cb : Nat) (th : Int) (w : World) (hl : xs.length ≤ 140737488351232) (hl2 : ys.length ≤ 140737488351232) (ha : Sl w a xs) (hb : Sl w b ys) :
    Calls Try.prog 39 #[.agg #[.int .i64 p, .int .i64 t], .slice a xs.length ca, .slice b ys.length cb, .int .i64 th] w (CellPost (bitV p t xs ys th) w) := by
  obtain ⟨U, hU⟩ : ∃ U, (w.alloc (.cells #[.int .i64 p, .int .i64 t] 23)).alloc (.cells #[.slice none 0 0, .int .i64 0, .int .i64 0] 49) = U := ⟨_, rfl⟩
  have HF : Hid (Fb w p t U) := by rw [← hU]; exact (Fb.new w p t _).next ((Below.refl _ _).alloc (Nat.le_refl _) _)
  have HR : Hid (Bt U (w.heap.size + 1) (.slice none 0 0) (.int .i64 0) (.int .i64 0)) := by
    have h := Bt.new (w.alloc (.cells #[.int .i64 p, .int .i64 t] 23)) (.slice none 0 0) (.int .i64 0) (.int .i64 0) 49
    rw [World.size_alloc, hU] at h; exact h
  have HSU : Hid (∀ V, Fb w p t V → Calls Try.prog 16 #[.agg #[.int .i64 p, .int .i64 t], .slice a xs.length ca, .slice b ys.length cb] V fun e w' => e = .returned (.tuple #[.int .i64 (sumV p t xs ys).1, .int .i64 (sumV p t xs ys).2]) ∧ Below V.heap.size V w') := fun V h => brsum_any p t a xs ca b ys cb V hl hl2 (h.sl ha) (h.sl hb)
  obtain ⟨⟨sm, se⟩, hsm⟩ : ∃ r, sumV p t xs ys = r := ⟨_, rfl⟩
  rw [hsm] at HSU
  have HA := Lib.hid ha
  have HB := Lib.hid hb
  obtain ⟨z0, z1⟩ := And.intro HF.out.c0 HF.out.c1
  obtain ⟨z2, z3, z4, z5, z6, z7⟩ := And.intro HR.out.c0 (And.intro HR.out.c1 (And.intro HR.out.c2 (And.intro HR.out.f0 (And.intro HR.out.f1 HR.out.f2))))
  by_cases hse : se = 0
  · subst hse
    cases hr : rangeB th (-99) 100
    · have HV := Lib.hid (show bitV p t xs ys th = (([], 0, 0), 7) by unfold bitV; rw [hsm, if_pos rfl, hr]; rfl)
      clear hsm ha hb
      go_enter Try.func39, Try.ntmps39
      go_wp2_with (first | (go_at_call 16; refine (HSU.out _ HF.out).mono ?_; rintro e w1 ⟨rfl, hb1⟩; have F1 := Fb.next HF.out hb1; have R1 := HR.out.next hb1; obtain ⟨k2, k3, k4, k5, k6, k7⟩ := And.intro R1.c0 (And.intro R1.c1 (And.intro R1.c2 (And.intro R1.f0 (And.intro R1.f1 R1.f2))))) | (go_at_call 60; refine (bin_any _ _ _ _).mono ?_; rintro e w2 ⟨rfl, rfl⟩; rw [hr]))
      have R4 := ((R1.set0 (.slice none 0 0)).set1 (.int .i64 0)).set2 (.int .i64 0)
      have F4 := ((F1.set (b := w.heap.size + 1) (i := 0) (by omega) (.slice none 0 0)).set (b := w.heap.size + 1) (i := 1) (by omega) (.int .i64 0)).set (b := w.heap.size + 1) (i := 2) (by omega) (.int .i64 0)
      obtain ⟨y2, y3, y4⟩ := And.intro R4.c0 (And.intro R4.c1 R4.c2)
      refine bodyPost_ret (v := .tuple #[.agg #[.slice none 0 0, .int .i64 0, .int .i64 0], .int .i64 7]) ?_ rfl (CellPost.err 7 HV.out F4.below)
      rw [results_cell_tmp rfl]; go_simp
    · have hbr : browB p t xs = true := by
        by_cases hb : browB p t xs = true
        · exact hb
        · unfold sumV at hsm; rw [if_neg hb] at hsm; cases hsm
      have hE : shownE p t ys = 0 := by
        by_cases h : shownE p t ys = 0
        · exact h
        · unfold sumV at hsm; rw [if_pos hbr, if_neg h] at hsm; exact congrArg Prod.snd hsm
      have hpl : prodL xs ys = sm := by unfold sumV at hsm; rw [if_pos hbr, if_pos hE] at hsm; exact congrArg Prod.fst hsm
      have hx1 : 1 ≤ xs.length := by have := brow_of hbr; omega
      have hq := sum_of hbr hE
      have hth : -99 ≤ th ∧ th ≤ 100 := by simpa [rangeB] using hr
      have HV := Lib.hid (show bitV p t xs ys th = ((xs, bitB sm th), 0) by unfold bitV bitB; rw [hsm, if_pos rfl, hr]; rfl)
      obtain ⟨b0, o0, _, rfl, _, _⟩ := ha.at (k := 0) (by omega)
      have HBI : Hid (∀ V, Fb w p t V → Calls Try.prog 76 #[.slice (some ⟨b0, o0, none⟩) xs.length ca, .slice b ys.length cb, .int .i64 th] V fun e w' => ∃ g gc, e = .returned (.agg #[.slice (some ⟨g, 0, none⟩) xs.length gc, .int .i64 (bitB sm th).1, .int .i64 (bitB sm th).2]) ∧ (V.heap.size ≤ g ∧ Sl w' (some ⟨g, 0, none⟩) xs) ∧ Below V.heap.size V w') := fun V h => by
        have k := rbit1_any b0 o0 xs ca b ys cb th V hx1 hq hth (h.sl HA.out) (h.sl HB.out)
        rw [hpl] at k; exact k
      obtain ⟨⟨lo, hi⟩, hlh⟩ : ∃ r, bitB sm th = r := ⟨_, rfl⟩
      rw [hlh] at HBI HV
      clear hsm ha hb hbr hE hpl hx1 hq hth hlh
      go_enter Try.func39, Try.ntmps39
      go_wp2_with (first
        | (go_at_call 16; refine (HSU.out _ HF.out).mono ?_; rintro e w1 ⟨rfl, hb1⟩; have F1 := Fb.next HF.out hb1; have R1 := HR.out.next hb1; obtain ⟨k2, k3, k4, k5, k6, k7⟩ := And.intro R1.c0 (And.intro R1.c1 (And.intro R1.c2 (And.intro R1.f0 (And.intro R1.f1 R1.f2)))))
        | (go_at_call 60; refine (bin_any _ _ _ _).mono ?_; rintro e w2 ⟨rfl, rfl⟩; rw [hr])
        | (go_at_call 76; refine (HBI.out _ F1).mono ?_; rintro e w3 ⟨g, gc, rfl, ⟨hgg, hg2⟩, hb3⟩; have F3 := F1.next hb3; have R3 := R1.next hb3; have HG2 := Lib.hid hg2; have HGG : Hid (w.heap.size + 1 < g) := (by have := R1.lt; show _ < _; omega); clear hgg hg2; obtain ⟨m2, m3, m4, m5, m6, m7⟩ := And.intro R3.c0 (And.intro R3.c1 (And.intro R3.c2 (And.intro R3.f0 (And.intro R3.f1 R3.f2))))))
      have R4 := ((R3.set0 (.slice (some ⟨g, 0, none⟩) xs.length gc)).set1 (.int .i64 lo)).set2 (.int .i64 hi)
      have F4 := ((F3.set (b := w.heap.size + 1) (i := 0) (by omega) (.slice (some ⟨g, 0, none⟩) xs.length gc)).set (b := w.heap.size + 1) (i := 1) (by omega) (.int .i64 lo)).set (b := w.heap.size + 1) (i := 2) (by omega) (.int .i64 hi)
      obtain ⟨y2, y3, y4⟩ := And.intro R4.c0 (And.intro R4.c1 R4.c2)
      have hne : ∀ ad : Addr, some (⟨g, 0, none⟩ : Addr) = some ad → ad.block ≠ w.heap.size + 1 := fun ad e => by cases e; have := HGG.out; show g ≠ _; omega
      refine bodyPost_ret (v := .tuple #[.agg #[.slice (some ⟨g, 0, none⟩) xs.length gc, .int .i64 lo, .int .i64 hi], .int .i64 0]) ?_ rfl ⟨some ⟨g, 0, none⟩, gc, by rw [HV.out], ?_, F4.below⟩
      · rw [results_cell_tmp rfl]; go_simp
      · rw [HV.out]
        exact sl_apart (sl_apart (sl_apart HG2.out hne _) hne _) hne _
  · have HV := Lib.hid (show bitV p t xs ys th = (([], 0, 0), se) by unfold bitV; rw [hsm]; exact if_neg hse)
    clear hsm ha hb
    go_enter Try.func39, Try.ntmps39
    go_wp2_with (go_at_call 16; refine (HSU.out _ HF.out).mono ?_; rintro e w1 ⟨rfl, hb1⟩; have F1 := Fb.next HF.out hb1; have R1 := HR.out.next hb1; obtain ⟨k2, k3, k4, k5, k6, k7⟩ := And.intro R1.c0 (And.intro R1.c1 (And.intro R1.c2 (And.intro R1.f0 (And.intro R1.f1 R1.f2)))))
    have R4 := ((R1.set0 (.slice none 0 0)).set1 (.int .i64 0)).set2 (.int .i64 0)
    have F4 := ((F1.set (b := w.heap.size + 1) (i := 0) (by omega) (.slice none 0 0)).set (b := w.heap.size + 1) (i := 1) (by omega) (.int .i64 0)).set (b := w.heap.size + 1) (i := 2) (by omega) (.int .i64 0)
    obtain ⟨y2, y3, y4⟩ := And.intro R4.c0 (And.intro R4.c1 R4.c2)
    refine bodyPost_ret (v := .tuple #[.agg #[.slice none 0 0, .int .i64 0, .int .i64 0], .int .i64 se]) ?_ rfl (CellPost.err se HV.out F4.below)
    rw [results_cell_tmp rfl]; go_simp
end Go.Proofs.Ytkoeflafbloopaa
/- Quantised of layer 7's answers: a contract. Written by mk_bquantr.py. -/
namespace Go.Proofs.Ytkoeflafbloopaa
open Go.RowKit

theorem floor_is {sm st k : Int} (hst : 1 ≤ st) (h1 : st * k ≤ sm) (h2 : sm < st * k + st) : st * (sm / st) = st * k := by
  have h := (Int.ediv_emod_unique (a := sm) (b := st) (r := sm - st * k) (q := k) (by omega)).2 ⟨by omega, by omega, by omega⟩
  rw [h.1]
set_option maxRecDepth 100000 in
set_option maxHeartbeats 2000000 in
theorem rquant_any (p t : Int) (a : Option Addr) (xs : List Int) (ca : Nat) (b : Option Addr) (ys : List Int) (cb : Nat) (st : Int) (w : World) (hl : xs.length ≤ 140737488351232) (hl2 : ys.length ≤ 140737488351232) (ha : Sl w a xs) (hb : Sl w b ys) :
    Calls Try.prog 37 #[.agg #[.int .i64 p, .int .i64 t], .slice a xs.length ca, .slice b ys.length cb, .int .i64 st] w (CellPost (quantV p t xs ys st) w) := by
  obtain ⟨U, hU⟩ : ∃ U, (w.alloc (.cells #[.int .i64 p, .int .i64 t] 23)).alloc (.cells #[.slice none 0 0, .int .i64 0, .int .i64 0] 49) = U := ⟨_, rfl⟩
  have HF : Hid (Fb w p t U) := by rw [← hU]; exact (Fb.new w p t _).next ((Below.refl _ _).alloc (Nat.le_refl _) _)
  have HR : Hid (Bt U (w.heap.size + 1) (.slice none 0 0) (.int .i64 0) (.int .i64 0)) := by
    have h := Bt.new (w.alloc (.cells #[.int .i64 p, .int .i64 t] 23)) (.slice none 0 0) (.int .i64 0) (.int .i64 0) 49
    rw [World.size_alloc, hU] at h; exact h
  have HSU : Hid (∀ V, Fb w p t V → Calls Try.prog 16 #[.agg #[.int .i64 p, .int .i64 t], .slice a xs.length ca, .slice b ys.length cb] V fun e w' => e = .returned (.tuple #[.int .i64 (sumV p t xs ys).1, .int .i64 (sumV p t xs ys).2]) ∧ Below V.heap.size V w') := fun V h => brsum_any p t a xs ca b ys cb V hl hl2 (h.sl ha) (h.sl hb)
  have hsml := sum_small (p := p) (t := t) (xs := xs) (ys := ys)
  obtain ⟨⟨sm, se⟩, hsm⟩ : ∃ r, sumV p t xs ys = r := ⟨_, rfl⟩
  rw [hsm] at HSU hsml
  have HA := Lib.hid ha
  obtain ⟨z0, z1⟩ := And.intro HF.out.c0 HF.out.c1
  obtain ⟨z2, z3, z4, z5, z6, z7⟩ := And.intro HR.out.c0 (And.intro HR.out.c1 (And.intro HR.out.c2 (And.intro HR.out.f0 (And.intro HR.out.f1 HR.out.f2))))
  by_cases hse : se = 0
  · subst hse
    obtain ⟨hbr, _, sb1, sb2⟩ := hsml rfl
    cases hr : rangeB st 1 100
    · have HV := Lib.hid (show quantV p t xs ys st = (([], 0, 0), 7) by unfold quantV; rw [hsm, if_pos rfl, hr]; rfl)
      clear hsm ha hb hsml hbr
      go_enter Try.func37, Try.ntmps37
      go_wp2_with (first | (go_at_call 16; refine (HSU.out _ HF.out).mono ?_; rintro e w1 ⟨rfl, hb1⟩; have F1 := Fb.next HF.out hb1; have R1 := HR.out.next hb1; obtain ⟨j0, j1⟩ := And.intro F1.c0 F1.c1; obtain ⟨k2, k3, k4, k5, k6, k7⟩ := And.intro R1.c0 (And.intro R1.c1 (And.intro R1.c2 (And.intro R1.f0 (And.intro R1.f1 R1.f2))))) | (go_at_call 60; refine (bin_any _ _ _ _).mono ?_; rintro e w2 ⟨rfl, rfl⟩; rw [hr]))
      have R4 := ((R1.set0 (.slice none 0 0)).set1 (.int .i64 0)).set2 (.int .i64 0)
      have F4 := ((F1.set (b := w.heap.size + 1) (i := 0) (by omega) (.slice none 0 0)).set (b := w.heap.size + 1) (i := 1) (by omega) (.int .i64 0)).set (b := w.heap.size + 1) (i := 2) (by omega) (.int .i64 0)
      obtain ⟨y2, y3, y4⟩ := And.intro R4.c0 (And.intro R4.c1 R4.c2)
      refine bodyPost_ret (v := .tuple #[.agg #[.slice none 0 0, .int .i64 0, .int .i64 0], .int .i64 7]) ?_ rfl (CellPost.err 7 HV.out F4.below)
      rw [results_cell_tmp rfl]; go_simp
    · have hst : 1 ≤ st ∧ st ≤ 100 := by simpa [rangeB] using hr
      have hx1 : 1 ≤ xs.length := by have := brow_of hbr; omega
      have HX8 : Hid (xs.length ≤ 8) := by have := brow_of hbr; show _ ≤ _; omega
      have HQ := Lib.hid (quant_ok (sm := sm) (st := st) ⟨sb1, sb2⟩ hst).2.2.2
      have HV := Lib.hid (show quantV p t xs ys st = ((xs, st * (sm / st), st * (sm / st) + st - 1), 0) by unfold quantV; rw [hsm, if_pos rfl, hr]; rfl)
      obtain ⟨b0, o0, _, rfl, _, _⟩ := ha.at (k := 0) (by omega)
      obtain ⟨hs1, hs2⟩ := hst
      have HX1 := Lib.hid hx1
      clear hsm ha hb hx1 hbr hsml
      go_enter Try.func37, Try.ntmps37
      go_wp2_with (first | (go_at_call 16; refine (HSU.out _ HF.out).mono ?_; rintro e w1 ⟨rfl, hb1⟩; have F1 := Fb.next HF.out hb1; have R1 := HR.out.next hb1; obtain ⟨j0, j1⟩ := And.intro F1.c0 F1.c1; obtain ⟨k2, k3, k4, k5, k6, k7⟩ := And.intro R1.c0 (And.intro R1.c1 (And.intro R1.c2 (And.intro R1.f0 (And.intro R1.f1 R1.f2))))) | (go_at_call 60; refine (bin_any _ _ _ _).mono ?_; rintro e w2 ⟨rfl, rfl⟩; rw [hr]))
      have HF1 := Lib.hid F1
      have HR1 := Lib.hid R1
      have HS1 := Lib.hid (F1.sl HA.out)
      clear F1 R1 hb1
      go_loop [12] (fun v => ∃ l : Int, v = .int .i64 l ∧ (∃ k : Int, l = st * k) ∧ l ≤ 0 ∧ -124 ≤ l ∧ (l < 0 → sm < l + st)) (fun v => (intOf v + 200).toNat)
      case atStart => exact ⟨0, rfl, ⟨0, by simp⟩, by omega, by omega, fun h => by omega⟩
      case round =>
        obtain ⟨l, rfl, hk, hl0, hl1, hl2⟩ := hrel
        have HK := Lib.hid hk
        have HL2 := Lib.hid hl2
        clear hk hl2
        by_cases hlt : sm < l
        · go_wp2
          go_round
          case rel =>
            refine ⟨l - st, by go_num, ?_, by omega, by omega, fun _ => by omega⟩
            obtain ⟨k, hk⟩ := HK.out
            exact ⟨k - 1, by rw [hk, Int.mul_sub, Int.mul_one]⟩
          case measure => simp [intOf]; omega
        · have hls : l ≤ sm := by omega
          go_wp2
          go_loop [12] (fun v => ∃ l2 : Int, v = .int .i64 l2 ∧ (∃ k : Int, l2 = st * k) ∧ l2 ≤ sm ∧ -124 ≤ l2) (fun v => (sm - intOf v + 200).toNat)
          case atStart => exact ⟨l, rfl, HK.out, hls, hl1⟩
          case round =>
            clear hls hlt hl0 hl1 HL2 HK
            obtain ⟨l2, rfl, hk2, hm1, hm2⟩ := hrel
            have HK2 := Lib.hid hk2
            clear hk2
            by_cases hlt2 : l2 + st ≤ sm
            · go_wp2
              go_round
              case rel =>
                refine ⟨l2 + st, by go_num, ?_, by omega, by omega⟩
                obtain ⟨k, hk⟩ := HK2.out
                exact ⟨k + 1, by rw [hk, Int.mul_add, Int.mul_one]⟩
              case measure => simp [intOf]; omega
            · have hfl : st * (sm / st) = l2 := by
                obtain ⟨k, hk⟩ := HK2.out
                rw [hk]; exact floor_is hs1 (by omega) (by omega)
              have hq := HQ.out
              have hv := HV.out
              rw [hfl] at hq hv
              have HVL := Lib.hid hv
              obtain ⟨hq1, hq2⟩ : -100 ≤ l2 ∧ l2 + st - 1 ≤ 100 := by simp [limB] at hq; omega
              have HOE := Lib.hid (own_lit0 w1)
              have HBE : Hid (Below w1.heap.size w1 (w1.alloc (.cells #[] 3))) := (Below.refl _ _).alloc (Nat.le_refl _) _
              clear hq hv hfl HQ HV HK2
              go_wp2_with (at_builtin; refine wpList_catS rfl (.tmp 52) (.tmp 53) rfl w1.heap.size _ [] b0 o0 xs ca _ rfl rfl HOE.out (HS1.out.below HBE.out) (by have := HX8.out; simp; omega) HBE.out.size ?_; intro v1 w5 ho1 hb1; rw [List.nil_append] at ho1; have hbw5 := HBE.out.trans hb1; obtain ⟨g, gc, rfl, hg⟩ := ho1.shape HX1.out; have HO1 := Lib.hid (OwnI.sl ho1); have HGG : Hid (w.heap.size + 1 < g) := (by have := HR1.out.lt; have := (OwnI.lt ho1).2; show _ < _; omega); have F5 := HF1.out.next hbw5; have R5 := HR1.out.next hbw5; obtain ⟨n2, n3, n4, n5, n6, n7⟩ := And.intro R5.c0 (And.intro R5.c1 (And.intro R5.c2 (And.intro R5.f0 (And.intro R5.f1 R5.f2)))); clear ho1 hbw5 hb1 hg)
              have R4 := ((R5.set0 (.slice (some ⟨g, 0, none⟩) xs.length gc)).set1 (.int .i64 l2)).set2 (.int .i64 (l2 + st - 1))
              have F4 := ((F5.set (b := w.heap.size + 1) (i := 0) (by omega) (.slice (some ⟨g, 0, none⟩) xs.length gc)).set (b := w.heap.size + 1) (i := 1) (by omega) (.int .i64 l2)).set (b := w.heap.size + 1) (i := 2) (by omega) (.int .i64 (l2 + st - 1))
              obtain ⟨y2, y3, y4⟩ := And.intro R4.c0 (And.intro R4.c1 R4.c2)
              have hne : ∀ ad : Addr, some (⟨g, 0, none⟩ : Addr) = some ad → ad.block ≠ w.heap.size + 1 := fun ad e => by cases e; have := HGG.out; show g ≠ _; omega
              refine bodyPost_ret (v := .tuple #[.agg #[.slice (some ⟨g, 0, none⟩) xs.length gc, .int .i64 l2, .int .i64 (l2 + st - 1)], .int .i64 0]) ?_ rfl ⟨some ⟨g, 0, none⟩, gc, by rw [HVL.out], ?_, F4.below⟩
              · rw [results_cell_tmp rfl]; go_simp
              · rw [HVL.out]
                exact sl_apart (sl_apart (sl_apart HO1.out hne _) hne _) hne _
  · have HV := Lib.hid (show quantV p t xs ys st = (([], 0, 0), se) by unfold quantV; rw [hsm]; exact if_neg hse)
    clear hsm ha hb hsml
    go_enter Try.func37, Try.ntmps37
    go_wp2_with (go_at_call 16; refine (HSU.out _ HF.out).mono ?_; rintro e w1 ⟨rfl, hb1⟩; have F1 := Fb.next HF.out hb1; have R1 := HR.out.next hb1; obtain ⟨j0, j1⟩ := And.intro F1.c0 F1.c1; obtain ⟨k2, k3, k4, k5, k6, k7⟩ := And.intro R1.c0 (And.intro R1.c1 (And.intro R1.c2 (And.intro R1.f0 (And.intro R1.f1 R1.f2)))))
    have R4 := ((R1.set0 (.slice none 0 0)).set1 (.int .i64 0)).set2 (.int .i64 0)
    have F4 := ((F1.set (b := w.heap.size + 1) (i := 0) (by omega) (.slice none 0 0)).set (b := w.heap.size + 1) (i := 1) (by omega) (.int .i64 0)).set (b := w.heap.size + 1) (i := 2) (by omega) (.int .i64 0)
    obtain ⟨y2, y3, y4⟩ := And.intro R4.c0 (And.intro R4.c1 R4.c2)
    refine bodyPost_ret (v := .tuple #[.agg #[.slice none 0 0, .int .i64 0, .int .i64 0], .int .i64 se]) ?_ rfl (CellPost.err se HV.out F4.below)
    rw [results_cell_tmp rfl]; go_simp
end Go.Proofs.Ytkoeflafbloopaa
/- BitOwn: the walk. Written by mk_bitown.py. -/
namespace Go.Proofs.Ytkoeflafbloopaa.bitOwn
open Go.RowKit

theorem quant_len (p t : Int) (xs x : List Int) (st : Int) : (quantV p t xs x st).1.1.length ≤ xs.length := by
  unfold quantV; split
  · split <;> simp
  · simp
theorem bit_len (p t : Int) (xs x : List Int) (th : Int) : (bitV p t xs x th).1.1.length ≤ xs.length := by
  unfold bitV; split
  · split <;> simp
  · simp
set_option maxRecDepth 1000000 in
set_option maxHeartbeats 3200000 in
theorem walk (x0 y0 : Int) (b1 : Option Addr) (xs1 : List Int) (c1 : Nat) (b2 : Option Addr) (xs2 : List Int) (c2 : Nat) (m3 : Int) (m4 : Int) (w : World) (_rx0 : I64 x0) (_ry0 : I64 y0) (h1 : Sl w b1 xs1) (l1 : xs1.length ≤ 9223372036854775807) (_r1 : ∀ x ∈ xs1, I64 x) (h2 : Sl w b2 xs2) (l2 : xs2.length ≤ 9223372036854775807) (_r2 : ∀ x ∈ xs2, I64 x) (_r3 : I64 m3) (_r4 : I64 m4) :
    Calls Try.prog 6 #[.agg #[.int .i64 x0, .int .i64 y0], .slice b1 xs1.length c1, .slice b2 xs2.length c2, .int .i64 m3, .int .i64 m4] w fun e w' => e = .returned (.bool true) ∧ Below w.heap.size w w' := by
  have HF := Lib.hid (Fb.new w x0 y0 23)
  have HAW : Hid (∀ V, Fb w x0 y0 V → Calls Try.prog 12 #[] V fun e w' => e = .returned (.bool true) ∧ Fb w x0 y0 w') := fun V h => (awake7_any V).mono fun e w' ⟨k1, k2⟩ => ⟨k1, h.next k2⟩
  have HFE : Hid (∀ V, Fb w x0 y0 V → Calls Try.prog 10 #[.agg #[.int .i64 x0, .int .i64 y0], .int .i64 70000] V fun e w' => e = .returned (.bool (fewB x0 y0 70000)) ∧ Fb w x0 y0 w') := fun V h => (few7_any x0 y0 70000 V).mono fun e w' ⟨k1, k2⟩ => ⟨k1, h.next k2⟩
  by_cases hskip : fewB x0 y0 70000 = true ∧ ¬ (20 : Int) < (xs1.length : Int) ∧ ¬ (20 : Int) < (xs2.length : Int)
  case neg =>
    cases hfe : fewB x0 y0 70000
    · rw [hfe] at HFE
      clear h1 h2 hskip
      go_enter Try.func6, Try.ntmps6
      go_wp2_with (first
        | (go_at_call 10; refine (HFE.out _ HF.out).mono ?_; rintro e w0 ⟨rfl, F0⟩; obtain ⟨a00, a01⟩ := And.intro F0.c0 F0.c1)
        | (go_at_call 12; refine (HAW.out _ F0).mono ?_; rintro e w9 ⟨rfl, F9⟩))
      all_goals go_ret
      all_goals exact ⟨rfl, F9.below⟩
    · rw [hfe] at HFE
      by_cases hg1 : (20 : Int) < (xs1.length : Int)
      · clear h1 h2 hskip
        go_enter Try.func6, Try.ntmps6
        go_wp2_with (first
          | (go_at_call 10; refine (HFE.out _ HF.out).mono ?_; rintro e w0 ⟨rfl, F0⟩; obtain ⟨a00, a01⟩ := And.intro F0.c0 F0.c1)
          | (go_at_call 12; refine (HAW.out _ F0).mono ?_; rintro e w9 ⟨rfl, F9⟩))
        all_goals go_ret
        all_goals exact ⟨rfl, F9.below⟩
      · have hg2 : (20 : Int) < (xs2.length : Int) := by
          by_cases h : (20 : Int) < (xs2.length : Int)
          · exact h
          · exact absurd ⟨hfe, hg1, h⟩ hskip
        clear h1 h2 hskip
        go_enter Try.func6, Try.ntmps6
        go_wp2_with (first
          | (go_at_call 10; refine (HFE.out _ HF.out).mono ?_; rintro e w0 ⟨rfl, F0⟩; obtain ⟨a00, a01⟩ := And.intro F0.c0 F0.c1)
          | (go_at_call 12; refine (HAW.out _ F0).mono ?_; rintro e w9 ⟨rfl, F9⟩))
        all_goals go_ret
        all_goals exact ⟨rfl, F9.below⟩
  case pos =>
    obtain ⟨hfe, hg1, hg2⟩ := hskip
    rw [hfe] at HFE
    have hqf := quant_fits (p := x0) (t := y0) (xs := xs1) (x := xs2) (st := m3)
    have hbf := bit_fits (p := x0) (t := y0) (xs := xs1) (x := xs2) (th := m4)
    have hql := quant_len x0 y0 xs1 xs2 m3
    have hbl := bit_len x0 y0 xs1 xs2 m4
    obtain ⟨⟨⟨qr, ql, qh⟩, qe⟩, hqv⟩ : ∃ r, quantV x0 y0 xs1 xs2 m3 = r := ⟨_, rfl⟩
    obtain ⟨⟨⟨br, bl, bh⟩, be⟩, hbv⟩ : ∃ r, bitV x0 y0 xs1 xs2 m4 = r := ⟨_, rfl⟩
    rw [hqv] at hqf hql
    rw [hbv] at hbf hbl
    dsimp only at hqf hbf hql hbl
    have HQ1 : Hid (∀ V, Fb w x0 y0 V → Calls Try.prog 36 #[.agg #[.int .i64 x0, .int .i64 y0], .slice b1 xs1.length c1, .slice b2 xs2.length c2, .int .i64 m3] V fun e w' => ∃ ra rc, e = .returned (.tuple #[.agg #[.slice ra qr.length rc, .int .i64 ql, .int .i64 qh], .int .i64 qe]) ∧ Sl w' ra qr ∧ Below V.heap.size V w') := fun V h => by
      have k := bquant_any x0 y0 b1 xs1 c1 b2 xs2 c2 m3 V (by omega) (by omega) (h.sl h1) (h.sl h2)
      rw [hqv] at k
      exact k
    have HQ2 : Hid (∀ V, Fb w x0 y0 V → Calls Try.prog 37 #[.agg #[.int .i64 x0, .int .i64 y0], .slice b1 xs1.length c1, .slice b2 xs2.length c2, .int .i64 m3] V fun e w' => ∃ ra rc, e = .returned (.tuple #[.agg #[.slice ra qr.length rc, .int .i64 ql, .int .i64 qh], .int .i64 qe]) ∧ Sl w' ra qr ∧ Below V.heap.size V w') := fun V h => by
      have k := rquant_any x0 y0 b1 xs1 c1 b2 xs2 c2 m3 V (by omega) (by omega) (h.sl h1) (h.sl h2)
      rw [hqv] at k
      exact k
    have HB1 : Hid (∀ V, Fb w x0 y0 V → Calls Try.prog 38 #[.agg #[.int .i64 x0, .int .i64 y0], .slice b1 xs1.length c1, .slice b2 xs2.length c2, .int .i64 m4] V fun e w' => ∃ ra rc, e = .returned (.tuple #[.agg #[.slice ra br.length rc, .int .i64 bl, .int .i64 bh], .int .i64 be]) ∧ Sl w' ra br ∧ Below V.heap.size V w') := fun V h => by
      have k := bbit_any x0 y0 b1 xs1 c1 b2 xs2 c2 m4 V (by omega) (by omega) (h.sl h1) (h.sl h2)
      rw [hbv] at k
      exact k
    have HB2 : Hid (∀ V, Fb w x0 y0 V → Calls Try.prog 39 #[.agg #[.int .i64 x0, .int .i64 y0], .slice b1 xs1.length c1, .slice b2 xs2.length c2, .int .i64 m4] V fun e w' => ∃ ra rc, e = .returned (.tuple #[.agg #[.slice ra br.length rc, .int .i64 bl, .int .i64 bh], .int .i64 be]) ∧ Sl w' ra br ∧ Below V.heap.size V w') := fun V h => by
      have k := rbit_any x0 y0 b1 xs1 c1 b2 xs2 c2 m4 V (by omega) (by omega) (h.sl h1) (h.sl h2)
      rw [hbv] at k
      exact k
    have hq20 : qr.length ≤ 140737488351232 := by omega
    have hb20 : br.length ≤ 140737488351232 := by omega
    have HSA : Hid (∀ W ra rc rb rd, Sl W ra qr → Sl W rb qr → Calls Try.prog 40 #[.agg #[.slice ra qr.length rc, .int .i64 ql, .int .i64 qh], .agg #[.slice rb qr.length rd, .int .i64 ql, .int .i64 qh]] W fun e w' => e = .returned (.bool true) ∧ Below W.heap.size W w') := fun W ra rc rb rd k1 k2 => samecell_any ra qr rc rb rd ql qh W hq20 k1 k2
    have HSB : Hid (∀ W ra rc rb rd, Sl W ra br → Sl W rb br → Calls Try.prog 40 #[.agg #[.slice ra br.length rc, .int .i64 bl, .int .i64 bh], .agg #[.slice rb br.length rd, .int .i64 bl, .int .i64 bh]] W fun e w' => e = .returned (.bool true) ∧ Below W.heap.size W w') := fun W ra rc rb rd k1 k2 => samecell_any ra br rc rb rd bl bh W hb20 k1 k2
    have H2 := Lib.hid h2
    clear h1 h2 hqv hbv hfe
    by_cases hqe : qe = 0
    · subst hqe
      have hqf := hqf rfl
      have HFQ : Hid (∀ W ra rc, Fb w x0 y0 W → Sl W ra qr → Calls Try.prog 23 #[.agg #[.int .i64 x0, .int .i64 y0], .slice (some ⟨W.heap.size, 0, none⟩) 1 1, .slice b2 xs2.length c2] (W.alloc (.cells #[.slice ra qr.length rc, .int .i64 ql, .int .i64 qh] 49)) fun e w' => e = .returned (.tuple #[.bool true, .int .i64 0]) ∧ Below W.heap.size W w') := fun W ra rc hf hs => by
        have hA : Below W.heap.size W (W.alloc (.cells #[.slice ra qr.length rc, .int .i64 ql, .int .i64 qh] 49)) := (Below.refl _ _).alloc (Nat.le_refl _) _
        have k := bFits_any x0 y0 (some ⟨W.heap.size, 0, none⟩) [(qr, ql, qh)] 1 b2 xs2 c2 _ (by simp) (fun c hc => by simp at hc; subst hc; exact hq20) (by omega) (cs_new1 W ra qr rc ql qh 49 hs) ((hf.sl H2.out).below hA)
        rw [hqf] at k
        exact k.mono fun e w' ⟨k1, k2⟩ => ⟨k1, hA.trans (k2.mono hA.size)⟩
      by_cases hbe : be = 0
      · subst hbe
        have hbf := hbf rfl
        have HFB : Hid (∀ W ra rc, Fb w x0 y0 W → Sl W ra br → Calls Try.prog 23 #[.agg #[.int .i64 x0, .int .i64 y0], .slice (some ⟨W.heap.size, 0, none⟩) 1 1, .slice b2 xs2.length c2] (W.alloc (.cells #[.slice ra br.length rc, .int .i64 bl, .int .i64 bh] 49)) fun e w' => e = .returned (.tuple #[.bool true, .int .i64 0]) ∧ Below W.heap.size W w') := fun W ra rc hf hs => by
          have hA : Below W.heap.size W (W.alloc (.cells #[.slice ra br.length rc, .int .i64 bl, .int .i64 bh] 49)) := (Below.refl _ _).alloc (Nat.le_refl _) _
          have k := bFits_any x0 y0 (some ⟨W.heap.size, 0, none⟩) [(br, bl, bh)] 1 b2 xs2 c2 _ (by simp) (fun c hc => by simp at hc; subst hc; exact hb20) (by omega) (cs_new1 W ra br rc bl bh 49 hs) ((hf.sl H2.out).below hA)
          rw [hbf] at k
          exact k.mono fun e w' ⟨k1, k2⟩ => ⟨k1, hA.trans (k2.mono hA.size)⟩
        clear hqf hbf hql hbl hq20 hb20
        go_enter Try.func6, Try.ntmps6
        go_wp2_with (first
          | (go_at_call 10; refine (HFE.out _ HF.out).mono ?_; rintro e w0 ⟨rfl, F0⟩; obtain ⟨a00, a01⟩ := And.intro F0.c0 F0.c1)
          | (go_at_call 36; refine (HQ1.out _ F0).mono ?_; rintro e w1 ⟨ra1, rc1, rfl, hs1, hb1⟩; have hA1 : Below w1.heap.size w1 (w1.alloc (.cells #[.slice ra1 qr.length rc1, .int .i64 ql, .int .i64 qh] 49)) := (Below.refl _ _).alloc (Nat.le_refl _) _; have F1 := (F0.next hb1).next hA1; have C1 := Cb.new w1 ra1 qr.length rc1 ql qh 49; have S1 := hs1.below hA1; obtain ⟨a10, a11⟩ := And.intro F1.c0 F1.c1)
          | (go_at_call 37; refine (HQ2.out _ F1).mono ?_; rintro e w2 ⟨ra2, rc2, rfl, hs2, hb2⟩; have hA2 : Below w2.heap.size w2 (w2.alloc (.cells #[.slice ra2 qr.length rc2, .int .i64 ql, .int .i64 qh] 49)) := (Below.refl _ _).alloc (Nat.le_refl _) _; have F2 := (F1.next hb2).next hA2; have C2 := Cb.new w2 ra2 qr.length rc2 ql qh 49; have S2 := hs2.below hA2; have C1 := (C1.next hb2).next hA2; have S1 := (S1.below hb2).below hA2; obtain ⟨a20, a21⟩ := And.intro F2.c0 F2.c1)
          | (go_at_call 38; refine (HB1.out _ F2).mono ?_; rintro e w3 ⟨ra3, rc3, rfl, hs3, hb3⟩; have hA3 : Below w3.heap.size w3 (w3.alloc (.cells #[.slice ra3 br.length rc3, .int .i64 bl, .int .i64 bh] 49)) := (Below.refl _ _).alloc (Nat.le_refl _) _; have F3 := (F2.next hb3).next hA3; have C3 := Cb.new w3 ra3 br.length rc3 bl bh 49; have S3 := hs3.below hA3; have C1 := (C1.next hb3).next hA3; have S1 := (S1.below hb3).below hA3; have C2 := (C2.next hb3).next hA3; have S2 := (S2.below hb3).below hA3; obtain ⟨a30, a31⟩ := And.intro F3.c0 F3.c1)
          | (go_at_call 39; refine (HB2.out _ F3).mono ?_; rintro e w4 ⟨ra4, rc4, rfl, hs4, hb4⟩; have hA4 : Below w4.heap.size w4 (w4.alloc (.cells #[.slice ra4 br.length rc4, .int .i64 bl, .int .i64 bh] 49)) := (Below.refl _ _).alloc (Nat.le_refl _) _; have F4 := (F3.next hb4).next hA4; have C4 := Cb.new w4 ra4 br.length rc4 bl bh 49; have S4 := hs4.below hA4; have C1 := (C1.next hb4).next hA4; have S1 := (S1.below hb4).below hA4; have C2 := (C2.next hb4).next hA4; have S2 := (S2.below hb4).below hA4; have C3 := (C3.next hb4).next hA4; have S3 := (S3.below hb4).below hA4; obtain ⟨a40, a41⟩ := And.intro F4.c0 F4.c1; obtain ⟨d10, d11, d12⟩ := And.intro C1.c0 (And.intro C1.c1 C1.c2); obtain ⟨d20, d21, d22⟩ := And.intro C2.c0 (And.intro C2.c1 C2.c2); obtain ⟨d30, d31, d32⟩ := And.intro C3.c0 (And.intro C3.c1 C3.c2); obtain ⟨d40, d41, d42⟩ := And.intro C4.c0 (And.intro C4.c1 C4.c2))
          | (go_at_call 40; with_reducible refine (HSA.out _ ra1 rc1 ra2 rc2 S1 S2).mono ?_; rintro e w5 ⟨rfl, hb5⟩; have F5 := F4.next hb5; obtain ⟨a50, a51⟩ := And.intro F5.c0 F5.c1; have C1x := C1.next hb5; have S1x := S1.below hb5; obtain ⟨e1x0, e1x1, e1x2⟩ := And.intro C1x.c0 (And.intro C1x.c1 C1x.c2); have C3x := C3.next hb5; have S3x := S3.below hb5; obtain ⟨e3x0, e3x1, e3x2⟩ := And.intro C3x.c0 (And.intro C3x.c1 C3x.c2); have C4x := C4.next hb5; have S4x := S4.below hb5; obtain ⟨e4x0, e4x1, e4x2⟩ := And.intro C4x.c0 (And.intro C4x.c1 C4x.c2))
          | (go_at_call 40; with_reducible refine (HSB.out _ ra3 rc3 ra4 rc4 S3x S4x).mono ?_; rintro e w6 ⟨rfl, hb6⟩; have F6 := F5.next hb6; obtain ⟨a60, a61⟩ := And.intro F6.c0 F6.c1; have C1y := C1x.next hb6; have S1y := S1x.below hb6; obtain ⟨e1y0, e1y1, e1y2⟩ := And.intro C1y.c0 (And.intro C1y.c1 C1y.c2); have C3y := C3x.next hb6; have S3y := S3x.below hb6; obtain ⟨e3y0, e3y1, e3y2⟩ := And.intro C3y.c0 (And.intro C3y.c1 C3y.c2))
          | (go_at_call 23; with_reducible refine (HFQ.out _ ra1 rc1 F6 S1y).mono ?_; rintro e w7 ⟨rfl, hb7⟩; have F7 := F6.next hb7; obtain ⟨a70, a71⟩ := And.intro F7.c0 F7.c1; have C3z := C3y.next hb7; have S3z := S3y.below hb7; obtain ⟨e3z0, e3z1, e3z2⟩ := And.intro C3z.c0 (And.intro C3z.c1 C3z.c2))
          | (go_at_call 23; with_reducible refine (HFB.out _ ra3 rc3 F7 S3z).mono ?_; rintro e w8 ⟨rfl, hb8⟩; have F8 := F7.next hb8)
          | (go_at_call 12; refine (HAW.out _ F8).mono ?_; rintro e w9 ⟨rfl, F9⟩))
        all_goals go_ret
        all_goals exact ⟨rfl, F9.below⟩
      · clear hqf hbf hql hbl hq20 hb20
        go_enter Try.func6, Try.ntmps6
        go_wp2_with (first
          | (go_at_call 10; refine (HFE.out _ HF.out).mono ?_; rintro e w0 ⟨rfl, F0⟩; obtain ⟨a00, a01⟩ := And.intro F0.c0 F0.c1)
          | (go_at_call 36; refine (HQ1.out _ F0).mono ?_; rintro e w1 ⟨ra1, rc1, rfl, hs1, hb1⟩; have hA1 : Below w1.heap.size w1 (w1.alloc (.cells #[.slice ra1 qr.length rc1, .int .i64 ql, .int .i64 qh] 49)) := (Below.refl _ _).alloc (Nat.le_refl _) _; have F1 := (F0.next hb1).next hA1; have C1 := Cb.new w1 ra1 qr.length rc1 ql qh 49; have S1 := hs1.below hA1; obtain ⟨a10, a11⟩ := And.intro F1.c0 F1.c1)
          | (go_at_call 37; refine (HQ2.out _ F1).mono ?_; rintro e w2 ⟨ra2, rc2, rfl, hs2, hb2⟩; have hA2 : Below w2.heap.size w2 (w2.alloc (.cells #[.slice ra2 qr.length rc2, .int .i64 ql, .int .i64 qh] 49)) := (Below.refl _ _).alloc (Nat.le_refl _) _; have F2 := (F1.next hb2).next hA2; have C2 := Cb.new w2 ra2 qr.length rc2 ql qh 49; have S2 := hs2.below hA2; have C1 := (C1.next hb2).next hA2; have S1 := (S1.below hb2).below hA2; obtain ⟨a20, a21⟩ := And.intro F2.c0 F2.c1)
          | (go_at_call 38; refine (HB1.out _ F2).mono ?_; rintro e w3 ⟨ra3, rc3, rfl, hs3, hb3⟩; have hA3 : Below w3.heap.size w3 (w3.alloc (.cells #[.slice ra3 br.length rc3, .int .i64 bl, .int .i64 bh] 49)) := (Below.refl _ _).alloc (Nat.le_refl _) _; have F3 := (F2.next hb3).next hA3; have C3 := Cb.new w3 ra3 br.length rc3 bl bh 49; have S3 := hs3.below hA3; have C1 := (C1.next hb3).next hA3; have S1 := (S1.below hb3).below hA3; have C2 := (C2.next hb3).next hA3; have S2 := (S2.below hb3).below hA3; obtain ⟨a30, a31⟩ := And.intro F3.c0 F3.c1)
          | (go_at_call 39; refine (HB2.out _ F3).mono ?_; rintro e w4 ⟨ra4, rc4, rfl, hs4, hb4⟩; have hA4 : Below w4.heap.size w4 (w4.alloc (.cells #[.slice ra4 br.length rc4, .int .i64 bl, .int .i64 bh] 49)) := (Below.refl _ _).alloc (Nat.le_refl _) _; have F4 := (F3.next hb4).next hA4; have C4 := Cb.new w4 ra4 br.length rc4 bl bh 49; have S4 := hs4.below hA4; have C1 := (C1.next hb4).next hA4; have S1 := (S1.below hb4).below hA4; have C2 := (C2.next hb4).next hA4; have S2 := (S2.below hb4).below hA4; have C3 := (C3.next hb4).next hA4; have S3 := (S3.below hb4).below hA4; obtain ⟨a40, a41⟩ := And.intro F4.c0 F4.c1; obtain ⟨d10, d11, d12⟩ := And.intro C1.c0 (And.intro C1.c1 C1.c2); obtain ⟨d20, d21, d22⟩ := And.intro C2.c0 (And.intro C2.c1 C2.c2); obtain ⟨d30, d31, d32⟩ := And.intro C3.c0 (And.intro C3.c1 C3.c2); obtain ⟨d40, d41, d42⟩ := And.intro C4.c0 (And.intro C4.c1 C4.c2))
          | (go_at_call 40; with_reducible refine (HSA.out _ ra1 rc1 ra2 rc2 S1 S2).mono ?_; rintro e w5 ⟨rfl, hb5⟩; have F5 := F4.next hb5; obtain ⟨a50, a51⟩ := And.intro F5.c0 F5.c1; have C1x := C1.next hb5; have S1x := S1.below hb5; obtain ⟨e1x0, e1x1, e1x2⟩ := And.intro C1x.c0 (And.intro C1x.c1 C1x.c2); have C3x := C3.next hb5; have S3x := S3.below hb5; obtain ⟨e3x0, e3x1, e3x2⟩ := And.intro C3x.c0 (And.intro C3x.c1 C3x.c2); have C4x := C4.next hb5; have S4x := S4.below hb5; obtain ⟨e4x0, e4x1, e4x2⟩ := And.intro C4x.c0 (And.intro C4x.c1 C4x.c2))
          | (go_at_call 40; with_reducible refine (HSB.out _ ra3 rc3 ra4 rc4 S3x S4x).mono ?_; rintro e w6 ⟨rfl, hb6⟩; have F6 := F5.next hb6; obtain ⟨a60, a61⟩ := And.intro F6.c0 F6.c1; have C1y := C1x.next hb6; have S1y := S1x.below hb6; obtain ⟨e1y0, e1y1, e1y2⟩ := And.intro C1y.c0 (And.intro C1y.c1 C1y.c2); have C3y := C3x.next hb6; have S3y := S3x.below hb6; obtain ⟨e3y0, e3y1, e3y2⟩ := And.intro C3y.c0 (And.intro C3y.c1 C3y.c2))
          | (go_at_call 23; with_reducible refine (HFQ.out _ ra1 rc1 F6 S1y).mono ?_; rintro e w7 ⟨rfl, hb7⟩; have F7 := F6.next hb7; obtain ⟨a70, a71⟩ := And.intro F7.c0 F7.c1; have C3z := C3y.next hb7; have S3z := S3y.below hb7; obtain ⟨e3z0, e3z1, e3z2⟩ := And.intro C3z.c0 (And.intro C3z.c1 C3z.c2))
          | (go_at_call 12; refine (HAW.out _ F7).mono ?_; rintro e w9 ⟨rfl, F9⟩))
        all_goals go_ret
        all_goals exact ⟨rfl, F9.below⟩
    · by_cases hbe : be = 0
      · subst hbe
        have hbf := hbf rfl
        have HFB : Hid (∀ W ra rc, Fb w x0 y0 W → Sl W ra br → Calls Try.prog 23 #[.agg #[.int .i64 x0, .int .i64 y0], .slice (some ⟨W.heap.size, 0, none⟩) 1 1, .slice b2 xs2.length c2] (W.alloc (.cells #[.slice ra br.length rc, .int .i64 bl, .int .i64 bh] 49)) fun e w' => e = .returned (.tuple #[.bool true, .int .i64 0]) ∧ Below W.heap.size W w') := fun W ra rc hf hs => by
          have hA : Below W.heap.size W (W.alloc (.cells #[.slice ra br.length rc, .int .i64 bl, .int .i64 bh] 49)) := (Below.refl _ _).alloc (Nat.le_refl _) _
          have k := bFits_any x0 y0 (some ⟨W.heap.size, 0, none⟩) [(br, bl, bh)] 1 b2 xs2 c2 _ (by simp) (fun c hc => by simp at hc; subst hc; exact hb20) (by omega) (cs_new1 W ra br rc bl bh 49 hs) ((hf.sl H2.out).below hA)
          rw [hbf] at k
          exact k.mono fun e w' ⟨k1, k2⟩ => ⟨k1, hA.trans (k2.mono hA.size)⟩
        clear hqf hbf hql hbl hq20 hb20
        go_enter Try.func6, Try.ntmps6
        go_wp2_with (first
          | (go_at_call 10; refine (HFE.out _ HF.out).mono ?_; rintro e w0 ⟨rfl, F0⟩; obtain ⟨a00, a01⟩ := And.intro F0.c0 F0.c1)
          | (go_at_call 36; refine (HQ1.out _ F0).mono ?_; rintro e w1 ⟨ra1, rc1, rfl, hs1, hb1⟩; have hA1 : Below w1.heap.size w1 (w1.alloc (.cells #[.slice ra1 qr.length rc1, .int .i64 ql, .int .i64 qh] 49)) := (Below.refl _ _).alloc (Nat.le_refl _) _; have F1 := (F0.next hb1).next hA1; have C1 := Cb.new w1 ra1 qr.length rc1 ql qh 49; have S1 := hs1.below hA1; obtain ⟨a10, a11⟩ := And.intro F1.c0 F1.c1)
          | (go_at_call 37; refine (HQ2.out _ F1).mono ?_; rintro e w2 ⟨ra2, rc2, rfl, hs2, hb2⟩; have hA2 : Below w2.heap.size w2 (w2.alloc (.cells #[.slice ra2 qr.length rc2, .int .i64 ql, .int .i64 qh] 49)) := (Below.refl _ _).alloc (Nat.le_refl _) _; have F2 := (F1.next hb2).next hA2; have C2 := Cb.new w2 ra2 qr.length rc2 ql qh 49; have S2 := hs2.below hA2; have C1 := (C1.next hb2).next hA2; have S1 := (S1.below hb2).below hA2; obtain ⟨a20, a21⟩ := And.intro F2.c0 F2.c1)
          | (go_at_call 38; refine (HB1.out _ F2).mono ?_; rintro e w3 ⟨ra3, rc3, rfl, hs3, hb3⟩; have hA3 : Below w3.heap.size w3 (w3.alloc (.cells #[.slice ra3 br.length rc3, .int .i64 bl, .int .i64 bh] 49)) := (Below.refl _ _).alloc (Nat.le_refl _) _; have F3 := (F2.next hb3).next hA3; have C3 := Cb.new w3 ra3 br.length rc3 bl bh 49; have S3 := hs3.below hA3; have C1 := (C1.next hb3).next hA3; have S1 := (S1.below hb3).below hA3; have C2 := (C2.next hb3).next hA3; have S2 := (S2.below hb3).below hA3; obtain ⟨a30, a31⟩ := And.intro F3.c0 F3.c1)
          | (go_at_call 39; refine (HB2.out _ F3).mono ?_; rintro e w4 ⟨ra4, rc4, rfl, hs4, hb4⟩; have hA4 : Below w4.heap.size w4 (w4.alloc (.cells #[.slice ra4 br.length rc4, .int .i64 bl, .int .i64 bh] 49)) := (Below.refl _ _).alloc (Nat.le_refl _) _; have F4 := (F3.next hb4).next hA4; have C4 := Cb.new w4 ra4 br.length rc4 bl bh 49; have S4 := hs4.below hA4; have C1 := (C1.next hb4).next hA4; have S1 := (S1.below hb4).below hA4; have C2 := (C2.next hb4).next hA4; have S2 := (S2.below hb4).below hA4; have C3 := (C3.next hb4).next hA4; have S3 := (S3.below hb4).below hA4; obtain ⟨a40, a41⟩ := And.intro F4.c0 F4.c1; obtain ⟨d10, d11, d12⟩ := And.intro C1.c0 (And.intro C1.c1 C1.c2); obtain ⟨d20, d21, d22⟩ := And.intro C2.c0 (And.intro C2.c1 C2.c2); obtain ⟨d30, d31, d32⟩ := And.intro C3.c0 (And.intro C3.c1 C3.c2); obtain ⟨d40, d41, d42⟩ := And.intro C4.c0 (And.intro C4.c1 C4.c2))
          | (go_at_call 40; with_reducible refine (HSA.out _ ra1 rc1 ra2 rc2 S1 S2).mono ?_; rintro e w5 ⟨rfl, hb5⟩; have F5 := F4.next hb5; obtain ⟨a50, a51⟩ := And.intro F5.c0 F5.c1; have C1x := C1.next hb5; have S1x := S1.below hb5; obtain ⟨e1x0, e1x1, e1x2⟩ := And.intro C1x.c0 (And.intro C1x.c1 C1x.c2); have C3x := C3.next hb5; have S3x := S3.below hb5; obtain ⟨e3x0, e3x1, e3x2⟩ := And.intro C3x.c0 (And.intro C3x.c1 C3x.c2); have C4x := C4.next hb5; have S4x := S4.below hb5; obtain ⟨e4x0, e4x1, e4x2⟩ := And.intro C4x.c0 (And.intro C4x.c1 C4x.c2))
          | (go_at_call 40; with_reducible refine (HSB.out _ ra3 rc3 ra4 rc4 S3x S4x).mono ?_; rintro e w6 ⟨rfl, hb6⟩; have F6 := F5.next hb6; obtain ⟨a60, a61⟩ := And.intro F6.c0 F6.c1; have C1y := C1x.next hb6; have S1y := S1x.below hb6; obtain ⟨e1y0, e1y1, e1y2⟩ := And.intro C1y.c0 (And.intro C1y.c1 C1y.c2); have C3y := C3x.next hb6; have S3y := S3x.below hb6; obtain ⟨e3y0, e3y1, e3y2⟩ := And.intro C3y.c0 (And.intro C3y.c1 C3y.c2))
          | (go_at_call 23; with_reducible refine (HFB.out _ ra3 rc3 F6 S3y).mono ?_; rintro e w8 ⟨rfl, hb8⟩; have F8 := F6.next hb8)
          | (go_at_call 12; refine (HAW.out _ F8).mono ?_; rintro e w9 ⟨rfl, F9⟩))
        all_goals go_ret
        all_goals exact ⟨rfl, F9.below⟩
      · clear hqf hbf hql hbl hq20 hb20
        go_enter Try.func6, Try.ntmps6
        go_wp2_with (first
          | (go_at_call 10; refine (HFE.out _ HF.out).mono ?_; rintro e w0 ⟨rfl, F0⟩; obtain ⟨a00, a01⟩ := And.intro F0.c0 F0.c1)
          | (go_at_call 36; refine (HQ1.out _ F0).mono ?_; rintro e w1 ⟨ra1, rc1, rfl, hs1, hb1⟩; have hA1 : Below w1.heap.size w1 (w1.alloc (.cells #[.slice ra1 qr.length rc1, .int .i64 ql, .int .i64 qh] 49)) := (Below.refl _ _).alloc (Nat.le_refl _) _; have F1 := (F0.next hb1).next hA1; have C1 := Cb.new w1 ra1 qr.length rc1 ql qh 49; have S1 := hs1.below hA1; obtain ⟨a10, a11⟩ := And.intro F1.c0 F1.c1)
          | (go_at_call 37; refine (HQ2.out _ F1).mono ?_; rintro e w2 ⟨ra2, rc2, rfl, hs2, hb2⟩; have hA2 : Below w2.heap.size w2 (w2.alloc (.cells #[.slice ra2 qr.length rc2, .int .i64 ql, .int .i64 qh] 49)) := (Below.refl _ _).alloc (Nat.le_refl _) _; have F2 := (F1.next hb2).next hA2; have C2 := Cb.new w2 ra2 qr.length rc2 ql qh 49; have S2 := hs2.below hA2; have C1 := (C1.next hb2).next hA2; have S1 := (S1.below hb2).below hA2; obtain ⟨a20, a21⟩ := And.intro F2.c0 F2.c1)
          | (go_at_call 38; refine (HB1.out _ F2).mono ?_; rintro e w3 ⟨ra3, rc3, rfl, hs3, hb3⟩; have hA3 : Below w3.heap.size w3 (w3.alloc (.cells #[.slice ra3 br.length rc3, .int .i64 bl, .int .i64 bh] 49)) := (Below.refl _ _).alloc (Nat.le_refl _) _; have F3 := (F2.next hb3).next hA3; have C3 := Cb.new w3 ra3 br.length rc3 bl bh 49; have S3 := hs3.below hA3; have C1 := (C1.next hb3).next hA3; have S1 := (S1.below hb3).below hA3; have C2 := (C2.next hb3).next hA3; have S2 := (S2.below hb3).below hA3; obtain ⟨a30, a31⟩ := And.intro F3.c0 F3.c1)
          | (go_at_call 39; refine (HB2.out _ F3).mono ?_; rintro e w4 ⟨ra4, rc4, rfl, hs4, hb4⟩; have hA4 : Below w4.heap.size w4 (w4.alloc (.cells #[.slice ra4 br.length rc4, .int .i64 bl, .int .i64 bh] 49)) := (Below.refl _ _).alloc (Nat.le_refl _) _; have F4 := (F3.next hb4).next hA4; have C4 := Cb.new w4 ra4 br.length rc4 bl bh 49; have S4 := hs4.below hA4; have C1 := (C1.next hb4).next hA4; have S1 := (S1.below hb4).below hA4; have C2 := (C2.next hb4).next hA4; have S2 := (S2.below hb4).below hA4; have C3 := (C3.next hb4).next hA4; have S3 := (S3.below hb4).below hA4; obtain ⟨a40, a41⟩ := And.intro F4.c0 F4.c1; obtain ⟨d10, d11, d12⟩ := And.intro C1.c0 (And.intro C1.c1 C1.c2); obtain ⟨d20, d21, d22⟩ := And.intro C2.c0 (And.intro C2.c1 C2.c2); obtain ⟨d30, d31, d32⟩ := And.intro C3.c0 (And.intro C3.c1 C3.c2); obtain ⟨d40, d41, d42⟩ := And.intro C4.c0 (And.intro C4.c1 C4.c2))
          | (go_at_call 40; with_reducible refine (HSA.out _ ra1 rc1 ra2 rc2 S1 S2).mono ?_; rintro e w5 ⟨rfl, hb5⟩; have F5 := F4.next hb5; obtain ⟨a50, a51⟩ := And.intro F5.c0 F5.c1; have C1x := C1.next hb5; have S1x := S1.below hb5; obtain ⟨e1x0, e1x1, e1x2⟩ := And.intro C1x.c0 (And.intro C1x.c1 C1x.c2); have C3x := C3.next hb5; have S3x := S3.below hb5; obtain ⟨e3x0, e3x1, e3x2⟩ := And.intro C3x.c0 (And.intro C3x.c1 C3x.c2); have C4x := C4.next hb5; have S4x := S4.below hb5; obtain ⟨e4x0, e4x1, e4x2⟩ := And.intro C4x.c0 (And.intro C4x.c1 C4x.c2))
          | (go_at_call 40; with_reducible refine (HSB.out _ ra3 rc3 ra4 rc4 S3x S4x).mono ?_; rintro e w6 ⟨rfl, hb6⟩; have F6 := F5.next hb6; obtain ⟨a60, a61⟩ := And.intro F6.c0 F6.c1; have C1y := C1x.next hb6; have S1y := S1x.below hb6; obtain ⟨e1y0, e1y1, e1y2⟩ := And.intro C1y.c0 (And.intro C1y.c1 C1y.c2); have C3y := C3x.next hb6; have S3y := S3x.below hb6; obtain ⟨e3y0, e3y1, e3y2⟩ := And.intro C3y.c0 (And.intro C3y.c1 C3y.c2))
          | (go_at_call 12; refine (HAW.out _ F6).mono ?_; rintro e w9 ⟨rfl, F9⟩))
        all_goals go_ret
        all_goals exact ⟨rfl, F9.below⟩
end Go.Proofs.Ytkoeflafbloopaa.bitOwn
