/- Parts of the proof of BitPlays: plain words, walks and contracts, each under its own heading. -/
import Derived.Test.YtoedbbpjddjbnaaBitPlaysPC
import Derived.Test.YtoedbbpjddjbnaaBitPlaysPA
import Derived.Deep.QuietTactic
import Derived.BigQuiet
import Derived.Test.YtoedbbpjddjbnaaBitPlaysPB
/- Play of layer 7's answers: a contract. Written by mk_rplay.py. -/
namespace Go.Proofs.Ytoedbbpjddjbnaa
open Go.RowKit

set_option maxRecDepth 1000000 in
set_option maxHeartbeats 4000000 in
theorem rPlay_any (p t : Int) (b : Option Addr) (rows : List (List Int)) (cb : Nat) (xa : Option Addr) (x : List Int) (xc : Nat) (most : Int) (w : World) (hm : rows.length ≤ 1000000) (hl : ∀ r ∈ rows, r.length ≤ 140737488351232) (hb : Ms w b rows) (hlx : x.length ≤ 140737488351232) (hx : Sl w xa x) :
    Calls Try.prog 50 #[.agg #[.int .i64 p, .int .i64 t], .slice b rows.length cb, .slice xa x.length xc, .int .i64 most] w (PPc (playV p t rows x most) w) := by
  have HF := Lib.hid (Fb.new w p t 23)
  have HB := Lib.hid hb; clear hb
  have HL := Lib.hid hl; clear hl
  have HX := Lib.hid hx; clear hx
  have HSH : Hid (∀ W, Fb w p t W → Calls Try.prog 57 #[.agg #[.int .i64 p, .int .i64 t], .slice xa x.length xc] W fun e w' => e = .returned (.int .i64 (shownE p t x)) ∧ Fb w p t w') := fun W hf => (rpicture_any p t xa x xc W hlx (hf.sl HX.out)).mono fun e w' ⟨k1, k2⟩ => ⟨k1, hf.next k2⟩
  cases hv : vfB p t
  · have HV := Lib.hid (show playV p t rows x most = ([], 1) by unfold playV; rw [hv]; rfl)
    go_enter Try.func50, Try.ntmps50
    go_wp2_with (first
      | (go_at_call 20; refine (rvfield_any _ _ _).mono ?_; rintro e w1 ⟨rfl, hb1⟩; have F1 := Fb.next HF.out hb1; obtain ⟨k0, k1⟩ := And.intro F1.c0 F1.c1; rw [hv]))
    all_goals go_ret2
    all_goals exact PPc.err _ HV.out F1.below
  · have HVR : Hid (∀ W, Fb w p t W → Calls Try.prog 80 #[.agg #[.int .i64 p, .int .i64 t], .slice b rows.length cb] W fun e w' => e = .returned (.bool (rows.all (rowB p))) ∧ Fb w p t w') := fun W hf =>
      (rvrows_any p t b rows cb W hm HL.out (HB.out.below hf.below)).mono fun e w' ⟨k1, k2⟩ => ⟨k1, hf.next k2⟩
    cases hw : rows.all (rowB p)
    · have HV := Lib.hid (show playV p t rows x most = ([], 1) by unfold playV; rw [hv, hw]; rfl)
      rw [hw] at HVR
      go_enter Try.func50, Try.ntmps50
      go_wp2_with (first
        | (go_at_call 20; refine (rvfield_any _ _ _).mono ?_; rintro e w1 ⟨rfl, hb1⟩; have F1 := Fb.next HF.out hb1; obtain ⟨k0, k1⟩ := And.intro F1.c0 F1.c1; rw [hv])
        | (go_at_call 80; refine (HVR.out _ F1).mono ?_; rintro e w2 ⟨rfl, F2⟩; obtain ⟨k2, k3⟩ := And.intro F2.c0 F2.c1))
      all_goals go_ret2
      all_goals exact PPc.err _ HV.out F2.below
    · rw [hw] at HVR
      by_cases hs : shownE p t x = 0
      · have HSB := Lib.hid (sum_bd hv hw hs)
        rw [hs] at HSH
        by_cases hr : (1 ≤ rows.length ∧ rows.length ≤ 20) ∧ 0 ≤ most ∧ most ≤ 30
        · obtain ⟨P, T, rfl, rfl, hP1, hP, hT⟩ := vf_of hv
          obtain ⟨M, rfl⟩ : ∃ M : Nat, most = M := ⟨most.toNat, by omega⟩
          obtain ⟨⟨hr1, hr2⟩, _, hr3⟩ := hr
          have HV := Lib.hid (show playV P T rows x M = (plTo P T rows x M, 0) by unfold playV; rw [hv, hw, if_pos (show (true && true) = true from rfl), if_pos hs, if_pos (by omega)]; simp)
          have HI1 : Hid (∀ W, Calls Try.prog 60 #[.int .i64 (rows.length : Int), .int .i64 1, .int .i64 20] W fun e w' => e = .returned (.bool true) ∧ W = w') := fun W => by
            have h := bin_any (rows.length : Int) 1 20 W
            rwa [show rangeB (rows.length : Int) 1 20 = true by unfold rangeB; simp; omega] at h
          have HI2 : Hid (∀ W, Calls Try.prog 60 #[.int .i64 (M : Int), .int .i64 0, .int .i64 30] W fun e w' => e = .returned (.bool true) ∧ W = w') := fun W => by
            have h := bin_any (M : Int) 0 30 W
            rwa [show rangeB (M : Int) 0 30 = true by unfold rangeB; simp; omega] at h
          have HRW : Hid (∀ r ∈ rows, r.length = P ∧ okL (-1) 1 r = true) := fun r hr => by
            have h := List.all_eq_true.1 hw r hr
            unfold rowB at h
            rw [Bool.and_eq_true, decide_eq_true_iff] at h
            exact ⟨by omega, h.2⟩
          have HXO : Hid (x.length = P ∧ okL 0 3 x = true) := by
            obtain ⟨r0, hr0⟩ : ∃ r, r ∈ rows := ⟨rows[0]'(by omega), List.getElem_mem _⟩
            have h1 := (shownE_of hs)
            have hbr : browB P T r0 = true := by
              rw [← rows_vf hv] at hw; exact List.all_eq_true.1 hw r0 hr0
            exact ⟨by omega, (sum_of hbr hs).2.2.2⟩
          have HOK := Lib.hid (fun k => plTo_ok (P := P) (T := T) (rows := rows) (x := x) hr1 HRW.out (fun r hr => by have := HSB.out r hr; omega) k)
          have HFT : Hid (∀ W k a cap, Fb w P T W → Cs W a (plTo P T rows x k) → (plTo P T rows x k).length = k → k ≤ M → Calls Try.prog 68 #[.agg #[.int .i64 P, .int .i64 T], .slice a k cap] W fun e w' => ∃ va ads vc, e = .returned (.slice va (fitP T P (plTo P T rows x k)).length vc) ∧ HR W.heap.size (.slice va (fitP T P (plTo P T rows x k)).length vc) ads (fitP T P (plTo P T rows x k)) w' ∧ Below W.heap.size W w') := fun W k a cap hf hcs hlen hkM => by
            have h := rfitting_two P T hP hT a (plTo P T rows x k) cap W (by omega) (fun c hc => (HOK.out k c hc).1) hcs
            rw [hlen] at h; exact h
          have HNX : Hid (∀ W k base va vc ads, Fb w P T W → HR base (.slice va (fitP T P (plTo P T rows x k)).length vc) ads (fitP T P (plTo P T rows x k)) W → Calls Try.prog 81 #[.slice va (fitP T P (plTo P T rows x k)).length vc, .slice b rows.length cb] W fun e w' => e = .returned (.tuple #[.int .i64 ((bestV P T rows (plTo P T rows x k)).1 : Nat), .int .i64 (bestV P T rows (plTo P T rows x k)).2.1, .int .i64 ((bestV P T rows (plTo P T rows x k)).2.2.1 : Nat)]) ∧ Below W.heap.size W w') := fun W k base va vc ads hf h1 => by
            have h := rnext_any hP base va vc ads (fitP T P (plTo P T rows x k)) b rows cb W (by have := fitP_len hT hP (plTo P T rows x k); omega) (fun x hx => fitP_ok hT hx) (by omega) HRW.out h1 (HB.out.below hf.below)
            rw [smF_bs hr1] at h
            exact h
          clear hs hw
          go_enter Try.func50, Try.ntmps50
          go_wp2_with (first
            | (go_at_call 20; refine (rvfield_any _ _ _).mono ?_; rintro e w1 ⟨rfl, hb1⟩; have F1 := Fb.next HF.out hb1; obtain ⟨k0, k1⟩ := And.intro F1.c0 F1.c1; rw [hv])
            | (go_at_call 80; refine (HVR.out _ F1).mono ?_; rintro e w2 ⟨rfl, F2⟩; obtain ⟨k2, k3⟩ := And.intro F2.c0 F2.c1)
            | (go_at_call 57; refine (HSH.out _ F2).mono ?_; rintro e w3 ⟨rfl, F3⟩; obtain ⟨k4, k5⟩ := And.intro F3.c0 F3.c1)
            | (go_at_call 60; with_reducible refine (HI1.out _).mono ?_; rintro e w4 ⟨rfl, rfl⟩)
            | (go_at_call 60; with_reducible refine (HI2.out _).mono ?_; rintro e w4 ⟨rfl, rfl⟩))
          clear k0 k1 k2 k3 k4 k5
          go_loopw [11, 12, 13, 14, 15] (fun cv _ _ _ _ wr => ∃ k : Nat, k ≤ M ∧ (plTo P T rows x k).length = k ∧ OwnD wr (w.heap.size + 1) cv (plTo P T rows x k) ∧ Fb w P T wr) (fun cv _ _ _ _ _ => M - slN cv)
          case atStart => exact ⟨0, Nat.zero_le _, rfl, OwnD.nil _ _, F3⟩
          case round =>
            obtain ⟨k, hk, hlen, hod, hf⟩ := hrel
            obtain ⟨ca, cc, rfl, hcs⟩ := hod.cs
            rw [hlen] at hod ⊢
            have HLEN := Lib.hid hlen
            have HOD := Lib.hid hod
            have HFB := Lib.hid hf
            have HCS := Lib.hid hcs
            obtain ⟨k0, k1⟩ := And.intro hf.c0 hf.c1
            clear hlen hod hf hcs
            by_cases hlt : (k : Int) < (M : Int)
            · have HFK := Lib.hid (HFT.out wr k ca cc HFB.out HCS.out HLEN.out hk)
              have HNK := Lib.hid (fun W => HNX.out W k)
              have HPL : Hid (plTo P T rows x (k + 1) = if (bestV P T rows (plTo P T rows x k)).2.2.2 = 0 then plTo P T rows x k else plTo P T rows x k ++ [nextC P T rows x (plTo P T rows x k)]) := rfl
              have HRB := Lib.hid (bsTo_row (smF P T (plTo P T rows x k) rows) rows.length hr1)
              have HBV : Hid (bsTo (smF P T (plTo P T rows x k) rows) rows.length = bestV P T rows (plTo P T rows x k)) := rfl
              rw [HBV.out] at HRB
              have HHO := Lib.hid (halved_ok (smF P T (plTo P T rows x k) rows (bestV P T rows (plTo P T rows x k)).1))
              have hho := HHO.out
              rw [← HRB.out.2, smF_len] at hho
              have hrb := HRB.out.1
              obtain ⟨⟨b1, b2, b3, b4⟩, hBB⟩ : ∃ B, bestV P T rows (plTo P T rows x k) = B := ⟨_, rfl⟩
              obtain ⟨N, hN⟩ : ∃ N, (fitP T P (plTo P T rows x k)).length = N := ⟨_, rfl⟩
              have HBB := Lib.hid hBB
              rw [hBB] at HNK hho hrb HPL
              rw [hN] at HNK HFK hho
              simp only at hho hrb
              obtain ⟨hb34, hb43, hb2l, hb2u⟩ := hho
              clear hBB HHO HRB HBV hN
              obtain ⟨rb, ro, ra, r, rc, rfl, q0, q1, q2⟩ := (HB.out.below HFB.out.below).at (i := b1) hrb
              have HQ0 := Lib.hid q0
              have HQ1 := Lib.hid q1
              have hbi : (b1 : Int) < (rows.length : Int) := by omega
              have H34 := Lib.hid (And.intro hb34 hb43)
              have HMEM : Hid (r ∈ rows) := List.mem_of_getElem? q2.out
              clear q0 q1 hb34 hb43
              by_cases h0 : b4 = 0
              · have e : plTo P T rows x M = plTo P T rows x k := by
                  have h := plTo_stop (P := P) (T := T) (rows := rows) (x := x) (k := k) (by rw [HBB.out]; exact h0) (M - k)
                  rwa [show k + (M - k) = M by omega] at h
                have HE := Lib.hid e
                clear e
                by_cases hN2 : (N : Int) < 2
                · go_wp2_with (first
                    | (go_at_call 68; refine HFK.out.mono ?_; rintro e w6 ⟨va, ads, vc, rfl, hr6, hb6⟩; have F6 := HFB.out.next hb6; have HR6 := Lib.hid hr6; have HB6 := Lib.hid hb6; clear hr6 hb6)
                    | (go_at_call 81; refine (HNK.out _ _ _ _ _ F6 HR6.out).mono ?_; rintro e w7 ⟨rfl, hb7⟩; have F7 := F6.next hb7; have HB7 := Lib.hid hb7; clear hb7))
                  all_goals go_ret2
                  all_goals exact PPc.ok (HV.out.trans (by rw [HE.out])) HLEN.out F7.below ((HCS.out.below HB6.out).below HB7.out)
                · have h3N : (b3 : Int) = (N : Int) := by have := H34.out; omega
                  have h3N2 : ((b3 : Int) == (N : Int)) = true := by simpa using h3N
                  clear h3N
                  go_wp2_with (first
                    | (go_at_call 68; refine HFK.out.mono ?_; rintro e w6 ⟨va, ads, vc, rfl, hr6, hb6⟩; have F6 := HFB.out.next hb6; have HR6 := Lib.hid hr6; have HB6 := Lib.hid hb6; clear hr6 hb6)
                    | (go_at_call 81; refine (HNK.out _ _ _ _ _ F6 HR6.out).mono ?_; rintro e w7 ⟨rfl, hb7⟩; have F7 := F6.next hb7; have HB7 := Lib.hid hb7; clear hb7))
                  all_goals go_ret2
                  all_goals exact PPc.ok (HV.out.trans (by rw [HE.out])) HLEN.out F7.below ((HCS.out.below HB6.out).below HB7.out)
              · have hN2 : ¬ (N : Int) < 2 := by have := H34.out; omega
                have h3N2 : ((b3 : Int) == (N : Int)) = false := by have := H34.out; simp; omega
                obtain ⟨⟨lo, hi⟩, hlh⟩ : ∃ q, bitB (prodL r x) b2 = q := ⟨_, rfl⟩
                have HNC : Hid (plTo P T rows x (k + 1) = plTo P T rows x k ++ [(r, lo, hi)]) := by
                  show _ = _
                  have e : nextC P T rows x (plTo P T rows x k) = (r, lo, hi) := by
                    unfold nextC
                    rw [HBB.out]
                    simp only
                    rw [show rowL rows b1 = r by unfold rowL; rw [q2.out]; rfl, hlh]
                  rw [HPL.out, if_neg h0, e]
                have HBT : Hid (∀ W, Below wr.heap.size wr W → Calls Try.prog 76 #[.slice ra r.length rc, .slice xa x.length xc, .int .i64 b2] W fun e w' => ∃ g gc, e = .returned (.agg #[.slice (some ⟨g, 0, none⟩) r.length gc, .int .i64 lo, .int .i64 hi]) ∧ (W.heap.size ≤ g ∧ Sl w' (some ⟨g, 0, none⟩) r) ∧ Below W.heap.size W w') := fun W h => by
                  obtain ⟨rA, rO, _, rfl, _, _⟩ := HQ1.out.at (k := 0) (by have := (HRW.out r HMEM.out).1; omega)
                  have k := rbit1_any rA rO r rc xa x xc b2 W (by have := (HRW.out r HMEM.out).1; omega) ⟨by have := (HRW.out r HMEM.out).1; omega, by have := (HRW.out r HMEM.out).1; have := HXO.out.1; omega, (HRW.out r HMEM.out).2, HXO.out.2⟩ ⟨hb2l, hb2u⟩ (HQ1.out.below h) ((HFB.out.next h).sl HX.out)
                  rw [hlh] at k; exact k
                have HRC : Hid (∀ W, Below wr.heap.size wr W → W.cell? ⟨rb, ro + b1, none⟩ = some (.slice ra r.length rc)) := fun W h => (h.cell (p := ⟨rb, ro + b1, none⟩) (cell_lt HQ0.out)).trans HQ0.out
                clear hlh
                go_wp2_with (first
                  | (go_at_call 68; refine HFK.out.mono ?_; rintro e w6 ⟨va, ads, vc, rfl, hr6, hb6⟩; have F6 := HFB.out.next hb6; have HR6 := Lib.hid hr6; have HB6 := Lib.hid hb6; clear hr6 hb6)
                  | (go_at_call 81; refine (HNK.out _ _ _ _ _ F6 HR6.out).mono ?_; rintro e w7 ⟨rfl, hb7⟩; have F7 := F6.next hb7; have HW7 : Hid (Below wr.heap.size wr w7) := HB6.out.trans (hb7.mono HB6.out.size); have q7 := HRC.out w7 HW7.out; clear hb7)
                  | (go_at_call 76; refine (HBT.out _ HW7.out).mono ?_; rintro e w9 ⟨g, gc, rfl, ⟨hg9, hs9⟩, hb9⟩; obtain ⟨WL, hWL⟩ : ∃ WL, w9.alloc (.cells #[.slice (some ⟨g, 0, none⟩) r.length gc, .int .i64 lo, .int .i64 hi] 49) = WL := ⟨_, rfl⟩; have hbL : Below w9.heap.size w9 WL := hWL ▸ (Below.refl w9.heap.size w9).alloc (Nat.le_refl _) _; have HBSL := Lib.hid hbL; have HXL : Hid (Bt WL w9.heap.size (.slice (some ⟨g, 0, none⟩) r.length gc) (.int .i64 lo) (.int .i64 hi)) := hWL ▸ Bt.new w9 _ _ _ _; have HSW := Lib.hid hs9; have HVG : Hid (w7.heap.size ≤ g) := hg9; have HW9 : Hid (Below wr.heap.size wr w9) := HW7.out.trans (hb9.mono HW7.out.size); have HWL : Hid (Below wr.heap.size wr WL) := HW9.out.trans (HBSL.out.mono HW9.out.size); clear hbL hs9 hg9 hb9)
                  | (at_builtin; refine wpList_pushD rfl (.tmp 63) (.tmp 71) rfl (w.heap.size + 1) _ (plTo P T rows x k) _ (r, lo, hi) (some ⟨g, 0, none⟩) gc WL rfl rfl (HOD.out.below HWL.out) HXL.out.c0 HXL.out.c1 HXL.out.c2 ((SlD.new HSW.out (fun b e => (HOD.out.lt b e).2) (Nat.le_trans HW7.out.size HVG.out)).below HBSL.out) (by have := HLEN.out; omega) (HFB.out.next HWL.out).lt ?_; intro g2 cap2 wz ho7 hb7; have HO7 := Lib.hid ho7; have HB7 := Lib.hid hb7; clear ho7 hb7))
                refine ⟨⟨k + 1, by omega, by rw [HNC.out, List.length_append, HLEN.out]; rfl, by rw [HNC.out]; exact HO7.out, (HFB.out.next HWL.out).keep HB7.out⟩, ?_⟩
                show M - ((plTo P T rows x k).length + 1) < M - k
                rw [HLEN.out]; omega
            · obtain rfl : k = M := by omega
              go_wp2
              go_ret2
              exact PPc.ok HV.out HLEN.out HFB.out.below HCS.out
        · have HV := Lib.hid (show playV p t rows x most = ([], 7) by unfold playV; rw [hv, hw, if_pos (show (true && true) = true from rfl), if_pos hs, if_neg hr])
          obtain ⟨B1, hB1⟩ : ∃ B1, rangeB (rows.length : Int) 1 20 = B1 := ⟨_, rfl⟩
          obtain ⟨B2, hB2⟩ : ∃ B2, rangeB most 0 30 = B2 := ⟨_, rfl⟩
          have HI1 : Hid (∀ W, Calls Try.prog 60 #[.int .i64 (rows.length : Int), .int .i64 1, .int .i64 20] W fun e w' => e = .returned (.bool B1) ∧ W = w') := fun W => by
            have h := bin_any (rows.length : Int) 1 20 W
            rwa [hB1] at h
          have HI2 : Hid (∀ W, Calls Try.prog 60 #[.int .i64 most, .int .i64 0, .int .i64 30] W fun e w' => e = .returned (.bool B2) ∧ W = w') := fun W => by
            have h := bin_any most 0 30 W
            rwa [hB2] at h
          cases B1 with
          | false =>
            clear hr hB1 hB2
            go_enter Try.func50, Try.ntmps50
            go_wp2_with (first
              | (go_at_call 20; refine (rvfield_any _ _ _).mono ?_; rintro e w1 ⟨rfl, hb1⟩; have F1 := Fb.next HF.out hb1; obtain ⟨k0, k1⟩ := And.intro F1.c0 F1.c1; rw [hv])
              | (go_at_call 80; refine (HVR.out _ F1).mono ?_; rintro e w2 ⟨rfl, F2⟩; obtain ⟨k2, k3⟩ := And.intro F2.c0 F2.c1)
              | (go_at_call 57; refine (HSH.out _ F2).mono ?_; rintro e w3 ⟨rfl, F3⟩; obtain ⟨k4, k5⟩ := And.intro F3.c0 F3.c1)
              | (go_at_call 60; with_reducible refine (HI1.out _).mono ?_; rintro e w4 ⟨rfl, rfl⟩)
              | (go_at_call 60; with_reducible refine (HI2.out _).mono ?_; rintro e w4 ⟨rfl, rfl⟩))
            all_goals go_ret2
            all_goals exact PPc.err _ HV.out F3.below
          | true =>
            cases B2 with
            | false =>
              clear hr hB1 hB2
              go_enter Try.func50, Try.ntmps50
              go_wp2_with (first
                | (go_at_call 20; refine (rvfield_any _ _ _).mono ?_; rintro e w1 ⟨rfl, hb1⟩; have F1 := Fb.next HF.out hb1; obtain ⟨k0, k1⟩ := And.intro F1.c0 F1.c1; rw [hv])
                | (go_at_call 80; refine (HVR.out _ F1).mono ?_; rintro e w2 ⟨rfl, F2⟩; obtain ⟨k2, k3⟩ := And.intro F2.c0 F2.c1)
                | (go_at_call 57; refine (HSH.out _ F2).mono ?_; rintro e w3 ⟨rfl, F3⟩; obtain ⟨k4, k5⟩ := And.intro F3.c0 F3.c1)
                | (go_at_call 60; with_reducible refine (HI1.out _).mono ?_; rintro e w4 ⟨rfl, rfl⟩)
                | (go_at_call 60; with_reducible refine (HI2.out _).mono ?_; rintro e w4 ⟨rfl, rfl⟩))
              all_goals go_ret2
              all_goals exact PPc.err _ HV.out F3.below
            | true =>
              unfold rangeB at hB1 hB2
              simp at hB1 hB2
              exact absurd (by omega) hr
      · have HV := Lib.hid (show playV p t rows x most = ([], shownE p t x) by unfold playV; rw [hv, hw, if_pos (show (true && true) = true from rfl), if_neg hs])
        obtain ⟨se, hse⟩ : ∃ se, shownE p t x = se := ⟨_, rfl⟩
        rw [hse] at HV HSH hs
        have hs2 : (se != 0) = true := by simpa using hs
        clear hs hse
        go_enter Try.func50, Try.ntmps50
        go_wp2_with (first
          | (go_at_call 20; refine (rvfield_any _ _ _).mono ?_; rintro e w1 ⟨rfl, hb1⟩; have F1 := Fb.next HF.out hb1; obtain ⟨k0, k1⟩ := And.intro F1.c0 F1.c1; rw [hv])
          | (go_at_call 80; refine (HVR.out _ F1).mono ?_; rintro e w2 ⟨rfl, F2⟩; obtain ⟨k2, k3⟩ := And.intro F2.c0 F2.c1)
          | (go_at_call 57; refine (HSH.out _ F2).mono ?_; rintro e w3 ⟨rfl, F3⟩; obtain ⟨k4, k5⟩ := And.intro F3.c0 F3.c1))
        all_goals go_ret2
        all_goals exact PPc.err _ HV.out F3.below
end Go.Proofs.Ytoedbbpjddjbnaa
/- SameCell of layer 7's answers: a contract. -/
namespace Go.Proofs.Ytoedbbpjddjbnaa
open Go.RowKit

set_option maxRecDepth 1000000 in
set_option maxHeartbeats 2000000 in
/-- Two cells in memory that are the same. -/
theorem samecell_any (ra : Option Addr) (xs : List Int) (rc : Nat) (rb : Option Addr) (rd : Nat) (lo hi : Int) (w : World) (hl : xs.length ≤ 140737488351232) (ha : Sl w ra xs) (hb : Sl w rb xs) :
    Calls Try.prog 40 #[.agg #[.slice ra xs.length rc, .int .i64 lo, .int .i64 hi], .agg #[.slice rb xs.length rd, .int .i64 lo, .int .i64 hi]] w fun e w' => e = .returned (.bool true) ∧ Below w.heap.size w w' := by
  obtain ⟨U1, hU1⟩ : ∃ U, w.alloc (.cells #[.slice ra xs.length rc, .int .i64 lo, .int .i64 hi] 49) = U := ⟨_, rfl⟩
  obtain ⟨U, hU⟩ : ∃ U, U1.alloc (.cells #[.slice rb xs.length rd, .int .i64 lo, .int .i64 hi] 49) = U := ⟨_, rfl⟩
  have hb1 : Below w.heap.size w U1 := by rw [← hU1]; exact (Below.refl _ _).alloc (Nat.le_refl _) _
  have hb2 : Below U1.heap.size U1 U := by rw [← hU]; exact (Below.refl _ _).alloc (Nat.le_refl _) _
  have HB : Hid (Below w.heap.size w U) := hb1.trans (hb2.mono hb1.size)
  have C1 : Cb w.heap.size ra xs.length rc lo hi U := (show Cb w.heap.size ra xs.length rc lo hi U1 by rw [← hU1]; exact Cb.new _ _ _ _ _ _ _).next hb2
  have C2 : Cb U1.heap.size rb xs.length rd lo hi U := by rw [← hU]; exact Cb.new _ _ _ _ _ _ _
  obtain ⟨z0, z1, z2⟩ := And.intro C1.c0 (And.intro C1.c1 C1.c2)
  obtain ⟨z3, z4, z5⟩ := And.intro C2.c0 (And.intro C2.c1 C2.c2)
  have HA := Lib.hid (ha.below HB.out)
  have HB2 := Lib.hid (hb.below HB.out)
  clear ha hb hb1 hb2 C1 C2
  go_enter Try.func40, Try.ntmps40
  go_wp2
  go_loopw [30] (fun i wr => ∃ k nd : Nat, k ≤ xs.length ∧ i = .int .i64 k ∧ wr = U.drewN nd) (fun i _ => xs.length - (intOf i).toNat)
  case atStart => exact ⟨0, 0, Nat.zero_le _, rfl, rfl⟩
  case round =>
    obtain ⟨k, nd, hk, rfl, rfl⟩ := hrel
    by_cases hlt : k < xs.length
    · obtain ⟨b1, o1, x, rfl, hcx, HX⟩ := HA.out.at hlt
      obtain ⟨b2, o2, y, rfl, hcy, HY⟩ := HB2.out.at hlt
      obtain rfl : x = y := by have := HX.out.symm.trans HY.out; simpa using this
      go_wp2
      go_quiet (fail)
      go_wp2
      go_roundw
      case rel => exact ⟨k + 1, _, by omega, by go_num, rfl⟩
      case measure => simp [intOf]; omega
    · go_wp2
      go_ret
      exact ⟨rfl, below_drewN HB.out _⟩
end Go.Proofs.Ytoedbbpjddjbnaa
/- SameCells of layer 7's answers: a contract for two equal lists. Written by mk_samecells.py. -/
namespace Go.Proofs.Ytoedbbpjddjbnaa
open Go.RowKit

set_option maxRecDepth 1000000 in
set_option maxHeartbeats 2000000 in
theorem samecells_any (a : Option Addr) (cs : List Cl) (ca : Nat) (b : Option Addr) (cb : Nat) (w : World) (hn : cs.length ≤ 1000000) (hl : ∀ c ∈ cs, c.1.length ≤ 140737488351232) (ha : Cs w a cs) (hb : Cs w b cs) :
    Calls Try.prog 51 #[.slice a cs.length ca, .slice b cs.length cb] w fun e w' => e = .returned (.bool true) ∧ Below w.heap.size w w' := by
  have HA := Lib.hid ha; clear ha
  have HBB := Lib.hid hb; clear hb
  have HL := Lib.hid hl; clear hl
  go_enter Try.func51, Try.ntmps51
  go_wp2
  go_loopw [5, 13] (fun _ i wr => ∃ k : Nat, k ≤ cs.length ∧ i = .int .i64 k ∧ Below w.heap.size w wr) (fun _ i _ => cs.length - (intOf i).toNat)
  case atStart => exact ⟨0, Nat.zero_le _, rfl, Below.refl _ _⟩
  case round =>
    obtain ⟨k, hk, rfl, hb⟩ := hrel
    have HB := Lib.hid hb
    by_cases hlt : k < cs.length
    · obtain ⟨⟨xs, lo, hi⟩, hcx⟩ : ∃ c, cs[k]? = some c := ⟨cs[k], by simp [hlt]⟩
      have HCX := Lib.hid hcx
      obtain ⟨b1, o1, ra, rc, rfl, c0, c1, c2, s1⟩ := HA.out.below hb k _ hcx
      obtain ⟨b2, o2, rb, rd, rfl, d0, d1, d2, s2⟩ := HBB.out.below hb k _ hcx
      have HVW : Hid (∀ W, Below wr.heap.size wr W → W.cell? ⟨b1, o1 + k * 3, none⟩ = some (.slice ra xs.length rc) ∧ W.cell? ⟨b1, o1 + k * 3 + 1, none⟩ = some (.int .i64 lo) ∧ W.cell? ⟨b1, o1 + k * 3 + 2, none⟩ = some (.int .i64 hi) ∧ W.cell? ⟨b2, o2 + k * 3, none⟩ = some (.slice rb xs.length rd) ∧ W.cell? ⟨b2, o2 + k * 3 + 1, none⟩ = some (.int .i64 lo) ∧ W.cell? ⟨b2, o2 + k * 3 + 2, none⟩ = some (.int .i64 hi)) := fun W h => ⟨(h.cell (p := ⟨b1, o1 + k * 3, none⟩) (cell_lt c0)).trans c0, (h.cell (p := ⟨b1, o1 + k * 3 + 1, none⟩) (cell_lt c1)).trans c1, (h.cell (p := ⟨b1, o1 + k * 3 + 2, none⟩) (cell_lt c2)).trans c2, (h.cell (p := ⟨b2, o2 + k * 3, none⟩) (cell_lt d0)).trans d0, (h.cell (p := ⟨b2, o2 + k * 3 + 1, none⟩) (cell_lt d1)).trans d1, (h.cell (p := ⟨b2, o2 + k * 3 + 2, none⟩) (cell_lt d2)).trans d2⟩
      have HSC : Hid (∀ W, Below wr.heap.size wr W → Calls Try.prog 40 #[.agg #[.slice ra xs.length rc, .int .i64 lo, .int .i64 hi], .agg #[.slice rb xs.length rd, .int .i64 lo, .int .i64 hi]] W fun e w' => e = .returned (.bool true) ∧ Below W.heap.size W w') := fun W h => samecell_any ra xs rc rb rd lo hi W (HL.out _ (List.mem_of_getElem? HCX.out)) (s1.below h) (s2.below h)
      have hki : (k : Int) < (cs.length : Int) := by omega
      clear c0 c1 c2 d0 d1 d2 s1 s2 hb hcx
      go_wp2
      rename_i aK
      have HKX := Lib.hid aK
      clear aK
      refine wp_region_G (S := fun _ W => Below wr.heap.size wr W) (by kernel_rfl) ((Below.refl _ _).drew) ?_
      intro hc hS
      refine wpAnyG_take (i := 0) (oi := ?oir0) (v := ?vr0) ?hir0 (by kernel_rfl) (by kernel_rfl) (by kernel_rfl) ?hQr0 (fun _ _ => Iff.rfl) hc ?hyr0 hS ?restr0
      case hir0 => (simp only [List.getElem?_toArray, List.getElem?_cons_zero]; exact rfl)
      case hQr0 => exact fun _ _ _ h => h
      case hyr0 => (refine Or.inl ⟨rfl, ?_⟩; (intro w _; go_simp; (try with_reducible rfl)))
      clear hc hS; intro hc hS
      simp only [Act.put, List.setIfInBounds_toArray, List.set_cons_zero, List.set_cons_succ]
      refine wpAnyG_take (i := 1) (oi := ?oir1) (v := ?vr1) ?hir1 (by kernel_rfl) (by kernel_rfl) (by kernel_rfl) ?hQr1 (fun _ _ => Iff.rfl) hc ?hyr1 hS ?restr1
      case hir1 => (simp only [List.getElem?_toArray, List.getElem?_cons_succ, List.getElem?_cons_zero]; exact rfl)
      case hQr1 => exact fun _ _ _ h => h
      case hyr1 => (refine Or.inl ⟨rfl, ?_⟩; (intro w _; go_simp; (try with_reducible rfl)))
      clear hc hS; intro hc hS
      simp only [Act.put, List.setIfInBounds_toArray, List.set_cons_zero, List.set_cons_succ]
      refine wpAnyG_take (i := 2) (oi := ?oir2) (v := ?vr2) ?hir2 (by kernel_rfl) (by kernel_rfl) (by kernel_rfl) ?hQr2 (fun _ _ => Iff.rfl) hc ?hyr2 hS ?restr2
      case hir2 => (simp only [List.getElem?_toArray, List.getElem?_cons_succ, List.getElem?_cons_zero]; exact rfl)
      case hQr2 => exact fun _ _ _ h => h
      case hyr2 => (refine Or.inl ⟨rfl, ?_⟩; (intro w _; go_simp; (try with_reducible rfl)))
      clear hc hS; intro hc hS
      simp only [Act.put, List.setIfInBounds_toArray, List.set_cons_zero, List.set_cons_succ]
      refine wpAnyG_take (i := 3) (oi := ?oir3) (v := ?vr3) ?hir3 (by kernel_rfl) (by kernel_rfl) (by kernel_rfl) ?hQr3 (fun _ _ => Iff.rfl) hc ?hyr3 hS ?restr3
      case hir3 => (simp only [List.getElem?_toArray, List.getElem?_cons_succ, List.getElem?_cons_zero]; exact rfl)
      case hQr3 => exact fun _ _ _ h => h
      case hyr3 => (refine Or.inl ⟨rfl, ?_⟩; (rintro w9 ⟨L, _, _, hB⟩; obtain ⟨_, _, _, _, _, _⟩ := HVW.out w9 hB; go_simp; (try with_reducible rfl)))
      clear hc hS; intro hc hS
      simp only [Act.put, List.setIfInBounds_toArray, List.set_cons_zero, List.set_cons_succ]
      refine wpAnyG_take (i := 4) (oi := ?oir4) (v := ?vr4) ?hir4 (by kernel_rfl) (by kernel_rfl) (by kernel_rfl) ?hQr4 (fun _ _ => Iff.rfl) hc ?hyr4 hS ?restr4
      case hir4 => (simp only [List.getElem?_toArray, List.getElem?_cons_succ, List.getElem?_cons_zero]; exact rfl)
      case hQr4 => exact fun _ _ _ h => h
      case hyr4 => (refine Or.inl ⟨rfl, ?_⟩; (intro w _; go_simp; (try with_reducible rfl)))
      clear hc hS; intro hc hS
      simp only [Act.put, List.setIfInBounds_toArray, List.set_cons_zero, List.set_cons_succ]
      refine wpAnyG_take (i := 5) (oi := ?oir5) (v := ?vr5) ?hir5 (by kernel_rfl) (by kernel_rfl) (by kernel_rfl) ?hQr5 (fun _ _ => Iff.rfl) hc ?hyr5 hS ?restr5
      case hir5 => (simp only [List.getElem?_toArray, List.getElem?_cons_succ, List.getElem?_cons_zero]; exact rfl)
      case hQr5 => exact fun _ _ _ h => h
      case hyr5 => (refine Or.inl ⟨rfl, ?_⟩; (intro w _; go_simp; (try with_reducible rfl)))
      clear hc hS; intro hc hS
      simp only [Act.put, List.setIfInBounds_toArray, List.set_cons_zero, List.set_cons_succ]
      refine wpAnyG_take (i := 6) (oi := ?oir6) (v := ?vr6) ?hir6 (by kernel_rfl) (by kernel_rfl) (by kernel_rfl) ?hQr6 (fun _ _ => Iff.rfl) hc ?hyr6 hS ?restr6
      case hir6 => (simp only [List.getElem?_toArray, List.getElem?_cons_succ, List.getElem?_cons_zero]; exact rfl)
      case hQr6 => exact fun _ _ _ h => h
      case hyr6 => (refine Or.inl ⟨rfl, ?_⟩; (intro w _; go_simp; (try with_reducible rfl)))
      clear hc hS; intro hc hS
      simp only [Act.put, List.setIfInBounds_toArray, List.set_cons_zero, List.set_cons_succ]
      refine wpAnyG_take (i := 7) (oi := ?oir7) (v := ?vr7) ?hir7 (by kernel_rfl) (by kernel_rfl) (by kernel_rfl) ?hQr7 (fun _ _ => Iff.rfl) hc ?hyr7 hS ?restr7
      case hir7 => (simp only [List.getElem?_toArray, List.getElem?_cons_succ, List.getElem?_cons_zero]; exact rfl)
      case hQr7 => exact fun _ _ _ h => h
      case hyr7 => (refine Or.inl ⟨rfl, ?_⟩; (rintro w9 ⟨L, _, _, hB⟩; obtain ⟨_, _, _, _, _, _⟩ := HVW.out w9 hB; go_simp; (try with_reducible rfl)))
      clear hc hS; intro hc hS
      simp only [Act.put, List.setIfInBounds_toArray, List.set_cons_zero, List.set_cons_succ]
      refine wpAnyG_only (i := 8) (o := ?oic8) (by kernel_rfl) ?hic8 hc ?restc8
      case hic8 => (simp only [List.getElem?_toArray, List.getElem?_cons_succ, List.getElem?_cons_zero]; exact rfl)
      clear hc; intro hc K hK; have HK := Lib.hid hK; clear hK
      go_simp
      go_at_call 40
      refine (HSC.out _ ((Below.refl wr.heap.size wr).drew)).mono ?_
      rintro e w6 ⟨rfl, hb6⟩
      have HB6 : Hid (Below wr.heap.size wr w6) := ((Below.refl wr.heap.size wr).drew).trans (hb6.mono (Nat.le_refl _))
      clear hb6
      refine HK.out _ _ HB6.out ?_
      clear HK K hS; intro hS
      refine wpAnyG_take (i := 9) (oi := ?oin9) (v := ?vn9) ?hin9 (by kernel_rfl) (by kernel_rfl) (by kernel_rfl) ?hQn9 (fun _ _ => Iff.rfl) hc ?hyn9 hS ?restn9
      case hin9 => (simp only [List.getElem?_toArray, List.getElem?_cons_succ, List.getElem?_cons_zero]; exact rfl)
      case hQn9 => exact fun _ _ _ h => h
      case hyn9 => (refine Or.inl ⟨rfl, ?_⟩; (intro w _; go_simp; (try with_reducible rfl)))
      clear hc hS; intro hc hS
      simp only [Act.put, List.setIfInBounds_toArray, List.set_cons_zero, List.set_cons_succ]
      refine wpAnyG_done (by kernel_rfl) ?_ _
      refine HKX.out _ _ ?_
      clear HKX hS hc
      go_wp2
      exact ⟨⟨k + 1, by omega, by go_num, HB.out.trans (HB6.out.mono HB.out.size)⟩, by simp [intOf]; omega⟩
    · go_wp2
      go_ret
      exact ⟨rfl, hb⟩
end Go.Proofs.Ytoedbbpjddjbnaa
/- BitPlays: the walk. Written by mk_bitplays.py. -/
namespace Go.Proofs.Ytoedbbpjddjbnaa.bitPlays
open Go.RowKit

theorem play_small (p t : Int) (rows : List (List Int)) (x : List Int) (most : Int) : (playV p t rows x most).1.length ≤ 30 ∧ CLen (playV p t rows x most).1 := by
  by_cases h : (playV p t rows x most).2 = 0
  · obtain ⟨P, T, M, rfl, rfl, rfl, hP1, hP, hT, hv, hw, hx, hR, hM, e⟩ := play_ok h
    rw [e]
    exact ⟨Nat.le_trans (plTo_len _ _ _ _ _) hM, fun c hc => by have := (play_cells hv hw hx hR M c hc).1.1; omega⟩
  · unfold playV at *
    split
    · rename_i g1
      rw [if_pos g1] at h
      split
      · rename_i g2
        rw [if_pos g2] at h
        split
        · rename_i g3
          rw [if_pos g3] at h; exact absurd rfl h
        · exact ⟨by simp, fun c hc => by cases hc⟩
      · exact ⟨by simp, fun c hc => by cases hc⟩
    · exact ⟨by simp, fun c hc => by cases hc⟩
set_option maxRecDepth 1000000 in
set_option maxHeartbeats 6400000 in
theorem walk (x0 y0 : Int) (b1 : Option Addr) (m1 : List (List Int)) (c1 : Nat) (b2 : Option Addr) (xs2 : List Int) (c2 : Nat) (m3 : Int) (w : World) (_rx0 : I64 x0) (_ry0 : I64 y0) (h1 : Ms w b1 m1) (_r1 : MOk m1) (h2 : Sl w b2 xs2) (_l2 : xs2.length ≤ 9223372036854775807) (_r2 : ∀ x ∈ xs2, I64 x) (_r3 : I64 m3) :
    Calls Try.prog 9 #[.agg #[.int .i64 x0, .int .i64 y0], .slice b1 m1.length c1, .slice b2 xs2.length c2, .int .i64 m3] w fun e w' => e = .returned (.bool true) ∧ Below w.heap.size w w' := by
  have HF := Lib.hid (Fb.new w x0 y0 23)
  have HAW : Hid (∀ V, Fb w x0 y0 V → Calls Try.prog 12 #[] V fun e w' => e = .returned (.bool true) ∧ Fb w x0 y0 w') := fun V h => (awake7_any V).mono fun e w' ⟨k1, k2⟩ => ⟨k1, h.next k2⟩
  have HFE : Hid (∀ V, Fb w x0 y0 V → Calls Try.prog 10 #[.agg #[.int .i64 x0, .int .i64 y0], .int .i64 130] V fun e w' => e = .returned (.bool (fewB x0 y0 130)) ∧ Fb w x0 y0 w') := fun V h => (few7_any x0 y0 130 V).mono fun e w' ⟨k1, k2⟩ => ⟨k1, h.next k2⟩
  by_cases hskip : fewB x0 y0 130 = true ∧ (¬ (20 : Int) < (xs2.length : Int)) ∧ (¬ ((4 : Int) < (m1.length : Int) ∧ (m1.length : Int) ≤ 20)) ∧ ¬ (25 : Int) < (m1.length : Int)
  case neg =>
    cases hfe : fewB x0 y0 130
    · rw [hfe] at HFE
      clear h1 h2 hskip
      go_enter Try.func9, Try.ntmps9
      go_wp2_with (first
        | (go_at_call 10; refine (HFE.out _ HF.out).mono ?_; rintro e w0 ⟨rfl, F0⟩; obtain ⟨a00, a01⟩ := And.intro F0.c0 F0.c1)
        | (go_at_call 12; refine (HAW.out _ F0).mono ?_; rintro e w99 ⟨rfl, F99⟩))
      all_goals go_ret
      all_goals exact ⟨rfl, F99.below⟩
    · rw [hfe] at HFE
      by_cases hg2 : (20 : Int) < (xs2.length : Int)
      · clear h1 h2 hskip
        go_enter Try.func9, Try.ntmps9
        go_wp2_with (first
          | (go_at_call 10; refine (HFE.out _ HF.out).mono ?_; rintro e w0 ⟨rfl, F0⟩; obtain ⟨a00, a01⟩ := And.intro F0.c0 F0.c1)
          | (go_at_call 12; refine (HAW.out _ F0).mono ?_; rintro e w99 ⟨rfl, F99⟩))
        all_goals go_ret
        all_goals exact ⟨rfl, F99.below⟩
      · by_cases hg3 : (4 : Int) < (m1.length : Int)
        · by_cases hg4 : (m1.length : Int) ≤ 20
          · clear h1 h2 hskip
            go_enter Try.func9, Try.ntmps9
            go_wp2_with (first
              | (go_at_call 10; refine (HFE.out _ HF.out).mono ?_; rintro e w0 ⟨rfl, F0⟩; obtain ⟨a00, a01⟩ := And.intro F0.c0 F0.c1)
              | (go_at_call 12; refine (HAW.out _ F0).mono ?_; rintro e w99 ⟨rfl, F99⟩))
            all_goals go_ret
            all_goals exact ⟨rfl, F99.below⟩
          · have hg5 : (25 : Int) < (m1.length : Int) := by
              by_cases h : (25 : Int) < (m1.length : Int)
              · exact h
              · exact absurd ⟨hfe, hg2, fun g => hg4 g.2, h⟩ hskip
            clear h1 h2 hskip
            go_enter Try.func9, Try.ntmps9
            go_wp2_with (first
              | (go_at_call 10; refine (HFE.out _ HF.out).mono ?_; rintro e w0 ⟨rfl, F0⟩; obtain ⟨a00, a01⟩ := And.intro F0.c0 F0.c1)
              | (go_at_call 12; refine (HAW.out _ F0).mono ?_; rintro e w99 ⟨rfl, F99⟩))
            all_goals go_ret
            all_goals exact ⟨rfl, F99.below⟩
        · exact absurd ⟨hfe, hg2, fun g => hg3 g.1, by omega⟩ hskip
  case pos =>
    obtain ⟨hfe, hg2, hg3, hg5⟩ := hskip
    rw [hfe] at HFE
    have HM := Lib.hid h1
    have HX := Lib.hid h2
    have hsm := play_small x0 y0 m1 xs2 m3
    have hok := play_ok (p := x0) (t := y0) (rows := m1) (x := xs2) (most := m3)
    obtain ⟨⟨cs, pe⟩, hpv⟩ : ∃ r, playV x0 y0 m1 xs2 m3 = r := ⟨_, rfl⟩
    obtain ⟨⟨cn, ce⟩, hcv⟩ : ∃ r, countV x0 y0 cs = r := ⟨_, rfl⟩
    rw [hpv] at hsm hok
    dsimp only at hsm hok
    have HOK := Lib.hid hok
    have HSM := Lib.hid hsm
    have HSC : Hid (∀ W a ca b cb, Cs W a cs → Cs W b cs → Calls Try.prog 51 #[.slice a cs.length ca, .slice b cs.length cb] W fun e w' => e = .returned (.bool true) ∧ Below W.heap.size W w') := fun W a ca b cb k1 k2 => samecells_any a cs ca b cb W (by omega) hsm.2 k1 k2
    have HPOST : Hid (pe = 0 → Hid (∀ W a ca, Fb w x0 y0 W → Cs W a cs → Calls Try.prog 23 #[.agg #[.int .i64 x0, .int .i64 y0], .slice a cs.length ca, .slice b2 xs2.length c2] W fun e w' => e = .returned (.tuple #[.bool true, .int .i64 0]) ∧ Below W.heap.size W w') ∧ Hid (∀ W a ca, Fb w x0 y0 W → Cs W a cs → Calls Try.prog 25 #[.agg #[.int .i64 x0, .int .i64 y0], .slice a cs.length ca] W fun e w' => e = .returned (.tuple #[.int .i64 cn, .int .i64 0]) ∧ Below W.heap.size W w') ∧ Hid ((cs.length : Int) ≠ m3 → ∀ (r : List Int) (th : Int), r ∈ m1 → r.length ≤ 20 → -99 ≤ th → th ≤ 100 → ∃ A B : Nat, (A = 0 ∨ B = 0) ∧ ∀ W a ca ra rc, Fb w x0 y0 W → Cs W a cs → Sl W ra r → Calls Try.prog 34 #[.agg #[.int .i64 x0, .int .i64 y0], .slice a cs.length ca, .slice ra r.length rc, .int .i64 th] W fun e w' => e = .returned (.tuple #[.int .i64 (A : Int), .int .i64 (B : Int), .int .i64 0]) ∧ Below W.heap.size W w')) := fun he => by
      obtain ⟨P, T, M, rfl, rfl, rfl, hP1, hP, hT, hv, hw, hx, hR, hM, e⟩ := hok he
      have hvs := play_vals hv hw hx hR hM
      have hfs := play_fits hv hw hx hR hM
      rw [← e] at hvs hfs
      refine ⟨fun W a ca hf hcs => ?_, fun W a ca hf hcs => ?_, fun hne r th hr hrl t1 t2 => ?_⟩
      · have k := bFits_any P T a cs ca b2 xs2 c2 W (by omega) hsm.2 (by omega) hcs (hf.sl h2)
        rw [hfs] at k; exact k
      · have k := bcount_any P T a cs ca W (by omega) hsm.2 hcs
        have hce : ce = 0 := by
          have h : (countV P T cs).2 = 0 := by unfold countV; rw [if_pos hvs]
          rw [hcv] at h; exact h
        rw [hcv, hce] at k; exact k
      · have hpl := plTo_len P T m1 xs2 M
        rw [← e] at hpl
        obtain ⟨A, B, k1, k2⟩ := play_parts hv hw hx hR hM (by rw [← e]; omega) hr t1 t2
        rw [← e] at k1
        refine ⟨A, B, k2, fun W a ca ra rc hf hcs hs => ?_⟩
        have k := bparts_any P T a cs ca ra r rc th W (by omega) hsm.2 hcs (by omega) hs
        rw [k1] at k
        exact k
    have HP1 : Hid (∀ V, Fb w x0 y0 V → (∀ r ∈ m1, r.length ≤ 20) → Calls Try.prog 49 #[.agg #[.int .i64 x0, .int .i64 y0], .slice b1 m1.length c1, .slice b2 xs2.length c2, .int .i64 m3] V fun e w' => Below V.heap.size V w' ∧ ∃ a cap, e = .returned (.tuple #[.slice a cs.length cap, .int .i64 pe]) ∧ Cs w' a cs) := fun V h hq => by
      have k := bPlay_any x0 y0 b1 m1 c1 b2 xs2 c2 m3 V (by omega) (fun r hr => by have := hq r hr; omega) (h1.below h.below) (by omega) (h.sl h2)
      rw [hpv] at k; exact k
    have HP2 : Hid (∀ V, Fb w x0 y0 V → (∀ r ∈ m1, r.length ≤ 20) → Calls Try.prog 50 #[.agg #[.int .i64 x0, .int .i64 y0], .slice b1 m1.length c1, .slice b2 xs2.length c2, .int .i64 m3] V fun e w' => Below V.heap.size V w' ∧ ∃ a cap, e = .returned (.tuple #[.slice a cs.length cap, .int .i64 pe]) ∧ Cs w' a cs) := fun V h hq => by
      have k := rPlay_any x0 y0 b1 m1 c1 b2 xs2 c2 m3 V (by omega) (fun r hr => by have := hq r hr; omega) (h1.below h.below) (by omega) (h.sl h2)
      rw [hpv] at k; exact k
    clear h1 h2 hpv hcv hfe hok hsm
    by_cases hg4 : (4 : Int) < (m1.length : Int)
    · have hg6 : ¬ (m1.length : Int) ≤ 20 := fun h => hg3 ⟨hg4, h⟩
      clear hg3
      go_enter Try.func9, Try.ntmps9
      go_wp2_with (go_at_call 10; refine (HFE.out _ HF.out).mono ?_; rintro e w0 ⟨rfl, F0⟩; obtain ⟨a00, a01⟩ := And.intro F0.c0 F0.c1)
      go_loopw [10, 51] (fun _ i wr => ∃ k : Nat, k ≤ m1.length ∧ i = .int .i64 k ∧ (∀ j y, j < k → m1[j]? = some y → y.length ≤ 20) ∧ Fb w x0 y0 wr) (fun _ i _ => m1.length - (intOf i).toNat)
      case atStart => exact ⟨0, Nat.zero_le _, rfl, fun j y h => by omega, F0⟩
      case round =>
        clear a00 a01
        obtain ⟨k, hk, rfl, hno, hf⟩ := hrel
        have HNO := Lib.hid hno
        have HFB := Lib.hid hf
        obtain ⟨k0, k1⟩ := And.intro hf.c0 hf.c1
        clear hno hf
        by_cases hlt : k < m1.length
        · obtain ⟨b, o, ra, r, rc, rfl, q0, q1, q2⟩ := (HM.out.below HFB.out.below).at hlt
          clear q1
          by_cases hr : (20 : Int) < (r.length : Int)
          · go_wp2_with (go_at_call 12; refine (HAW.out _ HFB.out).mono ?_; rintro e w99 ⟨rfl, F99⟩)
            all_goals go_ret
            all_goals exact ⟨rfl, F99.below⟩
          · go_wp2
            go_roundw
            case rel => exact ⟨k + 1, by omega, by go_num, fun j y hj hy => by
                by_cases hj' : j = k
                · subst hj'; rw [q2.out] at hy; cases hy; omega
                · exact HNO.out j y (by omega) hy, HFB.out⟩
            case measure => simp [intOf]; omega
        · have HALL : Hid (∀ r ∈ m1, r.length ≤ 20) := fun r hr => by
            obtain ⟨j, hj⟩ := List.mem_iff_getElem?.1 hr
            exact HNO.out j r (by have := (List.getElem?_eq_some_iff.1 hj).1; omega) hj
          by_cases h0 : pe = 0
          · subst h0
            obtain ⟨HFT, HCN, HPA⟩ := HPOST.out rfl
            by_cases hn : cn = 1
            · have hn1 : (cn == 1) = true := by simpa using hn
              clear hn
              go_wp2_with (first
                | (go_at_call 49; refine (HP1.out _ HFB.out HALL.out).mono ?_; rintro e w2 ⟨hb2, pa, pc, rfl, hs2⟩; have F2 := HFB.out.next hb2; have S2 := hs2; obtain ⟨a20, a21⟩ := And.intro F2.c0 F2.c1)
                | (go_at_call 50; refine (HP2.out _ F2 HALL.out).mono ?_; rintro e w3 ⟨hb3, qa, qc, rfl, hs3⟩; have F3 := F2.next hb3; have S3 := hs3; have S2 := S2.below hb3; obtain ⟨a30, a31⟩ := And.intro F3.c0 F3.c1)
                | (go_at_call 51; refine (HSC.out _ pa pc qa qc S2 S3).mono ?_; rintro e w4 ⟨rfl, hb4⟩; have F4 := F3.next hb4; have S4 := S2.below hb4; obtain ⟨a40, a41⟩ := And.intro F4.c0 F4.c1)
                | (go_at_call 23; refine (HFT.out _ pa pc F4 S4).mono ?_; rintro e w5 ⟨rfl, hb5⟩; have F5 := F4.next hb5; have S5 := S4.below hb5; obtain ⟨a50, a51⟩ := And.intro F5.c0 F5.c1)
                | (go_at_call 25; refine (HCN.out _ pa pc F5 S5).mono ?_; rintro e w6 ⟨rfl, hb6⟩; have F6 := F5.next hb6; have S6 := S5.below hb6; obtain ⟨a60, a61⟩ := And.intro F6.c0 F6.c1)
                | (go_at_call 12; refine (HAW.out _ F6).mono ?_; rintro e w99 ⟨rfl, F99⟩))
              all_goals go_ret
              all_goals exact ⟨rfl, F99.below⟩
            · have hn1 : (cn == 1) = false := by simpa using hn
              clear hn
              by_cases hl : (cs.length : Int) = m3
              · have hl1 : ((cs.length : Int) == m3) = true := by simpa using hl
                clear hl
                go_wp2_with (first
                  | (go_at_call 49; refine (HP1.out _ HFB.out HALL.out).mono ?_; rintro e w2 ⟨hb2, pa, pc, rfl, hs2⟩; have F2 := HFB.out.next hb2; have S2 := hs2; obtain ⟨a20, a21⟩ := And.intro F2.c0 F2.c1)
                  | (go_at_call 50; refine (HP2.out _ F2 HALL.out).mono ?_; rintro e w3 ⟨hb3, qa, qc, rfl, hs3⟩; have F3 := F2.next hb3; have S3 := hs3; have S2 := S2.below hb3; obtain ⟨a30, a31⟩ := And.intro F3.c0 F3.c1)
                  | (go_at_call 51; refine (HSC.out _ pa pc qa qc S2 S3).mono ?_; rintro e w4 ⟨rfl, hb4⟩; have F4 := F3.next hb4; have S4 := S2.below hb4; obtain ⟨a40, a41⟩ := And.intro F4.c0 F4.c1)
                  | (go_at_call 23; refine (HFT.out _ pa pc F4 S4).mono ?_; rintro e w5 ⟨rfl, hb5⟩; have F5 := F4.next hb5; have S5 := S4.below hb5; obtain ⟨a50, a51⟩ := And.intro F5.c0 F5.c1)
                  | (go_at_call 25; refine (HCN.out _ pa pc F5 S5).mono ?_; rintro e w6 ⟨rfl, hb6⟩; have F6 := F5.next hb6; have S6 := S5.below hb6; obtain ⟨a60, a61⟩ := And.intro F6.c0 F6.c1)
                  | (go_at_call 12; refine (HAW.out _ F6).mono ?_; rintro e w99 ⟨rfl, F99⟩))
                all_goals go_ret
                all_goals exact ⟨rfl, F99.below⟩
              · have hl1 : ((cs.length : Int) == m3) = false := by simpa using hl
                have HNE := Lib.hid hl
                clear hl
                go_wp2_with (first
                  | (go_at_call 49; refine (HP1.out _ HFB.out HALL.out).mono ?_; rintro e w2 ⟨hb2, pa, pc, rfl, hs2⟩; have F2 := HFB.out.next hb2; have S2 := hs2; obtain ⟨a20, a21⟩ := And.intro F2.c0 F2.c1)
                  | (go_at_call 50; refine (HP2.out _ F2 HALL.out).mono ?_; rintro e w3 ⟨hb3, qa, qc, rfl, hs3⟩; have F3 := F2.next hb3; have S3 := hs3; have S2 := S2.below hb3; obtain ⟨a30, a31⟩ := And.intro F3.c0 F3.c1)
                  | (go_at_call 51; refine (HSC.out _ pa pc qa qc S2 S3).mono ?_; rintro e w4 ⟨rfl, hb4⟩; have F4 := F3.next hb4; have S4 := S2.below hb4; obtain ⟨a40, a41⟩ := And.intro F4.c0 F4.c1)
                  | (go_at_call 23; refine (HFT.out _ pa pc F4 S4).mono ?_; rintro e w5 ⟨rfl, hb5⟩; have F5 := F4.next hb5; have S5 := S4.below hb5; obtain ⟨a50, a51⟩ := And.intro F5.c0 F5.c1)
                  | (go_at_call 25; refine (HCN.out _ pa pc F5 S5).mono ?_; rintro e w6 ⟨rfl, hb6⟩; have F6 := F5.next hb6; have S6 := S5.below hb6; obtain ⟨a60, a61⟩ := And.intro F6.c0 F6.c1))
                have HF6 := Lib.hid F6
                have HS6 := Lib.hid S6
                clear F2 F3 F4 F5 F6 S2 S3 S4 S5 S6 a20 a21 a30 a31 a40 a41 a50 a51 a60 a61 hb2 hb3 hb4 hb5 hb6 hs2 hs3
                go_loopw [20, 21, 22, 23, 24, 122] (fun _ _ _ _ _ i wr => ∃ k : Nat, k ≤ m1.length ∧ i = .int .i64 k ∧ Below w6.heap.size w6 wr) (fun _ _ _ _ _ i _ => m1.length - (intOf i).toNat)
                case atStart => exact ⟨0, Nat.zero_le _, rfl, Below.refl _ _⟩
                case round =>
                  clear hlt hk k0 k1 HFB HNO
                  obtain ⟨k2, hk2, rfl, hb7⟩ := hrel
                  have HB7 := Lib.hid hb7
                  have HF7 := Lib.hid (HF6.out.next hb7)
                  obtain ⟨a70, a71⟩ := And.intro HF7.out.c0 HF7.out.c1
                  have HCS7 := Lib.hid (HS6.out.below hb7)
                  clear hb7
                  by_cases hlt : k2 < m1.length
                  · obtain ⟨b, o, ra, r, rc, rfl, q0, q1, q2⟩ := (HM.out.below HF7.out.below).at hlt
                    have HQ1 := Lib.hid q1
                    have HMEM : Hid (r ∈ m1) := List.mem_of_getElem? q2.out
                    clear q1
                    go_wp2
                    clear a70 a71
                    go_loopw [21, 22, 23, 24] (fun tv _ _ _ wr2 => ∃ j : Nat, j ≤ 29 ∧ tv = .int .i64 (7 * (j : Int) - 99) ∧ Below (World.heap wr).size wr wr2) (fun tv _ _ _ _ => (110 - intOf tv).toNat)
                    case atStart => exact ⟨0, by omega, rfl, Below.refl _ _⟩
                    case round =>
                      obtain ⟨j, hj, rfl, hb8⟩ := hrel
                      have HB8 := Lib.hid hb8
                      have HF8 := Lib.hid (HF7.out.next hb8)
                      obtain ⟨a80, a81⟩ := And.intro HF8.out.c0 HF8.out.c1
                      clear hb8
                      by_cases htl : 7 * (j : Int) - 99 ≤ 100
                      · obtain ⟨A, B, hab, hp⟩ := HPA.out HNE.out r (7 * (j : Int) - 99) HMEM.out (HALL.out r HMEM.out) (by omega) htl
                        have HPK := Lib.hid (hp _ pa pc ra rc HF8.out (HCS7.out.below HB8.out) (HQ1.out.below HB8.out))
                        clear hp
                        by_cases hA : (0 : Int) < (A : Int)
                        · have hB : ¬ (0 : Int) < (B : Int) := by omega
                          clear hab
                          go_wp2_with (go_at_call 34; refine HPK.out.mono ?_; rintro e w9 ⟨rfl, hb9⟩)
                          exact ⟨⟨j + 1, by omega, congrArg (Value.int .i64) (by omega), HB8.out.trans (hb9.mono HB8.out.size)⟩, by simp [intOf]; omega⟩
                        · clear hab
                          go_wp2_with (go_at_call 34; refine HPK.out.mono ?_; rintro e w9 ⟨rfl, hb9⟩)
                          exact ⟨⟨j + 1, by omega, congrArg (Value.int .i64) (by omega), HB8.out.trans (hb9.mono HB8.out.size)⟩, by simp [intOf]; omega⟩
                      · go_wp2
                        exact ⟨⟨k2 + 1, by omega, by go_num, HB7.out.trans (HB8.out.mono HB7.out.size)⟩, by simp [intOf]; omega⟩
                  · go_wp2_with (go_at_call 12; refine (HAW.out _ HF7.out).mono ?_; rintro e w99 ⟨rfl, F99⟩)
                    all_goals go_ret
                    all_goals exact ⟨rfl, F99.below⟩
          · have h00 : (pe != 0) = true := by simpa using h0
            clear h0
            go_wp2_with (first
              | (go_at_call 49; refine (HP1.out _ HFB.out HALL.out).mono ?_; rintro e w2 ⟨hb2, pa, pc, rfl, hs2⟩; have F2 := HFB.out.next hb2; have S2 := hs2; obtain ⟨a20, a21⟩ := And.intro F2.c0 F2.c1)
              | (go_at_call 50; refine (HP2.out _ F2 HALL.out).mono ?_; rintro e w3 ⟨hb3, qa, qc, rfl, hs3⟩; have F3 := F2.next hb3; have S3 := hs3; have S2 := S2.below hb3; obtain ⟨a30, a31⟩ := And.intro F3.c0 F3.c1)
              | (go_at_call 51; refine (HSC.out _ pa pc qa qc S2 S3).mono ?_; rintro e w4 ⟨rfl, hb4⟩; have F4 := F3.next hb4; have S4 := S2.below hb4; obtain ⟨a40, a41⟩ := And.intro F4.c0 F4.c1)
              | (go_at_call 12; refine (HAW.out _ F4).mono ?_; rintro e w99 ⟨rfl, F99⟩))
            all_goals go_ret
            all_goals exact ⟨rfl, F99.below⟩
    · clear hg3
      go_enter Try.func9, Try.ntmps9
      go_wp2_with (go_at_call 10; refine (HFE.out _ HF.out).mono ?_; rintro e w0 ⟨rfl, F0⟩; obtain ⟨a00, a01⟩ := And.intro F0.c0 F0.c1)
      go_loopw [10, 51] (fun _ i wr => ∃ k : Nat, k ≤ m1.length ∧ i = .int .i64 k ∧ (∀ j y, j < k → m1[j]? = some y → y.length ≤ 20) ∧ Fb w x0 y0 wr) (fun _ i _ => m1.length - (intOf i).toNat)
      case atStart => exact ⟨0, Nat.zero_le _, rfl, fun j y h => by omega, F0⟩
      case round =>
        clear a00 a01
        obtain ⟨k, hk, rfl, hno, hf⟩ := hrel
        have HNO := Lib.hid hno
        have HFB := Lib.hid hf
        obtain ⟨k0, k1⟩ := And.intro hf.c0 hf.c1
        clear hno hf
        by_cases hlt : k < m1.length
        · obtain ⟨b, o, ra, r, rc, rfl, q0, q1, q2⟩ := (HM.out.below HFB.out.below).at hlt
          clear q1
          by_cases hr : (20 : Int) < (r.length : Int)
          · go_wp2_with (go_at_call 12; refine (HAW.out _ HFB.out).mono ?_; rintro e w99 ⟨rfl, F99⟩)
            all_goals go_ret
            all_goals exact ⟨rfl, F99.below⟩
          · go_wp2
            go_roundw
            case rel => exact ⟨k + 1, by omega, by go_num, fun j y hj hy => by
                by_cases hj' : j = k
                · subst hj'; rw [q2.out] at hy; cases hy; omega
                · exact HNO.out j y (by omega) hy, HFB.out⟩
            case measure => simp [intOf]; omega
        · have HALL : Hid (∀ r ∈ m1, r.length ≤ 20) := fun r hr => by
            obtain ⟨j, hj⟩ := List.mem_iff_getElem?.1 hr
            exact HNO.out j r (by have := (List.getElem?_eq_some_iff.1 hj).1; omega) hj
          by_cases h0 : pe = 0
          · subst h0
            obtain ⟨HFT, HCN, HPA⟩ := HPOST.out rfl
            by_cases hn : cn = 1
            · have hn1 : (cn == 1) = true := by simpa using hn
              clear hn
              go_wp2_with (first
                | (go_at_call 49; refine (HP1.out _ HFB.out HALL.out).mono ?_; rintro e w2 ⟨hb2, pa, pc, rfl, hs2⟩; have F2 := HFB.out.next hb2; have S2 := hs2; obtain ⟨a20, a21⟩ := And.intro F2.c0 F2.c1)
                | (go_at_call 50; refine (HP2.out _ F2 HALL.out).mono ?_; rintro e w3 ⟨hb3, qa, qc, rfl, hs3⟩; have F3 := F2.next hb3; have S3 := hs3; have S2 := S2.below hb3; obtain ⟨a30, a31⟩ := And.intro F3.c0 F3.c1)
                | (go_at_call 51; refine (HSC.out _ pa pc qa qc S2 S3).mono ?_; rintro e w4 ⟨rfl, hb4⟩; have F4 := F3.next hb4; have S4 := S2.below hb4; obtain ⟨a40, a41⟩ := And.intro F4.c0 F4.c1)
                | (go_at_call 23; refine (HFT.out _ pa pc F4 S4).mono ?_; rintro e w5 ⟨rfl, hb5⟩; have F5 := F4.next hb5; have S5 := S4.below hb5; obtain ⟨a50, a51⟩ := And.intro F5.c0 F5.c1)
                | (go_at_call 25; refine (HCN.out _ pa pc F5 S5).mono ?_; rintro e w6 ⟨rfl, hb6⟩; have F6 := F5.next hb6; have S6 := S5.below hb6; obtain ⟨a60, a61⟩ := And.intro F6.c0 F6.c1)
                | (go_at_call 12; refine (HAW.out _ F6).mono ?_; rintro e w99 ⟨rfl, F99⟩))
              all_goals go_ret
              all_goals exact ⟨rfl, F99.below⟩
            · have hn1 : (cn == 1) = false := by simpa using hn
              clear hn
              by_cases hl : (cs.length : Int) = m3
              · have hl1 : ((cs.length : Int) == m3) = true := by simpa using hl
                clear hl
                go_wp2_with (first
                  | (go_at_call 49; refine (HP1.out _ HFB.out HALL.out).mono ?_; rintro e w2 ⟨hb2, pa, pc, rfl, hs2⟩; have F2 := HFB.out.next hb2; have S2 := hs2; obtain ⟨a20, a21⟩ := And.intro F2.c0 F2.c1)
                  | (go_at_call 50; refine (HP2.out _ F2 HALL.out).mono ?_; rintro e w3 ⟨hb3, qa, qc, rfl, hs3⟩; have F3 := F2.next hb3; have S3 := hs3; have S2 := S2.below hb3; obtain ⟨a30, a31⟩ := And.intro F3.c0 F3.c1)
                  | (go_at_call 51; refine (HSC.out _ pa pc qa qc S2 S3).mono ?_; rintro e w4 ⟨rfl, hb4⟩; have F4 := F3.next hb4; have S4 := S2.below hb4; obtain ⟨a40, a41⟩ := And.intro F4.c0 F4.c1)
                  | (go_at_call 23; refine (HFT.out _ pa pc F4 S4).mono ?_; rintro e w5 ⟨rfl, hb5⟩; have F5 := F4.next hb5; have S5 := S4.below hb5; obtain ⟨a50, a51⟩ := And.intro F5.c0 F5.c1)
                  | (go_at_call 25; refine (HCN.out _ pa pc F5 S5).mono ?_; rintro e w6 ⟨rfl, hb6⟩; have F6 := F5.next hb6; have S6 := S5.below hb6; obtain ⟨a60, a61⟩ := And.intro F6.c0 F6.c1)
                  | (go_at_call 12; refine (HAW.out _ F6).mono ?_; rintro e w99 ⟨rfl, F99⟩))
                all_goals go_ret
                all_goals exact ⟨rfl, F99.below⟩
              · have hl1 : ((cs.length : Int) == m3) = false := by simpa using hl
                have HNE := Lib.hid hl
                clear hl
                go_wp2_with (first
                  | (go_at_call 49; refine (HP1.out _ HFB.out HALL.out).mono ?_; rintro e w2 ⟨hb2, pa, pc, rfl, hs2⟩; have F2 := HFB.out.next hb2; have S2 := hs2; obtain ⟨a20, a21⟩ := And.intro F2.c0 F2.c1)
                  | (go_at_call 50; refine (HP2.out _ F2 HALL.out).mono ?_; rintro e w3 ⟨hb3, qa, qc, rfl, hs3⟩; have F3 := F2.next hb3; have S3 := hs3; have S2 := S2.below hb3; obtain ⟨a30, a31⟩ := And.intro F3.c0 F3.c1)
                  | (go_at_call 51; refine (HSC.out _ pa pc qa qc S2 S3).mono ?_; rintro e w4 ⟨rfl, hb4⟩; have F4 := F3.next hb4; have S4 := S2.below hb4; obtain ⟨a40, a41⟩ := And.intro F4.c0 F4.c1)
                  | (go_at_call 23; refine (HFT.out _ pa pc F4 S4).mono ?_; rintro e w5 ⟨rfl, hb5⟩; have F5 := F4.next hb5; have S5 := S4.below hb5; obtain ⟨a50, a51⟩ := And.intro F5.c0 F5.c1)
                  | (go_at_call 25; refine (HCN.out _ pa pc F5 S5).mono ?_; rintro e w6 ⟨rfl, hb6⟩; have F6 := F5.next hb6; have S6 := S5.below hb6; obtain ⟨a60, a61⟩ := And.intro F6.c0 F6.c1))
                have HF6 := Lib.hid F6
                have HS6 := Lib.hid S6
                clear F2 F3 F4 F5 F6 S2 S3 S4 S5 S6 a20 a21 a30 a31 a40 a41 a50 a51 a60 a61 hb2 hb3 hb4 hb5 hb6 hs2 hs3
                go_loopw [20, 21, 22, 23, 24, 122] (fun _ _ _ _ _ i wr => ∃ k : Nat, k ≤ m1.length ∧ i = .int .i64 k ∧ Below w6.heap.size w6 wr) (fun _ _ _ _ _ i _ => m1.length - (intOf i).toNat)
                case atStart => exact ⟨0, Nat.zero_le _, rfl, Below.refl _ _⟩
                case round =>
                  clear hlt hk k0 k1 HFB HNO
                  obtain ⟨k2, hk2, rfl, hb7⟩ := hrel
                  have HB7 := Lib.hid hb7
                  have HF7 := Lib.hid (HF6.out.next hb7)
                  obtain ⟨a70, a71⟩ := And.intro HF7.out.c0 HF7.out.c1
                  have HCS7 := Lib.hid (HS6.out.below hb7)
                  clear hb7
                  by_cases hlt : k2 < m1.length
                  · obtain ⟨b, o, ra, r, rc, rfl, q0, q1, q2⟩ := (HM.out.below HF7.out.below).at hlt
                    have HQ1 := Lib.hid q1
                    have HMEM : Hid (r ∈ m1) := List.mem_of_getElem? q2.out
                    clear q1
                    go_wp2
                    clear a70 a71
                    go_loopw [21, 22, 23, 24] (fun tv _ _ _ wr2 => ∃ j : Nat, j ≤ 29 ∧ tv = .int .i64 (7 * (j : Int) - 99) ∧ Below (World.heap wr).size wr wr2) (fun tv _ _ _ _ => (110 - intOf tv).toNat)
                    case atStart => exact ⟨0, by omega, rfl, Below.refl _ _⟩
                    case round =>
                      obtain ⟨j, hj, rfl, hb8⟩ := hrel
                      have HB8 := Lib.hid hb8
                      have HF8 := Lib.hid (HF7.out.next hb8)
                      obtain ⟨a80, a81⟩ := And.intro HF8.out.c0 HF8.out.c1
                      clear hb8
                      by_cases htl : 7 * (j : Int) - 99 ≤ 100
                      · obtain ⟨A, B, hab, hp⟩ := HPA.out HNE.out r (7 * (j : Int) - 99) HMEM.out (HALL.out r HMEM.out) (by omega) htl
                        have HPK := Lib.hid (hp _ pa pc ra rc HF8.out (HCS7.out.below HB8.out) (HQ1.out.below HB8.out))
                        clear hp
                        by_cases hA : (0 : Int) < (A : Int)
                        · have hB : ¬ (0 : Int) < (B : Int) := by omega
                          clear hab
                          go_wp2_with (go_at_call 34; refine HPK.out.mono ?_; rintro e w9 ⟨rfl, hb9⟩)
                          exact ⟨⟨j + 1, by omega, congrArg (Value.int .i64) (by omega), HB8.out.trans (hb9.mono HB8.out.size)⟩, by simp [intOf]; omega⟩
                        · clear hab
                          go_wp2_with (go_at_call 34; refine HPK.out.mono ?_; rintro e w9 ⟨rfl, hb9⟩)
                          exact ⟨⟨j + 1, by omega, congrArg (Value.int .i64) (by omega), HB8.out.trans (hb9.mono HB8.out.size)⟩, by simp [intOf]; omega⟩
                      · go_wp2
                        exact ⟨⟨k2 + 1, by omega, by go_num, HB7.out.trans (HB8.out.mono HB7.out.size)⟩, by simp [intOf]; omega⟩
                  · go_wp2_with (go_at_call 12; refine (HAW.out _ HF7.out).mono ?_; rintro e w99 ⟨rfl, F99⟩)
                    all_goals go_ret
                    all_goals exact ⟨rfl, F99.below⟩
          · have h00 : (pe != 0) = true := by simpa using h0
            clear h0
            go_wp2_with (first
              | (go_at_call 49; refine (HP1.out _ HFB.out HALL.out).mono ?_; rintro e w2 ⟨hb2, pa, pc, rfl, hs2⟩; have F2 := HFB.out.next hb2; have S2 := hs2; obtain ⟨a20, a21⟩ := And.intro F2.c0 F2.c1)
              | (go_at_call 50; refine (HP2.out _ F2 HALL.out).mono ?_; rintro e w3 ⟨hb3, qa, qc, rfl, hs3⟩; have F3 := F2.next hb3; have S3 := hs3; have S2 := S2.below hb3; obtain ⟨a30, a31⟩ := And.intro F3.c0 F3.c1)
              | (go_at_call 51; refine (HSC.out _ pa pc qa qc S2 S3).mono ?_; rintro e w4 ⟨rfl, hb4⟩; have F4 := F3.next hb4; have S4 := S2.below hb4; obtain ⟨a40, a41⟩ := And.intro F4.c0 F4.c1)
              | (go_at_call 12; refine (HAW.out _ F4).mono ?_; rintro e w99 ⟨rfl, F99⟩))
            all_goals go_ret
            all_goals exact ⟨rfl, F99.below⟩
end Go.Proofs.Ytoedbbpjddjbnaa.bitPlays
