/- Parts of the proof of LinKnown: plain words, walks and contracts, each under its own heading. -/
import Derived.Test.YteoimibefpidoaaLinKnownPD
import Derived.Test.YteoimibefpidoaaLinKnownPB
import Derived.Test.YteoimibefpidoaaLinKnownPA
import Derived.IntWalk
/- Known of the program: a contract. -/
namespace Go.Proofs.Yteoimibefpidoaa
open Go.RowKit

set_option maxRecDepth 1000000 in
set_option maxHeartbeats 1600000 in
theorem lknowns_any (ma : Option Addr) (m : List (List Int)) (mc : Nat) (w : World) (hm : MOk m) (hs : Ms w ma m) :
    Calls Try.prog 24 #[.slice ma m.length mc] w (LPost (knownLV m) w) := by
  have HVA : Hid (Calls Try.prog 49 #[.slice ma m.length mc] w fun e w' => e = .returned (.bool (validM m)) ∧ Below w.heap.size w w') := mvalid_any ma m mc w hm hs
  cases hv : validM m
  case false =>
    rw [hv] at HVA
    have HK : Hid (knownLV m = ([], 1)) := by show _ = _; simp [knownLV, hv]
    clear hv hs hm
    rw [HK.out]
    go_enter Try.func24, Try.ntmps24
    go_wp2_with (go_at_call 49; refine HVA.out.mono ?_; rintro e w1 ⟨rfl, hb⟩; have HB := Lib.hid hb; clear hb)
    go_ret2
    exact LPost.err 1 rfl HB.out
  case true =>
    rw [hv] at HVA
    obtain ⟨hm1, hm6, hc1, hc10, hrows⟩ := validM_of hv
    have h64 : Hid (All64 m) := fun q hq x hx => by
      obtain ⟨c, hc, rfl⟩ := mem_gt.1 hx
      have := gt_in (hrows q hq).2 hc
      unfold In64; omega
    have HRA : Hid (∀ w1 : World, Below w.heap.size w w1 → Calls Try.prog 57 #[.slice ma m.length mc, .func (.func 58) #[] #[]] w1 (RdPost (redN m (upTo (colsM m))) w1)) := fun w1 hb => reduceAll_any (Lib.hid hm6) (Lib.hid hm1) (Lib.hid ⟨hc1, hc10⟩) (Lib.hid fun r hr => (hrows r hr).1) h64 (Lib.hid (hs.below hb))
    have HF := Lib.hid (basis_fin hv)
    have HKS : Hid (∀ j, j < colsM m → decide (0 ≤ knownV (redN m (upTo (colsM m))).rows (redN m (upTo (colsM m))).piv (colsM m) (j : Int)) = rknownB m j) := fun j hj => known_same hv hj
    have hco : (redN m (upTo (colsM m))).cols = colsM m := by rw [redN_cols, upTo_len]
    obtain ⟨rd, hrd⟩ : ∃ rd, redN m (upTo (colsM m)) = rd := ⟨_, rfl⟩
    rw [hrd] at HF HRA HKS hco
    obtain ⟨cols, rows, piv, dv⟩ := rd
    dsimp only at HKS hco
    subst hco
    have hlen := HF.out.len
    have hrow := HF.out.row
    have hplr := HF.out.pl
    dsimp only at hlen hrow hplr
    have HKV : Hid (∀ (g cp : Nat) (ads : List (Nat × Nat)) (pa : Option Addr) (pc base : Nat) (j : Nat) (W : World), SI W base g ads rows → Sl W pa piv → Calls Try.prog 59 #[.agg #[.int .i64 (colsM m : Int), .slice (some ⟨g, 0, none⟩) rows.length cp, .slice pa piv.length pc, .int .i64 dv], .int .i64 (j : Int)] W fun e w' => e = .returned (.int .i64 (knownV rows piv (colsM m) (j : Int))) ∧ Below W.heap.size W w') := fun g cp ads pa pc base j W h h2 => known_any (colsM m) g cp (colsM m) ads rows pa piv pc dv (j : Int) base W (by omega) (by omega) hrow (Nat.le_refl _) (by omega) h h2
    obtain ⟨bm, om, ai, ci, rfl, hcell, _⟩ := hs 0 hm1
    obtain ⟨c, hc⟩ : ∃ c, colsM m = c := ⟨_, rfl⟩
    have hl0 : (m[0]?.getD []).length = c := by rw [← hc]; rfl
    rw [hl0, Nat.add_zero] at hcell
    have HM0 : Hid (∀ W, Below w.heap.size w W → W.cell? ⟨bm, om, none⟩ = some (.slice ai c ci)) := fun W hW => (hW.cell (p := ⟨bm, om, none⟩) (cell_lt hcell)).trans hcell
    have HK : Hid (knownLV m = (knTo m c, 0)) := by show _ = _; simp [knownLV, hv, hc]
    rw [hc] at hc10 HKV HKS HRA
    rw [HK.out]
    obtain ⟨n, hn⟩ : ∃ n, m.length = n := ⟨_, rfl⟩
    rw [hn] at hm1 HVA HRA ⊢
    have hn0 : (0 : Int) < (n : Int) := by omega
    clear hs hl0 hrows hn hc hc1 hv hm HF hcell hlen hrow hplr hrd h64 hm6
    go_enter Try.func24, Try.ntmps24
    go_wp2_with (first | (go_at_call 49; refine HVA.out.mono ?_; rintro e w1 ⟨rfl, hb⟩; have HB := Lib.hid hb; clear hb) | (go_at_call 57; refine (HRA.out w1 HB.out).mono ?_; rintro e w3 ⟨hb3, g, cp, ads, pa2, pc2, rfl, hgg, si, pi⟩; unfold rdV; dsimp only at si pi ⊢; obtain ⟨W4, hW4⟩ : ∃ W4, w3.alloc (.cells #[.int .i64 (c : Int), .slice (some ⟨g, 0, none⟩) rows.length cp, .slice pa2 piv.length pc2, .int .i64 dv] 76) = W4 := ⟨_, rfl⟩; have HCW : Hid (∀ W, Below W4.heap.size W4 W → W.cell? ⟨w3.heap.size, 0, none⟩ = some (.int .i64 (c : Int)) ∧ W.cell? ⟨w3.heap.size, 1, none⟩ = some (.slice (some ⟨g, 0, none⟩) rows.length cp) ∧ W.cell? ⟨w3.heap.size, 2, none⟩ = some (.slice pa2 piv.length pc2) ∧ W.cell? ⟨w3.heap.size, 3, none⟩ = some (.int .i64 dv)) := box_cells hW4; have HB4 : Hid (Below w3.heap.size w3 W4) := hW4 ▸ (Below.refl _ _).alloc (Nat.le_refl _) _; have HSI4 := Lib.hid (si.below HB4.out); have HPI4 := Lib.hid ((OwnI.sl pi).below HB4.out); have HBW4 : Hid (Below w.heap.size w W4) := HB.out.trans ((hb3.mono HB.out.size).trans (HB4.out.mono (Nat.le_trans HB.out.size hb3.size))); have km := HM0.out W4 HBW4.out; clear si pi hgg hb3))
    clear hW4 km
    go_loopw [5, 16] (fun v i wr => ∃ j : Nat, j ≤ c ∧ i = .int .i64 j ∧ OwnI wr W4.heap.size v (knTo m j) ∧ Below W4.heap.size W4 wr) (fun _ i _ => c - (intOf i).toNat)
    case atStart => exact ⟨0, Nat.zero_le _, rfl, OwnI.nil _ _, Below.refl _ _⟩
    case round =>
      obtain ⟨j, hj, rfl, hO, hB⟩ := hrel
      have HO := Lib.hid hO; clear hO
      have HBB := Lib.hid hB; clear hB
      by_cases hlt : j < c
      · have HSU : Hid (knTo m (j + 1) = if rknownB m j = true then knTo m j ++ [(j : Int)] else knTo m j) := rfl
        have hks := HKS.out j hlt
        have HKJ := Lib.hid (HKV.out g cp ads pa2 pc2 _ j wr (HSI4.out.below HBB.out) (HPI4.out.below HBB.out))
        have hlk := knTo_len m j
        obtain ⟨k0, k1, k2, k3⟩ := HCW.out wr HBB.out
        obtain ⟨q, hq⟩ : ∃ q, rknownB m j = q := ⟨_, rfl⟩
        rw [hq] at HSU hks
        obtain ⟨T, hT⟩ : ∃ T, knTo m j = T := ⟨_, rfl⟩
        rw [hT] at HO HSU hlk
        obtain ⟨kv, hkv⟩ : ∃ kv, knownV rows piv c (j : Int) = kv := ⟨_, rfl⟩
        rw [hkv] at HKJ hks
        clear hT hq hkv
        cases q with
        | false =>
          have hkn : ¬ (0 : Int) ≤ kv := of_decide_eq_false hks
          go_wp2_with (go_at_call 59; refine HKJ.out.mono ?_; rintro e w5 ⟨rfl, hb5⟩)
          go_roundw
          case rel => exact ⟨j + 1, by omega, by go_num, by rw [HSU.out]; exact OwnI.below HO.out hb5, HBB.out.trans (hb5.mono HBB.out.size)⟩
          case measure => simp [intOf]; omega
        | true =>
          have hkn : (0 : Int) ≤ kv := of_decide_eq_true hks
          go_wp2_with (first | (go_at_call 59; refine HKJ.out.mono ?_; rintro e w5 ⟨rfl, hb5⟩; have HO5 := Lib.hid (OwnI.below HO.out hb5); have HB5 : Hid (Below W4.heap.size W4 w5) := HBB.out.trans (hb5.mono HBB.out.size); clear hb5) | (at_builtin; refine wpList_push rfl (.tmp 23) (.tmp 25) rfl W4.heap.size _ T _ _ _ _ rfl rfl rfl HO5.out (by omega) HB5.out.size ?_; intro v' w9 ho' hb'))
          go_roundw
          case rel => exact ⟨j + 1, by omega, by go_num, by rw [HSU.out]; exact ho', HB5.out.trans hb'⟩
          case measure => simp [intOf]; omega
      · obtain rfl : j = c := by omega
        obtain ⟨pa, pc, rfl, hps⟩ := HO.out.any
        have HPS := Lib.hid hps; clear hps
        go_wp2
        go_ret2
        exact ⟨HBW4.out.trans (HBB.out.mono HBW4.out.size), _, _, rfl, HPS.out⟩
end Go.Proofs.Yteoimibefpidoaa
/- Any of the program: a contract. -/
namespace Go.Proofs.Yteoimibefpidoaa
open Go.RowKit

set_option maxRecDepth 1000000 in
set_option maxHeartbeats 3200000 in
theorem lany_any (ma : Option Addr) (m : List (List Int)) (mc : Nat) (ya : Option Addr) (y : List Int) (yc : Nat) (w : World) (hm : MOk m) (hly : y.length ≤ 9223372036854775807) (hs : Ms w ma m) (hy : Sl w ya y) :
    Calls Try.prog 33 #[.slice ma m.length mc, .slice ya y.length yc] w (RLPost (anyV m y) w) := by
  obtain ⟨rv, hrv⟩ : ∃ rv, readE m y = rv := ⟨_, rfl⟩
  have HRE : Hid (Calls Try.prog 41 #[.slice ma m.length mc, .slice ya y.length yc] w fun e w' => e = .returned (.int .i64 rv) ∧ Below w.heap.size w w') := by rw [← hrv]; exact lread_any ma m mc ya y yc w hm hly hs hy
  by_cases hr0 : rv = 0
  · subst hr0
    obtain ⟨hv, hyl, hyb⟩ := readE_ok hrv
    obtain ⟨px, hpx⟩ : ∃ px, upTo (colsM m) = px := ⟨_, rfl⟩
    · have h1 : ∀ j ∈ px, 0 ≤ j ∧ j < (colsM m : Int) := fun j hj => by rw [← hpx] at hj; exact upTo_in hj
      have h2 : px.length ≤ 10 := by rw [← hpx, upTo_len]; exact (validM_of hv).2.2.2.1
      obtain ⟨hm1, hm6, hc1, hc10, hrows⟩ := validM_of hv
      have h64 : Hid (All64 m) := fun q hq x hx => by
        obtain ⟨c, hc, rfl⟩ := mem_gt.1 hx
        have := gt_in (hrows q hq).2 hc
        unfold In64; omega
      have hy64 : ∀ x ∈ y, In64 x := fun x hx => by
        obtain ⟨c, hc, rfl⟩ := mem_gt.1 hx
        have := gt_in hyb hc
        unfold In64; omega
      have HF := Lib.hid (redB_fin hv h1 hyl hyb)
      have hco := redB_cols m px (oneB y)
      obtain ⟨rd, hrd⟩ : ∃ rd, redB m px (oneB y) = rd := ⟨_, rfl⟩
      have HRD : Hid (∀ W, Below w.heap.size w W → Calls Try.prog 57 #[.slice ma m.length mc, .func (.func 107) #[] #[.pointer (some ⟨W.heap.size, 0, none⟩)]] (W.alloc (.cells #[.slice ya y.length yc] 25)) (RdPost rd (W.alloc (.cells #[.slice ya y.length yc] 25)))) := fun W hb => by
        have hb2 : Below w.heap.size w (W.alloc (.cells #[.slice ya y.length yc] 25)) := hb.alloc hb.size _
        rw [← hrd, ← hpx]
        exact reduceAll_anyOne (Lib.hid (one_beh (Nat.le_of_eq hyl.symm) (by omega) (alloc_cell _ _ _ _ _ rfl) (hy.below hb2))) ⟨Nat.le_refl _, by decide⟩ (Lib.hid (oneB_ok hy64)) (Lib.hid hm6) (Lib.hid hm1) (Lib.hid ⟨hc1, hc10⟩) (Lib.hid fun r hr => (hrows r hr).1) h64 (Lib.hid (hs.below hb2))
      have HSV : Hid (anyV m y = if possB rd.rows rd.piv.length px.length = true then (solL px.length rd.rows rd.piv rd.dv rd.piv.length, 0) else ([], 10)) := by show _ = _; unfold anyV; rw [if_pos hrv, hpx, hrd]
      rw [hrd] at HF hco
      obtain ⟨pl, hpl⟩ : ∃ pl, px.length = pl := ⟨_, rfl⟩
      rw [hpl] at HF hco HSV h2
      obtain ⟨cols, rows, piv, dv⟩ := rd
      dsimp only at hco HSV
      subst hco
      have hlen := HF.out.len
      have hrow := HF.out.row
      have hplr := HF.out.pl
      dsimp only at hlen hrow hplr
      have hpos := HF.out.pos
      dsimp only at hpos
      have hmid : ∀ t, t < piv.length → Mid (gt (rowL rows t) cols) := fun t ht => by
        have := HF.out.bdN t (by omega) cols (by omega)
        dsimp only at this
        unfold Mid; omega
      have hpz : ∀ t, t < piv.length → 0 ≤ gt piv t ∧ gt piv t < cols := fun t ht => HF.out.pz t ht
      obtain ⟨z, hz⟩ : ∃ z, possB rows piv.length cols = z := ⟨_, rfl⟩
      rw [hz] at HSV
      have HPO : Hid (∀ (g cp : Nat) (ads : List (Nat × Nat)) (pa : Option Addr) (pc base : Nat) (W : World), SI W base g ads rows → Calls Try.prog 63 #[.agg #[.int .i64 (cols : Int), .slice (some ⟨g, 0, none⟩) rows.length cp, .slice pa piv.length pc, .int .i64 dv]] W fun e w' => e = .returned (.bool z) ∧ Below W.heap.size W w') := fun g cp ads pa pc base W h => by rw [← hz]; exact possible_any cols g cp (cols + 1) ads rows pa piv.length pc piv dv base W rfl (by omega) (by omega) hrow (by omega) (by omega) h
      have HSO : Hid (∀ (g cp : Nat) (ads : List (Nat × Nat)) (pa : Option Addr) (pc base : Nat) (W : World), SI W base g ads rows → Sl W pa piv → Calls Try.prog 73 #[.agg #[.int .i64 (cols : Int), .slice (some ⟨g, 0, none⟩) rows.length cp, .slice pa piv.length pc, .int .i64 dv]] W fun e w' => ∃ b c, e = .returned (.slice (some ⟨b, 0, none⟩) cols c) ∧ OwnR w' W.heap.size (.slice (some ⟨b, 0, none⟩) cols c) (solL cols rows piv dv piv.length) ∧ Below W.heap.size W w') := fun g cp ads pa pc base W h h2 => solved_any cols g cp (cols + 1) ads rows pa piv pc dv base W (by omega) (by omega) hrow (by omega) (by omega) h h2 hpz hmid (by unfold Mid; omega) (by omega)
      clear hv hs hm h1 hrd hrows h64 hm1 hm6 hc1 hc10 hrv hyl hyb hy64 hy hpl hpx hlen hrow hplr hpos hmid hpz hz HF
      have HLS := solL_len cols rows piv dv piv.length
      cases z with
      | false =>
        rw [HSV.out]
        clear HSV
        go_enter Try.func33, Try.ntmps33
        go_wp2_with (first | (go_at_call 41; refine HRE.out.mono ?_; rintro e w2 ⟨rfl, hb⟩; have HB2 := Lib.hid hb; clear hb) | (go_at_call 62; refine (oneOf_any ya y.length yc w2).mono ?_; rintro e w9 ⟨rfl, rfl⟩) | (go_at_call 57; refine (HRD.out w2 HB2.out).mono ?_; rintro e w3 ⟨hb3, g, cp, ads, pa2, pc2, rfl, hgg, si, pi⟩; unfold rdV; dsimp only at si pi ⊢; obtain ⟨W4, hW4⟩ : ∃ W4, w3.alloc (.cells #[.int .i64 (cols : Int), .slice (some ⟨g, 0, none⟩) rows.length cp, .slice pa2 piv.length pc2, .int .i64 dv] 76) = W4 := ⟨_, rfl⟩; have HCW : Hid (∀ W, Below W4.heap.size W4 W → W.cell? ⟨w3.heap.size, 0, none⟩ = some (.int .i64 (cols : Int)) ∧ W.cell? ⟨w3.heap.size, 1, none⟩ = some (.slice (some ⟨g, 0, none⟩) rows.length cp) ∧ W.cell? ⟨w3.heap.size, 2, none⟩ = some (.slice pa2 piv.length pc2) ∧ W.cell? ⟨w3.heap.size, 3, none⟩ = some (.int .i64 dv)) := box_cells hW4; obtain ⟨k0, k1, k2, k3⟩ := HCW.out W4 (Below.refl _ _); have HB4 : Hid (Below w3.heap.size w3 W4) := hW4 ▸ (Below.refl _ _).alloc (Nat.le_refl _) _; have HSI := Lib.hid si; have HPI := Lib.hid (OwnI.sl pi); have HB3 := Lib.hid hb3; have HSI4 := Lib.hid (HSI.out.below HB4.out); have HPI4 := Lib.hid (HPI.out.below HB4.out); have HBW4 : Hid (Below w.heap.size w W4) := (HB2.out.alloc HB2.out.size _).trans ((HB3.out.mono (by rw [World.size_alloc]; have := HB2.out.size; omega)).trans (HB4.out.mono (by have h1 := HB3.out.size; rw [World.size_alloc] at h1; have := HB2.out.size; omega))); clear si pi hgg hb3) | (go_at_call 63; refine (HPO.out _ _ _ _ _ _ _ HSI4.out).mono ?_; rintro e w5 ⟨rfl, hb5⟩; have HB5 := Lib.hid hb5; have HB6 := HB5; obtain ⟨j0, j1, j2, j3⟩ := HCW.out w5 hb5; clear hb5) | (go_at_call 73; refine (HSO.out _ _ _ _ _ _ _ (HSI4.out.below HB6.out) (HPI4.out.below HB6.out)).mono ?_; rintro e w7 ⟨sb, sc, rfl, ho7, hb7⟩; have HO7 := Lib.hid ho7; have HB7 : Hid (Below W4.heap.size W4 w7) := HB6.out.trans (hb7.mono HB6.out.size); clear ho7 hb7))
        go_ret2
        exact RLPost.err (HBW4.out.trans (HB5.out.mono HBW4.out.size))
      | true =>
          have HS2 : Hid (anyV m y = (solL cols rows piv dv piv.length, 0)) := by show _ = _; rw [HSV.out, if_pos rfl]
          rw [HS2.out]
          clear HSV
          go_enter Try.func33, Try.ntmps33
          go_wp2_with (first | (go_at_call 41; refine HRE.out.mono ?_; rintro e w2 ⟨rfl, hb⟩; have HB2 := Lib.hid hb; clear hb) | (go_at_call 62; refine (oneOf_any ya y.length yc w2).mono ?_; rintro e w9 ⟨rfl, rfl⟩) | (go_at_call 57; refine (HRD.out w2 HB2.out).mono ?_; rintro e w3 ⟨hb3, g, cp, ads, pa2, pc2, rfl, hgg, si, pi⟩; unfold rdV; dsimp only at si pi ⊢; obtain ⟨W4, hW4⟩ : ∃ W4, w3.alloc (.cells #[.int .i64 (cols : Int), .slice (some ⟨g, 0, none⟩) rows.length cp, .slice pa2 piv.length pc2, .int .i64 dv] 76) = W4 := ⟨_, rfl⟩; have HCW : Hid (∀ W, Below W4.heap.size W4 W → W.cell? ⟨w3.heap.size, 0, none⟩ = some (.int .i64 (cols : Int)) ∧ W.cell? ⟨w3.heap.size, 1, none⟩ = some (.slice (some ⟨g, 0, none⟩) rows.length cp) ∧ W.cell? ⟨w3.heap.size, 2, none⟩ = some (.slice pa2 piv.length pc2) ∧ W.cell? ⟨w3.heap.size, 3, none⟩ = some (.int .i64 dv)) := box_cells hW4; obtain ⟨k0, k1, k2, k3⟩ := HCW.out W4 (Below.refl _ _); have HB4 : Hid (Below w3.heap.size w3 W4) := hW4 ▸ (Below.refl _ _).alloc (Nat.le_refl _) _; have HSI := Lib.hid si; have HPI := Lib.hid (OwnI.sl pi); have HB3 := Lib.hid hb3; have HSI4 := Lib.hid (HSI.out.below HB4.out); have HPI4 := Lib.hid (HPI.out.below HB4.out); have HBW4 : Hid (Below w.heap.size w W4) := (HB2.out.alloc HB2.out.size _).trans ((HB3.out.mono (by rw [World.size_alloc]; have := HB2.out.size; omega)).trans (HB4.out.mono (by have h1 := HB3.out.size; rw [World.size_alloc] at h1; have := HB2.out.size; omega))); clear si pi hgg hb3) | (go_at_call 63; refine (HPO.out _ _ _ _ _ _ _ HSI4.out).mono ?_; rintro e w5 ⟨rfl, hb5⟩; have HB5 := Lib.hid hb5; have HB6 := HB5; obtain ⟨j0, j1, j2, j3⟩ := HCW.out w5 hb5; clear hb5) | (go_at_call 73; refine (HSO.out _ _ _ _ _ _ _ (HSI4.out.below HB6.out) (HPI4.out.below HB6.out)).mono ?_; rintro e w7 ⟨sb, sc, rfl, ho7, hb7⟩; have HO7 := Lib.hid ho7; have HB7 : Hid (Below W4.heap.size W4 w7) := HB6.out.trans (hb7.mono HB6.out.size); clear ho7 hb7))
          go_ret2
          refine ⟨HBW4.out.trans (HB7.out.mono HBW4.out.size), _, sc, by (rw [HLS]; rfl), OwnR.rl (cap := sc) (base := w5.heap.size) ?_⟩
          rw [HLS]; exact HO7.out
  · have y0 : (rv == 0) = false := by simpa using hr0
    have y1 : (rv != 0) = true := by simpa using hr0
    have HSV : Hid (anyV m y = ([], rv)) := by show _ = _; unfold anyV; rw [hrv, if_neg hr0]
    rw [HSV.out]
    clear hs hm hr0 hrv hy HSV
    go_enter Try.func33, Try.ntmps33
    go_wp2_with (go_at_call 41; refine HRE.out.mono ?_; rintro e w2 ⟨rfl, hb⟩; have HB2 := Lib.hid hb; clear hb)
    go_ret2
    exact RLPost.err HB2.out
end Go.Proofs.Yteoimibefpidoaa
/- What is known does not hang on the numbers behind the rows; the row of a pivot as a sum of rows. Plain words. Speaks of no program. -/
namespace Go.Proofs.Yteoimibefpidoaa
open Go.RowKit

variable {R N cols : Nat} {A0 : Nat → Nat → Int} {r : Rd}
theorem sum_cut {f w : Nat → Int} {cols N : Nat} (hc : cols ≤ N) : sumTo (fun c => f c * (if c < cols then w c else 0)) N = sumTo (fun c => f c * w c) cols := by
  obtain ⟨d, rfl⟩ : ∃ d, N = cols + d := ⟨N - cols, by omega⟩
  rw [sumTo_split, sumZ d fun c _ => by rw [if_neg (by omega), Int.mul_zero], Int.add_zero]
  exact sumTo_congr cols fun c hc => by rw [if_pos hc]
theorem RFin.ker_cols (h : RFin R N cols A0 r) (hc : cols ≤ N) (w : Nat → Int) : (∀ i, i < R → sumTo (fun c => A0 i c * w c) cols = 0) ↔ (∀ t, t < r.piv.length → sumTo (fun c => gt (rowL r.rows t) c * w c) cols = 0) := by
  have hk := h.ker (fun c => if c < cols then w c else 0)
  have hl := h.pl
  constructor
  · intro hw t ht
    have := hk.mp (fun i hi => by rw [sum_cut hc]; exact hw i hi) t (by omega)
    rwa [sum_cut hc] at this
  · intro hw i hi
    have := hk.mpr (fun x hx => by
      rw [sum_cut hc]
      by_cases e : x < r.piv.length
      · exact hw x e
      · exact sumZ cols fun c hc => by rw [h.low x (by omega) hx c hc, Int.zero_mul]) i hi
    rwa [sum_cut hc] at this
theorem RFin.kvec_cols (h : RFin R N cols A0 r) (hR : R ≤ 6) (hN : cols ≤ N) {f : Nat} (hf : f < cols) (hn : (f : Int) ∉ r.piv) : ∀ t, t < r.piv.length → sumTo (fun c => gt (rowL r.rows t) c * gt (kvec r cols f) c) cols = 0 := by
  intro t ht
  have hp := h.pivN_lt ht
  have hne : f ≠ pivN r t := fun e => hn (h.mem.mpr ⟨t, ht, e.symm⟩)
  have e0 : ∀ c, c < cols → c ≠ f → c ≠ pivN r t → gt (rowL r.rows t) c * gt (kvec r cols f) c = 0 := fun c hc e1 e2 => by
    by_cases hm : (c : Int) ∈ r.piv
    · obtain ⟨s, hs, e⟩ := h.mem.mp hm
      have := h.self s t hs ht
      rw [e, if_neg (fun e3 => e2 (by rw [e3]; exact e.symm))] at this
      rw [this, Int.zero_mul]
    · rw [h.kvec_else hR hN hf hn hc e1 hm, Int.mul_zero]
  have hs := h.self t t ht ht
  rw [if_pos rfl] at hs
  have goal : gt (rowL r.rows t) f * gt (kvec r cols f) f + gt (rowL r.rows t) (pivN r t) * gt (kvec r cols f) (pivN r t) = 0 := by
    rw [hs, h.kvec_free hR hN hf hn, h.kvec_piv hR hN hf hn ht]; grind
  rcases Nat.lt_or_ge f (pivN r t) with h1 | h1
  · rw [sumPair h1 cols (by omega) fun c hc a b => e0 c hc a b]; exact goal
  · rw [sumPair (s := pivN r t) (t := f) (by omega) cols (by omega) fun c hc a b => e0 c hc b a]; omega
theorem loneR_iff (M : List (List Int)) (pz : List Int) (cols i : Nat) : loneR M pz cols i = true ↔ ∀ f, f < cols → (f : Int) ∉ pz → gt (rowL M i) f = 0 := by
  unfold loneR
  rw [List.all_eq_true]
  constructor
  · intro ha f hf hn
    have := ha _ ((freeTo_mem _ _ _).2 ⟨f, hf, rfl, hn⟩)
    rw [Int.toNat_natCast] at this
    simpa using this
  · intro ha x hx
    obtain ⟨f, hf, rfl, hn⟩ := (freeTo_mem _ _ _).1 hx
    rw [Int.toNat_natCast]
    simpa using ha f hf hn
/-- Where a pixel is known, its row is 0 everywhere else. -/
theorem RFin.known_row (h : RFin R N cols A0 r) {v : Int} (hk : 0 ≤ knownV r.rows r.piv cols v) : ∃ i : Nat, knownV r.rows r.piv cols v = (i : Int) ∧ i < r.piv.length ∧ gt r.piv i = v ∧ ∀ c, c < cols → gt (rowL r.rows i) c = if (c : Int) = v then r.dv else 0 := by
  unfold knownV at hk ⊢
  rcases indexV_at r.piv v with e | ⟨i, e, hi, hp⟩
  · rw [e, if_pos (by decide)] at hk; exact absurd hk (by decide)
  · rw [e, if_neg (by omega), Int.toNat_natCast] at hk ⊢
    by_cases hl : loneR r.rows r.piv cols i = true
    · rw [if_pos hl]
      refine ⟨i, rfl, hi, hp, fun c hc => ?_⟩
      have hpe := h.pivN_eq hi
      by_cases hm : (c : Int) ∈ r.piv
      · obtain ⟨s, hs, e2⟩ := h.mem.mp hm
        have h1 := h.self s i hs hi
        rw [e2] at h1
        rw [h1]
        by_cases e3 : i = s
        · subst e3; rw [if_pos rfl, if_pos (by omega)]
        · rw [if_neg e3, if_neg]
          intro e4
          exact e3 (h.inj hi hs (by omega))
      · rw [(loneR_iff _ _ _ _).1 hl c hc hm, if_neg]
        intro e4
        exact hm (h.mem.mpr ⟨i, hi, by omega⟩)
    · rw [if_neg hl] at hk; exact absurd hk (by decide)
theorem RFin.known_iff (h : RFin R N cols A0 r) (hR : R ≤ 6) (hN : cols ≤ N) {j : Nat} (hj : j < cols) :
    0 ≤ knownV r.rows r.piv cols (j : Int) ↔ ∀ w : Nat → Int, (∀ i, i < R → sumTo (fun c => A0 i c * w c) cols = 0) → w j = 0 := by
  constructor
  · intro hk w hw
    obtain ⟨i, _, hi, _, hrow⟩ := h.known_row hk
    have hs := (h.ker_cols hN w).mp hw i hi
    rw [sumOne (s := j) cols hj fun c hc e => by rw [hrow c hc, if_neg (by omega), Int.zero_mul], hrow j hj, if_pos rfl] at hs
    have := h.pos
    rcases Int.mul_eq_zero.mp hs with e | e
    · omega
    · exact e
  · intro ha
    have hz : ∀ f, f < cols → (f : Int) ∉ r.piv → gt (kvec r cols f) j = 0 := fun f hf hn => ha _ ((h.ker_cols hN _).mpr (h.kvec_cols hR hN hf hn))
    rcases indexV_at r.piv (j : Int) with e | ⟨i, e, hi, hp⟩
    · have hn : (j : Int) ∉ r.piv := by
        have hm := indexV_mem (xs := r.piv) (v := (j : Int))
        rw [e] at hm
        intro hin
        rw [decide_eq_true hin] at hm
        exact absurd hm (by decide)
      have := hz j hj hn
      rw [h.kvec_free hR hN hj hn] at this
      have := h.pos; omega
    · have hpj : pivN r i = j := by have := h.pivN_eq hi; omega
      unfold knownV
      rw [e, if_neg (by omega), Int.toNat_natCast, if_pos]
      · omega
      · rw [loneR_iff]
        intro f hf hn
        have h1 := h.kvec_piv hR hN hf hn hi
        rw [hpj] at h1
        have h2 := hz f hf hn
        omega
/-- Two reductions of rows that begin alike know the same pixels. -/
theorem known_alike {N2 : Nat} {B0 : Nat → Nat → Int} {s : Rd} (h : RFin R N cols A0 r) (g : RFin R N2 cols B0 s) (hR : R ≤ 6) (hN : cols ≤ N) (hN2 : cols ≤ N2) (he : ∀ i, i < R → ∀ c, c < cols → A0 i c = B0 i c) {j : Nat} (hj : j < cols) :
    0 ≤ knownV r.rows r.piv cols (j : Int) ↔ 0 ≤ knownV s.rows s.piv cols (j : Int) := by
  rw [h.known_iff hR hN hj, g.known_iff hR hN2 hj]
  constructor <;> intro ha w hw <;> refine ha w fun i hi => ?_ <;> rw [← hw i hi] <;> refine sumTo_congr cols fun c hc => ?_ <;> rw [he i hi c hc]
/-- The numbers behind a row tell of which rows it is the sum. -/
theorem RFin.behind (h : RFin R N cols A0 r) {n : Nat} (hN : N = cols + n) (hR : R = n) (hw : ∀ i, i < R → ∀ k, k < n → A0 i (cols + k) = if k = i then 1 else 0) {x : Nat} (hx : x < R) {c : Nat} (hc : c < cols) :
    gt (rowL r.rows x) c = sumTo (fun k => gt (rowL r.rows x) (cols + k) * A0 k c) n := by
  subst hN hR
  have hk := (h.ker (fun q => if q < cols then (if q = c then 1 else 0) else -A0 (q - cols) c)).mp (fun i hi => by
    rw [sumTo_split, sumOne (s := c) cols hc fun q hq e => by rw [if_pos hq, if_neg e, Int.mul_zero], if_pos hc, if_pos rfl, sumOne (s := i) R hi fun q hq e => by rw [hw i hi q hq, if_neg e, Int.zero_mul], if_neg (by omega), hw i hi i hi, if_pos rfl, show cols + i - cols = i by omega]
    omega) x hx
  rw [sumTo_split, sumOne (s := c) cols hc fun q hq e => by rw [if_pos hq, if_neg e, Int.mul_zero], if_pos hc, if_pos rfl] at hk
  have e : sumTo (fun i => gt (rowL r.rows x) (cols + i) * (if cols + i < cols then (if cols + i = c then 1 else 0) else -A0 (cols + i - cols) c)) R = -1 * sumTo (fun k => gt (rowL r.rows x) (cols + k) * A0 k c) R := by
    rw [← sumTo_mul]
    refine sumTo_congr R fun k _ => ?_
    rw [if_neg (by omega), show cols + k - cols = k by omega]
    grind
  rw [e] at hk
  omega
/-- A solution's number at a pivot. -/
theorem RFin.sol_at (h : RFin R N cols A0 r) {i : Nat} (hi : i < r.piv.length) : (solL cols r.rows r.piv r.dv r.piv.length)[pivN r i]? = some (lowR (gt (rowL r.rows i) cols) r.dv) := by
  have key : ∀ t, t ≤ r.piv.length → i < t → (solL cols r.rows r.piv r.dv t)[pivN r i]? = some (lowR (gt (rowL r.rows i) cols) r.dv) := by
    intro t
    induction t with
    | zero => intro _ h0; omega
    | succ t ih =>
      intro ht hit
      unfold solL
      have hlen := solL_len cols r.rows r.piv r.dv t
      by_cases e : t = i
      · subst e
        show ((solL cols r.rows r.piv r.dv t).set (pivN r t) _)[pivN r t]? = _
        rw [List.getElem?_set_self (by rw [hlen]; exact h.pivN_lt hi)]
      · show ((solL cols r.rows r.piv r.dv t).set (pivN r t) _)[pivN r i]? = _
        rw [List.getElem?_set_ne (fun e2 => e (h.inj (by omega) hi e2))]
        exact ih (by omega) (by omega)
  exact key _ (Nat.le_refl _) hi
end Go.Proofs.Yteoimibefpidoaa
/- whichOf: contracts. -/
namespace Go.Proofs.Yteoimibefpidoaa
open Go.RowKit

/-- The i-th unit list. -/
def whichB (n i : Nat) : List Int := (List.replicate n (0 : Int)).set i 1
theorem whichB_ok {n : Nat} : ∀ i, i < n → (whichB n i).length = n ∧ ∀ x ∈ whichB n i, In64 x := by
  intro i _
  refine ⟨by simp [whichB], fun x hx => ?_⟩
  rcases List.mem_or_eq_of_mem_set hx with e | e
  · rw [List.eq_of_mem_replicate e]; unfold In64; decide
  · rw [e]; unfold In64; decide
theorem whichOf_any (ma : Option Addr) (n mc : Nat) (w : World) :
    Calls Try.prog 66 #[.slice ma n mc] w fun e w' => e = .returned (.func (.func 109) #[] #[.pointer (some ⟨w.heap.size, 0, none⟩)]) ∧ w' = w.alloc (.cells #[.slice ma n mc] 23) := by
  go_enter Try.func66, Try.ntmps66
  go_wp2
  go_ret
  exact ⟨rfl, rfl⟩
set_option maxRecDepth 100000 in
theorem whichOf1_any (Cb : Nat) (ma : Option Addr) (n mc k : Nat) (w : World) (hk : k < n) (hl : n ≤ 6) (hc : w.cell? ⟨Cb, 0, none⟩ = some (.slice ma n mc)) :
    Calls Try.prog 109 #[.int .i64 (k : Int), .pointer (some ⟨Cb, 0, none⟩)] w fun e w' => ∃ bb bo bc, e = .returned (.slice (some ⟨bb, bo, none⟩) n bc) ∧ Sl w' (some ⟨bb, bo, none⟩) (whichB n k) ∧ Below w.heap.size w w' := by
  have hk0 : (k : Int) < (n : Int) := by omega
  obtain ⟨i0, hi, hz0, hz1, hz2⟩ := info_parts Try.infoInt
  go_enter Try.func109, Try.ntmps109
  go_wp2_with (with_reducible refine wpList_make_full _ rfl (.tmp 6) (.tmp 6) 25 rfl w.heap.size 3 i0 (.int .i64 0) 1 Try.underlying25 hi hz0 hz1 .i64 .i64 (n : Int) (n : Int) n rfl rfl rfl rfl (by rw [hz2]; omega) (by unfold maxLen; omega) (Nat.le_refl _) ?_)
  intro w4 hown hgrow
  have hb4 : Below w.heap.size w w4 := (Below.refl _ _).grown hgrow (Nat.le_refl _) (fun k e => by cases e)
  have HO4 : Hid (OwnI w4 w.heap.size (.slice (some ⟨w.heap.size, 0, none⟩) n n) (List.replicate n 0)) := by
    have z := zeros_are n
    rw [Nat.mul_one] at z
    show w4.ownsRow _ _ _ _ _ _
    rw [List.length_replicate, ← z]; exact hown
  obtain ⟨cz, fz⟩ := HO4.out.cell (j := k) (by rw [List.length_replicate]; exact hk)
  have HO5 := Lib.hid (HO4.out.stored k 1)
  have HB5 : Hid (Below w.heap.size w (w4.setCell ⟨w.heap.size, k, none⟩ (.int .i64 1))) := hb4.setCell (p := ⟨w.heap.size, k, none⟩) (Nat.le_refl _) _
  clear hown hgrow hb4
  go_wp2
  go_ret
  exact ⟨_, _, _, rfl, OwnI.sl HO5.out, HB5.out⟩
theorem which_beh {Cb : Nat} {ma : Option Addr} {n mc : Nat} {w : World} (hn : n ≤ 6) (hc : w.cell? ⟨Cb, 0, none⟩ = some (.slice ma n mc)) :
    BehF 109 (.pointer (some ⟨Cb, 0, none⟩)) (whichB n) n n w.heap.size w := fun W k hb hk =>
  whichOf1_any Cb ma n mc k W hk hn ((hb.cell (p := ⟨Cb, 0, none⟩) (cell_lt hc)).trans hc)
end Go.Proofs.Yteoimibefpidoaa
/- Reading and reading back are adjoint, and reading is additive: plain mathematics on lists of whole numbers. Speaks of no program. -/
namespace Go.Proofs.Yteoimibefpidoaa
open Go.RowKit

theorem sumTo_zero : ∀ n, sumTo (fun _ => 0) n = 0
  | 0 => rfl
  | n + 1 => by simp only [sumTo, sumTo_zero n]; rfl
theorem sumTo_swap (f : Nat → Nat → Int) (n : Nat) : ∀ m, sumTo (fun i => sumTo (fun j => f i j) n) m = sumTo (fun j => sumTo (fun i => f i j) m) n
  | 0 => by simp only [sumTo]; exact (sumTo_zero n).symm
  | m + 1 => by
    simp only [sumTo]
    rw [sumTo_swap f n m, sumTo_add (fun j => sumTo (fun i => f i j) m) (fun j => f m j)]
theorem gt_readL {m : List (List Int)} {x : List Int} {i : Nat} (hi : i < m.length) : gt (readL m x) i = dot (m[i]?.getD []) x := by
  unfold gt readL; simp [hi]
theorem gt_backL {m : List (List Int)} {y : List Int} {j : Nat} (hj : j < colsM m) : gt (backL m y) j = dot (colM m j) y := by
  unfold backL; exact gt_map_range _ hj
theorem gt_colM {m : List (List Int)} {i j : Nat} (hi : i < m.length) : gt (colM m j) i = gt (m[i]?.getD []) j := by
  unfold colM; unfold gt; simp [hi]
theorem adjoint {m : List (List Int)} {x y : List Int} (h : validM m = true) (_hx : x.length = colsM m) (hy : y.length = m.length) : dot y (readL m x) = dot (backL m y) x := by
  have e1 : dot y (readL m x) = sumTo (fun i => sumTo (fun j => gt (m[i]?.getD []) j * gt y i * gt x j) (colsM m)) m.length := by
    unfold dot
    rw [hy]
    refine sumTo_congr _ fun i hi => ?_
    rw [gt_readL hi]
    have hr : m[i]? = some (m[i]?.getD []) := by simp [hi]
    unfold dot
    rw [(validM_row h hr).1, ← sumTo_mul]
    refine sumTo_congr _ fun j _ => ?_
    rw [Int.mul_comm (gt (m[i]?.getD []) j) (gt y i), Int.mul_assoc]
  have e2 : dot (backL m y) x = sumTo (fun j => sumTo (fun i => gt (m[i]?.getD []) j * gt y i * gt x j) m.length) (colsM m) := by
    unfold dot
    rw [backL_length]
    refine sumTo_congr _ fun j hj => ?_
    rw [gt_backL hj, Int.mul_comm]
    unfold dot
    rw [colM_length, ← sumTo_mul]
    refine sumTo_congr _ fun i hi => ?_
    rw [gt_colM hi, Int.mul_comm]
  rw [e1, e2, sumTo_swap]
/-- The sums of two lists, place by place. -/
def addL (x z : List Int) : List Int := (List.range x.length).map fun j => gt x j + gt z j
theorem addL_length (x z : List Int) : (addL x z).length = x.length := by simp [addL]
theorem gt_addL {x z : List Int} {j : Nat} (hj : j < x.length) : gt (addL x z) j = gt x j + gt z j := by unfold addL; exact gt_map_range _ hj
theorem dot_add {r x z : List Int} (hx : r.length ≤ x.length) : dot r (addL x z) = dot r x + dot r z := by
  unfold dot
  rw [← sumTo_add]
  refine sumTo_congr _ fun j hj => ?_
  rw [gt_addL (by omega), Int.mul_add]
theorem read_add {m : List (List Int)} {x z : List Int} (h : validM m = true) (hx : x.length = colsM m) {i : Nat} (hi : i < m.length) : gt (readL m (addL x z)) i = gt (readL m x) i + gt (readL m z) i := by
  rw [gt_readL hi, gt_readL hi, gt_readL hi]
  have hr : m[i]? = some (m[i]?.getD []) := by simp [hi]
  exact dot_add (by rw [(validM_row h hr).1, hx]; exact Nat.le_refl _)
/-- What is read of a shown picture is within ten times its limit. -/
theorem read_bd {m : List (List Int)} {x : List Int} (h : validM m = true) (hx : x.length = colsM m) (ha : allB 1000000 x = true) {i : Nat} (hi : i < m.length) : -10000000 ≤ gt (readL m x) i ∧ gt (readL m x) i ≤ 10000000 := by
  rw [gt_readL hi]
  have hr : m[i]? = some (m[i]?.getD []) := by simp [hi]
  obtain ⟨h1, h2⟩ := validM_row h hr
  obtain ⟨_, _, _, h10, _⟩ := validM_of h
  have := dots_bd h2 ha (by omega) (Nat.le_refl _)
  unfold dot; omega
theorem back_bd {m : List (List Int)} {y : List Int} (h : validM m = true) (hy : y.length = m.length) (ha : allB 1000000000 y = true) {j : Nat} (hj : j < colsM m) : -10000000000 ≤ gt (backL m y) j ∧ gt (backL m y) j ≤ 10000000000 := by
  rw [gt_backL hj]
  obtain ⟨_, h6, _, h10, _⟩ := validM_of h
  have := dots_bd (colM_all h hj) ha (by rw [colM_length]; omega) (Nat.le_refl _)
  unfold dot; rw [colM_length] at *; omega
theorem allB_gt {xs : List Int} {M : Int} (h : ∀ i, i < xs.length → -M ≤ gt xs i ∧ gt xs i ≤ M) : allB M xs = true := by
  refine allB_yes fun j hj => ?_
  have h1 := h j hj
  unfold gt at h1
  simp [outB]; omega
theorem read_all {m : List (List Int)} {x : List Int} (h : validM m = true) (hx : x.length = colsM m) (ha : allB 1000000 x = true) : allB 10000000 (readL m x) = true :=
  allB_gt fun i hi => read_bd h hx ha (by rw [readL_length] at hi; exact hi)
theorem back_all {m : List (List Int)} {y : List Int} (h : validM m = true) (hy : y.length = m.length) (ha : allB 1000000000 y = true) : allB 10000000000 (backL m y) = true :=
  allB_gt fun i hi => back_bd h hy ha (by rw [backL_length] at hi; exact hi)
/-- The sums of two lists as the machine adds them. -/
def addW (x z : List Int) : List Int := (List.range x.length).map fun j => IntKind.i64.wrap (gt x j + gt z j)
theorem addW_length (x z : List Int) : (addW x z).length = x.length := by simp [addW]
theorem addW_next {x z : List Int} {k : Nat} (hk : k < x.length) : (addW x z).take (k + 1) = (addW x z).take k ++ [IntKind.i64.wrap (gt x k + gt z k)] := by
  rw [List.take_succ_eq_append_getElem (by rw [addW_length]; exact hk)]
  congr 2
  simp [addW]
theorem addW_eq {x z : List Int} (hl : z.length = x.length) (hx : allB 1000000 x = true) (hz : allB 1000000 z = true) : addW x z = addL x z := by
  refine list_ext_gt (by rw [addW_length, addL_length]) fun k hk => ?_
  rw [addW_length] at hk
  rw [gt_addL hk]
  unfold addW
  rw [gt_map_range _ hk]
  have h1 := gt_in hx hk
  have h2 := gt_in hz (k := k) (by omega)
  exact IntWalk.i64_in _ (by omega)
theorem shownM_of {m : List (List Int)} {x : List Int} (h : shownM m x = true) : validM m = true ∧ x.length = colsM m ∧ allB 1000000 x = true ∧ fitsV x (colsM m) 1000000 = 0 := by
  unfold shownM at h
  simp only [Bool.and_eq_true, decide_eq_true_eq] at h
  obtain ⟨h1, h2⟩ := h
  refine ⟨h1, ?_, ?_, h2⟩
  · unfold fitsV at h2; split at h2
    · omega
    · cases h2
  · unfold fitsV at h2; split at h2
    · split at h2
      · assumption
      · cases h2
    · cases h2
end Go.Proofs.Yteoimibefpidoaa
/- The numbers behind a row are a weight. Plain words. Speaks of no program. -/
namespace Go.Proofs.Yteoimibefpidoaa
open Go.RowKit

theorem rd_bd1 {R N cols : Nat} {M : List (List Int)} (h1 : M.length = R) (h2 : ∀ q ∈ M, q.length = N) (hR : R ≤ 6) (hN : cols ≤ N) (hb2 : ∀ i, i < R → ∀ c, c < N → -1 ≤ a0 M i c ∧ a0 M i c ≤ 1) :
    ∀ x, x < R → ∀ c, c < N → -720 ≤ gt (rowL (clearN { cols := cols, rows := M, piv := [], dv := 1 } cols).rows x) c ∧ gt (rowL (clearN { cols := cols, rows := M, piv := [], dv := 1 } cols).rows x) c ≤ 720 := by
  obtain ⟨A, h⟩ := bar_all h1 h2 hR hN (fun i hi c hc => hb2 i hi c (by omega)) (fun i hi c hc => by have := hb2 i hi c hc; omega) cols (Nat.le_refl _)
  obtain ⟨r, hr⟩ : ∃ r, clearN { cols := cols, rows := M, piv := [], dv := 1 } cols = r := ⟨_, rfl⟩
  rw [hr] at h ⊢
  have hpt : ∀ t, t < r.piv.length → pivN r t < cols := fun t ht => by have := h.pz t ht; unfold pivN; omega
  have hA2 : ∀ x, x < R → ∀ c, c < N → -1 ≤ A x c ∧ A x c ≤ 1 := fun x hx c hc => arr_bd h.arr (fun i hi => hb2 i hi c hc) x hx
  intro x hx c hc
  rw [h.val x hx c hc]
  exact mk_bd6 (Y := 1) (by decide) h.pl hR hx (fun i hi t ht => hA2 i hi _ (by have := hpt t ht; omega)) (fun i hi => hA2 i hi c hc)
theorem rowL_pixB {px : List Int} {m : List (List Int)} {bh : Nat → List Int} {i : Nat} (hi : i < m.length) : rowL (pixB px m bh) i = pixR px (rowL m i) ++ bh i := by unfold pixB rowL; simp [hi]
theorem gt_app_lt {xs ys : List Int} {k : Nat} (h : k < xs.length) : gt (xs ++ ys) k = gt xs k := by unfold gt; rw [List.getElem?_append_left h]
theorem gt_app_ge {xs ys : List Int} {k : Nat} : gt (xs ++ ys) (xs.length + k) = gt ys k := by unfold gt; rw [List.getElem?_append_right (by omega)]; congr 2; omega
/-- The first columns of rows with more behind them are the mask's. -/
theorem all_at {m : List (List Int)} {bh : Nat → List Int} {i c : Nat} (hi : i < m.length) (hc : c < colsM m) : a0 (pixB (upTo (colsM m)) m bh) i c = gt (rowL m i) c := by
  unfold a0
  rw [rowL_pixB hi, gt_app_lt (by rw [pixR_len, upTo_len]; exact hc), gt_pixR (by rw [upTo_len]; exact hc), gt_upTo hc, Int.toNat_natCast]
theorem whichB_at {n i k : Nat} (hk : k < n) : gt (whichB n i) k = if k = i then 1 else 0 := by
  unfold whichB gt
  by_cases e : k = i
  · subst e; rw [if_pos rfl, List.getElem?_set_self (by simpa using hk)]; rfl
  · rw [if_neg e, List.getElem?_set_ne (Ne.symm e)]; simp [hk]
theorem which_at {m : List (List Int)} {i k : Nat} (hi : i < m.length) (hk : k < m.length) : a0 (pixB (upTo (colsM m)) m (whichB m.length)) i (colsM m + k) = if k = i then 1 else 0 := by
  unfold a0
  have e : gt (pixR (upTo (colsM m)) (rowL m i) ++ whichB m.length i) ((pixR (upTo (colsM m)) (rowL m i)).length + k) = gt (whichB m.length i) k := gt_app_ge
  rw [pixR_len, upTo_len] at e
  rw [rowL_pixB hi, e, whichB_at hk]
/-- The reduction with the rows' numbers behind them. -/
def redW (m : List (List Int)) : Rd := redB m (upTo (colsM m)) (whichB m.length)
theorem redW_row {m : List (List Int)} : ∀ q ∈ pixB (upTo (colsM m)) m (whichB m.length), q.length = colsM m + m.length := fun q hq => by
  obtain ⟨i, hi, rfl⟩ := List.mem_map.1 hq
  rw [List.length_append, pixR_len, upTo_len, (whichB_ok i (List.mem_range.1 hi)).1]
theorem redW_b1 {m : List (List Int)} (hv : validM m = true) : ∀ i, i < m.length → ∀ c, c < colsM m + m.length → -1 ≤ a0 (pixB (upTo (colsM m)) m (whichB m.length)) i c ∧ a0 (pixB (upTo (colsM m)) m (whichB m.length)) i c ≤ 1 := by
  intro i hi c hc
  by_cases e : c < colsM m
  · rw [all_at hi e]; exact mask_bd hv i hi c e
  · obtain ⟨k, rfl⟩ : ∃ k, c = colsM m + k := ⟨c - colsM m, by omega⟩
    rw [which_at hi (by omega)]
    split <;> decide
theorem redW_fin {m : List (List Int)} (hv : validM m = true) : RFin m.length (colsM m + m.length) (colsM m) (a0 (pixB (upTo (colsM m)) m (whichB m.length))) (redW m) := by
  have h := rd_fin (cols := (upTo (colsM m)).length) (M := pixB (upTo (colsM m)) m (whichB m.length)) (pixB_len _ _ _) redW_row (validM_of hv).2.1 (by rw [upTo_len]; omega) (fun i hi c hc => redW_b1 hv i hi c (by rw [upTo_len] at hc; omega)) (fun i hi c hc => by have := redW_b1 hv i hi c hc; omega)
  rw [upTo_len] at h
  have e : redW m = clearN { cols := colsM m, rows := pixB (upTo (colsM m)) m (whichB m.length), piv := [], dv := 1 } (colsM m) := by unfold redW redB redBM; rw [upTo_len]
  rw [e]; exact h
theorem redW_bd {m : List (List Int)} (hv : validM m = true) : ∀ x, x < m.length → ∀ c, c < colsM m + m.length → -720 ≤ gt (rowL (redW m).rows x) c ∧ gt (rowL (redW m).rows x) c ≤ 720 := by
  have h := rd_bd1 (cols := colsM m) (M := pixB (upTo (colsM m)) m (whichB m.length)) (pixB_len _ _ _) redW_row (validM_of hv).2.1 (Nat.le_add_right _ _) (redW_b1 hv)
  have e : redW m = clearN { cols := colsM m, rows := pixB (upTo (colsM m)) m (whichB m.length), piv := [], dv := 1 } (colsM m) := by unfold redW redB redBM; rw [upTo_len]
  rw [e]; exact h
/-- What stands behind a row. -/
def behW (m : List (List Int)) (x : Nat) : List Int := (rowL (redW m).rows x).drop (colsM m)
theorem behW_len {m : List (List Int)} (hv : validM m = true) {x : Nat} (hx : x < m.length) : (behW m x).length = m.length := by
  have h := redW_fin hv
  unfold behW
  rw [List.length_drop, h.row _ (rowL_mem (by rw [h.len]; exact hx))]; omega
theorem gt_behW {m : List (List Int)} {x k : Nat} : gt (behW m x) k = gt (rowL (redW m).rows x) (colsM m + k) := by unfold behW gt; rw [List.getElem?_drop]
theorem behW_col {m : List (List Int)} (hv : validM m = true) {x c : Nat} (hx : x < m.length) (hc : c < colsM m) : gt (rowL (redW m).rows x) c = dot (colM m c) (behW m x) := by
  have h := (redW_fin hv).behind (n := m.length) rfl rfl (fun i hi k hk => which_at hi hk) hx hc
  rw [h]
  unfold dot
  rw [colM_length]
  refine sumTo_congr _ fun k hk => ?_
  rw [all_at hk hc, gt_behW, gt_colM hk, Int.mul_comm]; rfl
theorem short_dot {a z : List Int} (ha : a.length = z.length) : ((gcdL z : Nat) : Int) * dot a (shortL z) = dot a z := by
  unfold dot
  rw [← sumTo_mul]
  refine sumTo_congr _ fun k hk => ?_
  rw [gt_short (v := z) (c := k) (by omega)]; grind
theorem short_all {z : List Int} {B : Int} (hb : ∀ c, c < z.length → -B ≤ gt z c ∧ gt z c ≤ B) : allB B (shortL z) = true := by
  refine allB_all fun c hc => ?_
  rw [short_len] at hc
  have e : gt (shortL z) c = (gt z c).tdiv (gcdL z : Nat) := by unfold shortL gt; simp [hc]
  have := Int.natAbs_tdiv_le_natAbs (gt z c) ((gcdL z : Nat) : Int)
  have := hb c hc
  rw [e]; omega
theorem gcd_some {z : List Int} {c : Nat} (hc : c < z.length) (h : gt z c ≠ 0) : gcdL z ≠ 0 := fun e => h (gcdTo_zero _ e c hc)
theorem gcd_dot {a z : List Int} (ha : a.length = z.length) (h : dot a z ≠ 0) : gcdL z ≠ 0 := fun e => h (by
  unfold dot
  exact sumZ _ fun k hk => by rw [gcdTo_zero _ e k (by omega), Int.mul_zero])
theorem behW_all {m : List (List Int)} (hv : validM m = true) {x : Nat} (hx : x < m.length) : allB 1000000 (shortL (behW m x)) = true := by
  refine short_all fun c hc => ?_
  rw [behW_len hv hx] at hc
  have := redW_bd hv x hx (colsM m + c) (by omega)
  rw [gt_behW]; omega
theorem back_short {m : List (List Int)} (hv : validM m = true) {x : Nat} (hx : x < m.length) : backV m (shortL (behW m x)) = (backL m (shortL (behW m x)), 0) ∧ ∀ c, c < colsM m → ((gcdL (behW m x) : Nat) : Int) * gt (backL m (shortL (behW m x))) c = gt (rowL (redW m).rows x) c := by
  have hl := behW_len hv hx
  refine ⟨backV_ok hv ?_, fun c hc => ?_⟩
  · unfold fitsV
    rw [if_pos (by rw [short_len, hl]), if_pos (allB_up (behW_all hv hx))]
  · rw [gt_backL hc, short_dot (by rw [colM_length, hl]), behW_col hv hx hc]
/-- Which pixels are known, by the reduction with the rows' numbers. -/
theorem knownW {m : List (List Int)} (hv : validM m = true) {j : Nat} (hj : j < colsM m) : decide (0 ≤ knownV (redW m).rows (redW m).piv (colsM m) (j : Int)) = rknownB m j := by
  rw [← known_same hv hj]
  exact decide_eq_decide.2 (known_alike (redW_fin hv) (basis_fin hv) (validM_of hv).2.1 (Nat.le_add_right _ _) (Nat.le_refl _) (fun i hi c hc => all_at hi hc) hj)
/-- .. by that with the reading. -/
theorem knownO {m : List (List Int)} {y : List Int} (hv : validM m = true) (hy : y.length = m.length) (hb : allB 1000000 y = true) {j : Nat} (hj : j < colsM m) : decide (0 ≤ knownV (redB m (upTo (colsM m)) (oneB y)).rows (redB m (upTo (colsM m)) (oneB y)).piv (colsM m) (j : Int)) = rknownB m j := by
  rw [← known_same hv hj]
  have h := redB_fin (px := upTo (colsM m)) hv (fun j hj => upTo_in hj) hy hb
  rw [upTo_len] at h
  exact decide_eq_decide.2 (known_alike h (basis_fin hv) (validM_of hv).2.1 (Nat.le_succ _) (Nat.le_refl _) (fun i hi c hc => all_at hi hc) hj)
/-- What the numbers behind a known pixel's row tell. -/
theorem weigh_ok {m : List (List Int)} (hv : validM m = true) {j : Nat} (hj : j < colsM m) {x : Nat} (hk : knownV (redW m).rows (redW m).piv (colsM m) (j : Int) = (x : Int)) :
    x < m.length ∧ gcdL (behW m x) ≠ 0 ∧ weighsB m (j : Int) (shortL (behW m x)) = true := by
  have h := redW_fin hv
  obtain ⟨i, hi, hip, _, hrow⟩ := h.known_row (v := (j : Int)) (by omega)
  obtain rfl : i = x := by omega
  have hx : i < m.length := by have := h.pl; omega
  have hpos := h.pos
  have hj1 := behW_col hv hx hj
  have hg : gcdL (behW m i) ≠ 0 := gcd_dot (a := colM m j) (by rw [colM_length, behW_len hv hx]) (by rw [← hj1, hrow j hj, if_pos rfl]; omega)
  obtain ⟨b1, b2⟩ := back_short hv hx
  refine ⟨hx, hg, ?_⟩
  unfold weighsB
  rw [b1]
  have t1 : thereB m (j : Int) = true := by unfold thereB; simp; omega
  have t2 : lone (backL m (shortL (behW m i))) (j : Int) = true := lone_yes fun c hc => by
    rw [backL_length] at hc
    have e := b2 c hc
    rw [hrow c hc] at e
    by_cases ec : (c : Int) = j
    · rw [if_pos ec] at e ⊢
      rw [decide_eq_true_eq]
      have g1 : (0 : Int) < ((gcdL (behW m i) : Nat) : Int) := by omega
      have e2 : 0 < ((gcdL (behW m i) : Nat) : Int) * gt (backL m (shortL (behW m i))) c := by omega
      exact Int.pos_of_mul_pos_right e2 g1
    · rw [if_neg ec] at e ⊢
      rw [decide_eq_true_eq]
      rcases Int.mul_eq_zero.mp e with e | e
      · omega
      · exact e
  rw [behW_all hv hx, t1, t2]; rfl
end Go.Proofs.Yteoimibefpidoaa
/- Value of the program: a contract. -/
namespace Go.Proofs.Yteoimibefpidoaa
open Go.RowKit

set_option maxRecDepth 1000000 in
set_option maxHeartbeats 6400000 in
theorem lvalue_any (ma : Option Addr) (m : List (List Int)) (mc : Nat) (ya : Option Addr) (y : List Int) (yc : Nat) (p : Int) (w : World) (hm : MOk m) (hly : y.length ≤ 9223372036854775807) (hs : Ms w ma m) (hy : Sl w ya y) :
    Calls Try.prog 26 #[.slice ma m.length mc, .slice ya y.length yc, .int .i64 p] w fun e w' => e = .returned (.tuple #[ratV (valueV m y p).1.1 (valueV m y p).1.2, .int .i64 (valueV m y p).2]) ∧ Below w.heap.size w w' := by
  have HS := Lib.hid hs
  have HY := Lib.hid hy
  obtain ⟨rv, hrv⟩ : ∃ rv, readE m y = rv := ⟨_, rfl⟩
  have HRE : Hid (∀ W, Below w.heap.size w W → Calls Try.prog 41 #[.slice ma m.length mc, .slice ya y.length yc] W fun e w' => e = .returned (.int .i64 rv) ∧ Below W.heap.size W w') := fun W hb => by rw [← hrv]; exact lread_any ma m mc ya y yc W hm hly (HS.out.below hb) (HY.out.below hb)
  obtain ⟨V, hV⟩ : ∃ V, w.alloc (.cells #[.int .i64 0, .int .i64 0] 42) = V := ⟨_, rfl⟩
  have HBV : Hid (Below w.heap.size w V) := by rw [← hV]; exact (Below.refl _ _).alloc (Nat.le_refl _) _
  have HVW := Lib.hid (rbox hV)
  obtain ⟨t0, t1, t2, t3⟩ := HVW.out V (Below.refl _ _)
  unfold ratV
  by_cases hr0 : rv = 0
  · subst hr0
    obtain ⟨hv, hyl, hyb⟩ := readE_ok hrv
    obtain ⟨hm1, hm6, hc1, hc10, hrows⟩ := validM_of hv
    obtain ⟨q, hq⟩ : ∃ q, thereB m p = q := ⟨_, rfl⟩
    have HTH : Hid (∀ W, Below w.heap.size w W → Calls Try.prog 61 #[.slice ma m.length mc, .int .i64 p] W fun e w' => e = .returned (.bool q) ∧ W = w') := fun W hb => by rw [← hq]; exact lthere_any ma m mc p W hv (HS.out.below hb)
    cases q with
    | false =>
      have HVV : Hid (valueV m y p = ((0, 0), 5)) := by show _ = _; simp [valueV, hrv, hq]
      rw [HVV.out]
      dsimp only
      clear hv hs hm hrv hy hyl hyb hrows hq HVV
      go_enter Try.func26, Try.ntmps26
      go_wp2_with (first | (go_at_call 41; refine (HRE.out V HBV.out).mono ?_; rintro e w2 ⟨rfl, hb⟩; have HB2 := Lib.hid hb; obtain ⟨u0, u1, u2, u3⟩ := HVW.out w2 hb; have HBW2 : Hid (Below w.heap.size w w2) := HBV.out.trans (hb.mono HBV.out.size); clear hb) | (go_at_call 61; refine (HTH.out w2 HBW2.out).mono ?_; rintro e w1 ⟨rfl, rfl⟩))
      refine bodyPost_ret (v := .tuple #[.agg #[.int .i64 0, .int .i64 0], .int .i64 5]) ?_ rfl ⟨rfl, (HBW2.out.setCell (p := ⟨w.heap.size, 0, none⟩) (Nat.le_refl _) _).setCell (p := ⟨w.heap.size, 1, none⟩) (Nat.le_refl _) _⟩
      rw [results_cell_tmp rfl]; go_simp
    | true =>
      obtain ⟨j, rfl, hj⟩ := thereB_nat hq
      have hko := knownO hv hyl hyb hj
      have hav : anyV m y = if possB (redB m (upTo (colsM m)) (oneB y)).rows (redB m (upTo (colsM m)) (oneB y)).piv.length (upTo (colsM m)).length = true then (solL (upTo (colsM m)).length (redB m (upTo (colsM m)) (oneB y)).rows (redB m (upTo (colsM m)) (oneB y)).piv (redB m (upTo (colsM m)) (oneB y)).dv (redB m (upTo (colsM m)) (oneB y)).piv.length, 0) else ([], 10) := by unfold anyV; rw [if_pos hrv]
      obtain ⟨px, hpx⟩ : ∃ px, upTo (colsM m) = px := ⟨_, rfl⟩
      have hplc : px.length = colsM m := by rw [← hpx, upTo_len]
      have h1 : ∀ j ∈ px, 0 ≤ j ∧ j < (colsM m : Int) := fun j hj => by rw [← hpx] at hj; exact upTo_in hj
      have h64 : Hid (All64 m) := fun q hq x hx => by
        obtain ⟨c, hc, rfl⟩ := mem_gt.1 hx
        have := gt_in (hrows q hq).2 hc
        unfold In64; omega
      have hy64 : ∀ x ∈ y, In64 x := fun x hx => by
        obtain ⟨c, hc, rfl⟩ := mem_gt.1 hx
        have := gt_in hyb hc
        unfold In64; omega
      have HF := redB_fin hv h1 hyl hyb
      have hco := redB_cols m px (oneB y)
      rw [hpx] at hko hav
      obtain ⟨rd, hrd⟩ : ∃ rd, redB m px (oneB y) = rd := ⟨_, rfl⟩
      have HRD : Hid (∀ W, Below w.heap.size w W → Calls Try.prog 57 #[.slice ma m.length mc, .func (.func 107) #[] #[.pointer (some ⟨W.heap.size, 0, none⟩)]] (W.alloc (.cells #[.slice ya y.length yc] 25)) (RdPost rd (W.alloc (.cells #[.slice ya y.length yc] 25)))) := fun W hb => by
        have hb2 : Below w.heap.size w (W.alloc (.cells #[.slice ya y.length yc] 25)) := hb.alloc hb.size _
        rw [← hrd, ← hpx]
        exact reduceAll_anyOne (Lib.hid (one_beh (Nat.le_of_eq hyl.symm) (by omega) (alloc_cell _ _ _ _ _ rfl) (hy.below hb2))) ⟨Nat.le_refl _, by decide⟩ (Lib.hid (oneB_ok hy64)) (Lib.hid hm6) (Lib.hid hm1) (Lib.hid ⟨hc1, hc10⟩) (Lib.hid fun r hr => (hrows r hr).1) h64 (Lib.hid (hs.below hb2))
      rw [hrd] at HF hco hko hav
      rw [hplc] at HF hco hav
      obtain ⟨pl, hpl⟩ : ∃ pl, colsM m = pl := ⟨_, rfl⟩
      rw [hpl] at HF hco hko hav hj hc1 hc10
      obtain ⟨cols, rows, piv, dv⟩ := rd
      dsimp only at hco hko hav
      subst hco
      have hlen := HF.len
      have hrow := HF.row
      have hplr := HF.pl
      dsimp only at hlen hrow hplr
      have hpos := HF.pos
      dsimp only at hpos
      have HKV0 : Hid (∀ (g cp : Nat) (ads : List (Nat × Nat)) (pa : Option Addr) (pc base : Nat) (W : World), SI W base g ads rows → Sl W pa piv → Calls Try.prog 59 #[.agg #[.int .i64 (cols : Int), .slice (some ⟨g, 0, none⟩) rows.length cp, .slice pa piv.length pc, .int .i64 dv], .int .i64 (j : Int)] W fun e w' => e = .returned (.int .i64 (knownV rows piv cols (j : Int))) ∧ Below W.heap.size W w') := fun g cp ads pa pc base W h h2 => known_any cols g cp (cols + 1) ads rows pa piv pc dv (j : Int) base W (by omega) (by omega) hrow (by omega) (by omega) h h2
      obtain ⟨kv, hkv⟩ : ∃ kv, knownV rows piv cols (j : Int) = kv := ⟨_, rfl⟩
      obtain ⟨z, hz⟩ : ∃ z, possB rows piv.length cols = z := ⟨_, rfl⟩
      have HPO : Hid (∀ (g cp : Nat) (ads : List (Nat × Nat)) (pa : Option Addr) (pc base : Nat) (W : World), SI W base g ads rows → Calls Try.prog 63 #[.agg #[.int .i64 (cols : Int), .slice (some ⟨g, 0, none⟩) rows.length cp, .slice pa piv.length pc, .int .i64 dv]] W fun e w' => e = .returned (.bool z) ∧ Below W.heap.size W w') := fun g cp ads pa pc base W h => by rw [← hz]; exact possible_any cols g cp (cols + 1) ads rows pa piv.length pc piv dv base W rfl (by omega) (by omega) hrow (by omega) (by omega) h
      by_cases hk0 : 0 ≤ kv
      · obtain ⟨i, hki, hi, hpi, _⟩ := HF.known_row (v := (j : Int)) (by dsimp only; rw [hkv]; exact hk0)
        dsimp only at hki hi hpi
        obtain rfl : kv = (i : Int) := by omega
        rw [hkv] at hko HKV0
        rw [decide_eq_true hk0] at hko
        have HKV := HKV0
        have hmid : Mid (gt (rowL rows i) cols) := by
          have := HF.bdN i (by omega) cols (by omega)
          dsimp only at this
          unfold Mid; omega
        have hlr : (rowL rows i).length = cols + 1 := hrow _ (rowL_mem (by omega))
        obtain ⟨x1, hx1⟩ : ∃ x1, (gt (rowL rows i) cols).tdiv (gcd2 (gt (rowL rows i) cols) dv) = x1 := ⟨_, rfl⟩
        obtain ⟨x2, hx2⟩ : ∃ x2, dv.tdiv (gcd2 (gt (rowL rows i) cols) dv) = x2 := ⟨_, rfl⟩
        have HVA : Hid (∀ (g cp : Nat) (ads : List (Nat × Nat)) (pa : Option Addr) (pc base : Nat) (W : World), SI W base g ads rows → Calls Try.prog 64 #[.agg #[.int .i64 (cols : Int), .slice (some ⟨g, 0, none⟩) rows.length cp, .slice pa piv.length pc, .int .i64 dv], .int .i64 (i : Int)] W fun e w' => e = .returned (.agg #[.int .i64 x1, .int .i64 x2]) ∧ Below W.heap.size W w') := fun g cp ads pa pc base W h => by
          have h := value_any cols g cp (cols + 1) ads rows pa piv.length pc dv i base W (by omega) hlr (by omega) h hmid (by unfold Mid; omega) hpos.1
          rw [hx1, hx2] at h
          exact h
        have hsol := HF.sol_at (i := i) hi
        dsimp only at hsol
        have hpe := HF.pivN_eq (t := i) hi
        dsimp only at hpe
        rw [hpi] at hpe
        rw [show pivN { cols := cols, rows := rows, piv := piv, dv := dv } i = j by omega] at hsol
        unfold lowR at hsol
        rw [hx1, hx2] at hsol
        have hi0 : ¬ (i : Int) < 0 := by omega
        rw [hz] at hav
        cases z with
        | false =>
          have HVV : Hid (valueV m y (j : Int) = ((0, 0), 10)) := by show _ = _; simp [valueV, hrv, hq, ← hko, hav]
          rw [HVV.out]
          dsimp only
          clear hv hs hm hrv hy hyl hyb hrows hq HVV hko hav hpx hplc h1 h64 hy64 HF hrd hlen hrow hplr hpos hkv hz hki hi hpi hmid hlr hx1 hx2 hsol hpe hk0
          go_enter Try.func26, Try.ntmps26
          go_wp2_with (first | (go_at_call 41; refine (HRE.out V HBV.out).mono ?_; rintro e w2 ⟨rfl, hb⟩; have HB2 := Lib.hid hb; obtain ⟨u0, u1, u2, u3⟩ := HVW.out w2 hb; have HBW2 : Hid (Below w.heap.size w w2) := HBV.out.trans (hb.mono HBV.out.size); clear hb) | (go_at_call 61; refine (HTH.out w2 HBW2.out).mono ?_; rintro e w1 ⟨rfl, rfl⟩) | (go_at_call 62; refine (oneOf_any ya y.length yc w2).mono ?_; rintro e w9 ⟨rfl, rfl⟩) | (go_at_call 57; refine (HRD.out w2 HBW2.out).mono ?_; rintro e w3 ⟨hb3, g, cp, ads, pa2, pc2, rfl, hgg, si, pi⟩; unfold rdV; dsimp only at si pi ⊢; obtain ⟨W4, hW4⟩ : ∃ W4, w3.alloc (.cells #[.int .i64 (cols : Int), .slice (some ⟨g, 0, none⟩) rows.length cp, .slice pa2 piv.length pc2, .int .i64 dv] 76) = W4 := ⟨_, rfl⟩; have HCW : Hid (∀ W, Below W4.heap.size W4 W → W.cell? ⟨w3.heap.size, 0, none⟩ = some (.int .i64 (cols : Int)) ∧ W.cell? ⟨w3.heap.size, 1, none⟩ = some (.slice (some ⟨g, 0, none⟩) rows.length cp) ∧ W.cell? ⟨w3.heap.size, 2, none⟩ = some (.slice pa2 piv.length pc2) ∧ W.cell? ⟨w3.heap.size, 3, none⟩ = some (.int .i64 dv)) := box_cells hW4; obtain ⟨k0, k1, k2, k3⟩ := HCW.out W4 (Below.refl _ _); have HB4 : Hid (Below w3.heap.size w3 W4) := hW4 ▸ (Below.refl _ _).alloc (Nat.le_refl _) _; have HSI4 := Lib.hid (si.below HB4.out); have HPI4 := Lib.hid ((OwnI.sl pi).below HB4.out); have HB3 := Lib.hid hb3; have HBV4 : Hid (Below V.heap.size V W4) := (HB2.out.alloc HB2.out.size _).trans ((HB3.out.mono (by rw [World.size_alloc]; have := HB2.out.size; omega)).trans (HB4.out.mono (by have h1 := HB3.out.size; rw [World.size_alloc] at h1; have := HB2.out.size; omega))); clear si pi hgg hb3) | (go_at_call 59; refine (HKV.out _ _ _ _ _ _ _ HSI4.out HPI4.out).mono ?_; rintro e w5 ⟨rfl, hb5⟩; have HB5 : Hid (Below W4.heap.size W4 w5) := Lib.hid hb5; obtain ⟨j50, j51, j52, j53⟩ := HCW.out w5 HB5.out; have HBV5 : Hid (Below V.heap.size V w5) := HBV4.out.trans (HB5.out.mono HBV4.out.size); obtain ⟨b50, b51, b52, b53⟩ := HVW.out w5 HBV5.out; clear hb5) | (go_at_call 63; refine (HPO.out _ _ _ _ _ _ _ (HSI4.out.below HB5.out)).mono ?_; rintro e w6 ⟨rfl, hb6⟩; have HB6 : Hid (Below W4.heap.size W4 w6) := HB5.out.trans (hb6.mono HB5.out.size); obtain ⟨j60, j61, j62, j63⟩ := HCW.out w6 HB6.out; have HBV6 : Hid (Below V.heap.size V w6) := HBV4.out.trans (HB6.out.mono HBV4.out.size); obtain ⟨b60, b61, b62, b63⟩ := HVW.out w6 HBV6.out; clear hb6))
          have HBWF : Hid (Below w.heap.size w w6) := HBV.out.trans (HBV6.out.mono HBV.out.size)
          refine bodyPost_ret (v := .tuple #[.agg #[.int .i64 0, .int .i64 0], .int .i64 10]) ?_ rfl ⟨rfl, (HBWF.out.setCell (p := ⟨w.heap.size, 0, none⟩) (Nat.le_refl _) _).setCell (p := ⟨w.heap.size, 1, none⟩) (Nat.le_refl _) _⟩
          rw [results_cell_tmp rfl]; go_simp
        | true =>
          rw [if_pos rfl] at hav
          have HVV : Hid (valueV m y (j : Int) = ((x1, x2), 0)) := by show _ = _; simp [valueV, hrv, hq, ← hko, hav, hsol]
          rw [HVV.out]
          dsimp only
          clear hv hs hm hrv hy hyl hyb hrows hq HVV hko hav hpx hplc h1 h64 hy64 HF hrd hlen hrow hplr hpos hkv hz hki hi hpi hmid hlr hx1 hx2 hsol hpe hk0
          go_enter Try.func26, Try.ntmps26
          go_wp2_with (first | (go_at_call 41; refine (HRE.out V HBV.out).mono ?_; rintro e w2 ⟨rfl, hb⟩; have HB2 := Lib.hid hb; obtain ⟨u0, u1, u2, u3⟩ := HVW.out w2 hb; have HBW2 : Hid (Below w.heap.size w w2) := HBV.out.trans (hb.mono HBV.out.size); clear hb) | (go_at_call 61; refine (HTH.out w2 HBW2.out).mono ?_; rintro e w1 ⟨rfl, rfl⟩) | (go_at_call 62; refine (oneOf_any ya y.length yc w2).mono ?_; rintro e w9 ⟨rfl, rfl⟩) | (go_at_call 57; refine (HRD.out w2 HBW2.out).mono ?_; rintro e w3 ⟨hb3, g, cp, ads, pa2, pc2, rfl, hgg, si, pi⟩; unfold rdV; dsimp only at si pi ⊢; obtain ⟨W4, hW4⟩ : ∃ W4, w3.alloc (.cells #[.int .i64 (cols : Int), .slice (some ⟨g, 0, none⟩) rows.length cp, .slice pa2 piv.length pc2, .int .i64 dv] 76) = W4 := ⟨_, rfl⟩; have HCW : Hid (∀ W, Below W4.heap.size W4 W → W.cell? ⟨w3.heap.size, 0, none⟩ = some (.int .i64 (cols : Int)) ∧ W.cell? ⟨w3.heap.size, 1, none⟩ = some (.slice (some ⟨g, 0, none⟩) rows.length cp) ∧ W.cell? ⟨w3.heap.size, 2, none⟩ = some (.slice pa2 piv.length pc2) ∧ W.cell? ⟨w3.heap.size, 3, none⟩ = some (.int .i64 dv)) := box_cells hW4; obtain ⟨k0, k1, k2, k3⟩ := HCW.out W4 (Below.refl _ _); have HB4 : Hid (Below w3.heap.size w3 W4) := hW4 ▸ (Below.refl _ _).alloc (Nat.le_refl _) _; have HSI4 := Lib.hid (si.below HB4.out); have HPI4 := Lib.hid ((OwnI.sl pi).below HB4.out); have HB3 := Lib.hid hb3; have HBV4 : Hid (Below V.heap.size V W4) := (HB2.out.alloc HB2.out.size _).trans ((HB3.out.mono (by rw [World.size_alloc]; have := HB2.out.size; omega)).trans (HB4.out.mono (by have h1 := HB3.out.size; rw [World.size_alloc] at h1; have := HB2.out.size; omega))); clear si pi hgg hb3) | (go_at_call 59; refine (HKV.out _ _ _ _ _ _ _ HSI4.out HPI4.out).mono ?_; rintro e w5 ⟨rfl, hb5⟩; have HB5 : Hid (Below W4.heap.size W4 w5) := Lib.hid hb5; obtain ⟨j50, j51, j52, j53⟩ := HCW.out w5 HB5.out; have HBV5 : Hid (Below V.heap.size V w5) := HBV4.out.trans (HB5.out.mono HBV4.out.size); obtain ⟨b50, b51, b52, b53⟩ := HVW.out w5 HBV5.out; clear hb5) | (go_at_call 63; refine (HPO.out _ _ _ _ _ _ _ (HSI4.out.below HB5.out)).mono ?_; rintro e w6 ⟨rfl, hb6⟩; have HB6 : Hid (Below W4.heap.size W4 w6) := HB5.out.trans (hb6.mono HB5.out.size); obtain ⟨j60, j61, j62, j63⟩ := HCW.out w6 HB6.out; have HBV6 : Hid (Below V.heap.size V w6) := HBV4.out.trans (HB6.out.mono HBV4.out.size); obtain ⟨b60, b61, b62, b63⟩ := HVW.out w6 HBV6.out; clear hb6) | (go_at_call 64; refine (HVA.out _ _ _ _ _ _ _ (HSI4.out.below HB6.out)).mono ?_; rintro e w7 ⟨rfl, hb7⟩; have HB7 : Hid (Below W4.heap.size W4 w7) := HB6.out.trans (hb7.mono HB6.out.size); obtain ⟨j70, j71, j72, j73⟩ := HCW.out w7 HB7.out; have HBV7 : Hid (Below V.heap.size V w7) := HBV4.out.trans (HB7.out.mono HBV4.out.size); obtain ⟨b70, b71, b72, b73⟩ := HVW.out w7 HBV7.out; clear hb7))
          have HBWF : Hid (Below w.heap.size w w7) := HBV.out.trans (HBV7.out.mono HBV.out.size)
          refine bodyPost_ret (v := .tuple #[.agg #[.int .i64 x1, .int .i64 x2], .int .i64 0]) ?_ rfl ⟨rfl, (HBWF.out.setCell (p := ⟨w.heap.size, 0, none⟩) (Nat.le_refl _) _).setCell (p := ⟨w.heap.size, 1, none⟩) (Nat.le_refl _) _⟩
          rw [results_cell_tmp rfl]; go_simp
      · rw [hkv] at hko HKV0
        rw [decide_eq_false hk0] at hko
        have HKV := HKV0
        have hk1 : kv < 0 := by omega
        have HVV : Hid (valueV m y (j : Int) = ((0, 0), 8)) := by show _ = _; simp [valueV, hrv, hq, ← hko]
        rw [HVV.out]
        dsimp only
        clear hv hs hm hrv hy hyl hyb hrows hq HVV hko hav hpx hplc h1 h64 hy64 HF hrd hlen hrow hplr hpos hkv hz hk0
        go_enter Try.func26, Try.ntmps26
        go_wp2_with (first | (go_at_call 41; refine (HRE.out V HBV.out).mono ?_; rintro e w2 ⟨rfl, hb⟩; have HB2 := Lib.hid hb; obtain ⟨u0, u1, u2, u3⟩ := HVW.out w2 hb; have HBW2 : Hid (Below w.heap.size w w2) := HBV.out.trans (hb.mono HBV.out.size); clear hb) | (go_at_call 61; refine (HTH.out w2 HBW2.out).mono ?_; rintro e w1 ⟨rfl, rfl⟩) | (go_at_call 62; refine (oneOf_any ya y.length yc w2).mono ?_; rintro e w9 ⟨rfl, rfl⟩) | (go_at_call 57; refine (HRD.out w2 HBW2.out).mono ?_; rintro e w3 ⟨hb3, g, cp, ads, pa2, pc2, rfl, hgg, si, pi⟩; unfold rdV; dsimp only at si pi ⊢; obtain ⟨W4, hW4⟩ : ∃ W4, w3.alloc (.cells #[.int .i64 (cols : Int), .slice (some ⟨g, 0, none⟩) rows.length cp, .slice pa2 piv.length pc2, .int .i64 dv] 76) = W4 := ⟨_, rfl⟩; have HCW : Hid (∀ W, Below W4.heap.size W4 W → W.cell? ⟨w3.heap.size, 0, none⟩ = some (.int .i64 (cols : Int)) ∧ W.cell? ⟨w3.heap.size, 1, none⟩ = some (.slice (some ⟨g, 0, none⟩) rows.length cp) ∧ W.cell? ⟨w3.heap.size, 2, none⟩ = some (.slice pa2 piv.length pc2) ∧ W.cell? ⟨w3.heap.size, 3, none⟩ = some (.int .i64 dv)) := box_cells hW4; obtain ⟨k0, k1, k2, k3⟩ := HCW.out W4 (Below.refl _ _); have HB4 : Hid (Below w3.heap.size w3 W4) := hW4 ▸ (Below.refl _ _).alloc (Nat.le_refl _) _; have HSI4 := Lib.hid (si.below HB4.out); have HPI4 := Lib.hid ((OwnI.sl pi).below HB4.out); have HB3 := Lib.hid hb3; have HBV4 : Hid (Below V.heap.size V W4) := (HB2.out.alloc HB2.out.size _).trans ((HB3.out.mono (by rw [World.size_alloc]; have := HB2.out.size; omega)).trans (HB4.out.mono (by have h1 := HB3.out.size; rw [World.size_alloc] at h1; have := HB2.out.size; omega))); clear si pi hgg hb3) | (go_at_call 59; refine (HKV.out _ _ _ _ _ _ _ HSI4.out HPI4.out).mono ?_; rintro e w5 ⟨rfl, hb5⟩; have HB5 : Hid (Below W4.heap.size W4 w5) := Lib.hid hb5; obtain ⟨j50, j51, j52, j53⟩ := HCW.out w5 HB5.out; have HBV5 : Hid (Below V.heap.size V w5) := HBV4.out.trans (HB5.out.mono HBV4.out.size); obtain ⟨b50, b51, b52, b53⟩ := HVW.out w5 HBV5.out; clear hb5))
        have HBWF : Hid (Below w.heap.size w w5) := HBV.out.trans (HBV5.out.mono HBV.out.size)
        refine bodyPost_ret (v := .tuple #[.agg #[.int .i64 0, .int .i64 0], .int .i64 8]) ?_ rfl ⟨rfl, (HBWF.out.setCell (p := ⟨w.heap.size, 0, none⟩) (Nat.le_refl _) _).setCell (p := ⟨w.heap.size, 1, none⟩) (Nat.le_refl _) _⟩
        rw [results_cell_tmp rfl]; go_simp
  · have HVV : Hid (valueV m y p = ((0, 0), rv)) := by show _ = _; simp [valueV, hrv, hr0]
    rw [HVV.out]
    dsimp only
    have y0 : (rv == 0) = false := by simpa using hr0
    have y1 : (rv != 0) = true := by simpa using hr0
    clear hs hm hrv hy HVV
    go_enter Try.func26, Try.ntmps26
    go_wp2_with (go_at_call 41; refine (HRE.out V HBV.out).mono ?_; rintro e w2 ⟨rfl, hb⟩; have HB2 := Lib.hid hb; obtain ⟨u0, u1, u2, u3⟩ := HVW.out w2 hb; have HBW2 : Hid (Below w.heap.size w w2) := HBV.out.trans (hb.mono HBV.out.size); clear hb)
    refine bodyPost_ret (v := .tuple #[.agg #[.int .i64 0, .int .i64 0], .int .i64 rv]) ?_ rfl ⟨rfl, (HBW2.out.setCell (p := ⟨w.heap.size, 0, none⟩) (Nat.le_refl _) _).setCell (p := ⟨w.heap.size, 1, none⟩) (Nat.le_refl _) _⟩
    rw [results_cell_tmp rfl]; go_simp
end Go.Proofs.Yteoimibefpidoaa
/- A list within a row of the call's own is divided by its common divisor in its place. -/
namespace Go.Proofs.Yteoimibefpidoaa
open Go.RowKit

theorem app_at {P ys : List Int} {o q : Nat} (hP : P.length = o) : (P ++ ys)[o + q]?.getD 0 = gt ys q := by
  subst hP
  unfold gt; rw [List.getElem?_append_right (by omega)]; congr 2; omega
theorem app_set {P ys : List Int} {o q : Nat} {v : Int} (hP : P.length = o) : (P ++ ys).set (o + q) v = P ++ ys.set q v := by
  subst hP
  rw [List.set_append_right _ _ (by omega)]; congr 2; omega
theorem own_sl {w : World} {base b n c0 o : Nat} {P ys : List Int} (hP : P.length = o) (ho : OwnI w base (.slice (some ⟨b, 0, none⟩) n c0) (P ++ ys)) : Sl w (some ⟨b, o, none⟩) ys := by
  have h := sl_drop ho.sl o
  rw [show (P ++ ys).drop o = ys by subst hP; exact List.drop_left] at h
  exact h
set_option maxRecDepth 100000 in
set_option maxHeartbeats 1600000 in
theorem shorten_at (base b c c0 o n : Nat) (P xs : List Int) (w : World) (hP : P.length = o) (hl : xs.length ≤ 1000) (hx : ∀ x ∈ xs, Mid x) (hg : gcdL xs ≠ 0) (ho : OwnI w base (.slice (some ⟨b, 0, none⟩) n c0) (P ++ xs)) :
    Calls Try.prog 67 #[.slice (some ⟨b, o, none⟩) xs.length c] w fun e w' => e = .returned (.slice (some ⟨b, o, none⟩) xs.length c) ∧ Below base w w' ∧ Sl w' (some ⟨b, o, none⟩) (shortL xs) := by
  have HO := Lib.hid ho; clear ho
  have HX := Lib.hid hx; clear hx
  have HP := Lib.hid hP
  go_enter Try.func67, Try.ntmps67
  go_wp2_with fail
  refine (divisor_any _ xs c w hl HX.out (own_sl HP.out HO.out)).mono ?_
  rintro e w1 ⟨rfl, nd, rfl⟩
  have HF := Lib.hid (shortTo_full xs)
  obtain ⟨g, hg'⟩ : ∃ g : Int, (gcdL xs : Nat) = g := ⟨_, rfl⟩
  have hg1 : 1 ≤ g := by omega
  rw [hg'] at HF
  rw [hg']
  have HO1 : Hid (OwnI (w.drewN nd) base (.slice (some ⟨b, 0, none⟩) n c0) (P ++ shortTo xs g 0)) := by show OwnI _ _ _ _; rw [shortTo_zero]; exact HO.out.drewN nd
  have HBB1 : Hid (Below base w (w.drewN nd)) := below_drewN (Below.refl _ _) nd
  clear hg hg' hP
  generalize w.drewN nd = w1 at *
  have y0 : (g == 0) = false := by simp; omega
  have y1 : (g != 0) = true := by simp; omega
  have y2 : ¬ (g = 0) := by omega
  have y3 : ¬ (g = -1) := by omega
  go_wp2
  go_loopw [10] (fun i wr => ∃ q : Nat, q ≤ xs.length ∧ i = .int .i64 q ∧ OwnI wr base (.slice (some ⟨b, 0, none⟩) n c0) (P ++ shortTo xs g q) ∧ Below base w wr) (fun i _ => xs.length - (intOf i).toNat)
  case atStart => exact ⟨0, Nat.zero_le _, rfl, HO1.out, HBB1.out⟩
  case round =>
    clear HO1 HBB1
    obtain ⟨q, hq, rfl, hO, hb⟩ := hrel
    have HOR := Lib.hid hO; clear hO
    have HBB := Lib.hid hb; clear hb
    by_cases hlt : q < xs.length
    · obtain ⟨c1, f1⟩ := HOR.out.cell (j := o + q) (by rw [List.length_append, shortTo_len, HP.out]; omega)
      have hv : (P ++ shortTo xs g q)[o + q]?.getD 0 = gt xs q := by rw [app_at HP.out]; exact shortTo_at xs g hlt
      rw [hv] at c1
      have HG := HOR.out.lt
      have hmx : Mid (gt xs q) := HX.out _ (by unfold gt; rw [List.getElem?_eq_getElem hlt, Option.getD_some]; exact List.getElem_mem hlt)
      obtain ⟨x, hx⟩ : ∃ x, gt xs q = x := ⟨_, rfl⟩
      have HN : Hid ((P ++ shortTo xs g q).set (o + q) (x.tdiv g) = P ++ shortTo xs g (q + 1)) := by show _ = _; rw [app_set HP.out, ← hx, shortTo_succ hlt]
      rw [hx] at c1 hmx
      have HST := Lib.hid (HOR.out.stored (o + q) (x.tdiv g))
      obtain ⟨t1, t2⟩ := tdiv_mid hmx hg1
      have w1 : wrap64 (x.tdiv g) = x.tdiv g := IntWalk.wrap64_in _ (by omega)
      have w2 : IntKind.i64.wrap (x.tdiv g) = x.tdiv g := IntWalk.i64_in _ (by omega)
      clear hv hx
      go_wp2
      go_roundw
      case rel => exact ⟨q + 1, by omega, by go_num, by rw [← HN.out]; exact HST.out, HBB.out.setCell HG.2 _⟩
      case measure => simp [intOf]; omega
    · obtain rfl : q = xs.length := by omega
      rw [HF.out] at HOR
      go_wp2
      go_ret
      exact ⟨rfl, HBB.out, own_sl HP.out HOR.out⟩
set_option maxRecDepth 1000000 in
set_option maxHeartbeats 1600000 in
theorem behind_own (cols g cap N : Nat) (ads : List (Nat × Nat)) (M : List (List Int)) (pa : Option Addr) (pn pc : Nat) (dv : Int) (row base : Nat) (w : World) (hrow : row < M.length) (hN : (rowL M row).length = N) (hc : cols < N) (hs : SI w base g ads M) :
    Calls Try.prog 68 #[RdV cols g M.length cap (.slice pa pn pc) dv, .int .i64 (row : Int)] w fun e w' => Below w.heap.size w w' ∧ ∃ xb xc c, e = .returned (.slice (some ⟨xb, cols, none⟩) (N - cols) c) ∧ OwnI w' base (.slice (some ⟨xb, 0, none⟩) N xc) (rowL M row) := by
  have hx : M[row]? = some (rowL M row) := by unfold rowL; simp [hrow]
  obtain ⟨x, hxa⟩ : ∃ x, ads[row]? = some x := ⟨ads[row]'(by rw [hs.len]; exact hrow), by simp [hs.len, hrow]⟩
  obtain ⟨xb, xc⟩ := x
  obtain ⟨hh, hro⟩ := hs.row row (xb, xc) _ hxa hx
  dsimp only at hh hro
  have hcap := OwnI.cap_le hro
  rw [hN] at hh hcap hro
  have HRO := Lib.hid hro
  have hgl : g < w.heap.size := cell_lt hh
  have hne : xc ≠ cols := by omega
  have hrow0 : (row : Int) < (M.length : Int) := by omega
  have HNN := Lib.hid hN
  obtain ⟨n, hn⟩ : ∃ n, M.length = n := ⟨_, rfl⟩
  rw [hn] at hrow0 hrow ⊢
  clear hs hx hxa hro hN hn
  unfold RdV
  have HB0 : Hid (∀ o, Below w.heap.size w (w.alloc o)) := fun o => (Below.refl _ _).alloc (Nat.le_refl _) o
  obtain ⟨V, hV⟩ : ∃ V, w.alloc (.cells #[.int .i64 (cols : Int), .slice (some ⟨g, 0, none⟩) n cap, .slice pa pn pc, .int .i64 dv] 76) = V := ⟨_, rfl⟩
  have HBV : Hid (Below w.heap.size w V) := by rw [← hV]; exact HB0.out _
  have c0 : V.cell? ⟨w.heap.size, 0, none⟩ = some (.int .i64 (cols : Int)) := by rw [← hV]; exact alloc_cell _ _ _ _ _ rfl
  have c1 : V.cell? ⟨w.heap.size, 1, none⟩ = some (.slice (some ⟨g, 0, none⟩) n cap) := by rw [← hV]; exact alloc_cell _ _ _ _ _ rfl
  have hh2 : V.cell? ⟨g, row, none⟩ = some (.slice (some ⟨xb, 0, none⟩) N xc) := (HBV.out.cell (p := ⟨g, row, none⟩) hgl).trans hh
  go_enter Try.func68, Try.ntmps68
  go_wp2
  clear hV
  go_region_held_law (fun w' => w'.cell? ⟨w.heap.size, 0, none⟩ = some (.int .i64 (cols : Int)) ∧ w'.cell? ⟨w.heap.size, 1, none⟩ = some (.slice (some ⟨g, 0, none⟩) n cap) ∧ w'.cell? ⟨g, row, none⟩ = some (.slice (some ⟨xb, 0, none⟩) N xc)) (first | exact ⟨by assumption, by assumption, by assumption⟩ | go_keep) (fail)
  go_wp2
  go_ret
  exact ⟨HBV.out.drew, _, xc, _, rfl, OwnI.below HRO.out HBV.out.drew⟩
end Go.Proofs.Yteoimibefpidoaa
/- The rows of a reduction laid, with more numbers behind them: the first loop of reduce. -/
namespace Go.Proofs.Yteoimibefpidoaa
open Go.RowKit

set_option maxRecDepth 100000 in
set_option maxHeartbeats 4000000 in
theorem reduce_t2Which {bh : Nat → List Int} {bn Cb : Nat} {base B T : Nat} {ma : Option Addr} {m : List (List Int)} {mc : Nat} {pxa : Option Addr} {px : List Int} {pxc : Nat} {w w0 : World} (HBH : Hid (BehF 109 (.pointer (some ⟨Cb, 0, none⟩)) bh bn m.length base w0)) (hbn : 1 ≤ bn ∧ bn ≤ 6) (HBV : Hid (∀ i, i < m.length → (bh i).length = bn ∧ ∀ x ∈ bh i, In64 x)) (hbB : base ≤ B) (hm : Hid (m.length ≤ 6)) (hpx : Hid (px.length ≤ 10)) (hin : Hid (∀ j ∈ px, 0 ≤ j ∧ j < colsM m)) (hrl : Hid (∀ r ∈ m, r.length = colsM m))
    (hms : Hid (∀ {W : World}, Below base w0 W → Ms W ma m)) (hps : Hid (∀ {W : World}, Below base w0 W → Sl W pxa px)) (hB : B < w.heap.size)
    (hbx : Hid (RB B (px.length : Int) (.slice none 0 0) w)) (hb0 : Hid (Below base w0 w)) (hm1 : Hid (1 ≤ m.length)) (h64 : Hid (All64 m)) (hT : T < base) (hTw : T < w0.heap.size) (hTx : Hid (∀ k, k < 4 → (∃ u, w0.cell? ⟨T, k, none⟩ = some u) ∧ w0.frozen? ⟨T, k, none⟩ = false)) (u3 u4 u5 u8 u9 u10 u11 u12 u13 u14 u15 u16 u17 u18 u19 u20 u21 u22 u23 u24 u25 u26 u27 u28 u29 u30 u31 u32 u33 u34 u35 u36 u37 u38 u39 u40 u41 u42 u43 u44 u45 u46 u47 u48 u49 u50 u51 u52 u53 u54 u55 u56 u57 u58 : Value) (R : Ending → World → Prop)
    (hR : Hid (∀ (g cap : Nat) (ads' : List (Nat × Nat)) (pa : Option Addr) (pc : Nat) (W : World), RdW base B g cap ads' (.slice pa (redB m px bh).piv.length pc) (redB m px bh) W → Below base w0 W → R (.returned (rdV g cap pa pc (redB m px bh))) (rdBox T g cap pa pc (redB m px bh) W))) :
    Code.wp Try.prog (seqTail 2 ((Try.f105.body).getD .skip)) (bodyPost Try.prog Try.f105 R) { tmps := #[.slice ma m.length mc, .slice pxa px.length pxc, .func (.func 109) #[] #[.pointer (some ⟨Cb, 0, none⟩)], u3, u4, u5, .pointer (some ⟨T, 0, none⟩), .pointer (some ⟨B, 0, none⟩), u8, u9, u10, u11, u12, u13, u14, u15, u16, u17, u18, u19, u20, u21, u22, u23, u24, u25, u26, u27, u28, u29, u30, u31, u32, u33, u34, u35, u36, u37, u38, u39, u40, u41, u42, u43, u44, u45, u46, u47, u48, u49, u50, u51, u52, u53, u54, u55, u56, u57, u58], defers := [] } w := by
  conv => arg 2; whnf
  refine wp_seq_k (fun K hK => ?_)
  have HK := Lib.hid hK; clear hK
  obtain ⟨i0, hi, hz0, hz1, hz2⟩ := info_parts Try.infoInt
  go_wp2
  go_loopw [19] (fun i wr => ∃ (k : Nat) (rv : Value) (ads : List (Nat × Nat)), k ≤ m.length ∧ i = .int .i64 k ∧ Hid (RS base rv ads ((pixB px m bh).take k) wr) ∧ Hid (RB B (px.length : Int) rv wr) ∧ Hid (rv.ownBlock ≠ some B ∧ ∀ (i : Nat) (x : Nat × Nat), ads[i]? = some x → x.1 ≠ B) ∧ Below base w0 wr ∧ B < wr.heap.size) (fun i _ => m.length - (intOf i).toNat)
  case atStart => exact ⟨0, _, [], Nat.zero_le _, rfl, ⟨rfl, World.ownsRow_nil _ _ _ _, fun i x r h => by simp at h, fun i j x y h => by simp at h, fun i x h => by simp at h⟩, hbx, ⟨by simp [Value.ownBlock], fun i x h => by simp at h⟩, hb0.out, hB⟩
  case round =>
    obtain ⟨k, rv, ads, hk, rfl, HRS, HBX, HNE, hbl, hBl⟩ := hrel
    have HBL := Lib.hid hbl; clear hbl
    by_cases hlt : k < m.length
    · obtain ⟨b1, o1, ai, r, ci, rfl, hcell, hsl, HR⟩ := (hms.out HBL.out).at hlt
      have HSL := Lib.hid hsl; clear hsl
      have hbw : base ≤ wr.heap.size := by omega
      go_wp2_with (with_reducible refine wpList_make_own _ rfl (.const (.int .i64 0)) (.const (.int .i64 20)) 25 rfl wr.heap.size 3 i0 (.int .i64 0) 1 Try.underlying25 hi hz0 hz1 .i64 .i64 20 20 rfl rfl rfl (by rw [hz2]; omega) (by unfold maxLen; omega) (Nat.le_refl _) ?_)
      rotate_left
      intro w4 hown hgrow
      have HO4 : Hid (OwnI w4 wr.heap.size (.slice (some ⟨wr.heap.size, 0, none⟩) 0 20) []) := hown
      have HB4 : Hid (Below wr.heap.size wr w4) := (Below.refl _ _).grown hgrow (Nat.le_refl _) (fun k e => by cases e)
      clear hown hgrow
      obtain ⟨G, hG⟩ : ∃ G, wr.heap.size = G := ⟨_, rfl⟩
      rw [hG] at HO4 HB4
      have HGB : Hid (∀ {W : World}, Below G wr W → Below wr.heap.size wr W) := fun h => by rw [hG]; exact h
      rw [hG]
      have HGS : Hid (∀ {W : World}, Below G wr W → G ≤ W.heap.size) := fun h => by have := h.size; omega
      have hGb : base ≤ G := by omega
      have HGE := Lib.hid hG
      clear hG
      have hpx10 : px.length ≤ 10 := hpx.out
      go_wp2
      obtain ⟨wo, hwo⟩ : ∃ wo, wo = wr := ⟨_, rfl⟩
      subst hwo
      go_loopw [10, 27] (fun v i wq => ∃ j : Nat, j ≤ px.length ∧ i = .int .i64 j ∧ OwnI wq G v ((pixR px r).take j) ∧ Below G wo wq ∧ ∃ b c, v = .slice (some ⟨b, 0, none⟩) j c) (fun _ i _ => px.length - (intOf i).toNat)
      case atStart => exact ⟨0, Nat.zero_le _, rfl, HO4.out, HB4.out, _, _, rfl⟩
      case round =>
        clear HO4 HB4
        obtain ⟨j, hj, rfl, hO, hB, nb, nc, hvv⟩ := hrel
        subst hvv
        have HO := Lib.hid hO; clear hO
        have HB := Lib.hid hB; clear hB
        have HBq : Hid (Below base w0 wr) := HBL.out.trans (HB.out.mono hGb)
        by_cases hlj : j < px.length
        · obtain ⟨pb, po, v, rfl, hcv, HV⟩ := (hps.out HBq.out).at hlj
          have hvr := hin.out v (List.mem_of_getElem? HV.out)
          have HRC : Hid (r.length = colsM m) := hrl.out r (List.mem_of_getElem? HR.out)
          obtain ⟨q, rfl⟩ := Int.eq_ofNat_of_zero_le hvr.1
          have hq : q < r.length := by have := HRC.out; omega
          obtain ⟨rb, ro, x, rfl, hcx, HX⟩ := (HSL.out.below (HGB.out HB.out)).at hq
          have HT : Hid ((pixR px r).take (j + 1) = (pixR px r).take j ++ [x]) := by show _ = _; rw [pixR_succ HV.out, Int.toNat_natCast, gt_some' HX.out]
          have HTL : Hid (((pixR px r).take j).length = j) := by show _ = _; rw [List.length_take, pixR_len]; omega
          obtain ⟨TT, hTT⟩ : ∃ TT, (pixR px r).take j = TT := ⟨_, rfl⟩
          rw [hTT] at HO HT HTL
          clear hvr hTT
          go_wp2_with (at_builtin; go_must (refine wpList_pushG0 rfl (.tmp 31) (.tmp 36) rfl G _ TT _ _ _ _ rfl rfl rfl HO.out (by rw [HTL.out]; omega) (HGS.out HB.out) ?_); intro g7 c7 w9 ho' _ hb' _)
          go_roundw
          case rel => exact ⟨j + 1, by omega, by go_num, by rw [HT.out]; exact ho', HB.out.trans hb', g7, c7, by rw [HTL.out]⟩
          case measure => simp [intOf]; omega
        · obtain rfl : j = px.length := by omega
          rw [List.take_of_length_le (by rw [pixR_len]; exact Nat.le_refl _)] at HO
          have HPXL : Hid (px.length = (pixR px r).length) := (pixR_len px r).symm
          rw [HPXL.out] at HO
          rw [show Value.slice (some ⟨nb, 0, none⟩) px.length nc = Value.slice (some ⟨nb, 0, none⟩) (pixR px r).length nc by rw [pixR_len]]
          have hBG : B < G := by have := HGE.out; omega
          have HCB : Hid (∀ {W : World}, Below G wo W → W.cell? ⟨B, 1, none⟩ = some rv ∧ W.frozen? ⟨B, 1, none⟩ = false ∧ RB B (px.length : Int) rv W ∧ RS base rv ads ((pixB px m bh).take k) W ∧ B < W.heap.size) := fun h => ⟨(h.cell (p := ⟨B, 1, none⟩) hBG).trans HBX.out.c1, (h.frozen (p := ⟨B, 1, none⟩) hBG).trans HBX.out.f1, HBX.out.kept (h.block B hBG), HRS.out.below (HGB.out h), Nat.lt_of_lt_of_le hBG (HGS.out h)⟩
          have HKK : Hid (((pixB px m bh).take k).length = k) := by show _ = _; rw [List.length_take, pixB_len]; omega
          obtain ⟨Mk, hMk⟩ : ∃ Mk, (pixB px m bh).take k = Mk := ⟨_, rfl⟩
          have HMT : Hid (Mk ++ [pixR px r ++ bh k] = (pixB px m bh).take (k + 1)) := by show _ = _; rw [← hMk]; exact pixB_succ px bh HR.out
          rw [hMk] at HCB HKK
          have HMK := Lib.hid hMk
          clear hMk
          have cB := (HCB.out HB.out).1
          have fB := (HCB.out HB.out).2.1
          have HBQ : Hid (Below base w0 wr) := HBL.out.trans (HB.out.mono hGb)
          have HBR := Lib.hid (HBV.out k hlt)
          have HCA : Hid (∀ W, Below base w0 W → Calls Try.prog 109 #[.int .i64 (k : Int), .pointer (some ⟨Cb, 0, none⟩)] W fun e w' => ∃ bb bo bc, e = .returned (.slice (some ⟨bb, bo, none⟩) bn bc) ∧ Sl w' (some ⟨bb, bo, none⟩) (bh k) ∧ Below W.heap.size W w') := fun W hW => HBH.out W k hW hlt
          go_wp2
          have hk6 : m.length ≤ 6 := hm.out
          have hMk : Mk.length ≤ 1000 := by rw [HKK.out]; omega
          have hp10 : (pixR px r).length ≤ 100000 := by rw [pixR_len]; omega
          have HLE : Hid ((pixR px r ++ bh k).length = (pixR px r).length + bn) := by show _ = _; rw [List.length_append, HBR.out.1]
          have HFAR : Hid (∀ g2, G ≤ g2 → (∀ (i : Nat) (x : Nat × Nat), ads[i]? = some x → x.1 ≠ g2) ∧ rv.ownBlock ≠ some g2 ∧ B < g2) := fun g2 hg2 => by
            have e1 := HGE.out
            refine ⟨fun i x e => ?_, fun e => ?_, by omega⟩
            · have := (HRS.out.out i x e).2.1; omega
            · have := (World.ownsRow.lt HRS.out.own g2 e).2; omega
          go_region_law (first | (go_simp; go_at_call 109; refine (HCA.out _ HBQ.out.drew).mono ?_; rintro e wz ⟨bb, bo, bc, rfl, hsz, hbz⟩; have HBZ : Hid (Below G wo wz) := HB.out.drew.trans (hbz.mono (HGS.out HB.out.drew)); have HSZ := Lib.hid hsz; have HOZ := Lib.hid (OwnI.below (OwnI.drew HO.out) hbz); have cz := (HCB.out HBZ.out).1; have fz := (HCB.out HBZ.out).2.1; clear hsz hbz) | (refine step_pushL rfl (.tmp 41) (.tmp 44) rfl G (.slice (some ⟨nb, 0, none⟩) (pixR px r).length nc) (pixR px r) (bh k) wz bb bo bn bc (by rfl) (by rfl) HBR.out.1 (by omega) HSZ.out HOZ.out hp10 (HGS.out HBZ.out) ?_; intro g2 cp2 w8 ho8 hg8 hat8; have HG2 : Hid (G ≤ g2) := (OwnI.lt ho8).2; have HB8 : Hid (Below G wo w8) := HBZ.out.grown hg8 (HGS.out HBZ.out) (fun k e => (World.ownsRow.lt HOZ.out k e).1); have HR8 : Hid (OwnI w8 base (.slice (some ⟨g2, 0, none⟩) (pixR px r ++ bh k).length cp2) (pixR px r ++ bh k)) := HLE.out.symm ▸ ho8.mono hGb; have c8 := (HCB.out HB8.out).1; have f8 := (HCB.out HB8.out).2.1; have ca8 : ∀ o, (w8.alloc o).cell? ⟨B, 1, none⟩ = some rv := fun o => (HCB.out (HB8.out.alloc (HGS.out HB8.out) o)).1; clear ho8 hg8 hat8) | (refine step_pushRow rfl (.tmp 40) (.tmp 46) rfl base rv ads Mk (pixR px r ++ bh k) g2 cp2 _ _ (by rfl) (by rfl) (by rw [HLE.out]; go_simp) ((HCB.out HB8.out).2.2.2.1.below ((Below.refl _ _).alloc (Nat.le_refl _) _)) (HR8.out.below ((Below.refl _ _).alloc (Nat.le_refl _) _)) (HFAR.out g2 HG2.out).1 (HFAR.out g2 HG2.out).2.1 hMk (by simp; have := HGS.out HB8.out; omega) ?_; intro G2 cp3 w9 ho9 hg9 hat9; have hk9 := (hg9.block B (by simp; have := (HCB.out HB8.out).2.2.2.2; omega) (fun e => HNE.out.1 e.symm)).trans (((Below.refl w8.heap.size w8).alloc (Nat.le_refl _) _).block B (HCB.out HB8.out).2.2.2.2); have c9 := (cell_of_block hk9 1).trans c8; have f9 := (frozen_of_block' hk9 1).trans f8; have HB9 := Lib.hid ((HCB.out HB8.out).2.2.1.kept hk9)))
          all_goals
            have hgd := grown_drew hg9
            have key := rs_pushed (HBL.out.trans (HB8.out.mono hGb)) hbB (HCB.out HB8.out).2.2.2.2 (HCB.out HB8.out).2.2.2.1 HNE.out (HFAR.out g2 HG2.out).2.2 ho9 hgd hat9 HB9.out
            have KEY := Lib.hid key
            clear key ho9 hg9 hat9 hk9 c9 f9 hgd ca8 c8 f8 cz fz cB fB
            go_wp2
            go_roundw
            case rel => exact ⟨k + 1, _, ads ++ [(g2, cp2)], hlt, by go_num, HMT.out ▸ KEY.out.1, KEY.out.2.1, KEY.out.2.2.1, KEY.out.2.2.2.1, KEY.out.2.2.2.2⟩
            case measure => simp [intOf]; omega
    · obtain rfl : k = m.length := by omega
      have HOK := Lib.hid (redBM_ok hm.out hpx.out hbn.2 h64.out HBV.out)
      have hRS := HRS.out
      rw [List.take_of_length_le (by rw [pixB_len]; exact Nat.le_refl _)] at hRS
      obtain ⟨g, cap, rfl, hgc, hW⟩ := hRS.reduction (by rw [pixB_len]; exact hm1.out) hbB HNE.out HBX.out
      have HWW : Hid (RdW base B g cap ads (.slice none 0 0) (redBM m px bh) wr) := hW
      have HGC := Lib.hid hgc
      clear hW hRS hgc
      go_wp2
      refine HK.out _ _ ?_
      refine reduce_t3 (N := px.length + bn) (r := redBM m px bh) hT hTw HOK.out.1 HOK.out.2 (Nat.le_add_right _ _) (by have := hpx.out; omega) HGC.out hTx HWW HBL _ _ _ _ _ _ _ _ _ _ _ _ _ _ _ _ _ _ _ _ _ _ _ _ _ _ _ _ _ _ _ _ _ _ _ _ _ _ _ _ _ _ _ _ _ _ _ _ _ _ _ _ _ _ _ _ R (hR.out g cap)
end Go.Proofs.Yteoimibefpidoaa
/- reduce and reduceAll with more numbers behind the rows: contracts. -/
namespace Go.Proofs.Yteoimibefpidoaa
open Go.RowKit

set_option maxRecDepth 100000 in
theorem reduce_any0Which {bh : Nat → List Int} {bn Cb : Nat} {ma : Option Addr} {m : List (List Int)} {mc : Nat} {pxa : Option Addr} {px : List Int} {pxc : Nat} {w : World} (HBH : Hid (BehF 109 (.pointer (some ⟨Cb, 0, none⟩)) bh bn m.length w.heap.size w)) (hbn : 1 ≤ bn ∧ bn ≤ 6) (HBV : Hid (∀ i, i < m.length → (bh i).length = bn ∧ ∀ x ∈ bh i, In64 x)) (hm : Hid (m.length ≤ 6)) (hm1 : Hid (1 ≤ m.length)) (hpx : Hid (px.length ≤ 10)) (hin : Hid (∀ j ∈ px, 0 ≤ j ∧ j < colsM m)) (hrl : Hid (∀ r ∈ m, r.length = colsM m)) (h64 : Hid (All64 m))
    (hms : Hid (Ms w ma m)) (hps : Hid (Sl w pxa px)) :
    Calls Try.prog 105 #[.slice ma m.length mc, .slice pxa px.length pxc, .func (.func 109) #[] #[.pointer (some ⟨Cb, 0, none⟩)]] w (RdPost (redB m px bh) w) := by
  go_enter Try.func105, Try.ntmps105
  refine wp_seq_k (fun K hK => ?_)
  have HK := Lib.hid hK; clear hK
  go_wp2
  refine HK.out _ _ ?_
  clear HK
  refine wp_seq_k (fun K hK => ?_)
  have HK := Lib.hid hK; clear hK
  go_wp2
  refine HK.out _ _ ?_
  clear HK
  refine reduce_t2Which (bh := bh) (bn := bn) (base := w.heap.size + 1) (T := w.heap.size) ?_ hbn HBV (Nat.le_refl _) hm hpx hin hrl ?_ ?_ ?_ ?_ (Below.refl _ _) hm1 h64 (Nat.lt_succ_self _) ?_ ?_ _ _ _ _ _ _ _ _ _ _ _ _ _ _ _ _ _ _ _ _ _ _ _ _ _ _ _ _ _ _ _ _ _ _ _ _ _ _ _ _ _ _ _ _ _ _ _ _ _ _ _ _ _ _ _ ?_
  · exact fun W k hb hk => HBH.out W k ((two_new w _ _).trans (hb.mono (Nat.le_succ _))) hk
  · exact fun hb => hms.out.below ((two_new w _ _).trans (hb.mono (Nat.le_succ _)))
  · exact fun hb => hps.out.below ((two_new w _ _).trans (hb.mono (Nat.le_succ _)))
  · rw [World.size_alloc, World.size_alloc]; omega
  · exact rb_new w _ _ _
  · rw [World.size_alloc, World.size_alloc]; omega
  · exact rt_new w _ _ _ _ _ _
  · exact fun g cap ads pa pc W h hb => rdPost_of (two_new w _ _) h hb
set_option maxRecDepth 100000 in
theorem reduceAll_anyWhich {bh : Nat → List Int} {bn Cb : Nat} {ma : Option Addr} {m : List (List Int)} {mc : Nat} {w : World} (HBH : Hid (BehF 109 (.pointer (some ⟨Cb, 0, none⟩)) bh bn m.length w.heap.size w)) (hbn : 1 ≤ bn ∧ bn ≤ 6) (HBV : Hid (∀ i, i < m.length → (bh i).length = bn ∧ ∀ x ∈ bh i, In64 x)) (hm : Hid (m.length ≤ 6)) (hm1 : Hid (1 ≤ m.length)) (hc : Hid (1 ≤ colsM m ∧ colsM m ≤ 10)) (hrl : Hid (∀ r ∈ m, r.length = colsM m)) (h64 : Hid (All64 m)) (hms : Hid (Ms w ma m)) :
    Calls Try.prog 57 #[.slice ma m.length mc, .func (.func 109) #[] #[.pointer (some ⟨Cb, 0, none⟩)]] w (RdPost (redB m (upTo (colsM m)) bh) w) := by
  obtain ⟨n, hn⟩ : ∃ n, colsM m = n := ⟨_, rfl⟩
  have HN := Lib.hid hn
  rw [hn] at hc hrl
  clear hn
  go_enter Try.func57, Try.ntmps57
  have HB0 : Hid (∀ o, Below (w.heap.size + 1) (w.alloc o) (w.alloc o)) := fun o => Below.refl _ _
  have HBA : Hid (∀ o, Below w.heap.size w (w.alloc o)) := fun o => (Below.refl _ _).alloc (Nat.le_refl _) _
  have h0 : 0 < m.length := hm1.out
  obtain ⟨b1, o1, ai, r, ci, rfl, hcell, hsl, HR⟩ := hms.out.at h0
  have hcell' : ∀ o, (w.alloc o).cell? ⟨b1, o1, none⟩ = some (.slice ai r.length ci) := fun o => ((HBA.out o).cell (p := ⟨b1, o1, none⟩) (cell_lt hcell)).trans hcell
  have hrn : r.length = n := hrl.out r (List.mem_of_getElem? HR.out)
  rw [hrn] at hcell'
  clear hcell
  have hn10 := hc.out.2
  go_wp2
  go_loopw [5, 11] (fun v i wr => ∃ j : Nat, j ≤ n ∧ i = .int .i64 j ∧ OwnI wr (w.heap.size + 1) v (upTo j) ∧ Below (w.heap.size + 1) (w.alloc (.cells #[.int .i64 0, .slice none 0 0, .slice none 0 0, .int .i64 0] 76)) wr) (fun _ i _ => n - (intOf i).toNat)
  case atStart => exact ⟨0, Nat.zero_le _, rfl, OwnI.nil _ _, Below.refl _ _⟩
  case round =>
    obtain ⟨j, hj, rfl, hO, hB⟩ := hrel
    have HO := Lib.hid hO; clear hO
    have HB := Lib.hid hB; clear hB
    have hsz : (w.alloc (.cells #[.int .i64 0, .slice none 0 0, .slice none 0 0, .int .i64 0] 76)).heap.size = w.heap.size + 1 := World.size_alloc _ _
    have HSZ : Hid (w.heap.size + 1 ≤ wr.heap.size) := by have := HB.out.size; show _ ≤ _; omega
    clear hsz hcell'
    by_cases hlt : j < n
    · go_wp2_with (at_builtin; go_must (refine wpList_push rfl (.tmp 14) (.tmp 16) rfl (w.heap.size + 1) _ (upTo j) _ _ _ _ rfl rfl rfl HO.out (by rw [upTo_len]; omega) HSZ.out ?_); intro v' w9 ho' hb')
      go_roundw
      case rel => exact ⟨j + 1, by omega, by go_num, by rw [upTo_succ]; exact ho', HB.out.trans hb'⟩
      case measure => simp [intOf]; omega
    · obtain rfl : j = n := by omega
      have HBW : Hid (Below w.heap.size w wr) := (HBA.out _).trans (HB.out.mono (Nat.le_succ _))
      obtain ⟨pa, pc, rfl, hps⟩ := HO.out.any
      have HPS := Lib.hid hps; clear hps
      have HMS : Hid (Ms wr (some ⟨b1, o1, none⟩) m) := hms.out.below HBW.out
      have HT0 : Hid (wr.cell? ⟨w.heap.size, 0, none⟩ = some (.int .i64 0) ∧ wr.frozen? ⟨w.heap.size, 0, none⟩ = false) := ⟨(HB.out.cell (p := ⟨w.heap.size, 0, none⟩) (Nat.lt_succ_self _)).trans (alloc_cell w _ _ _ _ rfl), (HB.out.frozen (p := ⟨w.heap.size, 0, none⟩) (Nat.lt_succ_self _)).trans (by simp)⟩
      have HT1 : Hid (wr.cell? ⟨w.heap.size, 1, none⟩ = some (.slice none 0 0) ∧ wr.frozen? ⟨w.heap.size, 1, none⟩ = false) := ⟨(HB.out.cell (p := ⟨w.heap.size, 1, none⟩) (Nat.lt_succ_self _)).trans (alloc_cell w _ _ _ _ rfl), (HB.out.frozen (p := ⟨w.heap.size, 1, none⟩) (Nat.lt_succ_self _)).trans (by simp)⟩
      have HT2 : Hid (wr.cell? ⟨w.heap.size, 2, none⟩ = some (.slice none 0 0) ∧ wr.frozen? ⟨w.heap.size, 2, none⟩ = false) := ⟨(HB.out.cell (p := ⟨w.heap.size, 2, none⟩) (Nat.lt_succ_self _)).trans (alloc_cell w _ _ _ _ rfl), (HB.out.frozen (p := ⟨w.heap.size, 2, none⟩) (Nat.lt_succ_self _)).trans (by simp)⟩
      have HT3 : Hid (wr.cell? ⟨w.heap.size, 3, none⟩ = some (.int .i64 0) ∧ wr.frozen? ⟨w.heap.size, 3, none⟩ = false) := ⟨(HB.out.cell (p := ⟨w.heap.size, 3, none⟩) (Nat.lt_succ_self _)).trans (alloc_cell w _ _ _ _ rfl), (HB.out.frozen (p := ⟨w.heap.size, 3, none⟩) (Nat.lt_succ_self _)).trans (by simp)⟩
      have hlw : Hid (w.heap.size < wr.heap.size) := HSZ.out
      have HBC : Hid (BehF 109 (.pointer (some ⟨Cb, 0, none⟩)) bh bn m.length wr.heap.size wr) := fun W k hb hk => HBH.out W k (HBW.out.trans (hb.mono HBW.out.size)) hk
      have HPX : Hid (1 ≤ (upTo j).length ∧ (upTo j).length ≤ 10) := by rw [upTo_len]; exact hc.out
      have HIN : Hid (∀ q ∈ upTo j, 0 ≤ q ∧ q < colsM m) := fun q hq => by rw [HN.out]; exact upTo_in hq
      have HRL : Hid (∀ r ∈ m, r.length = colsM m) := fun r hr => by rw [HN.out]; exact hrl.out r hr
      go_wp2_with (go_at_call 105; refine (reduce_any0Which HBC hbn HBV hm hm1 (Lib.hid HPX.out.2) HIN HRL h64 HMS HPS).mono ?_; rintro e w2 ⟨hb2, g, cap, ads, pa2, pc2, rfl, hgg, si, pi⟩; unfold rdV; have t0 := (hb2.cell (p := ⟨w.heap.size, 0, none⟩) hlw.out).trans HT0.out.1; have z0 := (hb2.frozen (p := ⟨w.heap.size, 0, none⟩) hlw.out).trans HT0.out.2; have t1 := (hb2.cell (p := ⟨w.heap.size, 1, none⟩) hlw.out).trans HT1.out.1; have z1 := (hb2.frozen (p := ⟨w.heap.size, 1, none⟩) hlw.out).trans HT1.out.2; have t2 := (hb2.cell (p := ⟨w.heap.size, 2, none⟩) hlw.out).trans HT2.out.1; have z2 := (hb2.frozen (p := ⟨w.heap.size, 2, none⟩) hlw.out).trans HT2.out.2; have t3 := (hb2.cell (p := ⟨w.heap.size, 3, none⟩) hlw.out).trans HT3.out.1; have z3 := (hb2.frozen (p := ⟨w.heap.size, 3, none⟩) hlw.out).trans HT3.out.2)
      refine bodyPost_ret_by (v := rdV g cap pa2 pc2 (redB m (upTo j) bh)) ?_ rfl (by rw [HN.out]; exact rdPost_box rfl hlw.out HBW.out hb2 hgg si pi)
      rw [results_cell_one' rfl]
      unfold rdV
      go_simp
end Go.Proofs.Yteoimibefpidoaa
/- Weight of the program: a contract. -/
namespace Go.Proofs.Yteoimibefpidoaa
open Go.RowKit

/-- What Weight answers. -/
def weightV (m : List (List Int)) (p : Int) : List Int × Int :=
  if validM m = false then ([], 1) else if thereB m p = false then ([], 5) else if rknownB m p.toNat = false then ([], 8) else (shortL (behW m (knownV (redW m).rows (redW m).piv (colsM m) p).toNat), 0)
set_option maxRecDepth 1000000 in
set_option maxHeartbeats 6400000 in
theorem lweight_any (ma : Option Addr) (m : List (List Int)) (mc : Nat) (p : Int) (w : World) (hm : MOk m) (hs : Ms w ma m) :
    Calls Try.prog 28 #[.slice ma m.length mc, .int .i64 p] w (LPost (weightV m p) w) := by
  have HS := Lib.hid hs
  have HVA : Hid (Calls Try.prog 49 #[.slice ma m.length mc] w fun e w' => e = .returned (.bool (validM m)) ∧ Below w.heap.size w w') := mvalid_any ma m mc w hm hs
  cases hv : validM m
  case false =>
    rw [hv] at HVA
    have HK : Hid (weightV m p = ([], 1)) := by show _ = _; simp [weightV, hv]
    clear hv hs hm
    rw [HK.out]
    go_enter Try.func28, Try.ntmps28
    go_wp2_with (go_at_call 49; refine HVA.out.mono ?_; rintro e w2 ⟨rfl, hb⟩; have HB2 := Lib.hid hb; clear hb)
    go_ret2
    exact LPost.err 1 rfl HB2.out
  case true =>
    rw [hv] at HVA
    obtain ⟨hm1, hm6, hc1, hc10, hrows⟩ := validM_of hv
    obtain ⟨q, hq⟩ : ∃ q, thereB m p = q := ⟨_, rfl⟩
    have HTH : Hid (∀ W, Below w.heap.size w W → Calls Try.prog 61 #[.slice ma m.length mc, .int .i64 p] W fun e w' => e = .returned (.bool q) ∧ W = w') := fun W hb => by rw [← hq]; exact lthere_any ma m mc p W hv (HS.out.below hb)
    obtain ⟨n, hn⟩ : ∃ n, m.length = n := ⟨_, rfl⟩
    cases q with
    | false =>
      have HK : Hid (weightV m p = ([], 5)) := by show _ = _; simp [weightV, hv, hq]
      rw [HK.out]
      rw [hn] at HVA HTH ⊢
      clear hv hs hm hrows hq
      go_enter Try.func28, Try.ntmps28
      go_wp2_with (first | (go_at_call 49; refine HVA.out.mono ?_; rintro e w2 ⟨rfl, hb⟩; have HB2 := Lib.hid hb; clear hb) | (go_at_call 61; refine (HTH.out w2 HB2.out).mono ?_; rintro e w1 ⟨rfl, rfl⟩))
      go_ret2
      exact LPost.err 5 rfl HB2.out
    | true =>
      obtain ⟨j, rfl, hj⟩ := thereB_nat hq
      have h64 : Hid (All64 m) := fun q hq x hx => by
        obtain ⟨c, hc, rfl⟩ := mem_gt.1 hx
        have := gt_in (hrows q hq).2 hc
        unfold In64; omega
      have HRD : Hid (∀ W, Below w.heap.size w W → Calls Try.prog 57 #[.slice ma m.length mc, .func (.func 109) #[] #[.pointer (some ⟨W.heap.size, 0, none⟩)]] (W.alloc (.cells #[.slice ma m.length mc] 23)) (RdPost (redW m) (W.alloc (.cells #[.slice ma m.length mc] 23)))) := fun W hb => by
        have hb2 : Below w.heap.size w (W.alloc (.cells #[.slice ma m.length mc] 23)) := hb.alloc hb.size _
        exact reduceAll_anyWhich (Lib.hid (which_beh hm6 (alloc_cell _ _ _ _ _ rfl))) ⟨hm1, hm6⟩ (Lib.hid whichB_ok) (Lib.hid hm6) (Lib.hid hm1) (Lib.hid ⟨hc1, hc10⟩) (Lib.hid fun r hr => (hrows r hr).1) h64 (Lib.hid (hs.below hb2))
      have HF := redW_fin hv
      have hco : (redW m).cols = colsM m := (redB_cols _ _ _).trans (upTo_len _)
      have hko := knownW hv hj
      have hwo := fun x => weigh_ok (x := x) hv hj
      have hba := fun x hx => behW_all (x := x) hv hx
      have hbd := redW_bd hv
      have hbl := fun x hx => behW_len (x := x) hv hx
      have hkx : ∀ x : Nat, knownV (redW m).rows (redW m).piv (colsM m) (j : Int) = (x : Int) → rknownB m j = true → weightV m (j : Int) = (shortL (behW m x), 0) := fun x e e2 => by
        unfold weightV
        rw [if_neg (by rw [hv]; decide), if_neg (by rw [hq]; decide), Int.toNat_natCast, if_neg (by rw [e2]; decide), e, Int.toNat_natCast]
      have hbw : ∀ x, behW m x = (rowL (redW m).rows x).drop (colsM m) := fun _ => rfl
      obtain ⟨rd, hrd⟩ : ∃ rd, redW m = rd := ⟨_, rfl⟩
      rw [hrd] at HF hco hko hwo hbd hkx hbw HRD
      obtain ⟨pl, hpl⟩ : ∃ pl, colsM m = pl := ⟨_, rfl⟩
      rw [hpl] at HF hco hko hwo hbd hkx hbw hj hc1 hc10
      rw [hn] at HF hm1 hm6 hwo hba hbd hbl HVA HTH HRD ⊢
      obtain ⟨cols, rows, piv, dv⟩ := rd
      dsimp only at hco hko hwo hbd hkx hbw
      subst hco
      have hlen := HF.len
      have hrow := HF.row
      have hplr := HF.pl
      dsimp only at hlen hrow hplr
      have HKV0 : Hid (∀ (g cp : Nat) (ads : List (Nat × Nat)) (pa : Option Addr) (pc base : Nat) (W : World), SI W base g ads rows → Sl W pa piv → Calls Try.prog 59 #[.agg #[.int .i64 (cols : Int), .slice (some ⟨g, 0, none⟩) rows.length cp, .slice pa piv.length pc, .int .i64 dv], .int .i64 (j : Int)] W fun e w' => e = .returned (.int .i64 (knownV rows piv cols (j : Int))) ∧ Below W.heap.size W w') := fun g cp ads pa pc base W h h2 => known_any cols g cp (cols + n) ads rows pa piv pc dv (j : Int) base W (by omega) (by omega) hrow (by omega) (by omega) h h2
      obtain ⟨kv, hkv⟩ : ∃ kv, knownV rows piv cols (j : Int) = kv := ⟨_, rfl⟩
      rw [hkv] at hko HKV0 hwo hkx
      by_cases hk0 : 0 ≤ kv
      · obtain ⟨i, rfl⟩ := Int.eq_ofNat_of_zero_le hk0
        rw [decide_eq_true hk0] at hko
        obtain ⟨hi, hg, _⟩ := hwo i rfl
        have HVV : Hid (weightV m (j : Int) = (shortL (behW m i), 0)) := hkx i rfl hko.symm
        have hbi := hbl i hi
        have hlr : (rowL rows i).length = cols + n := hrow _ (rowL_mem (by omega))
        have hmid : ∀ x ∈ behW m i, Mid x := fun x hx => by
          obtain ⟨c, hc, rfl⟩ := mem_gt.1 hx
          have := hbd i hi (cols + c) (by omega)
          rw [hbw]
          have e : gt ((rowL rows i).drop cols) c = gt (rowL rows i) (cols + c) := by unfold gt; rw [List.getElem?_drop]
          rw [e]; unfold Mid; omega
        have hsplit : rowL rows i = (rowL rows i).take cols ++ behW m i := by rw [hbw]; exact (List.take_append_drop _ _).symm
        have HBE : Hid (∀ (g cp : Nat) (ads : List (Nat × Nat)) (pa : Option Addr) (pc : Nat) (W : World), SI W w.heap.size g ads rows → Calls Try.prog 68 #[.agg #[.int .i64 (cols : Int), .slice (some ⟨g, 0, none⟩) rows.length cp, .slice pa piv.length pc, .int .i64 dv], .int .i64 (i : Int)] W fun e w' => Below W.heap.size W w' ∧ ∃ xb xc c, e = .returned (.slice (some ⟨xb, cols, none⟩) n c) ∧ OwnI w' w.heap.size (.slice (some ⟨xb, 0, none⟩) (cols + n) xc) ((rowL rows i).take cols ++ behW m i)) := fun g cp ads pa pc W h => by
          have h := behind_own cols g cp (cols + n) ads rows pa piv.length pc dv i w.heap.size W (by omega) hlr (by omega) h
          rw [← hsplit, show cols + n - cols = n by omega] at *
          exact h
        have HSH : Hid (∀ (W : World) (xb xc c : Nat), OwnI W w.heap.size (.slice (some ⟨xb, 0, none⟩) (cols + n) xc) ((rowL rows i).take cols ++ behW m i) → Calls Try.prog 67 #[.slice (some ⟨xb, cols, none⟩) n c] W fun e w' => e = .returned (.slice (some ⟨xb, cols, none⟩) n c) ∧ Below w.heap.size W w' ∧ Sl w' (some ⟨xb, cols, none⟩) (shortL (behW m i))) := fun W xb xc c h => by
          have h := shorten_at w.heap.size xb c xc cols (cols + n) ((rowL rows i).take cols) (behW m i) W (by rw [List.length_take, hlr]; omega) (by omega) hmid hg h
          rw [hbi] at h
          exact h
        obtain ⟨z, hz⟩ : ∃ z, shortL (behW m i) = z := ⟨_, rfl⟩
        have hzl : n = z.length := by rw [← hz, short_len, hbi]
        rw [hz] at HVV HSH
        obtain ⟨z0, hz0⟩ : ∃ z0, behW m i = z0 := ⟨_, rfl⟩
        rw [hz0] at HSH HBE
        rw [HVV.out]
        have hi0 : ¬ (i : Int) < 0 := by omega
        have HKV := HKV0
        have HZL := Lib.hid hzl
        clear hv hs hm hrows h64 hq hrd hko hwo hba hbd hbl hkx hbw HF hlen hrow hplr hkv hk0 hi hg hbi hlr hmid hsplit hz hz0 HVV hzl hn hpl
        go_enter Try.func28, Try.ntmps28
        go_wp2_with (first | (go_at_call 49; refine HVA.out.mono ?_; rintro e w2 ⟨rfl, hb⟩; have HB2 := Lib.hid hb; clear hb) | (go_at_call 61; refine (HTH.out w2 HB2.out).mono ?_; rintro e w1 ⟨rfl, rfl⟩) | (go_at_call 66; refine (whichOf_any ma n mc w2).mono ?_; rintro e w9 ⟨rfl, rfl⟩) | (go_at_call 57; refine (HRD.out w2 HB2.out).mono ?_; rintro e w3 ⟨hb3, g, cp, ads, pa2, pc2, rfl, hgg, si, pi⟩; unfold rdV; dsimp only at si pi ⊢; obtain ⟨W4, hW4⟩ : ∃ W4, w3.alloc (.cells #[.int .i64 (cols : Int), .slice (some ⟨g, 0, none⟩) rows.length cp, .slice pa2 piv.length pc2, .int .i64 dv] 76) = W4 := ⟨_, rfl⟩; have HCW : Hid (∀ W, Below W4.heap.size W4 W → W.cell? ⟨w3.heap.size, 0, none⟩ = some (.int .i64 (cols : Int)) ∧ W.cell? ⟨w3.heap.size, 1, none⟩ = some (.slice (some ⟨g, 0, none⟩) rows.length cp) ∧ W.cell? ⟨w3.heap.size, 2, none⟩ = some (.slice pa2 piv.length pc2) ∧ W.cell? ⟨w3.heap.size, 3, none⟩ = some (.int .i64 dv)) := box_cells hW4; obtain ⟨k0, k1, k2, k3⟩ := HCW.out W4 (Below.refl _ _); have HB4 : Hid (Below w3.heap.size w3 W4) := hW4 ▸ (Below.refl _ _).alloc (Nat.le_refl _) _; have HSI4 := Lib.hid ((si.lower (by rw [World.size_alloc]; have := HB2.out.size; omega : w.heap.size ≤ _)).below HB4.out); have HPI4 := Lib.hid ((OwnI.sl pi).below HB4.out); have HB3 := Lib.hid hb3; have HBW4 : Hid (Below w.heap.size w W4) := (HB2.out.alloc HB2.out.size _).trans ((HB3.out.mono (by rw [World.size_alloc]; have := HB2.out.size; omega)).trans (HB4.out.mono (by have h1 := HB3.out.size; rw [World.size_alloc] at h1; have := HB2.out.size; omega))); clear si pi hgg hb3) | (go_at_call 59; refine (HKV.out _ _ _ _ _ _ _ HSI4.out HPI4.out).mono ?_; rintro e w5 ⟨rfl, hb5⟩; have HB5 : Hid (Below W4.heap.size W4 w5) := Lib.hid hb5; obtain ⟨j50, j51, j52, j53⟩ := HCW.out w5 HB5.out; have HBW5 : Hid (Below w.heap.size w w5) := HBW4.out.trans (hb5.mono HBW4.out.size); clear hb5) | (go_at_call 68; refine (HBE.out _ _ _ _ _ _ (HSI4.out.below HB5.out)).mono ?_; rintro e w6 ⟨hb6, xb, xc, bc, rfl, ho6⟩; have HO6 := Lib.hid ho6; have HBW6 : Hid (Below w.heap.size w w6) := HBW5.out.trans (hb6.mono HBW5.out.size); clear hb6 ho6) | (go_at_call 67; refine (HSH.out _ _ _ _ HO6.out).mono ?_; rintro e w7 ⟨rfl, hb7, hs7⟩; have HBW7 : Hid (Below w.heap.size w w7) := HBW6.out.trans hb7; have HS7 := Lib.hid hs7; clear hb7 hs7))
        go_ret2
        exact ⟨HBW7.out, _, _, by (dsimp only; rw [← HZL.out]; rfl), HS7.out⟩
      · rw [decide_eq_false hk0] at hko
        have hk1 : kv < 0 := by omega
        have HVV : Hid (weightV m (j : Int) = ([], 8)) := by show _ = _; simp [weightV, hv, hq, ← hko]
        rw [HVV.out]
        have HKV := HKV0
        clear hv hs hm hrows h64 hq hrd hko hwo hba hbd hbl hkx hbw HF hlen hrow hplr hkv hk0 HVV hn hpl
        go_enter Try.func28, Try.ntmps28
        go_wp2_with (first | (go_at_call 49; refine HVA.out.mono ?_; rintro e w2 ⟨rfl, hb⟩; have HB2 := Lib.hid hb; clear hb) | (go_at_call 61; refine (HTH.out w2 HB2.out).mono ?_; rintro e w1 ⟨rfl, rfl⟩) | (go_at_call 66; refine (whichOf_any ma n mc w2).mono ?_; rintro e w9 ⟨rfl, rfl⟩) | (go_at_call 57; refine (HRD.out w2 HB2.out).mono ?_; rintro e w3 ⟨hb3, g, cp, ads, pa2, pc2, rfl, hgg, si, pi⟩; unfold rdV; dsimp only at si pi ⊢; obtain ⟨W4, hW4⟩ : ∃ W4, w3.alloc (.cells #[.int .i64 (cols : Int), .slice (some ⟨g, 0, none⟩) rows.length cp, .slice pa2 piv.length pc2, .int .i64 dv] 76) = W4 := ⟨_, rfl⟩; have HCW : Hid (∀ W, Below W4.heap.size W4 W → W.cell? ⟨w3.heap.size, 0, none⟩ = some (.int .i64 (cols : Int)) ∧ W.cell? ⟨w3.heap.size, 1, none⟩ = some (.slice (some ⟨g, 0, none⟩) rows.length cp) ∧ W.cell? ⟨w3.heap.size, 2, none⟩ = some (.slice pa2 piv.length pc2) ∧ W.cell? ⟨w3.heap.size, 3, none⟩ = some (.int .i64 dv)) := box_cells hW4; obtain ⟨k0, k1, k2, k3⟩ := HCW.out W4 (Below.refl _ _); have HB4 : Hid (Below w3.heap.size w3 W4) := hW4 ▸ (Below.refl _ _).alloc (Nat.le_refl _) _; have HSI4 := Lib.hid ((si.lower (by rw [World.size_alloc]; have := HB2.out.size; omega : w.heap.size ≤ _)).below HB4.out); have HPI4 := Lib.hid ((OwnI.sl pi).below HB4.out); have HB3 := Lib.hid hb3; have HBW4 : Hid (Below w.heap.size w W4) := (HB2.out.alloc HB2.out.size _).trans ((HB3.out.mono (by rw [World.size_alloc]; have := HB2.out.size; omega)).trans (HB4.out.mono (by have h1 := HB3.out.size; rw [World.size_alloc] at h1; have := HB2.out.size; omega))); clear si pi hgg hb3) | (go_at_call 59; refine (HKV.out _ _ _ _ _ _ _ HSI4.out HPI4.out).mono ?_; rintro e w5 ⟨rfl, hb5⟩; have HB5 : Hid (Below W4.heap.size W4 w5) := Lib.hid hb5; obtain ⟨j50, j51, j52, j53⟩ := HCW.out w5 HB5.out; have HBW5 : Hid (Below w.heap.size w w5) := HBW4.out.trans (hb5.mono HBW4.out.size); clear hb5))
        go_ret2
        exact LPost.err 8 rfl HBW5.out
end Go.Proofs.Yteoimibefpidoaa
/- LinKnown: the walk. -/
namespace Go.Proofs.Yteoimibefpidoaa.linKnown
open Go.RowKit

theorem knTo_mem (m : List (List Int)) (v : Int) : ∀ k, v ∈ knTo m k ↔ ∃ j : Nat, j < k ∧ v = (j : Int) ∧ rknownB m j = true
  | 0 => by constructor
            · intro h; cases h
            · rintro ⟨j, hj, _⟩; omega
  | k + 1 => by
    have ih := knTo_mem m v k
    unfold knTo
    split
    · rename_i hk
      rw [List.mem_append, List.mem_singleton, ih]
      constructor
      · rintro (⟨j, h1, h2, h3⟩ | h)
        · exact ⟨j, by omega, h2, h3⟩
        · exact ⟨k, by omega, h, hk⟩
      · rintro ⟨j, h1, h2, h3⟩
        by_cases e : j = k
        · subst e; exact .inr h2
        · exact .inl ⟨j, by omega, h2, h3⟩
    · rename_i hk
      rw [ih]
      constructor
      · rintro ⟨j, h1, h2, h3⟩; exact ⟨j, by omega, h2, h3⟩
      · rintro ⟨j, h1, h2, h3⟩
        by_cases e : j = k
        · subst e; exact absurd h3 hk
        · exact ⟨j, by omega, h2, h3⟩
theorem inTake {xs : List Int} {v : Int} {k : Nat} (hk : k < xs.length) : decide (v ∈ xs.take (k + 1)) = (decide (v ∈ xs.take k) || decide (gt xs k = v)) := by
  have e : xs.take (k + 1) = xs.take k ++ [gt xs k] := by
    rw [List.take_succ_eq_append_getElem hk]; unfold gt; simp [hk]
  have h : (v ∈ xs.take k ++ [gt xs k]) ↔ (v ∈ xs.take k ∨ gt xs k = v) := by rw [List.mem_append, List.mem_singleton]; exact or_congr Iff.rfl eq_comm
  rw [e, decide_eq_decide.2 h, Bool.decide_or]
set_option maxRecDepth 1000000 in
set_option maxHeartbeats 6400000 in
theorem walk (b0 : Option Addr) (m0 : List (List Int)) (c0 : Nat) (b1 : Option Addr) (xs1 : List Int) (c1 : Nat) (m2 : Int) (w : World) (h0 : Ms w b0 m0) (r0 : MOk m0) (h1 : Sl w b1 xs1) (l1 : xs1.length ≤ 9223372036854775807) (_r1 : ∀ x ∈ xs1, I64 x) (_r2 : I64 m2) :
    Calls Try.prog 5 #[.slice b0 m0.length c0, .slice b1 xs1.length c1, .int .i64 m2] w fun e w' => e = .returned (.bool true) ∧ Below w.heap.size w w' := by
  have HS := Lib.hid h0
  have HX := Lib.hid h1
  have HM := Lib.hid r0
  have hml := r0.1
  obtain ⟨lb, hlb⟩ : ∃ lb, decide (100 < xs1.length) = lb := ⟨_, rfl⟩
  have HLN : Hid (Calls Try.prog 9 #[.slice (some ⟨w.heap.size, 0, none⟩) 1 1] (w.alloc (.cells #[.slice b1 xs1.length c1] 25)) fun e w' => e = .returned (.bool lb) ∧ (w.alloc (.cells #[.slice b1 xs1.length c1] 25)) = w') := by
    rw [← hlb]
    exact long1_any w.heap.size 0 b1 xs1.length c1 1 _ l1 (alloc_cell _ _ _ _ _ rfl)
  have HB1 : Hid (Below w.heap.size w (w.alloc (.cells #[.slice b1 xs1.length c1] 25))) := (Below.refl _ _).alloc (Nat.le_refl _) _
  have HSM : Hid (∀ V xa xl xc, Below w.heap.size w V → Calls Try.prog 8 #[.slice b0 m0.length c0, .slice xa xl xc] V fun e w' => (∃ b, e = .returned (.bool b)) ∧ V = w') := fun V xa xl xc hb => small_any _ m0 _ _ _ _ V hml (HS.out.below hb)
  cases lb with
  | true =>
    clear h0 h1 r0 hlb
    go_enter Try.func5, Try.ntmps5
    go_wp2_with (first | (go_at_call 8; refine (HSM.out _ _ _ _ (Below.refl _ _)).mono ?_; rintro e w1 ⟨⟨bb, rfl⟩, rfl⟩; cases bb) | (go_at_call 9; refine HLN.out.mono ?_; rintro e w1 ⟨rfl, rfl⟩) | (go_at_call 10; refine (awake_any _).mono ?_; rintro e w9 ⟨rfl, hb9⟩))
    all_goals go_ret
    all_goals first
      | exact ⟨rfl, HB1.out.trans (hb9.mono HB1.out.size)⟩
      | exact ⟨rfl, hb9⟩
  | false =>
    have hx100 : xs1.length ≤ 100 := by have := of_decide_eq_false hlb; omega
    have HSW : Hid (∀ V, Below w.heap.size w V → Ms V b0 m0) := fun V hb => HS.out.below hb
    have HXW : Hid (∀ V, Below w.heap.size w V → Sl V b1 xs1) := fun V hb => HX.out.below hb
    have HLK : Hid (∀ V, Below w.heap.size w V → Calls Try.prog 24 #[.slice b0 m0.length c0] V (LPost (knownLV m0) V)) := fun V hb => lknowns_any b0 m0 c0 V HM.out (HSW.out V hb)
    have HRK : Hid (∀ V, Below w.heap.size w V → Calls Try.prog 25 #[.slice b0 m0.length c0] V (LPost (knownLV m0) V)) := fun V hb => rknowns_any b0 m0 c0 V HM.out (HSW.out V hb)
    have hve : ∀ g, (valueV m0 xs1 m2).2 = g → True := fun _ _ => trivial
    obtain ⟨vv, hvv⟩ : ∃ vv, valueV m0 xs1 m2 = vv := ⟨_, rfl⟩
    obtain ⟨⟨x1, x2⟩, g⟩ := vv
    have HLV : Hid (∀ V, Below w.heap.size w V → Calls Try.prog 26 #[.slice b0 m0.length c0, .slice b1 xs1.length c1, .int .i64 m2] V fun e w' => e = .returned (.tuple #[.agg #[.int .i64 x1, .int .i64 x2], .int .i64 g]) ∧ Below V.heap.size V w') := fun V hb => by
      have h := lvalue_any b0 m0 c0 b1 xs1 c1 m2 V HM.out l1 (HSW.out V hb) (HXW.out V hb)
      rw [hvv] at h; exact h
    have HRV : Hid (∀ V, Below w.heap.size w V → Calls Try.prog 27 #[.slice b0 m0.length c0, .slice b1 xs1.length c1, .int .i64 m2] V fun e w' => e = .returned (.tuple #[.agg #[.int .i64 x1, .int .i64 x2], .int .i64 g]) ∧ Below V.heap.size V w') := fun V hb => by
      have h := rvalue_any b0 m0 c0 b1 xs1 c1 m2 V HM.out l1 (HSW.out V hb) (HXW.out V hb)
      rw [hvv] at h; exact h
    have yx1 : (x1 == x1) = true := by simp
    have yx2 : (x2 == x2) = true := by simp
    have yg : (g == g) = true := by simp
    have yg2 : (g != g) = false := by simp
    clear hve hvv
    cases hv : validM m0 with
    | false =>
      have hkv : knownLV m0 = ([], 1) := by simp [knownLV, hv]
      have HSI : Hid (∀ (V : World) (a : Option Addr) (ca : Nat) (b : Option Addr) (cb : Nat), Sl V a [] → Sl V b [] → Calls Try.prog 23 #[.slice a 0 ca, .slice b 0 cb] V fun e w' => e = .returned (.bool true) ∧ ∃ n, w' = V.drewN n) := fun V a ca b cb h1 h2 => by
        have h := sameInts_any a [] ca b [] cb V (by simp) (by simp) h1 h2
        simpa using h
      rw [hkv] at HLK HRK
      clear h0 h1 r0 hlb hkv hv
      go_enter Try.func5, Try.ntmps5
      go_wp2_with (first | (go_at_call 8; refine (HSM.out _ _ _ _ (Below.refl _ _)).mono ?_; rintro e w1 ⟨⟨bb, rfl⟩, rfl⟩; cases bb) | (go_at_call 9; refine HLN.out.mono ?_; rintro e w1 ⟨rfl, rfl⟩) | (go_at_call 10; refine (awake_any _).mono ?_; rintro e w9 ⟨rfl, hb9⟩) | (go_at_call 24; refine (HLK.out _ HB1.out).mono ?_; rintro e w2 ⟨hb2, ka, kc, rfl, hk⟩; have HB2 := Lib.hid (HB1.out.trans (hb2.mono HB1.out.size)); have HK2 := Lib.hid hk; clear hb2 hk) | (go_at_call 25; refine (HRK.out _ HB2.out).mono ?_; rintro e w3 ⟨hb3, ka3, kc3, rfl, hk⟩; have HB3 := Lib.hid (HB2.out.trans (hb3.mono HB2.out.size)); have HK23 := Lib.hid (HK2.out.below hb3); have HK3 := Lib.hid hk; clear hb3 hk) | (go_at_call 26; refine (HLV.out _ HB3.out).mono ?_; rintro e w4 ⟨rfl, hb4⟩; have HB4 := Lib.hid (HB3.out.trans (hb4.mono HB3.out.size)); have HK24 := Lib.hid (HK23.out.below hb4); have HK34 := Lib.hid (HK3.out.below hb4); obtain ⟨W5, hW5⟩ : ∃ W5, w4.alloc (.cells #[.int .i64 x1, .int .i64 x2] 42) = W5 := ⟨_, rfl⟩; have HX5 := Lib.hid (rbox hW5); have hb5 : Below w4.heap.size w4 W5 := hW5 ▸ (Below.refl _ _).alloc (Nat.le_refl _) _; have HB5 := Lib.hid (HB4.out.trans (hb5.mono HB4.out.size)); have HK25 := Lib.hid (HK24.out.below hb5); have HK35 := Lib.hid (HK34.out.below hb5); clear hb4 hb5) | (go_at_call 27; refine (HRV.out _ HB5.out).mono ?_; rintro e w6 ⟨rfl, hb6⟩; have HB56 := Lib.hid hb6; have HB6 := Lib.hid (HB5.out.trans (hb6.mono HB5.out.size)); have HK26 := Lib.hid (HK25.out.below hb6); have HK36 := Lib.hid (HK35.out.below hb6); obtain ⟨W7, hW7⟩ : ∃ W7, w6.alloc (.cells #[.int .i64 x1, .int .i64 x2] 42) = W7 := ⟨_, rfl⟩; have HX7 := Lib.hid (rbox hW7); have hb7 : Below w6.heap.size w6 W7 := hW7 ▸ (Below.refl _ _).alloc (Nat.le_refl _) _; have HB57 : Hid (Below W5.heap.size W5 W7) := HB56.out.trans (hb7.mono HB56.out.size); have HB7 := Lib.hid (HB6.out.trans (hb7.mono HB6.out.size)); have HK27 := Lib.hid (HK26.out.below hb7); have HK37 := Lib.hid (HK36.out.below hb7); clear hb6 hb7) | (go_at_call 23; refine (HSI.out W7 ka kc ka3 kc3 HK27.out HK37.out).mono ?_; rintro e w8 ⟨rfl, nd8, hw8⟩; have hb8 := drew_below hw8; obtain ⟨p0, _, p1, _⟩ := HX5.out w8 (HB57.out.trans (hb8.mono HB57.out.size)); obtain ⟨q0, _, q1, _⟩ := HX7.out w8 hb8; have HB8 := Lib.hid (HB7.out.trans (hb8.mono HB7.out.size)); have HK28 := Lib.hid (HK27.out.below hb8); clear hw8 hb8))
      all_goals go_ret
      all_goals first
        | exact ⟨rfl, HB8.out.trans (hb9.mono HB8.out.size)⟩
        | exact ⟨rfl, hb9⟩
    | true =>
      have hkv : knownLV m0 = (knTo m0 (colsM m0), 0) := by simp [knownLV, hv]
      obtain ⟨hm1, hm6, hc1, hc10, hrows⟩ := validM_of hv
      obtain ⟨K, hK⟩ : ∃ K, knTo m0 (colsM m0) = K := ⟨_, rfl⟩
      have hmem : m2 ∈ K ↔ thereB m0 m2 = true ∧ rknownB m0 m2.toNat = true := by
        rw [← hK, knTo_mem]
        constructor
        · rintro ⟨j, h1, rfl, h3⟩
          refine ⟨?_, by rw [Int.toNat_natCast]; exact h3⟩
          unfold thereB; simp; omega
        · rintro ⟨h1, h2⟩
          obtain ⟨j, rfl, hj⟩ := thereB_nat h1
          rw [Int.toNat_natCast] at h2
          exact ⟨j, hj, rfl, h2⟩
      have hKl : K.length ≤ 10 := by have := knTo_len m0 (colsM m0); rw [hK] at this; omega
      rw [hkv, hK] at HLK HRK
      have HSI : Hid (∀ (V : World) (a : Option Addr) (ca : Nat) (b : Option Addr) (cb : Nat), Sl V a K → Sl V b K → Calls Try.prog 23 #[.slice a K.length ca, .slice b K.length cb] V fun e w' => e = .returned (.bool true) ∧ ∃ n, w' = V.drewN n) := fun V a ca b cb h1 h2 => by
        have h := sameInts_any a K ca b K cb V (by omega) (by omega) h1 h2
        simpa using h
      have HWT : Hid (∀ V, Below w.heap.size w V → Calls Try.prog 28 #[.slice b0 m0.length c0, .int .i64 m2] V (LPost (weightV m0 m2) V)) := fun V hb => lweight_any b0 m0 c0 m2 V HM.out (HSW.out V hb)
      have HLW : Hid (∀ V za z zc, z.length ≤ 100 → Below w.heap.size w V → Sl V za z → Calls Try.prog 30 #[.slice b0 m0.length c0, .int .i64 m2, .slice za z.length zc] V fun e w' => e = .returned (.bool (weighsB m0 m2 z)) ∧ Below V.heap.size V w') := fun V za z zc hl hb hz => lweighs_any b0 m0 c0 m2 za z zc V HM.out (by omega) (HSW.out V hb) hz
      have HRW : Hid (∀ V za z zc, z.length ≤ 100 → Below w.heap.size w V → Sl V za z → Calls Try.prog 29 #[.slice b0 m0.length c0, .int .i64 m2, .slice za z.length zc] V fun e w' => e = .returned (.bool (weighsB m0 m2 z)) ∧ Below V.heap.size V w') := fun V za z zc hl hb hz => rweighs_any b0 m0 c0 m2 za z zc V HM.out (by omega) (HSW.out V hb) hz
      obtain ⟨c, hc⟩ : ∃ c, colsM m0 = c := ⟨_, rfl⟩
      obtain ⟨bm, om, ai, ci, rfl, hcell, hsl⟩ := h0 0 hm1
      have hl0 : (m0[0]?.getD []).length = c := by rw [← hc]; rfl
      rw [hl0, Nat.add_zero] at hcell
      have HM0 : Hid (∀ W, Below w.heap.size w W → W.cell? ⟨bm, om, none⟩ = some (.slice ai c ci)) := fun W hW => (hW.cell (p := ⟨bm, om, none⟩) (cell_lt hcell)).trans hcell
      obtain ⟨n, hn⟩ : ∃ n, m0.length = n := ⟨_, rfl⟩
      obtain ⟨tb, htb⟩ : ∃ tb, thereB m0 m2 = tb := ⟨_, rfl⟩
      obtain ⟨kb, hkb⟩ : ∃ kb, rknownB m0 m2.toNat = kb := ⟨_, rfl⟩
      rw [htb, hkb] at hmem
      cases tb with
      | false =>
        have hw : weightV m0 m2 = ([], 5) := by simp [weightV, hv, htb]
        have HIV : Hid (decide (m2 ∈ K.take K.length) = false) := by show _ = _; rw [List.take_length, decide_eq_false_iff_not, hmem]; simp
        have hout : m2 < 0 ∨ (c : Int) ≤ m2 := by
          unfold thereB at htb
          rw [hc] at htb
          by_cases e : m2 < 0
          · exact .inl e
          · right
            by_cases e2 : (c : Int) ≤ m2
            · exact e2
            · rw [decide_eq_true (by omega), decide_eq_true (by omega)] at htb; cases htb
        rw [hw] at HWT
        rw [hn] at HLK HRK HLV HRV HWT HSM hm1 ⊢
        clear h0 h1 r0 hlb hkv hv hw htb hkb hmem HLW HRW hcell hsl hl0 hc hn hrows hK hml
        have hn0 : (0 : Int) < (n : Int) := by omega
        have hn1 : ¬ ((n : Int) = 0) := by omega
        go_enter Try.func5, Try.ntmps5
        go_wp2_with (first | (go_at_call 8; refine (HSM.out _ _ _ _ (Below.refl _ _)).mono ?_; rintro e w1 ⟨⟨bb, rfl⟩, rfl⟩; cases bb) | (go_at_call 9; refine HLN.out.mono ?_; rintro e w1 ⟨rfl, rfl⟩) | (go_at_call 10; refine (awake_any _).mono ?_; rintro e w9 ⟨rfl, hb9⟩) | (go_at_call 24; refine (HLK.out _ HB1.out).mono ?_; rintro e w2 ⟨hb2, ka, kc, rfl, hk⟩; have HB2 := Lib.hid (HB1.out.trans (hb2.mono HB1.out.size)); have HK2 := Lib.hid hk; clear hb2 hk) | (go_at_call 25; refine (HRK.out _ HB2.out).mono ?_; rintro e w3 ⟨hb3, ka3, kc3, rfl, hk⟩; have HB3 := Lib.hid (HB2.out.trans (hb3.mono HB2.out.size)); have HK23 := Lib.hid (HK2.out.below hb3); have HK3 := Lib.hid hk; clear hb3 hk) | (go_at_call 26; refine (HLV.out _ HB3.out).mono ?_; rintro e w4 ⟨rfl, hb4⟩; have HB4 := Lib.hid (HB3.out.trans (hb4.mono HB3.out.size)); have HK24 := Lib.hid (HK23.out.below hb4); have HK34 := Lib.hid (HK3.out.below hb4); obtain ⟨W5, hW5⟩ : ∃ W5, w4.alloc (.cells #[.int .i64 x1, .int .i64 x2] 42) = W5 := ⟨_, rfl⟩; have HX5 := Lib.hid (rbox hW5); have hb5 : Below w4.heap.size w4 W5 := hW5 ▸ (Below.refl _ _).alloc (Nat.le_refl _) _; have HB5 := Lib.hid (HB4.out.trans (hb5.mono HB4.out.size)); have HK25 := Lib.hid (HK24.out.below hb5); have HK35 := Lib.hid (HK34.out.below hb5); clear hb4 hb5) | (go_at_call 27; refine (HRV.out _ HB5.out).mono ?_; rintro e w6 ⟨rfl, hb6⟩; have HB56 := Lib.hid hb6; have HB6 := Lib.hid (HB5.out.trans (hb6.mono HB5.out.size)); have HK26 := Lib.hid (HK25.out.below hb6); have HK36 := Lib.hid (HK35.out.below hb6); obtain ⟨W7, hW7⟩ : ∃ W7, w6.alloc (.cells #[.int .i64 x1, .int .i64 x2] 42) = W7 := ⟨_, rfl⟩; have HX7 := Lib.hid (rbox hW7); have hb7 : Below w6.heap.size w6 W7 := hW7 ▸ (Below.refl _ _).alloc (Nat.le_refl _) _; have HB57 : Hid (Below W5.heap.size W5 W7) := HB56.out.trans (hb7.mono HB56.out.size); have HB7 := Lib.hid (HB6.out.trans (hb7.mono HB6.out.size)); have HK27 := Lib.hid (HK26.out.below hb7); have HK37 := Lib.hid (HK36.out.below hb7); clear hb6 hb7) | (go_at_call 23; refine (HSI.out W7 ka kc ka3 kc3 HK27.out HK37.out).mono ?_; rintro e w8 ⟨rfl, nd8, hw8⟩; have hb8 := drew_below hw8; obtain ⟨p0, _, p1, _⟩ := HX5.out w8 (HB57.out.trans (hb8.mono HB57.out.size)); obtain ⟨q0, _, q1, _⟩ := HX7.out w8 hb8; have HB8 := Lib.hid (HB7.out.trans (hb8.mono HB7.out.size)); have HK28 := Lib.hid (HK27.out.below hb8); clear hw8 hb8))
        · go_ret
          exact ⟨rfl, hb9⟩
        · clear HK2 HK23 HK3 HK24 HK34 HX5 HK25 HK35 HB56 HK26 HK36 HX7 HB57 HK27 HK37 p0 p1 q0 q1
          go_loopw [15, 77] (fun v i wr => ∃ (k nd : Nat) (bv : Bool), k ≤ K.length ∧ i = .int .i64 k ∧ v = .bool bv ∧ bv = decide (m2 ∈ K.take k) ∧ wr = w8.drewN nd) (fun _ i _ => K.length - (intOf i).toNat)
          case atStart => exact ⟨0, 0, false, Nat.zero_le _, rfl, rfl, by simp, rfl⟩
          case round =>
          · obtain ⟨k, nd, bv, hk, rfl, rfl, hbv, rfl⟩ := hrel
            have HBV := Lib.hid hbv; clear hbv
            by_cases hlt : k < K.length
            · obtain ⟨kb9, ko9, u, rfl, hcu, hu⟩ := (HK28.out.below (below_drewN (Below.refl _ _) nd)).at hlt
              have HNX : Hid (decide (m2 ∈ K.take (k + 1)) = (bv || decide (u = m2))) := by show _ = _; rw [inTake hlt, gt_some' hu.out, ← HBV.out]
              clear hu
              cases bv with
              | true =>
                go_wp2
                go_roundw
                case rel => exact ⟨k + 1, nd, true, by omega, by go_num, rfl, by rw [HNX.out]; rfl, by first | rfl | exact World.drewN_drewN _ _ _⟩
                case measure => simp [intOf]; omega
              | false =>
                obtain ⟨d, hd⟩ : ∃ d, decide (u = m2) = d := ⟨_, rfl⟩
                have yd : (u == m2) = d := by rw [← hd]; rfl
                rw [hd] at HNX
                clear hd
                go_wp2
                go_roundw
                case rel => exact ⟨k + 1, nd, d, by omega, by go_num, rfl, by rw [HNX.out]; cases d <;> rfl, by first | rfl | exact World.drewN_drewN _ _ _⟩
                case measure => simp [intOf]; omega
            · obtain rfl : k = K.length := by omega
              have HBK : Hid (Below w.heap.size w (w8.drewN nd)) := below_drewN HB8.out nd
              obtain rfl : bv = false := HBV.out.trans HIV.out
              have hcl := HM0.out _ HBK.out
              clear HSI HLK HRK HLV HRV HSM HLN
              rcases hout with ho | ho
              · go_wp2_with (first | (go_at_call 10; refine (awake_any _).mono ?_; rintro e w9 ⟨rfl, hb9⟩) | (go_at_call 28; refine (HWT.out _ HBK.out).mono ?_; rintro e w10 ⟨hb10, za, zc, rfl, hz10⟩; have HB10 := Lib.hid (HBK.out.trans (hb10.mono HBK.out.size)); have hcl2 := HM0.out w10 HB10.out; have HZ10 := Lib.hid hz10; clear hb10 hz10))
                go_ret
                exact ⟨rfl, HB10.out.trans (hb9.mono HB10.out.size)⟩
              · by_cases hneg : m2 < 0
                · go_wp2_with (first | (go_at_call 10; refine (awake_any _).mono ?_; rintro e w9 ⟨rfl, hb9⟩) | (go_at_call 28; refine (HWT.out _ HBK.out).mono ?_; rintro e w10 ⟨hb10, za, zc, rfl, hz10⟩; have HB10 := Lib.hid (HBK.out.trans (hb10.mono HBK.out.size)); have hcl2 := HM0.out w10 HB10.out; have HZ10 := Lib.hid hz10; clear hb10 hz10))
                  go_ret
                  exact ⟨rfl, HB10.out.trans (hb9.mono HB10.out.size)⟩
                · go_wp2_with (first | (go_at_call 10; refine (awake_any _).mono ?_; rintro e w9 ⟨rfl, hb9⟩) | (go_at_call 28; refine (HWT.out _ HBK.out).mono ?_; rintro e w10 ⟨hb10, za, zc, rfl, hz10⟩; have HB10 := Lib.hid (HBK.out.trans (hb10.mono HBK.out.size)); have hcl2 := HM0.out w10 HB10.out; have HZ10 := Lib.hid hz10; clear hb10 hz10))
                  go_ret
                  exact ⟨rfl, HB10.out.trans (hb9.mono HB10.out.size)⟩
      | true =>
        obtain ⟨p, rfl, hp⟩ := thereB_nat htb
        rw [Int.toNat_natCast] at hkb
        rw [hc] at hp
        have hp0 : (p : Int) < (c : Int) := by omega
        have hp1 : ¬ (p : Int) < 0 := by omega
        cases kb with
        | false =>
          have hw : weightV m0 (p : Int) = ([], 8) := by simp [weightV, hv, htb, hkb]
          have HIV : Hid (decide ((p : Int) ∈ K.take K.length) = false) := by show _ = _; rw [List.take_length, decide_eq_false_iff_not, hmem]; simp
          rw [hw] at HWT
          rw [hn] at HLK HRK HLV HRV HWT HSM hm1 ⊢
          clear h0 h1 r0 hlb hkv hv hw htb hkb hmem HLW HRW hcell hsl hl0 hc hn hrows hK hml
          have hn0 : (0 : Int) < (n : Int) := by omega
          go_enter Try.func5, Try.ntmps5
          go_wp2_with (first | (go_at_call 8; refine (HSM.out _ _ _ _ (Below.refl _ _)).mono ?_; rintro e w1 ⟨⟨bb, rfl⟩, rfl⟩; cases bb) | (go_at_call 9; refine HLN.out.mono ?_; rintro e w1 ⟨rfl, rfl⟩) | (go_at_call 10; refine (awake_any _).mono ?_; rintro e w9 ⟨rfl, hb9⟩) | (go_at_call 24; refine (HLK.out _ HB1.out).mono ?_; rintro e w2 ⟨hb2, ka, kc, rfl, hk⟩; have HB2 := Lib.hid (HB1.out.trans (hb2.mono HB1.out.size)); have HK2 := Lib.hid hk; clear hb2 hk) | (go_at_call 25; refine (HRK.out _ HB2.out).mono ?_; rintro e w3 ⟨hb3, ka3, kc3, rfl, hk⟩; have HB3 := Lib.hid (HB2.out.trans (hb3.mono HB2.out.size)); have HK23 := Lib.hid (HK2.out.below hb3); have HK3 := Lib.hid hk; clear hb3 hk) | (go_at_call 26; refine (HLV.out _ HB3.out).mono ?_; rintro e w4 ⟨rfl, hb4⟩; have HB4 := Lib.hid (HB3.out.trans (hb4.mono HB3.out.size)); have HK24 := Lib.hid (HK23.out.below hb4); have HK34 := Lib.hid (HK3.out.below hb4); obtain ⟨W5, hW5⟩ : ∃ W5, w4.alloc (.cells #[.int .i64 x1, .int .i64 x2] 42) = W5 := ⟨_, rfl⟩; have HX5 := Lib.hid (rbox hW5); have hb5 : Below w4.heap.size w4 W5 := hW5 ▸ (Below.refl _ _).alloc (Nat.le_refl _) _; have HB5 := Lib.hid (HB4.out.trans (hb5.mono HB4.out.size)); have HK25 := Lib.hid (HK24.out.below hb5); have HK35 := Lib.hid (HK34.out.below hb5); clear hb4 hb5) | (go_at_call 27; refine (HRV.out _ HB5.out).mono ?_; rintro e w6 ⟨rfl, hb6⟩; have HB56 := Lib.hid hb6; have HB6 := Lib.hid (HB5.out.trans (hb6.mono HB5.out.size)); have HK26 := Lib.hid (HK25.out.below hb6); have HK36 := Lib.hid (HK35.out.below hb6); obtain ⟨W7, hW7⟩ : ∃ W7, w6.alloc (.cells #[.int .i64 x1, .int .i64 x2] 42) = W7 := ⟨_, rfl⟩; have HX7 := Lib.hid (rbox hW7); have hb7 : Below w6.heap.size w6 W7 := hW7 ▸ (Below.refl _ _).alloc (Nat.le_refl _) _; have HB57 : Hid (Below W5.heap.size W5 W7) := HB56.out.trans (hb7.mono HB56.out.size); have HB7 := Lib.hid (HB6.out.trans (hb7.mono HB6.out.size)); have HK27 := Lib.hid (HK26.out.below hb7); have HK37 := Lib.hid (HK36.out.below hb7); clear hb6 hb7) | (go_at_call 23; refine (HSI.out W7 ka kc ka3 kc3 HK27.out HK37.out).mono ?_; rintro e w8 ⟨rfl, nd8, hw8⟩; have hb8 := drew_below hw8; obtain ⟨p0, _, p1, _⟩ := HX5.out w8 (HB57.out.trans (hb8.mono HB57.out.size)); obtain ⟨q0, _, q1, _⟩ := HX7.out w8 hb8; have HB8 := Lib.hid (HB7.out.trans (hb8.mono HB7.out.size)); have HK28 := Lib.hid (HK27.out.below hb8); clear hw8 hb8))
          · go_ret
            exact ⟨rfl, hb9⟩
          · clear HK2 HK23 HK3 HK24 HK34 HX5 HK25 HK35 HB56 HK26 HK36 HX7 HB57 HK27 HK37 p0 p1 q0 q1
            go_loopw [15, 77] (fun v i wr => ∃ (k nd : Nat) (bv : Bool), k ≤ K.length ∧ i = .int .i64 k ∧ v = .bool bv ∧ bv = decide ((p : Int) ∈ K.take k) ∧ wr = w8.drewN nd) (fun _ i _ => K.length - (intOf i).toNat)
            case atStart => exact ⟨0, 0, false, Nat.zero_le _, rfl, rfl, by simp, rfl⟩
            case round =>
              obtain ⟨k, nd, bv, hk, rfl, rfl, hbv, rfl⟩ := hrel
              have HBV := Lib.hid hbv; clear hbv
              by_cases hlt : k < K.length
              · obtain ⟨kb9, ko9, u, rfl, hcu, hu⟩ := (HK28.out.below (below_drewN (Below.refl _ _) nd)).at hlt
                have HNX : Hid (decide ((p : Int) ∈ K.take (k + 1)) = (bv || decide (u = (p : Int)))) := by show _ = _; rw [inTake hlt, gt_some' hu.out, ← HBV.out]
                clear hu
                cases bv with
                | true =>
                  go_wp2
                  go_roundw
                  case rel => exact ⟨k + 1, nd, true, by omega, by go_num, rfl, by rw [HNX.out]; rfl, by first | rfl | exact World.drewN_drewN _ _ _⟩
                  case measure => simp [intOf]; omega
                | false =>
                  obtain ⟨d, hd⟩ : ∃ d, decide (u = (p : Int)) = d := ⟨_, rfl⟩
                  have yd : (u == (p : Int)) = d := by rw [← hd]; rfl
                  rw [hd] at HNX
                  clear hd
                  go_wp2
                  go_roundw
                  case rel => exact ⟨k + 1, nd, d, by omega, by go_num, rfl, by rw [HNX.out]; cases d <;> rfl, by first | rfl | exact World.drewN_drewN _ _ _⟩
                  case measure => simp [intOf]; omega
              · obtain rfl : k = K.length := by omega
                have HBK : Hid (Below w.heap.size w (w8.drewN nd)) := below_drewN HB8.out nd
                obtain rfl : bv = false := HBV.out.trans HIV.out
                have hcl := HM0.out _ HBK.out
                clear HSI HLK HRK HLV HRV HSM HLN
                go_wp2_with (first | (go_at_call 10; refine (awake_any _).mono ?_; rintro e w9 ⟨rfl, hb9⟩) | (go_at_call 28; refine (HWT.out _ HBK.out).mono ?_; rintro e w10 ⟨hb10, za, zc, rfl, hz10⟩; have HB10 := Lib.hid (HBK.out.trans (hb10.mono HBK.out.size)); have hcl2 := HM0.out w10 HB10.out; have HZ10 := Lib.hid hz10; clear hb10 hz10))
                go_ret
                exact ⟨rfl, HB10.out.trans (hb9.mono HB10.out.size)⟩
        | true =>
          have hkw := knownW hv (j := p) (by omega)
          rw [hkb] at hkw
          obtain ⟨x, hx⟩ := Int.eq_ofNat_of_zero_le (of_decide_eq_true hkw)
          obtain ⟨hxm, _, hwb⟩ := weigh_ok hv (j := p) (x := x) (by omega) hx
          have hw : weightV m0 (p : Int) = (shortL (behW m0 x), 0) := by
            unfold weightV
            rw [if_neg (by rw [hv]; decide), if_neg (by rw [htb]; decide), Int.toNat_natCast, if_neg (by rw [hkb]; decide), hx, Int.toNat_natCast]
          have hzl : (shortL (behW m0 x)).length ≤ 100 := by rw [short_len, behW_len hv hxm]; omega
          obtain ⟨z, hz⟩ : ∃ z, shortL (behW m0 x) = z := ⟨_, rfl⟩
          rw [hz] at hw hwb hzl
          have HIV : Hid (decide ((p : Int) ∈ K.take K.length) = true) := by show _ = _; rw [List.take_length, decide_eq_true_iff, hmem]; simp
          have HLZ : Hid (∀ V za zc, Below w.heap.size w V → Sl V za z → Calls Try.prog 30 #[.slice (some ⟨bm, om, none⟩) m0.length c0, .int .i64 (p : Int), .slice za z.length zc] V fun e w' => e = .returned (.bool true) ∧ Below V.heap.size V w') := fun V za zc hb h => by
            have h := HLW.out V za z zc hzl hb h
            rw [hwb] at h; exact h
          have HRZ : Hid (∀ V za zc, Below w.heap.size w V → Sl V za z → Calls Try.prog 29 #[.slice (some ⟨bm, om, none⟩) m0.length c0, .int .i64 (p : Int), .slice za z.length zc] V fun e w' => e = .returned (.bool true) ∧ Below V.heap.size V w') := fun V za zc hb h => by
            have h := HRW.out V za z zc hzl hb h
            rw [hwb] at h; exact h
          rw [hw] at HWT
          rw [hn] at HLK HRK HLV HRV HWT HSM HLZ HRZ hm1 ⊢
          clear h0 h1 r0 hlb hkv hv hw htb hkb hmem HLW HRW hcell hsl hl0 hc hn hrows hK hml hkw hx hxm hwb hz
          have hn0 : (0 : Int) < (n : Int) := by omega
          go_enter Try.func5, Try.ntmps5
          go_wp2_with (first | (go_at_call 8; refine (HSM.out _ _ _ _ (Below.refl _ _)).mono ?_; rintro e w1 ⟨⟨bb, rfl⟩, rfl⟩; cases bb) | (go_at_call 9; refine HLN.out.mono ?_; rintro e w1 ⟨rfl, rfl⟩) | (go_at_call 10; refine (awake_any _).mono ?_; rintro e w9 ⟨rfl, hb9⟩) | (go_at_call 24; refine (HLK.out _ HB1.out).mono ?_; rintro e w2 ⟨hb2, ka, kc, rfl, hk⟩; have HB2 := Lib.hid (HB1.out.trans (hb2.mono HB1.out.size)); have HK2 := Lib.hid hk; clear hb2 hk) | (go_at_call 25; refine (HRK.out _ HB2.out).mono ?_; rintro e w3 ⟨hb3, ka3, kc3, rfl, hk⟩; have HB3 := Lib.hid (HB2.out.trans (hb3.mono HB2.out.size)); have HK23 := Lib.hid (HK2.out.below hb3); have HK3 := Lib.hid hk; clear hb3 hk) | (go_at_call 26; refine (HLV.out _ HB3.out).mono ?_; rintro e w4 ⟨rfl, hb4⟩; have HB4 := Lib.hid (HB3.out.trans (hb4.mono HB3.out.size)); have HK24 := Lib.hid (HK23.out.below hb4); have HK34 := Lib.hid (HK3.out.below hb4); obtain ⟨W5, hW5⟩ : ∃ W5, w4.alloc (.cells #[.int .i64 x1, .int .i64 x2] 42) = W5 := ⟨_, rfl⟩; have HX5 := Lib.hid (rbox hW5); have hb5 : Below w4.heap.size w4 W5 := hW5 ▸ (Below.refl _ _).alloc (Nat.le_refl _) _; have HB5 := Lib.hid (HB4.out.trans (hb5.mono HB4.out.size)); have HK25 := Lib.hid (HK24.out.below hb5); have HK35 := Lib.hid (HK34.out.below hb5); clear hb4 hb5) | (go_at_call 27; refine (HRV.out _ HB5.out).mono ?_; rintro e w6 ⟨rfl, hb6⟩; have HB56 := Lib.hid hb6; have HB6 := Lib.hid (HB5.out.trans (hb6.mono HB5.out.size)); have HK26 := Lib.hid (HK25.out.below hb6); have HK36 := Lib.hid (HK35.out.below hb6); obtain ⟨W7, hW7⟩ : ∃ W7, w6.alloc (.cells #[.int .i64 x1, .int .i64 x2] 42) = W7 := ⟨_, rfl⟩; have HX7 := Lib.hid (rbox hW7); have hb7 : Below w6.heap.size w6 W7 := hW7 ▸ (Below.refl _ _).alloc (Nat.le_refl _) _; have HB57 : Hid (Below W5.heap.size W5 W7) := HB56.out.trans (hb7.mono HB56.out.size); have HB7 := Lib.hid (HB6.out.trans (hb7.mono HB6.out.size)); have HK27 := Lib.hid (HK26.out.below hb7); have HK37 := Lib.hid (HK36.out.below hb7); clear hb6 hb7) | (go_at_call 23; refine (HSI.out W7 ka kc ka3 kc3 HK27.out HK37.out).mono ?_; rintro e w8 ⟨rfl, nd8, hw8⟩; have hb8 := drew_below hw8; obtain ⟨p0, _, p1, _⟩ := HX5.out w8 (HB57.out.trans (hb8.mono HB57.out.size)); obtain ⟨q0, _, q1, _⟩ := HX7.out w8 hb8; have HB8 := Lib.hid (HB7.out.trans (hb8.mono HB7.out.size)); have HK28 := Lib.hid (HK27.out.below hb8); clear hw8 hb8))
          · go_ret
            exact ⟨rfl, hb9⟩
          · clear HK2 HK23 HK3 HK24 HK34 HX5 HK25 HK35 HB56 HK26 HK36 HX7 HB57 HK27 HK37 p0 p1 q0 q1
            go_loopw [15, 77] (fun v i wr => ∃ (k nd : Nat) (bv : Bool), k ≤ K.length ∧ i = .int .i64 k ∧ v = .bool bv ∧ bv = decide ((p : Int) ∈ K.take k) ∧ wr = w8.drewN nd) (fun _ i _ => K.length - (intOf i).toNat)
            case atStart => exact ⟨0, 0, false, Nat.zero_le _, rfl, rfl, by simp, rfl⟩
            case round =>
              obtain ⟨k, nd, bv, hk, rfl, rfl, hbv, rfl⟩ := hrel
              have HBV := Lib.hid hbv; clear hbv
              by_cases hlt : k < K.length
              · obtain ⟨kb9, ko9, u, rfl, hcu, hu⟩ := (HK28.out.below (below_drewN (Below.refl _ _) nd)).at hlt
                have HNX : Hid (decide ((p : Int) ∈ K.take (k + 1)) = (bv || decide (u = (p : Int)))) := by show _ = _; rw [inTake hlt, gt_some' hu.out, ← HBV.out]
                clear hu
                cases bv with
                | true =>
                  go_wp2
                  go_roundw
                  case rel => exact ⟨k + 1, nd, true, by omega, by go_num, rfl, by rw [HNX.out]; rfl, by first | rfl | exact World.drewN_drewN _ _ _⟩
                  case measure => simp [intOf]; omega
                | false =>
                  obtain ⟨d, hd⟩ : ∃ d, decide (u = (p : Int)) = d := ⟨_, rfl⟩
                  have yd : (u == (p : Int)) = d := by rw [← hd]; rfl
                  rw [hd] at HNX
                  clear hd
                  go_wp2
                  go_roundw
                  case rel => exact ⟨k + 1, nd, d, by omega, by go_num, rfl, by rw [HNX.out]; cases d <;> rfl, by first | rfl | exact World.drewN_drewN _ _ _⟩
                  case measure => simp [intOf]; omega
              · obtain rfl : k = K.length := by omega
                have HBK : Hid (Below w.heap.size w (w8.drewN nd)) := below_drewN HB8.out nd
                obtain rfl : bv = true := HBV.out.trans HIV.out
                have hcl := HM0.out _ HBK.out
                clear HSI HLK HRK HLV HRV HSM HLN
                go_wp2_with (first | (go_at_call 10; refine (awake_any _).mono ?_; rintro e w9 ⟨rfl, hb9⟩) | (go_at_call 28; refine (HWT.out _ HBK.out).mono ?_; rintro e w10 ⟨hb10, za, zc, rfl, hz10⟩; have HB10 := Lib.hid (HBK.out.trans (hb10.mono HBK.out.size)); have hcl2 := HM0.out w10 HB10.out; have HZ10 := Lib.hid hz10; clear hb10 hz10) | (go_at_call 29; refine (HRZ.out w10 za zc HB10.out HZ10.out).mono ?_; rintro e w11 ⟨rfl, hb11⟩; have HB11 := Lib.hid (HB10.out.trans (hb11.mono HB10.out.size)); have HZ11 := Lib.hid (HZ10.out.below hb11); clear hb11) | (go_at_call 30; refine (HLZ.out w11 za zc HB11.out HZ11.out).mono ?_; rintro e w12 ⟨rfl, hb12⟩; have HB12 := Lib.hid (HB11.out.trans (hb12.mono HB11.out.size)); clear hb12))
                go_ret
                exact ⟨rfl, HB12.out.trans (hb9.mono HB12.out.size)⟩
end Go.Proofs.Yteoimibefpidoaa.linKnown
