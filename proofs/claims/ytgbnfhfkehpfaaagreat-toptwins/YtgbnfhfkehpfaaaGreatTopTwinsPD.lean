/- Parts of the proof of TopTwins: plain words, walks and contracts, each under its own heading. -/
import Derived.Test.YtgbnfhfkehpfaaaGreatTopTwinsPC
import Derived.Laws.ResultCell
import Derived.Test.YtgbnfhfkehpfaaaGreatTopTwinsPA
import Derived.Test.YtgbnfhfkehpfaaaGreatTopTwinsPB
import Derived.Laws.OwnMore
import Derived.Deep.AppendLies
import Derived.OwnWalkIn
import Derived.Sort.LoopGhostIn
import Derived.BigQuiet
import Derived.Laws.AppendOwnNone
/- Solve of the program: its fractions lie in new memory. -/
namespace Go.Proofs.YtgbnfhfkehpfaaaGreat
open Go.RowKit

def RNPost (r : List (Int × Int) × Int) (w : World) (e : Ending) (w' : World) : Prop := Below w.heap.size w w' ∧ ∃ a cap, e = .returned (.tuple #[.slice a r.1.length cap, .int .i64 r.2]) ∧ Rl w' a r.1 ∧ ∀ ad : Addr, a = some ad → w.heap.size ≤ ad.block ∧ ad.block < w'.heap.size
theorem RNPost.err {w w' : World} {n : Int} (hb : Below w.heap.size w w') : RNPost ([], n) w (.returned (.tuple #[.slice none 0 0, .int .i64 n])) w' := ⟨hb, none, 0, rfl, fun j p h => by simp at h, fun ad e => by cases e⟩
set_option maxRecDepth 1000000 in
set_option maxHeartbeats 3200000 in
theorem lsolve_new (ma : Option Addr) (m : List (List Int)) (mc : Nat) (a : Option Addr) (px : List Int) (cap : Nat) (ya : Option Addr) (y : List Int) (yc : Nat) (w : World) (hm : MOk m) (hl : px.length ≤ 1000) (hly : y.length ≤ 1000) (hs : Ms w ma m) (hp : Sl w a px) (hy : Sl w ya y) :
    Calls Tryz.prog 137 #[.slice ma m.length mc, .slice a px.length cap, .slice ya y.length yc] w (RNPost (solveV m px y) w) := by
  obtain ⟨rv, hrv⟩ : ∃ rv, readE m y = rv := ⟨_, rfl⟩
  have HRE : Hid (Calls Tryz.prog 38 #[.slice ma m.length mc, .slice ya y.length yc] w fun e w' => e = .returned (.int .i64 rv) ∧ Below w.heap.size w w') := by rw [← hrv]; exact lread_any ma m mc ya y yc w hm (by omega) hs hy
  by_cases hr0 : rv = 0
  · subst hr0
    obtain ⟨hv, hyl, hyb⟩ := readE_ok hrv
    obtain ⟨v, hvv⟩ : ∃ v, listV m px = v := ⟨_, rfl⟩
    have HNA : Hid (∀ W, Below w.heap.size w W → Calls Tryz.prog 153 #[.slice ma m.length mc, .slice a px.length cap] W fun e w' => e = .returned (.int .i64 v) ∧ Below W.heap.size W w') := fun W hb => by rw [← hvv]; exact llisted_any ma m mc a px cap W hv hl (hs.below hb) (hp.below hb)
    by_cases h0 : v = 0
    · subst h0
      obtain ⟨h1, h2⟩ := listV_ok hvv hv
      obtain ⟨hm1, hm6, hc1, hc10, hrows⟩ := validM_of hv
      have h64 : Hid (All64 m) := fun q hq x hx => by
        obtain ⟨c, hc, rfl⟩ := mem_gt.1 hx
        have := gt_in (hrows q hq).2 hc
        unfold In64; omega
      have hy64 : ∀ x ∈ y, In64 x := fun x hx => by
        obtain ⟨c, hc, rfl⟩ := mem_gt.1 hx
        have := gt_in hyb hc
        unfold In64; omega
      have HF := Lib.hid (redB_fin hv h1 hyl hyb)
      have hco := redB_cols m px (oneB y)
      obtain ⟨rd, hrd⟩ : ∃ rd, redB m px (oneB y) = rd := ⟨_, rfl⟩
      have HRD : Hid (∀ W, Below w.heap.size w W → Calls Tryz.prog 72 #[.slice ma m.length mc, .slice a px.length cap, .func (.func 73) #[] #[.pointer (some ⟨W.heap.size, 0, none⟩)]] (W.alloc (.cells #[.slice ya y.length yc] 22)) (RdPost rd (W.alloc (.cells #[.slice ya y.length yc] 22)))) := fun W hb => by
        have hb2 : Below w.heap.size w (W.alloc (.cells #[.slice ya y.length yc] 22)) := hb.alloc hb.size _
        rw [← hrd]
        exact reduce_any0One (Lib.hid (one_beh (Nat.le_of_eq hyl.symm) hly (alloc_cell _ _ _ _ _ rfl) (hy.below hb2))) ⟨Nat.le_refl _, by decide⟩ (Lib.hid (oneB_ok hy64)) (Lib.hid hm6) (Lib.hid hm1) (Lib.hid h2) (Lib.hid h1) (Lib.hid fun r hr => (hrows r hr).1) h64 (Lib.hid (hs.below hb2)) (Lib.hid (hp.below hb2))
      have HSV : Hid (solveV m px y = if possB rd.rows rd.piv.length px.length = true then (if rd.piv.length < px.length then ([], 11) else (solL px.length rd.rows rd.piv rd.dv rd.piv.length, 0)) else ([], 8)) := by show _ = _; unfold solveV; rw [if_pos hrv, if_pos hvv, hrd]
      rw [hrd] at HF hco
      obtain ⟨pl, hpl⟩ : ∃ pl, px.length = pl := ⟨_, rfl⟩
      rw [hpl] at HF hco HSV HRD h2 HNA ⊢
      obtain ⟨cols, rows, piv, dv⟩ := rd
      dsimp only at hco HSV
      subst hco
      have hlen := HF.out.len
      have hrow := HF.out.row
      have hplr := HF.out.pl
      dsimp only at hlen hrow hplr
      have hpos := HF.out.pos
      dsimp only at hpos
      have hmid : ∀ t, t < piv.length → Mid (gt (rowL rows t) cols) := fun t ht => by
        have := HF.out.bdN t (by omega) cols (by omega)
        dsimp only at this
        unfold Mid; omega
      have hpz : ∀ t, t < piv.length → 0 ≤ gt piv t ∧ gt piv t < cols := fun t ht => HF.out.pz t ht
      obtain ⟨z, hz⟩ : ∃ z, possB rows piv.length cols = z := ⟨_, rfl⟩
      rw [hz] at HSV
      have HPO : Hid (∀ (g cp : Nat) (ads : List (Nat × Nat)) (pa : Option Addr) (pc base : Nat) (W : World), SI W base g ads rows → Calls Tryz.prog 41 #[.agg #[.int .i64 (cols : Int), .slice (some ⟨g, 0, none⟩) rows.length cp, .slice pa piv.length pc, .int .i64 dv]] W fun e w' => e = .returned (.bool z) ∧ Below W.heap.size W w') := fun g cp ads pa pc base W h => by rw [← hz]; exact possible_any cols g cp (cols + 1) ads rows pa piv.length pc piv dv base W rfl (by omega) (by omega) hrow (by omega) (by omega) h
      have HSO : Hid (∀ (g cp : Nat) (ads : List (Nat × Nat)) (pa : Option Addr) (pc base : Nat) (W : World), SI W base g ads rows → Sl W pa piv → Calls Tryz.prog 154 #[.agg #[.int .i64 (cols : Int), .slice (some ⟨g, 0, none⟩) rows.length cp, .slice pa piv.length pc, .int .i64 dv]] W fun e w' => ∃ b c, e = .returned (.slice (some ⟨b, 0, none⟩) cols c) ∧ OwnR w' W.heap.size (.slice (some ⟨b, 0, none⟩) cols c) (solL cols rows piv dv piv.length) ∧ Below W.heap.size W w') := fun g cp ads pa pc base W h h2 => solved_any cols g cp (cols + 1) ads rows pa piv pc dv base W (by omega) (by omega) hrow (by omega) (by omega) h h2 hpz hmid (by unfold Mid; omega) (by omega)
      clear hv hs hp hm hvv h1 hrd hrows h64 hm1 hm6 hc1 hc10 hrv hyl hyb hy64 hy hpl hlen hrow hplr hpos hmid hpz hz HF
      have HLS := solL_len cols rows piv dv piv.length
      cases z with
      | false =>
        rw [HSV.out]
        clear HSV
        go_enter Tryz.func137, Tryz.ntmps137
        go_wp2_with (first | (go_at_call 38; refine HRE.out.mono ?_; rintro e w1 ⟨rfl, hb⟩; have HB := Lib.hid hb; clear hb) | (go_at_call 153; refine (HNA.out w1 HB.out).mono ?_; rintro e w2 ⟨rfl, hb2⟩; have HB2 : Hid (Below w.heap.size w w2) := HB.out.trans (hb2.mono HB.out.size); clear hb2) | (go_at_call 40; refine (oneOf_any ya y.length yc w2).mono ?_; rintro e w9 ⟨rfl, rfl⟩) | (go_at_call 72; refine (HRD.out w2 HB2.out).mono ?_; rintro e w3 ⟨hb3, g, cp, ads, pa2, pc2, rfl, hgg, si, pi⟩; unfold rdV; dsimp only at si pi ⊢; obtain ⟨W4, hW4⟩ : ∃ W4, w3.alloc (.cells #[.int .i64 (cols : Int), .slice (some ⟨g, 0, none⟩) rows.length cp, .slice pa2 piv.length pc2, .int .i64 dv] 61) = W4 := ⟨_, rfl⟩; have HCW : Hid (∀ W, Below W4.heap.size W4 W → W.cell? ⟨w3.heap.size, 0, none⟩ = some (.int .i64 (cols : Int)) ∧ W.cell? ⟨w3.heap.size, 1, none⟩ = some (.slice (some ⟨g, 0, none⟩) rows.length cp) ∧ W.cell? ⟨w3.heap.size, 2, none⟩ = some (.slice pa2 piv.length pc2) ∧ W.cell? ⟨w3.heap.size, 3, none⟩ = some (.int .i64 dv)) := box_cells hW4; obtain ⟨k0, k1, k2, k3⟩ := HCW.out W4 (Below.refl _ _); have HB4 : Hid (Below w3.heap.size w3 W4) := hW4 ▸ (Below.refl _ _).alloc (Nat.le_refl _) _; have HSI := Lib.hid si; have HPI := Lib.hid (OwnI.sl pi); have HB3 := Lib.hid hb3; have HSI4 := Lib.hid (HSI.out.below HB4.out); have HPI4 := Lib.hid (HPI.out.below HB4.out); have HBW4 : Hid (Below w.heap.size w W4) := (HB2.out.alloc HB2.out.size _).trans ((HB3.out.mono (by rw [World.size_alloc]; have := HB2.out.size; omega)).trans (HB4.out.mono (by have h1 := HB3.out.size; rw [World.size_alloc] at h1; have := HB2.out.size; omega))); clear si pi hgg hb3) | (go_at_call 41; refine (HPO.out _ _ _ _ _ _ _ HSI4.out).mono ?_; rintro e w5 ⟨rfl, hb5⟩; have HB5 := Lib.hid hb5; obtain ⟨j0, j1, j2, j3⟩ := HCW.out w5 hb5; clear hb5) | (go_at_call 74; refine (rank_any cols g rows.length cp pa2 piv pc2 dv _).mono ?_; rintro e w6 ⟨rfl, hb6⟩; have HB6 : Hid (Below W4.heap.size W4 w6) := HB5.out.trans (hb6.mono HB5.out.size); obtain ⟨i0, i1, i2, i3⟩ := HCW.out w6 HB6.out; clear hb6) | (go_at_call 154; refine (HSO.out _ _ _ _ _ _ _ (HSI4.out.below HB6.out) (HPI4.out.below HB6.out)).mono ?_; rintro e w7 ⟨sb, sc, rfl, ho7, hb7⟩; have HO7 := Lib.hid ho7; have HB7 : Hid (Below W4.heap.size W4 w7) := HB6.out.trans (hb7.mono HB6.out.size); clear ho7 hb7))
        go_ret2
        exact RNPost.err (HBW4.out.trans (HB5.out.mono HBW4.out.size))
      | true =>
        by_cases hlt : piv.length < cols
        · have y0 : decide (piv.length < cols) = true := by simpa using hlt
          have HS2 : Hid (solveV m px y = ([], 11)) := by show _ = _; rw [HSV.out, if_pos rfl, if_pos hlt]
          rw [HS2.out]
          clear HSV
          go_enter Tryz.func137, Tryz.ntmps137
          go_wp2_with (first | (go_at_call 38; refine HRE.out.mono ?_; rintro e w1 ⟨rfl, hb⟩; have HB := Lib.hid hb; clear hb) | (go_at_call 153; refine (HNA.out w1 HB.out).mono ?_; rintro e w2 ⟨rfl, hb2⟩; have HB2 : Hid (Below w.heap.size w w2) := HB.out.trans (hb2.mono HB.out.size); clear hb2) | (go_at_call 40; refine (oneOf_any ya y.length yc w2).mono ?_; rintro e w9 ⟨rfl, rfl⟩) | (go_at_call 72; refine (HRD.out w2 HB2.out).mono ?_; rintro e w3 ⟨hb3, g, cp, ads, pa2, pc2, rfl, hgg, si, pi⟩; unfold rdV; dsimp only at si pi ⊢; obtain ⟨W4, hW4⟩ : ∃ W4, w3.alloc (.cells #[.int .i64 (cols : Int), .slice (some ⟨g, 0, none⟩) rows.length cp, .slice pa2 piv.length pc2, .int .i64 dv] 61) = W4 := ⟨_, rfl⟩; have HCW : Hid (∀ W, Below W4.heap.size W4 W → W.cell? ⟨w3.heap.size, 0, none⟩ = some (.int .i64 (cols : Int)) ∧ W.cell? ⟨w3.heap.size, 1, none⟩ = some (.slice (some ⟨g, 0, none⟩) rows.length cp) ∧ W.cell? ⟨w3.heap.size, 2, none⟩ = some (.slice pa2 piv.length pc2) ∧ W.cell? ⟨w3.heap.size, 3, none⟩ = some (.int .i64 dv)) := box_cells hW4; obtain ⟨k0, k1, k2, k3⟩ := HCW.out W4 (Below.refl _ _); have HB4 : Hid (Below w3.heap.size w3 W4) := hW4 ▸ (Below.refl _ _).alloc (Nat.le_refl _) _; have HSI := Lib.hid si; have HPI := Lib.hid (OwnI.sl pi); have HB3 := Lib.hid hb3; have HSI4 := Lib.hid (HSI.out.below HB4.out); have HPI4 := Lib.hid (HPI.out.below HB4.out); have HBW4 : Hid (Below w.heap.size w W4) := (HB2.out.alloc HB2.out.size _).trans ((HB3.out.mono (by rw [World.size_alloc]; have := HB2.out.size; omega)).trans (HB4.out.mono (by have h1 := HB3.out.size; rw [World.size_alloc] at h1; have := HB2.out.size; omega))); clear si pi hgg hb3) | (go_at_call 41; refine (HPO.out _ _ _ _ _ _ _ HSI4.out).mono ?_; rintro e w5 ⟨rfl, hb5⟩; have HB5 := Lib.hid hb5; obtain ⟨j0, j1, j2, j3⟩ := HCW.out w5 hb5; clear hb5) | (go_at_call 74; refine (rank_any cols g rows.length cp pa2 piv pc2 dv _).mono ?_; rintro e w6 ⟨rfl, hb6⟩; have HB6 : Hid (Below W4.heap.size W4 w6) := HB5.out.trans (hb6.mono HB5.out.size); obtain ⟨i0, i1, i2, i3⟩ := HCW.out w6 HB6.out; clear hb6) | (go_at_call 154; refine (HSO.out _ _ _ _ _ _ _ (HSI4.out.below HB6.out) (HPI4.out.below HB6.out)).mono ?_; rintro e w7 ⟨sb, sc, rfl, ho7, hb7⟩; have HO7 := Lib.hid ho7; have HB7 : Hid (Below W4.heap.size W4 w7) := HB6.out.trans (hb7.mono HB6.out.size); clear ho7 hb7))
          go_ret2
          exact RNPost.err (HBW4.out.trans (HB6.out.mono HBW4.out.size))
        · have y0 : decide (piv.length < cols) = false := by simpa using hlt
          have HS2 : Hid (solveV m px y = (solL cols rows piv dv piv.length, 0)) := by show _ = _; rw [HSV.out, if_pos rfl, if_neg hlt]
          rw [HS2.out]
          clear HSV
          go_enter Tryz.func137, Tryz.ntmps137
          go_wp2_with (first | (go_at_call 38; refine HRE.out.mono ?_; rintro e w1 ⟨rfl, hb⟩; have HB := Lib.hid hb; clear hb) | (go_at_call 153; refine (HNA.out w1 HB.out).mono ?_; rintro e w2 ⟨rfl, hb2⟩; have HB2 : Hid (Below w.heap.size w w2) := HB.out.trans (hb2.mono HB.out.size); clear hb2) | (go_at_call 40; refine (oneOf_any ya y.length yc w2).mono ?_; rintro e w9 ⟨rfl, rfl⟩) | (go_at_call 72; refine (HRD.out w2 HB2.out).mono ?_; rintro e w3 ⟨hb3, g, cp, ads, pa2, pc2, rfl, hgg, si, pi⟩; unfold rdV; dsimp only at si pi ⊢; obtain ⟨W4, hW4⟩ : ∃ W4, w3.alloc (.cells #[.int .i64 (cols : Int), .slice (some ⟨g, 0, none⟩) rows.length cp, .slice pa2 piv.length pc2, .int .i64 dv] 61) = W4 := ⟨_, rfl⟩; have HCW : Hid (∀ W, Below W4.heap.size W4 W → W.cell? ⟨w3.heap.size, 0, none⟩ = some (.int .i64 (cols : Int)) ∧ W.cell? ⟨w3.heap.size, 1, none⟩ = some (.slice (some ⟨g, 0, none⟩) rows.length cp) ∧ W.cell? ⟨w3.heap.size, 2, none⟩ = some (.slice pa2 piv.length pc2) ∧ W.cell? ⟨w3.heap.size, 3, none⟩ = some (.int .i64 dv)) := box_cells hW4; obtain ⟨k0, k1, k2, k3⟩ := HCW.out W4 (Below.refl _ _); have HB4 : Hid (Below w3.heap.size w3 W4) := hW4 ▸ (Below.refl _ _).alloc (Nat.le_refl _) _; have HSI := Lib.hid si; have HPI := Lib.hid (OwnI.sl pi); have HB3 := Lib.hid hb3; have HSI4 := Lib.hid (HSI.out.below HB4.out); have HPI4 := Lib.hid (HPI.out.below HB4.out); have HBW4 : Hid (Below w.heap.size w W4) := (HB2.out.alloc HB2.out.size _).trans ((HB3.out.mono (by rw [World.size_alloc]; have := HB2.out.size; omega)).trans (HB4.out.mono (by have h1 := HB3.out.size; rw [World.size_alloc] at h1; have := HB2.out.size; omega))); clear si pi hgg hb3) | (go_at_call 41; refine (HPO.out _ _ _ _ _ _ _ HSI4.out).mono ?_; rintro e w5 ⟨rfl, hb5⟩; have HB5 := Lib.hid hb5; obtain ⟨j0, j1, j2, j3⟩ := HCW.out w5 hb5; clear hb5) | (go_at_call 74; refine (rank_any cols g rows.length cp pa2 piv pc2 dv _).mono ?_; rintro e w6 ⟨rfl, hb6⟩; have HB6 : Hid (Below W4.heap.size W4 w6) := HB5.out.trans (hb6.mono HB5.out.size); obtain ⟨i0, i1, i2, i3⟩ := HCW.out w6 HB6.out; clear hb6) | (go_at_call 154; refine (HSO.out _ _ _ _ _ _ _ (HSI4.out.below HB6.out) (HPI4.out.below HB6.out)).mono ?_; rintro e w7 ⟨sb, sc, rfl, ho7, hb7⟩; have HO7 := Lib.hid ho7; have HB7 : Hid (Below W4.heap.size W4 w7) := HB6.out.trans (hb7.mono HB6.out.size); clear ho7 hb7))
          go_ret2
          refine ⟨HBW4.out.trans (HB7.out.mono HBW4.out.size), _, sc, by (rw [HLS]; rfl), OwnR.rl (cap := sc) (base := w6.heap.size) ?_, ?_⟩
          · rw [HLS]; exact HO7.out
          · rintro ad rfl2
            obtain rfl := Option.some.inj rfl2
            have h1 := OwnR.lt HO7.out
            have h2 := HBW4.out.size
            have h3 := HB6.out.size
            exact ⟨by dsimp only; omega, h1.2⟩
    · have y0 : (v == 0) = false := by simpa using h0
      have y1 : (v != 0) = true := by simpa using h0
      have HSV : Hid (solveV m px y = ([], v)) := by show _ = _; unfold solveV; rw [if_pos hrv, hvv, if_neg h0]
      rw [HSV.out]
      clear hv hs hp hm hvv h0 hrv hy hyl hyb HSV
      go_enter Tryz.func137, Tryz.ntmps137
      go_wp2_with (first | (go_at_call 38; refine HRE.out.mono ?_; rintro e w1 ⟨rfl, hb⟩; have HB := Lib.hid hb; clear hb) | (go_at_call 153; refine (HNA.out w1 HB.out).mono ?_; rintro e w2 ⟨rfl, hb2⟩; have HB2 : Hid (Below w.heap.size w w2) := HB.out.trans (hb2.mono HB.out.size); clear hb2))
      go_ret2
      exact RNPost.err HB2.out
  · have y0 : (rv == 0) = false := by simpa using hr0
    have y1 : (rv != 0) = true := by simpa using hr0
    have HSV : Hid (solveV m px y = ([], rv)) := by show _ = _; unfold solveV; rw [hrv, if_neg hr0]
    rw [HSV.out]
    clear hs hp hm hr0 hrv hy HSV
    go_enter Tryz.func137, Tryz.ntmps137
    go_wp2_with (go_at_call 38; refine HRE.out.mono ?_; rintro e w1 ⟨rfl, hb⟩; have HB := Lib.hid hb; clear hb)
    go_ret2
    exact RNPost.err HB.out
end Go.Proofs.YtgbnfhfkehpfaaaGreat
/- fit of layer 4, and what it calls: contracts. -/
namespace Go.Proofs.YtgbnfhfkehpfaaaGreat
open Go.RowKit

theorem box2 {w V : World} {a b : Value} {t : TypeId} (h : w.alloc (.cells #[a, b] t) = V) : ∀ W, Below V.heap.size V W → W.cell? ⟨w.heap.size, 0, none⟩ = some a ∧ W.cell? ⟨w.heap.size, 1, none⟩ = some b ∧ W.frozen? ⟨w.heap.size, 0, none⟩ = false ∧ W.frozen? ⟨w.heap.size, 1, none⟩ = false := by
  subst h
  intro W hb
  have hl : w.heap.size < (w.alloc (.cells #[a, b] t)).heap.size := by rw [World.size_alloc]; omega
  exact ⟨(hb.cell (p := ⟨w.heap.size, 0, none⟩) hl).trans (alloc_cell _ _ _ _ _ rfl), (hb.cell (p := ⟨w.heap.size, 1, none⟩) hl).trans (alloc_cell _ _ _ _ _ rfl), (hb.frozen (p := ⟨w.heap.size, 0, none⟩) hl).trans (by simp), (hb.frozen (p := ⟨w.heap.size, 1, none⟩) hl).trans (by simp)⟩
def ixZ (vs : List (Int × Int)) : Int := if vs.any (fun p => p.1 == 0) = true then (vs.findIdx (fun p => p.1 == 0) : Int) else -1
theorem ixZ_hit {vs : List (Int × Int)} {k : Nat} {p : Int × Int} (h : ∀ j, j < k → ∀ q, vs[j]? = some q → q.1 ≠ 0) (hp : vs[k]? = some p) (h0 : p.1 = 0) : ixZ vs = k := by
  obtain ⟨hk, e⟩ := List.getElem?_eq_some_iff.1 hp
  have ha : vs.any (fun p => p.1 == 0) = true := List.any_eq_true.2 ⟨p, List.mem_of_getElem? hp, by simpa using h0⟩
  unfold ixZ
  rw [if_pos ha]
  congr 1
  rw [List.findIdx_eq hk]
  refine ⟨by rw [e]; simpa using h0, fun j hj => ?_⟩
  have := h j hj _ (List.getElem?_eq_getElem (by omega))
  simpa using this
theorem ixZ_no {vs : List (Int × Int)} (h : ∀ j, j < vs.length → ∀ q, vs[j]? = some q → q.1 ≠ 0) : ixZ vs = -1 ∧ vs.any (fun p => p.1 == 0) = false := by
  have ha : vs.any (fun p => p.1 == 0) = false := by
    rw [List.any_eq_false]
    intro q hq
    obtain ⟨j, hj, e⟩ := List.getElem_of_mem hq
    have := h j hj q (by rw [List.getElem?_eq_getElem hj, e])
    simpa using this
  exact ⟨by unfold ixZ; rw [ha]; rfl, ha⟩
set_option maxRecDepth 100000 in
theorem zero_any (a b : Int) (w : World) : Calls Tryz.prog 103 #[.agg #[.int .i64 a, .int .i64 b]] w fun e w' => e = .returned (.bool (a == 0)) ∧ Below w.heap.size w w' := by
  obtain ⟨V, hV⟩ : ∃ V, w.alloc (.cells #[.int .i64 a, .int .i64 b] 38) = V := ⟨_, rfl⟩
  obtain ⟨t0, t1, _, _⟩ := box2 hV V (Below.refl _ _)
  have HB : Hid (Below w.heap.size w V) := by rw [← hV]; exact (Below.refl _ _).alloc (Nat.le_refl _) _
  go_enter Tryz.func103, Tryz.ntmps103
  go_wp2
  go_ret
  exact ⟨rfl, HB.out⟩
set_option maxRecDepth 1000000 in
set_option maxHeartbeats 1600000 in
theorem indexZ_any (a : Option Addr) (vs : List (Int × Int)) (cap : Nat) (w : World) (hl : vs.length ≤ 1000) (hs : Rl w a vs) :
    Calls Tryz.prog 155 #[.slice a vs.length cap, .func (.func 103) #[] #[]] w fun e w' => e = .returned (.int .i64 (ixZ vs)) ∧ Below w.heap.size w w' := by
  have HS := Lib.hid hs; clear hs
  obtain ⟨n, hn⟩ : ∃ n, vs.length = n := ⟨_, rfl⟩
  have HN := Lib.hid hn
  rw [hn] at hl ⊢
  clear hn
  go_enter Tryz.func155, Tryz.ntmps155
  go_wp2
  go_loopw [8] (fun i wr => ∃ k : Nat, k ≤ n ∧ i = .int .i64 k ∧ Below w.heap.size w wr ∧ ∀ j, j < k → ∀ q, vs[j]? = some q → q.1 ≠ 0) (fun i _ => n - (intOf i).toNat)
  case atStart => exact ⟨0, Nat.zero_le _, rfl, Below.refl _ _, fun j h => by omega⟩
  case round =>
    obtain ⟨k, hk, rfl, hb, hno⟩ := hrel
    have HNO := Lib.hid hno; clear hno
    have HB := Lib.hid hb; clear hb
    by_cases hlt : k < n
    · obtain ⟨p, hp⟩ : ∃ p, vs[k]? = some p := ⟨_, List.getElem?_eq_getElem (by rw [HN.out]; exact hlt)⟩
      obtain ⟨b, rfl, c1, c2⟩ := (HS.out.below HB.out) k p hp
      have HP := Lib.hid hp
      obtain ⟨p1, p2⟩ := p
      dsimp only at c1 c2
      have hk0 : (k : Int) < (n : Int) := by omega
      obtain ⟨z, hz⟩ : ∃ z, (p1 == 0) = z := ⟨_, rfl⟩
      have HZ := Lib.hid hz
      have HZE : Hid (∀ W, Calls Tryz.prog 103 #[.agg #[.int .i64 p1, .int .i64 p2]] W fun e w' => e = .returned (.bool z) ∧ Below W.heap.size W w') := fun W => by rw [← hz]; exact zero_any p1 p2 W
      clear hz hp
      cases z with
      | true =>
        go_wp2_with (go_at_call 103; refine (HZE.out _).mono ?_; rintro e w5 ⟨rfl, hb5⟩)
        go_ret
        exact ⟨ret_i64 (ixZ_hit HNO.out HP.out (by simpa using HZ.out)).symm, HB.out.trans (hb5.mono HB.out.size)⟩
      | false =>
        go_wp2_with (go_at_call 103; refine (HZE.out _).mono ?_; rintro e w5 ⟨rfl, hb5⟩)
        go_roundw
        case rel => exact ⟨k + 1, by omega, by go_num, HB.out.trans (hb5.mono HB.out.size), fun j hj q hq => by
          by_cases e : j = k
          · subst e
            rw [HP.out] at hq
            obtain rfl := Option.some.inj hq
            simpa using HZ.out
          · exact HNO.out j (by omega) q hq⟩
        case measure => simp [intOf]; omega
    · obtain rfl : n = k := by omega
      have HE : Hid (ixZ vs = -1) := (ixZ_no fun j hj => HNO.out j (by rw [HN.out] at hj; exact hj)).1
      go_wp2
      go_ret
      exact ⟨ret_i64 HE.out.symm, HB.out⟩
set_option maxRecDepth 100000 in
theorem containsZ_any (a : Option Addr) (vs : List (Int × Int)) (cap : Nat) (w : World) (hl : vs.length ≤ 1000) (hs : Rl w a vs) :
    Calls Tryz.prog 138 #[.slice a vs.length cap, .func (.func 103) #[] #[]] w fun e w' => e = .returned (.bool (vs.any fun p => p.1 == 0)) ∧ Below w.heap.size w w' := by
  have HI := Lib.hid (indexZ_any a vs cap w hl hs); clear hs
  have HE : Hid (decide (0 ≤ ixZ vs) = vs.any fun p => p.1 == 0) := by
    show _ = _
    unfold ixZ
    cases vs.any fun p => p.1 == 0
    · simp
    · simp
  obtain ⟨x, hx⟩ : ∃ x, ixZ vs = x := ⟨_, rfl⟩
  rw [hx] at HI HE
  clear hx
  go_enter Tryz.func138, Tryz.ntmps138
  go_wp2_with (go_at_call 155; refine HI.out.mono ?_; rintro e w' ⟨rfl, hb⟩)
  go_ret
  exact ⟨ret_bool (by rw [← HE.out]), hb⟩
set_option maxHeartbeats 400000 in
theorem cloneN_any (ad : Addr) (xs : List Int) (cap : Nat) (w : World) (hl : xs.length * 8 ≤ 140737488351232) (hs : Sl w (some ad) xs) :
    Calls Tryz.prog 63 #[.slice (some ad) xs.length cap] w fun e w' =>
      ∃ a c, e = .returned (.slice a xs.length c) ∧ Sl w' a xs ∧ Below w.heap.size w w' ∧ ∀ ad, a = some ad → w.heap.size ≤ ad.block ∧ ad.block < w'.heap.size := by
  have HN : Hid (∀ (j : Nat) (u : Value), (xs.map (Value.int .i64))[j]? = some u → (w.alloc (.cells #[] 3)).cell? (ad.add j) = some u) := fun j u hu => by
    have hj : j < xs.length := by have := (List.getElem?_eq_some_iff.1 hu).1; simpa using this
    obtain ⟨b, off, e, h⟩ := (hs.alloc (.cells #[] 3)) j hj
    obtain rfl := Option.some.inj e
    rw [addr_add, h]
    simpa [hj] using hu
  clear hs
  have hown := World.ownsRow_lit (base := w.heap.size) (e := 3) (size := 1) w #[] 0 (Nat.le_refl _) (by unfold maxLen; omega) rfl
  have qT : ∀ (w : World) (a : Option Addr) (n c n' c' : Nat), (binOp .eql 22 (.slice a n c) (.slice none n' c')).run Tryz.prog w = .ok (.bool a.isNone) w := fun w a n c n' c' => Lib.run_eql_slice_nil w _ _ a n c n' c' Tryz.underlying22
  obtain ⟨i0, hi, hz0, hz1, hz2⟩ := info_parts Tryz.infoInt
  go_enter Tryz.func63, Tryz.ntmps63
  go_wp2_with (at_builtin; go_must (refine wpList_append_own _ rfl _ _ 22 rfl w.heap.size 3 i0 (.int .i64 0) 1 8 Tryz.underlying22 hi hz0 hz1 hz2 rfl (by decide) _ 0 [] rfl hown ad xs.length cap (xs.map (Value.int .i64)) rfl (by simp) HN.out (map_oneCell xs) (by unfold maxLen; omega) (by omega) (by simp) ?_); intro v' w1 hown' hgrow hnil)
  go_ret
  have ho : OwnI w1 w.heap.size v' xs := by simpa [OwnI] using hown'
  obtain ⟨a, c, rfl, h1, h2⟩ := ho.parts
  refine ⟨a, ⟨c, rfl⟩, h1, ?_, fun ad e => ⟨(h2 ad e).2, (h2 ad e).1⟩⟩
  exact ((Below.refl w.heap.size w).alloc (Nat.le_refl _) _).grown hgrow (by simp) (fun k e => by have : k = w.heap.size := (by simpa [Act.eval, Value.ownBlock] using e.symm); omega)
structure FitAt (W : World) (base : Nat) (qa : Option Addr) (px : List Int) (va : Option Addr) (vs : List (Int × Int)) : Prop where
  sl : Sl W qa px
  rl : Rl W va vs
  q : ∀ ad, qa = some ad → base ≤ ad.block ∧ ad.block < W.heap.size
  v : ∀ ad, va = some ad → base ≤ ad.block ∧ ad.block < W.heap.size
def fitO (wr : Int × Int → Bool) (m : List (List Int)) (y px : List Int) : Option (List (Int × Int)) := if (solveV m px y).2 = 0 then (if (solveV m px y).1.any wr = true then none else some (solveV m px y).1) else none
def FitPost (r : Option (List (Int × Int))) (px : List Int) (w : World) (e : Ending) (w' : World) : Prop :=
  Below w.heap.size w w' ∧ ((r = none ∧ e = .returned (.tuple #[.agg #[.slice none 0 0, .slice none 0 0], .bool false])) ∨ (∃ vs qa qc va vc, r = some vs ∧ e = .returned (.tuple #[.agg #[.slice qa px.length qc, .slice va vs.length vc], .bool true]) ∧ FitAt w' w.heap.size qa px va vs))
theorem solveV_len (m : List (List Int)) (px y : List Int) : (solveV m px y).1.length ≤ px.length := by
  unfold solveV
  split
  · split
    · split
      · split
        · simp
        · rw [solL_len]; exact Nat.le_refl _
      · simp
    · simp
  · simp
set_option maxRecDepth 1000000 in
set_option maxHeartbeats 1600000 in
theorem sfit_any (wf : Value) (wr : Int × Int → Bool) (ma : Option Addr) (m : List (List Int)) (mc : Nat) (ya : Option Addr) (y : List Int) (yc : Nat) (pb : Addr) (px : List Int) (pc : Nat) (w : World) (hm : MOk m) (hl : px.length ≤ 1000) (hly : y.length ≤ 1000) (hs : Ms w ma m) (hp : Sl w (some pb) px) (hy : Sl w ya y)
    (hw : ∀ W a vs cap, Below w.heap.size w W → vs.length ≤ 1000 → Rl W a vs → Calls Tryz.prog 138 #[.slice a vs.length cap, wf] W fun e w' => e = .returned (.bool (vs.any wr)) ∧ Below W.heap.size W w') :
    Calls Tryz.prog 117 #[.agg #[.slice ma m.length mc, .slice ya y.length yc], .slice (some pb) px.length pc, wf] w (FitPost (fitO wr m y px) px w) := by
  obtain ⟨V1, hV1⟩ : ∃ V1, w.alloc (.cells #[.slice ma m.length mc, .slice ya y.length yc] 115) = V1 := ⟨_, rfl⟩
  obtain ⟨V, hV⟩ : ∃ V, V1.alloc (.cells #[.slice none 0 0, .slice none 0 0] 106) = V := ⟨_, rfl⟩
  have hs1 : V1.heap.size = w.heap.size + 1 := by rw [← hV1]; exact World.size_alloc _ _
  have hs2 : V.heap.size = w.heap.size + 2 := by rw [← hV, World.size_alloc]; omega
  have hb1 : Below w.heap.size w V1 := by rw [← hV1]; exact (Below.refl _ _).alloc (Nat.le_refl _) _
  have hb2 : Below V1.heap.size V1 V := by rw [← hV]; exact (Below.refl _ _).alloc (Nat.le_refl _) _
  have HBV : Hid (Below w.heap.size w V) := hb1.trans (hb2.mono (by omega))
  have HQ := Lib.hid (box2 hV1)
  have HF := Lib.hid (box2 hV)
  obtain ⟨q0, q1, _, _⟩ := HQ.out V hb2
  obtain ⟨f0, f1, f2, f3⟩ := HF.out V (Below.refl _ _)
  have HS2 := Lib.hid hs2
  have HS1 := Lib.hid hs1
  have HV1B : Hid (w.heap.size ≤ V1.heap.size) := hb1.size
  have HSO : Hid (Calls Tryz.prog 137 #[.slice ma m.length mc, .slice (some pb) px.length pc, .slice ya y.length yc] V (RNPost (solveV m px y) V)) := lsolve_new ma m mc (some pb) px pc ya y yc V hm hl hly (hs.below HBV.out) (hp.below HBV.out) (hy.below HBV.out)
  have HFO : Hid (fitO wr m y px = if (solveV m px y).2 = 0 then (if (solveV m px y).1.any wr = true then none else some (solveV m px y).1) else none) := rfl
  have hvl := solveV_len m px y
  obtain ⟨⟨vs, e0⟩, hsv⟩ : ∃ r, solveV m px y = r := ⟨_, rfl⟩
  rw [hsv] at HSO HFO hvl
  dsimp only at hvl HFO
  have HP := Lib.hid hp
  have HCL : Hid (∀ W, Below w.heap.size w W → Calls Tryz.prog 63 #[.slice (some pb) px.length pc] W fun e w' => ∃ a c, e = .returned (.slice a px.length c) ∧ Sl w' a px ∧ Below W.heap.size W w' ∧ ∀ ad, a = some ad → W.heap.size ≤ ad.block ∧ ad.block < w'.heap.size) := fun W hb => cloneN_any pb px pc W (by omega) (HP.out.below hb)
  have HW := Lib.hid hw
  obtain ⟨pl, hpl⟩ : ∃ pl, px.length = pl := ⟨_, rfl⟩
  have HPL := Lib.hid hpl
  unfold FitPost
  rw [hpl] at HSO HCL hl hvl ⊢
  clear hm hs hp hy hw hs1 hs2 hb1 hb2 hsv hpl
  by_cases he0 : e0 = 0
  · subst he0
    rw [if_pos rfl] at HFO
    obtain ⟨z, hz⟩ : ∃ z, vs.any wr = z := ⟨_, rfl⟩
    rw [hz] at HFO
    have HCO : Hid (∀ W a cap, Below w.heap.size w W → Rl W a vs → Calls Tryz.prog 138 #[.slice a vs.length cap, wf] W fun e w' => e = .returned (.bool z) ∧ Below W.heap.size W w') := fun W a cap hb hr => by rw [← hz]; exact HW.out W a vs cap hb (by omega) hr
    clear hz HW
    cases z with
    | true =>
      have HFN : Hid (fitO wr m y px = none) := by show _ = _; rw [HFO.out]; rfl
      clear HFO
      go_enter Tryz.func117, Tryz.ntmps117
      go_wp2_with (first
        | (go_at_call 137; refine HSO.out.mono ?_; rintro e w2 ⟨hb2, va, vc, rfl, hrl, hnw⟩; dsimp only at hrl ⊢; have HB2 := Lib.hid hb2; have HBW2 : Hid (Below w.heap.size w w2) := HBV.out.trans (hb2.mono HBV.out.size); have HRL := Lib.hid hrl; clear hb2 hrl hnw)
        | (go_at_call 138; refine (HCO.out w2 va vc HBW2.out HRL.out).mono ?_; rintro e w3 ⟨rfl, hb3⟩; have HB3 : Hid (Below V.heap.size V w3) := HB2.out.trans (hb3.mono HB2.out.size); have HBW3 : Hid (Below w.heap.size w w3) := HBV.out.trans (HB3.out.mono HBV.out.size); obtain ⟨g0, g1, g2, g3⟩ := HF.out w3 HB3.out; clear hb3))
      refine bodyPost_ret (v := .tuple #[.agg #[.slice none 0 0, .slice none 0 0], .bool false]) ?_ rfl ⟨(HBW3.out.setCell (p := ⟨V1.heap.size, 0, none⟩) HV1B.out _).setCell (p := ⟨V1.heap.size, 1, none⟩) HV1B.out _, .inl ⟨HFN.out, rfl⟩⟩
      rw [results_cell_tmp rfl]; go_simp
    | false =>
      have HFS : Hid (fitO wr m y px = some vs) := by show _ = _; rw [HFO.out]; rfl
      clear HFO
      go_enter Tryz.func117, Tryz.ntmps117
      go_wp2_with (first
        | (go_at_call 137; refine HSO.out.mono ?_; rintro e w2 ⟨hb2, va, vc, rfl, hrl, hnw⟩; dsimp only at hrl ⊢; have HB2 := Lib.hid hb2; have HBW2 : Hid (Below w.heap.size w w2) := HBV.out.trans (hb2.mono HBV.out.size); have HRL := Lib.hid hrl; have HNW := Lib.hid hnw; clear hb2 hrl hnw)
        | (go_at_call 138; refine (HCO.out w2 va vc HBW2.out HRL.out).mono ?_; rintro e w3 ⟨rfl, hb3⟩; have HB3 : Hid (Below V.heap.size V w3) := HB2.out.trans (hb3.mono HB2.out.size); have HBW3 : Hid (Below w.heap.size w w3) := HBV.out.trans (HB3.out.mono HBV.out.size); have HRL3 := Lib.hid (HRL.out.below hb3); have HS3 : Hid (w2.heap.size ≤ w3.heap.size) := hb3.size; clear hb3)
        | (go_at_call 63; refine (HCL.out w3 HBW3.out).mono ?_; rintro e w4 ⟨qa, qc, rfl, hsl, hb4, hqn⟩; have HB4 : Hid (Below V.heap.size V w4) := HB3.out.trans (hb4.mono HB3.out.size); have HBW4 : Hid (Below w.heap.size w w4) := HBV.out.trans (HB4.out.mono HBV.out.size); have HRL4 := Lib.hid (HRL3.out.below hb4); have HS4 : Hid (w3.heap.size ≤ w4.heap.size) := hb4.size; have HSL := Lib.hid hsl; have HQN := Lib.hid hqn; obtain ⟨g0, g1, g2, g3⟩ := HF.out w4 HB4.out; clear hb4 hsl hqn))
      refine bodyPost_ret (v := .tuple #[.agg #[.slice qa pl qc, .slice va vs.length vc], .bool true]) ?_ rfl ⟨(HBW4.out.setCell (p := ⟨V1.heap.size, 0, none⟩) HV1B.out _).setCell (p := ⟨V1.heap.size, 1, none⟩) HV1B.out _, .inr ⟨vs, qa, qc, va, vc, HFS.out, rfl, ?_, ?_, ?_, ?_⟩⟩
      · rw [results_cell_tmp rfl]; go_simp
      · have h2 := HS2.out
        have h3 := HB3.out.size
        refine sl_apart (sl_apart HSL.out (fun ad e => ?_) _) (fun ad e => ?_) _
        · have := (HQN.out ad e).1; show ad.block ≠ V1.heap.size; have := HS1.out; omega
        · have := (HQN.out ad e).1; show ad.block ≠ V1.heap.size; have := HS1.out; omega
      · have h2 := HS2.out
        intro j p hj
        obtain ⟨b, e, c1, c2⟩ := HRL4.out j p hj
        have := (HNW.out _ e).1
        have hne : b ≠ V1.heap.size := by dsimp only at this; have := HS1.out; omega
        exact ⟨b, e, (cell_other _ _ _ _ hne).trans ((cell_other _ _ _ _ hne).trans c1), (cell_other _ _ _ _ hne).trans ((cell_other _ _ _ _ hne).trans c2)⟩
      · intro ad e
        have h1 := HQN.out ad e
        have h2 := HS2.out
        have h3 := HB3.out.size
        rw [World.size_setCell, World.size_setCell]
        omega
      · intro ad e
        have h1 := HNW.out ad e
        have h2 := HS2.out
        have h3 := HS3.out
        have h4 := HS4.out
        rw [World.size_setCell, World.size_setCell]
        omega
  · have HFN : Hid (fitO wr m y px = none) := by show _ = _; rw [HFO.out, if_neg he0]
    have y1 : (e0 == 0) = false := by simpa using he0
    have y2 : (e0 != 0) = true := by simpa using he0
    clear HFO he0 HW
    go_enter Tryz.func117, Tryz.ntmps117
    go_wp2_with (go_at_call 137; refine HSO.out.mono ?_; rintro e w2 ⟨hb2, va, vc, rfl, hrl, hnw⟩; dsimp only at hrl ⊢; have HB2 := Lib.hid hb2; have HBW2 : Hid (Below w.heap.size w w2) := HBV.out.trans (hb2.mono HBV.out.size); obtain ⟨g0, g1, g2, g3⟩ := HF.out w2 hb2; clear hb2 hrl hnw)
    refine bodyPost_ret (v := .tuple #[.agg #[.slice none 0 0, .slice none 0 0], .bool false]) ?_ rfl ⟨(HBW2.out.setCell (p := ⟨V1.heap.size, 0, none⟩) HV1B.out _).setCell (p := ⟨V1.heap.size, 1, none⟩) HV1B.out _, .inl ⟨HFN.out, rfl⟩⟩
    rw [results_cell_tmp rfl]; go_simp
end Go.Proofs.YtgbnfhfkehpfaaaGreat
/- More unknowns than equations: one solution that is not zero. Plain words. Speaks of no program. -/
namespace Go.Proofs.YtgbnfhfkehpfaaaGreat

def overJ (j0 j : Nat) : Nat := if j < j0 then j else j + 1
theorem sum_over (f : Nat → Int) (j0 : Nat) : ∀ n, j0 ≤ n → sumTo f (n + 1) = f j0 + sumTo (fun j => f (overJ j0 j)) n
  | 0, h => by
    obtain rfl : j0 = 0 := by omega
    show sumTo f 0 + f 0 = f 0 + 0
    show (0 : Int) + f 0 = _
    omega
  | n + 1, h => by
    by_cases e : j0 ≤ n
    · have ih := sum_over f j0 n e
      show sumTo f (n + 1) + f (n + 1) = f j0 + (sumTo (fun j => f (overJ j0 j)) n + f (overJ j0 n))
      rw [ih, show overJ j0 n = n + 1 by unfold overJ; rw [if_neg (by omega)]]
      omega
    · obtain rfl : j0 = n + 1 := by omega
      show sumTo f (n + 1) + f (n + 1) = _
      rw [sumTo_congr (f := fun j => f (overJ (n + 1) j)) (g := f) (n + 1) fun i hi => by show f (overJ (n + 1) i) = f i; unfold overJ; rw [if_pos hi]]
      omega
theorem more_unknowns : ∀ (R N : Nat) (c : Nat → Nat → Int), R < N → ∃ w : Nat → Int, (∃ j, j < N ∧ w j ≠ 0) ∧ ∀ i, i < R → sumTo (fun j => c i j * w j) N = 0
  | 0, N, c, h => ⟨fun _ => 1, ⟨0, h, by decide⟩, fun i hi => absurd hi (by omega)⟩
  | R + 1, N, c, h => by
    by_cases hz : ∀ j, j < N → c R j = 0
    · obtain ⟨w, h1, h2⟩ := more_unknowns R N c (by omega)
      refine ⟨w, h1, fun i hi => ?_⟩
      by_cases e : i = R
      · subst e
        rw [sumTo_congr (g := fun _ => 0 * (0 : Int)) N fun j hj => by show c i j * w j = 0 * 0; rw [hz j hj]; omega, sumTo_mul]; omega
      · exact h2 i (by omega)
    · obtain ⟨j0, hj0, hc⟩ : ∃ j0, j0 < N ∧ c R j0 ≠ 0 := by
        apply Classical.byContradiction
        intro hn
        exact hz fun j hj => Classical.byContradiction fun e => hn ⟨j, hj, e⟩
      obtain ⟨n, rfl⟩ : ∃ n, N = n + 1 := ⟨N - 1, by omega⟩
      obtain ⟨w, ⟨j1, hj1, hw1⟩, h2⟩ := more_unknowns R n (fun i j => c R j0 * c i (overJ j0 j) - c i j0 * c R (overJ j0 j)) (by omega)
      let S := sumTo (fun j => c R (overJ j0 j) * w j) n
      let v : Nat → Int := fun j => if j = j0 then -S else c R j0 * w (if j < j0 then j else j - 1)
      have v0 : v j0 = -S := if_pos rfl
      have v1 : ∀ j, v (overJ j0 j) = c R j0 * w j := fun j => by
        show (if overJ j0 j = j0 then -S else _) = _
        unfold overJ
        by_cases e : j < j0
        · rw [if_pos e, if_neg (by omega), if_pos e]
        · rw [if_neg e, if_neg (by omega), if_neg (by omega), Nat.add_sub_cancel]
      have key : ∀ i, sumTo (fun j => c i j * v j) (n + 1) = -(c i j0 * S) + c R j0 * sumTo (fun j => c i (overJ j0 j) * w j) n := fun i => by
        rw [sum_over _ j0 n (by omega), v0]
        congr 1
        · exact Int.mul_neg _ _
        · rw [← sumTo_mul]
          exact sumTo_congr n fun j _ => by show c i (overJ j0 j) * v (overJ j0 j) = _; rw [v1, Int.mul_left_comm]
      refine ⟨v, ⟨overJ j0 j1, by unfold overJ; split <;> omega, by rw [v1]; exact Int.mul_ne_zero hc hw1⟩, fun i hi => ?_⟩
      rw [key]
      by_cases e : i = R
      · subst e
        show -(c i j0 * S) + c i j0 * S = 0
        omega
      · have h3 := h2 i (by omega)
        have e2 : sumTo (fun j => (c R j0 * c i (overJ j0 j) - c i j0 * c R (overJ j0 j)) * w j) n = c R j0 * sumTo (fun j => c i (overJ j0 j) * w j) n + -(c i j0 * S) := by
          rw [show -(c i j0 * S) = -(c i j0) * S from (Int.neg_mul _ _).symm, ← sumTo_mul, ← sumTo_mul, ← sumTo_add]
          refine sumTo_congr n fun j _ => ?_
          show (c R j0 * c i (overJ j0 j) - c i j0 * c R (overJ j0 j)) * w j = c R j0 * (c i (overJ j0 j) * w j) + -(c i j0) * (c R (overJ j0 j) * w j)
          rw [Int.sub_mul, Int.mul_assoc, Int.mul_assoc, Int.neg_mul]; omega
        have h3 : sumTo (fun j => (c R j0 * c i (overJ j0 j) - c i j0 * c R (overJ j0 j)) * w j) n = 0 := h3
        omega
end Go.Proofs.YtgbnfhfkehpfaaaGreat
/- scaled of the answers: the contract. -/
namespace Go.Proofs.YtgbnfhfkehpfaaaGreat
open Go.RowKit

end Go.Proofs.YtgbnfhfkehpfaaaGreat
/- All ascending lists of numbers below n, by their lengths: what a breadth-first walk makes. Plain words. Speaks of no program. -/
namespace Go.Proofs.YtgbnfhfkehpfaaaGreat
open Go.RowKit

theorem flatMap_map' {α β γ : Type} (l : List α) (f : α → β) (g : β → List γ) : (l.map f).flatMap g = l.flatMap fun a => g (f a) := by
  induction l with
  | nil => rfl
  | cons a l ih => rw [List.map_cons, List.flatMap_cons, List.flatMap_cons, ih]
theorem flatMap_congr' {α β : Type} {l : List α} {f g : α → List β} (h : ∀ a ∈ l, f a = g a) : l.flatMap f = l.flatMap g := by
  induction l with
  | nil => rfl
  | cons a l ih => rw [List.flatMap_cons, List.flatMap_cons, h a List.mem_cons_self, ih fun b hb => h b (List.mem_cons_of_mem _ hb)]
end Go.Proofs.YtgbnfhfkehpfaaaGreat
/- Sets of the answers: the contract. -/
namespace Go.Proofs.YtgbnfhfkehpfaaaGreat
open Go.RowKit

def MsN (w : World) (a : Option Addr) (m : List (List Int)) : Prop := ∀ i, i < m.length → ∃ b off ai ci, a = some ⟨b, off, none⟩ ∧ w.cell? ⟨b, off + i, none⟩ = some (.slice ai (m[i]?.getD []).length ci) ∧ Sl w ai (m[i]?.getD []) ∧ (m[i]? = some [] → ai = none ∧ ci = 0)
theorem MsN.ms {w : World} {a : Option Addr} {m : List (List Int)} (h : MsN w a m) : Ms w a m := fun i hi => by
  obtain ⟨b, off, ai, ci, h1, h2, h3, _⟩ := h i hi
  exact ⟨b, off, ai, ci, h1, h2, h3⟩
end Go.Proofs.YtgbnfhfkehpfaaaGreat
/- A circuit on a set, as the answers find it: the kernel of the set's columns, put and signed. Plain words. -/
namespace Go.Proofs.YtgbnfhfkehpfaaaGreat
open Go.RowKit

theorem gt_neg (xs : List Int) (k : Nat) : gt (negL xs) k = IntKind.i64.wrap (-gt xs k) := by
  unfold negL gt
  rw [List.getElem?_map]
  cases xs[k]? with
  | none => rfl
  | some y => rfl
theorem gt_set_far {ys : List Int} {i j : Nat} {v : Int} (h : i ≠ j) : gt (ys.set i v) j = gt ys j := by unfold gt; rw [List.getElem?_set_ne h]
end Go.Proofs.YtgbnfhfkehpfaaaGreat
/- Circuits of the answers: the contract. -/
namespace Go.Proofs.YtgbnfhfkehpfaaaGreat
open Go.RowKit

end Go.Proofs.YtgbnfhfkehpfaaaGreat
/- A set's columns have no higher rank than all; so the answers' circuits are layer 3's. Plain words. -/
namespace Go.Proofs.YtgbnfhfkehpfaaaGreat
open Go.RowKit

theorem sum_null : ∀ n, sumTo (fun _ => (0 : Int)) n = 0
  | 0 => rfl
  | n + 1 => by show sumTo (fun _ => (0 : Int)) n + 0 = 0; rw [sum_null n]; rfl
theorem sum_one (a : Nat → Int) (q : Nat) (x : Int) : ∀ n, sumTo (fun c => a c * (if q = c then x else 0)) n = if q < n then a q * x else 0
  | 0 => rfl
  | n + 1 => by
    show sumTo (fun c => a c * (if q = c then x else 0)) n + a n * (if q = n then x else 0) = _
    rw [sum_one a q x n]
    by_cases e : q = n
    · subst e; rw [if_neg (by omega), if_pos rfl, if_pos (by omega)]; omega
    · rw [if_neg e, Int.mul_zero]
      by_cases e2 : q < n
      · rw [if_pos e2, if_pos (by omega)]; omega
      · rw [if_neg e2, if_neg (by omega)]; omega
def pushW (p : Nat → Nat) (w : Nat → Int) (k c : Nat) : Int := sumTo (fun u => if p u = c then w u else 0) k
theorem sum_push (p : Nat → Nat) (w a : Nat → Int) (n : Nat) : ∀ k, (∀ u, u < k → p u < n) → sumTo (fun c => a c * pushW p w k c) n = sumTo (fun u => a (p u) * w u) k
  | 0, _ => by
    show _ = (0 : Int)
    rw [← sum_null n]
    exact sumTo_congr n fun c _ => Int.mul_zero _
  | k + 1, h => by
    have ih := sum_push p w a n k fun u hu => h u (by omega)
    show _ = sumTo (fun u => a (p u) * w u) k + a (p k) * w k
    rw [← ih]
    have e := sum_one a (p k) (w k) n
    rw [if_pos (h k (by omega))] at e
    rw [← e, ← sumTo_add]
    refine sumTo_congr n fun c _ => ?_
    show a c * (pushW p w k c + if p k = c then w k else 0) = _
    exact Int.mul_add _ _ _
theorem rank_le {m : List (List Int)} (hv : validM m = true) {px : List Int} (hpx : pxOk m px) : (redN m px).piv.length ≤ rankM m := by
  apply Nat.le_of_not_lt
  intro hlt
  have h := redN_fin hv hpx
  have g := basis_fin hv
  unfold rankM at hlt
  obtain ⟨r, hr⟩ : ∃ r, redN m px = r := ⟨_, rfl⟩
  obtain ⟨s, hs⟩ : ∃ s, redN m (upTo (colsM m)) = s := ⟨_, rfl⟩
  rw [hr] at h hlt
  rw [hs] at g hlt
  obtain ⟨w, ⟨j, hj, hw⟩, hsol⟩ := more_unknowns s.piv.length r.piv.length (fun t u => gt (rowL s.rows t) (gt px (pivN r u)).toNat) hlt
  have hcol : ∀ u, u < r.piv.length → (gt px (pivN r u)).toNat < colsM m := fun u hu => by
    have hp := h.pivN_lt hu
    have := hpx _ (mem_gt.2 ⟨pivN r u, hp, rfl⟩)
    omega
  have k1 : ∀ i, i < m.length → sumTo (fun c => a0 m i c * pushW (fun u => (gt px (pivN r u)).toNat) w r.piv.length c) (colsM m) = 0 :=
    (g.ker' g.low _).2 fun t ht => by rw [sum_push _ _ _ _ _ hcol]; exact hsol t ht
  have k2 : ∀ i, i < m.length → sumTo (fun c => a0 (pixM px m) i c * pushW (pivN r) w r.piv.length c) px.length = 0 := fun i hi => by
    have := k1 i hi
    rw [sum_push _ _ _ _ _ hcol] at this
    rw [sum_push _ _ _ _ _ fun u hu => h.pivN_lt hu, ← this]
    refine sumTo_congr _ fun u hu => ?_
    show a0 (pixM px m) i (pivN r u) * w u = a0 m i (gt px (pivN r u)).toNat * w u
    unfold a0
    rw [rowL_pixM hi, gt_pixR (h.pivN_lt hu)]
  have k3 := (h.ker' h.low _).1 k2 j hj
  rw [sum_push _ _ _ _ _ fun u hu => h.pivN_lt hu] at k3
  have k4 : sumTo (fun u => gt (rowL r.rows j) (pivN r u) * w u) r.piv.length = r.dv * w j := by
    have e := sum_one (fun _ => r.dv) j (w j) r.piv.length
    rw [if_pos hj] at e
    rw [← e]
    refine sumTo_congr _ fun u hu => ?_
    show gt (rowL r.rows j) (pivN r u) * w u = r.dv * (if j = u then w j else 0)
    rw [h.self u j hu hj]
    by_cases e : j = u
    · subst e; rw [if_pos rfl, if_pos rfl]
    · rw [if_neg e, if_neg e]; omega
  rw [k4] at k3
  have := h.pos
  rcases Int.mul_eq_zero.1 k3 with e | e
  · omega
  · exact hw e
theorem circ_small {m : List (List Int)} (hv : validM m = true) {px : List Int} (hpx : pxOk m px) (h : circB m px = true) : px.length ≤ rankM m + 1 := by
  have h1 := rank_le hv hpx
  have h2 := (redN_fin hv hpx).count
  unfold circB at h
  simp at h
  omega
end Go.Proofs.YtgbnfhfkehpfaaaGreat
/- The circuits of a mask are the least supports of its kernel vectors. Plain words. Speaks of no program. -/
namespace Go.Proofs.YtgbnfhfkehpfaaaGreat
open Go.RowKit

def KerF (m : List (List Int)) (v : Nat → Int) : Prop := ∀ i, i < m.length → sumTo (fun c => a0 m i c * v c) (colsM m) = 0
structure SetP (m : List (List Int)) (px : List Int) : Prop where
  asc : px.Pairwise (· < ·)
  ok : pxOk m px
def pos (px : List Int) (u : Nat) : Nat := (gt px u).toNat
theorem pw_gt {px : List Int} (h : px.Pairwise (· < ·)) {s t : Nat} (hst : s < t) (ht : t < px.length) : gt px s < gt px t := by
  have := List.pairwise_iff_getElem.1 h s t (by omega) ht hst
  unfold gt
  simpa [ht, show s < px.length by omega] using this
section
variable {m : List (List Int)} {px : List Int}
theorem SetP.eq (h : SetP m px) {u : Nat} (hu : u < px.length) : gt px u = (pos px u : Int) := by
  have := h.ok _ (mem_gt.2 ⟨u, hu, rfl⟩)
  unfold pos; omega
theorem SetP.lt (h : SetP m px) {u : Nat} (hu : u < px.length) : pos px u < colsM m := by
  have := h.ok _ (mem_gt.2 ⟨u, hu, rfl⟩)
  unfold pos; omega
theorem SetP.inj (h : SetP m px) {s t : Nat} (hs : s < px.length) (ht : t < px.length) (e : pos px s = pos px t) : s = t := by
  have e1 := h.eq hs
  have e2 := h.eq ht
  rcases Nat.lt_trichotomy s t with q | q | q
  · have := pw_gt h.asc q ht; omega
  · exact q
  · have := pw_gt h.asc q hs; omega
theorem SetP.mem (h : SetP m px) {j : Nat} : (j : Int) ∈ px ↔ ∃ u, u < px.length ∧ pos px u = j := by
  rw [mem_gt]
  constructor
  · rintro ⟨t, ht, e⟩; exact ⟨t, ht, by rw [h.eq ht] at e; omega⟩
  · rintro ⟨t, ht, e⟩; exact ⟨t, ht, by rw [h.eq ht, e]⟩
theorem pushW_at {p : Nat → Nat} {w : Nat → Int} {u k : Nat} (hi : ∀ s, s < k → p s = p u → s = u) (hu : u < k) : pushW p w k (p u) = w u := by
  unfold pushW
  rw [sumOne (s := u) k hu fun i h e => if_neg fun e2 => e (hi i h e2), if_pos rfl]
theorem pushW_none {p : Nat → Nat} {w : Nat → Int} {k c : Nat} (hn : ∀ u, u < k → p u ≠ c) : pushW p w k c = 0 := by
  unfold pushW
  exact sumZ k fun i h => if_neg (hn i h)
theorem SetP.sum_on (h : SetP m px) {v : Nat → Int} (hs : ∀ j, j < colsM m → v j ≠ 0 → (j : Int) ∈ px) (a : Nat → Int) : sumTo (fun c => a c * v c) (colsM m) = sumTo (fun u => a (pos px u) * v (pos px u)) px.length := by
  rw [← sum_push (pos px) (fun u => v (pos px u)) a (colsM m) px.length fun u hu => h.lt hu]
  refine sumTo_congr _ fun c hc => ?_
  congr 1
  by_cases e : (c : Int) ∈ px
  · obtain ⟨u, hu, rfl⟩ := h.mem.1 e
    exact (pushW_at (w := fun u => v (pos px u)) (fun s hs e => h.inj hs hu e) hu).symm
  · rw [pushW_none fun u hu e2 => e (h.mem.2 ⟨u, hu, e2⟩)]
    exact Classical.byContradiction fun e2 => e (hs c hc e2)
theorem a0_pix {i u : Nat} (hi : i < m.length) (hu : u < px.length) : a0 (pixM px m) i u = a0 m i (pos px u) := by unfold a0 pos; rw [rowL_pixM hi, gt_pixR hu]
theorem SetP.ker_on (h : SetP m px) {v : Nat → Int} (hs : ∀ j, j < colsM m → v j ≠ 0 → (j : Int) ∈ px) : KerF m v ↔ ∀ i, i < m.length → sumTo (fun u => a0 (pixM px m) i u * v (pos px u)) px.length = 0 := by
  unfold KerF
  have e : ∀ i, i < m.length → sumTo (fun c => a0 m i c * v c) (colsM m) = sumTo (fun u => a0 (pixM px m) i u * v (pos px u)) px.length := fun i hi => by
    rw [h.sum_on hs]
    exact sumTo_congr _ fun u hu => by rw [a0_pix hi hu]
  constructor
  · intro a i hi; rw [← e i hi]; exact a i hi
  · intro a i hi; rw [e i hi]; exact a i hi
theorem SetP.put_at (h : SetP m px) {part : List Int} : ∀ k, k ≤ px.length → ∀ u, u < k → gt (putTo (colsM m) px part k) (pos px u) = gt part u
  | 0, _, u, hu => by omega
  | k + 1, hk, u, hu => by
    show gt ((putTo (colsM m) px part k).set (pos px k) (gt part k)) (pos px u) = _
    rw [gt_set (by rw [putTo_len]; exact h.lt (by omega))]
    by_cases e : pos px u = pos px k
    · rw [if_pos e, h.inj (by omega) (by omega) e]
    · rw [if_neg e]
      exact h.put_at k (by omega) u (by
        have : u ≠ k := fun e2 => e (by rw [e2])
        omega)
theorem SetP.put_no (h : SetP m px) {n : Nat} {part : List Int} {j : Nat} (hj : (j : Int) ∉ px) : ∀ k, k ≤ px.length → gt (putTo n px part k) j = 0
  | 0, _ => by
    show gt (List.replicate n 0) j = 0
    unfold gt
    rw [List.getElem?_replicate]
    split <;> rfl
  | k + 1, hk => by
    show gt ((putTo n px part k).set (pos px k) (gt part k)) j = 0
    rw [gt_set_far fun e => hj (h.mem.2 ⟨k, by omega, e⟩)]
    exact h.put_no hj k (by omega)
theorem SetP.put_ker (h : SetP m px) {part : List Int} (hk : ∀ i, i < m.length → sumTo (fun u => a0 (pixM px m) i u * gt part u) px.length = 0) : KerF m (gt (putTo (colsM m) px part px.length)) := by
  rw [h.ker_on fun j _ e => Classical.byContradiction fun e2 => e (h.put_no e2 _ (Nat.le_refl _))]
  intro i hi
  rw [← hk i hi]
  exact sumTo_congr _ fun u hu => by rw [h.put_at _ (Nat.le_refl _) u hu]
theorem gcd_short {v : List Int} (hg : gcdL v ≠ 0) : gcdL (shortL v) = 1 := by
  have h1 : ∀ c, c < v.length → ((gcdL v : Nat) : Int) * ((gcdL (shortL v) : Nat) : Int) ∣ 1 * gt v c := fun c hc => by
    rw [Int.one_mul, gt_short hc]
    exact Int.mul_dvd_mul_left _ (gcdTo_dvd _ _ _ (by rw [short_len]; exact hc))
  have h2 := dvd_gcdTo v _ 1 v.length h1
  rw [Int.one_mul] at h2
  have h3 : (gcdL v * gcdL (shortL v)) ∣ gcdL v := by
    have : ((gcdL v * gcdL (shortL v) : Nat) : Int) ∣ ((gcdL v : Nat) : Int) := by rw [Int.natCast_mul]; exact h2
    exact Int.natCast_dvd_natCast.1 this
  obtain ⟨q, hq⟩ := h3
  rw [Nat.mul_assoc] at hq
  have h4 : gcdL (shortL v) * q = 1 := by
    have : gcdL v * (gcdL (shortL v) * q) = gcdL v * 1 := by omega
    exact Nat.eq_of_mul_eq_mul_left (Nat.pos_of_ne_zero hg) this
  exact Nat.eq_one_of_mul_eq_one_right h4
theorem sign_at {xs : List Int} (hb : ∀ u, u < xs.length → -720 ≤ gt xs u ∧ gt xs u ≤ 720) : ∃ s : Int, (s = 1 ∨ s = -1) ∧ (∀ u, gt (signC xs) u = s * gt xs u) ∧ (gt xs 0 ≠ 0 → 0 < gt (signC xs) 0) := by
  have hn : ∀ u, gt (negL xs) u = -gt xs u := fun u => by
    rw [gt_neg]
    by_cases e : u < xs.length
    · have := hb u e; exact wrap_id (by omega) (by omega)
    · have : gt xs u = 0 := by unfold gt; simp [show xs.length ≤ u by omega]
      rw [this]; rfl
  unfold signC
  split
  · exact ⟨-1, .inr rfl, fun u => by rw [hn]; omega, fun _ => by rw [hn]; omega⟩
  · exact ⟨1, .inl rfl, fun u => by omega, fun _ => by omega⟩
structure CircP (m : List (List Int)) (px : List Int) (c : List Int) : Prop where
  len : c.length = colsM m
  ker : KerF m (gt c)
  supp : ∀ j, j < colsM m → (gt c j ≠ 0 ↔ (j : Int) ∈ px)
  bd : ∀ j, j < colsM m → -720 ≤ gt c j ∧ gt c j ≤ 720
  gcd : gcdL c = 1
  first : 0 < gt c (pos px 0)
  one : ∀ v, KerF m v → (∀ j, j < colsM m → v j ≠ 0 → (j : Int) ∈ px) → ∃ a b : Int, a ≠ 0 ∧ ∀ j, j < colsM m → a * v j = b * gt c j
theorem circP (hv : validM m = true) (hp : SetP m px) (h1 : 1 ≤ px.length) (hc : circB m px = true) : CircP m px (circH m px) := by
  have hm6 := (validM_of hv).2.1
  have h := redN_fin hv hp.ok
  unfold circB at hc
  simp only [Bool.and_eq_true, decide_eq_true_eq, Bool.not_eq_true', decide_eq_false_iff_not] at hc
  obtain ⟨hc1, hc2⟩ := hc
  unfold circH
  unfold partC at hc2 ⊢
  obtain ⟨r, hr⟩ : ∃ r, redN m px = r := ⟨_, rfl⟩
  rw [hr] at h hc1 hc2 ⊢
  obtain ⟨x, hx⟩ := List.length_eq_one_iff.1 hc1
  rw [hx] at hc2 ⊢
  obtain ⟨f, hf, rfl, hn⟩ := (freeTo_mem r.piv px.length x).1 (by rw [hx]; simp)
  have hg0 : gt [(f : Int)] 0 = f := rfl
  rw [hg0, Int.toNat_natCast] at hc2 ⊢
  have hone : ∀ u, u < px.length → (u : Int) ∉ r.piv → u = f := fun u hu hn2 => by
    have : (u : Int) ∈ freeTo r.piv px.length := (freeTo_mem _ _ _).2 ⟨u, hu, rfl, hn2⟩
    rw [hx] at this
    have := List.mem_singleton.1 this
    omega
  have hg := h.kvec_gcd hm6 (Nat.le_refl _) hf hn
  have hkl := kvec_len r px.length f
  obtain ⟨kv, hkv⟩ : ∃ kv, kvec r px.length f = kv := ⟨_, rfl⟩
  have hkk : ∀ i, i < m.length → sumTo (fun u => a0 (pixM px m) i u * gt kv u) px.length = 0 := fun i hi => by rw [← hkv]; exact h.kvec_ker hm6 hf hn i hi
  have hkb : ∀ u, u < px.length → -720 ≤ gt kv u ∧ gt kv u ≤ 720 := fun u hu => by rw [← hkv]; exact h.kvec_bd hm6 (Nat.le_refl _) hf hn hu
  have hgs : ∀ u, u < px.length → gt kv u = ((gcdL kv : Nat) : Int) * gt (shortL kv) u := fun u hu => gt_short (by rw [← hkv, hkl]; exact hu)
  have hkw : ∀ w : Nat → Int, (∀ i, i < m.length → sumTo (fun u => a0 (pixM px m) i u * w u) px.length = 0) → ∀ u, u < px.length → r.dv * w u = gt kv u * w f := by
    intro w hw u hu
    by_cases e : u = f
    · subst e; rw [← hkv, h.kvec_free hm6 (Nat.le_refl _) hf hn]
    · have hm : (u : Int) ∈ r.piv := Classical.byContradiction fun e2 => e (hone u hu e2)
      obtain ⟨t, ht, rfl⟩ := h.mem.1 hm
      have hrow := (h.ker' h.low w).1 hw t ht
      have e0 : ∀ c, c < px.length → c ≠ f → c ≠ pivN r t → gt (rowL r.rows t) c * w c = 0 := fun c hc q1 q2 => by
        have hm2 : (c : Int) ∈ r.piv := Classical.byContradiction fun e2 => q1 (hone c hc e2)
        obtain ⟨s, hs, e3⟩ := h.mem.1 hm2
        have h4 := h.self s t hs ht
        rw [e3, if_neg (fun e5 => q2 (by rw [e5]; exact e3.symm))] at h4
        rw [h4, Int.zero_mul]
      have hs := h.self t t ht ht
      rw [if_pos rfl] at hs
      rw [← hkv, h.kvec_piv hm6 (Nat.le_refl _) hf hn ht]
      rcases Nat.lt_or_ge f (pivN r t) with q | q
      · rw [sumPair q _ hu fun c hc a b => e0 c hc a b, hs] at hrow; grind
      · rw [sumPair (s := pivN r t) (t := f) (by omega) _ hf fun c hc a b => e0 c hc b a, hs] at hrow; grind
  rw [hkv] at hg hc2 hkl
  rw [hkv]
  have hpb : ∀ u, u < (shortL kv).length → -720 ≤ gt (shortL kv) u ∧ gt (shortL kv) u ≤ 720 := fun u hu => by
    rw [short_len, hkl] at hu
    have h2 := hkb u hu
    rw [hgs u hu] at h2
    exact mul_small (by omega) h2
  obtain ⟨s, hs1, hs2, hs3⟩ := sign_at hpb
  have hnz : ∀ u, u < px.length → gt (shortL kv) u ≠ 0 := fun u hu e => hc2 (mem_gt.2 ⟨u, by rw [short_len, hkl]; exact hu, e⟩)
  have hg1 := gcd_short hg
  have hdv := h.pos
  have hsl : (shortL kv).length = px.length := by rw [short_len, hkl]
  obtain ⟨pt, hpt⟩ : ∃ pt, shortL kv = pt := ⟨_, rfl⟩
  rw [hpt] at hs2 hs3 hnz hg1 hpb hgs hsl
  rw [hpt]
  obtain ⟨g, hgg⟩ : ∃ g : Int, ((gcdL kv : Nat) : Int) = g := ⟨_, rfl⟩
  have hg' : g ≠ 0 := by omega
  rw [hgg] at hgs
  have hat : ∀ u, u < px.length → gt (putTo (colsM m) px (signC pt) px.length) (pos px u) = s * gt pt u := fun u hu => by rw [hp.put_at _ (Nat.le_refl _) u hu, hs2]
  have hno : ∀ j : Nat, (j : Int) ∉ px → gt (putTo (colsM m) px (signC pt) px.length) j = 0 := fun j hj => hp.put_no hj _ (Nat.le_refl _)
  have hs0 : s ≠ 0 := by omega
  refine ⟨putTo_len _ _ _ _, hp.put_ker fun i hi => ?_, fun j hj => ⟨fun e => Classical.byContradiction fun e2 => e (hno j e2), fun e => ?_⟩, fun j hj => ?_, ?_, ?_, ?_⟩
  · have e : g * sumTo (fun u => a0 (pixM px m) i u * gt (signC pt) u) px.length = s * sumTo (fun u => a0 (pixM px m) i u * gt kv u) px.length := by
      rw [← sumTo_mul, ← sumTo_mul]
      exact sumTo_congr _ fun u hu => by rw [hs2, hgs u hu]; grind
    rw [hkk i hi, Int.mul_zero] at e
    rcases Int.mul_eq_zero.1 e with e | e
    · exact absurd e hg'
    · exact e
  · obtain ⟨u, hu, rfl⟩ := hp.mem.1 e
    rw [hat u hu]
    exact Int.mul_ne_zero hs0 (hnz u hu)
  · by_cases e : (j : Int) ∈ px
    · obtain ⟨u, hu, rfl⟩ := hp.mem.1 e
      rw [hat u hu]
      have := hpb u (by omega)
      rcases hs1 with rfl | rfl <;> omega
    · rw [hno j e]; omega
  · have hd : ∀ c, c < pt.length → ((gcdL (putTo (colsM m) px (signC pt) px.length) : Nat) : Int) ∣ 1 * gt pt c := fun c hc => by
      have hd := gcdTo_dvd (putTo (colsM m) px (signC pt) px.length) (putTo (colsM m) px (signC pt) px.length).length (pos px c) (by rw [putTo_len]; exact hp.lt (by omega))
      rw [hat c (by omega)] at hd
      rw [Int.one_mul]
      rcases hs1 with rfl | rfl
      · rwa [Int.one_mul] at hd
      · rw [show (-1 : Int) * gt pt c = -gt pt c by omega] at hd
        exact Int.dvd_neg.1 hd
    have h2 := dvd_gcdTo pt _ 1 pt.length hd
    rw [Int.one_mul] at h2
    have h3 : gcdL (putTo (colsM m) px (signC pt) px.length) ∣ gcdL pt := Int.natCast_dvd_natCast.1 h2
    rw [hg1] at h3
    exact Nat.dvd_one.1 h3
  · rw [hp.put_at _ (Nat.le_refl _) 0 (by omega)]
    exact hs3 (hnz 0 (by omega))
  · intro v hk hsup
    have hw := hkw (fun u => v (pos px u)) ((hp.ker_on hsup).1 hk)
    refine ⟨r.dv, g * s * v (pos px f), by omega, fun j hj => ?_⟩
    by_cases e : (j : Int) ∈ px
    · obtain ⟨u, hu, rfl⟩ := hp.mem.1 e
      have := hw u hu
      rw [hat u hu]
      rw [this, hgs u hu]
      rcases hs1 with rfl | rfl <;> grind
    · rw [hno j e, show v j = 0 from Classical.byContradiction fun e2 => e (hsup j hj e2)]; omega
def suppL (m : List (List Int)) (v : Nat → Int) : List Int := ((List.range (colsM m)).filter fun j => v j != 0).map fun (j : Nat) => (j : Int)
theorem suppL_mem {v : Nat → Int} {j : Nat} : (j : Int) ∈ suppL m v ↔ j < colsM m ∧ v j ≠ 0 := by
  unfold suppL
  rw [List.mem_map]
  constructor
  · rintro ⟨k, hk, e⟩
    obtain rfl : k = j := by omega
    rw [List.mem_filter, List.mem_range] at hk
    exact ⟨hk.1, by simpa using hk.2⟩
  · rintro ⟨h1, h2⟩
    exact ⟨j, by rw [List.mem_filter, List.mem_range]; exact ⟨h1, by simpa using h2⟩, rfl⟩
theorem suppL_set (v : Nat → Int) : SetP m (suppL m v) := by
  constructor
  · unfold suppL
    rw [List.pairwise_map]
    refine (List.pairwise_lt_range.filter _).imp fun h => ?_
    omega
  · intro j hj
    unfold suppL at hj
    obtain ⟨k, hk, rfl⟩ := List.mem_map.1 hj
    rw [List.mem_filter, List.mem_range] at hk
    omega
end
end Go.Proofs.YtgbnfhfkehpfaaaGreat
/- IsKernel of both sides: contracts. -/
namespace Go.Proofs.YtgbnfhfkehpfaaaGreat
open Go.RowKit

theorem kerB_err {m : List (List Int)} {h : List Int} (e : validM m = true) (e2 : fitsV h (colsM m) 1000000 ≠ 0) : kerB m h = false := by
  unfold kerB; rw [readV_err e rfl e2]; simp [e2]
theorem kerB_ok {m : List (List Int)} {h : List Int} (e : validM m = true) (e2 : fitsV h (colsM m) 1000000 = 0) : kerB m h = (!allZ h && allZ (readL m h)) := by
  unfold kerB; rw [readV_ok e e2]; simp
set_option maxRecDepth 100000 in
set_option maxHeartbeats 800000 in
theorem liskernel_any (a : Option Addr) (m : List (List Int)) (cap : Nat) (b : Option Addr) (xs : List Int) (cb : Nat) (w : World) (hm : MOk m) (hl : xs.length ≤ 140737488351232) (hs : Ms w a m) (hx : Sl w b xs) :
    Calls Tryz.prog 21 #[.slice a m.length cap, .slice b xs.length cb] w fun e w' => e = .returned (.bool (kerB m xs)) ∧ Below w.heap.size w w' := by
  have HRD := Lib.hid (mread_any a m cap b xs cb w hm (by omega) hs hx)
  have HX := Lib.hid hx
  obtain ⟨r, hr⟩ : ∃ r, readV m xs = r := ⟨_, rfl⟩
  obtain ⟨z, hz⟩ : ∃ z, allZ xs = z := ⟨_, rfl⟩
  have HKB : Hid (kerB m xs = (decide (r.2 = 0) && !z && allZ r.1)) := by show _ = _; unfold kerB; rw [hr, hz]
  have hl1 : r.1.length ≤ 140737488351232 := by
    rw [← hr]
    cases hv : validM m with
    | false => rw [readV_no hv]; simp
    | true =>
      by_cases hf : fitsV xs (colsM m) 1000000 = 0
      · rw [readV_ok hv hf]
        have := (validM_of hv).2.1
        simp [readL]; omega
      · rw [readV_err hv rfl hf]; simp
  rw [hr] at HRD
  have HC1 : Hid (∀ W, Sl W b xs → Calls Tryz.prog 49 #[.slice b xs.length cb, .func (.func 50) #[] #[]] W fun e w' => e = .returned (.bool (!z)) ∧ W = w') := fun W h => by rw [← hz]; exact containsNZ_any b xs cb W hl h
  obtain ⟨ry, rc⟩ := r
  dsimp only at HKB hl1 HRD
  obtain ⟨y, hy⟩ : ∃ y, allZ ry = y := ⟨_, rfl⟩
  rw [hy] at HKB
  have HC2 : Hid (∀ (W : World) (c : Option Addr) (cc : Nat), Sl W c ry → Calls Tryz.prog 49 #[.slice c ry.length cc, .func (.func 50) #[] #[]] W fun e w' => e = .returned (.bool (!y)) ∧ W = w') := fun W c cc h => by rw [← hy]; exact containsNZ_any c ry cc W hl1 h
  obtain ⟨q, hq⟩ : ∃ q, decide (rc = 0) = q := ⟨_, rfl⟩
  rw [hq] at HKB
  have hq2 : (rc == 0) = q := by rw [← hq]; rfl
  clear hs hx hm hr hz hy
  rw [HKB.out]
  cases q <;> cases z <;> cases y
  all_goals
    go_enter Tryz.func21, Tryz.ntmps21
    go_wp2_with (first | (go_at_call 11; refine HRD.out.mono ?_; rintro e w1 ⟨hb1, ra, rcp, rfl, hry⟩; have HB1 := Lib.hid hb1; have HRY := Lib.hid hry; clear hb1 hry) | (go_at_call 49; refine (HC1.out w1 (HX.out.below HB1.out)).mono ?_; rintro e w2 ⟨rfl, rfl⟩) | (go_at_call 49; refine (HC2.out w1 ra rcp HRY.out).mono ?_; rintro e w3 ⟨rfl, rfl⟩))
    go_ret
    exact ⟨rfl, HB1.out⟩
end Go.Proofs.YtgbnfhfkehpfaaaGreat
/- What slices.AppendSeq keeps between two values (lists of ints in memory that the iterator made). Speaks of no function. -/
namespace Go.Proofs.YtgbnfhfkehpfaaaGreat
open Go.RowKit

def hdS (x : SetV) : Option Addr × Nat := (some ⟨x.1, 0, none⟩, x.2.length)
structure AppI (w : World) (v : Value) (pre : List SetV) (C T : Blk) (W : World) : Prop where
  r : W.cell? ⟨w.heap.size, 0, none⟩ = some v
  fr : W.frozen? ⟨w.heap.size, 0, none⟩ = false
  bw : Below w.heap.size w W
  nt : ∀ b, b < w.heap.size + 1 → ¬ T b
  nv : ∀ g, v.ownBlock = some g → ¬ T g
  cc : ∀ b, C b ↔ b = w.heap.size ∨ v.ownBlock = some b ∨ ∃ x ∈ pre, b = x.1
  own : HR (w.heap.size + 1) v (pre.map hdS) (pre.map Prod.snd) W
  mem : ∀ x ∈ pre, MemS x W ∧ ¬ T x.1 ∧ w.heap.size + 1 ≤ x.1
theorem AppI.keep {w : World} {v : Value} {pre : List SetV} {C T T' : Blk} {W W' : World} (h : AppI w v pre C T W) (ht : Turned T W W') (hT : ∀ b, T' b → T b ∨ W.heap.size ≤ b) : AppI w v pre C T' W' := by
  have l0 := cell_lt h.r
  dsimp only at l0
  have hnt : ∀ b, b < w.heap.size + 1 → ¬ T' b := fun b hb e => (hT b e).elim (h.nt b hb) (by omega)
  have hmem : ∀ x ∈ pre, MemS x W' ∧ ¬ T' x.1 ∧ w.heap.size + 1 ≤ x.1 := fun x hx => by
    obtain ⟨m1, m2, m3⟩ := h.mem x hx
    exact ⟨memS_turned m1 ht m2, fun e => (hT _ e).elim m2 (by have := (OwnI.lt m1).1; omega), m3⟩
  refine ⟨ht.cell h.r (h.nt _ (by show w.heap.size < _; omega)), (ht.frozen l0 (h.nt _ (by show w.heap.size < _; omega))).trans h.fr, h.bw.trans (ht.below h.bw.size fun b hb => h.nt b (by omega)), hnt, fun g hg e => (hT g e).elim (h.nv g hg) (by have := (World.ownsRow.lt h.own.own g hg).2; omega), h.cc, ?_, hmem⟩
  refine ⟨h.own.len, row_same h.own.own fun b e => ht.same b (World.ownsRow.lt h.own.own b e).2 (h.nv b e), fun i x r e1 e2 => ?_, fun i x e ad ea => ⟨Nat.lt_of_lt_of_le (h.own.out i x e ad ea).1 ht.size, (h.own.out i x e ad ea).2⟩⟩
  rw [List.getElem?_map] at e1 e2
  obtain ⟨y, hy, rfl⟩ := Option.map_eq_some_iff.1 e1
  rw [hy] at e2
  cases e2
  exact OwnI.sl (hmem y (List.mem_of_getElem? hy)).1
theorem AppI.client {w : World} : Client fun pre C T W => ∃ v, AppI w v pre C T W where
  lt := by
    rintro pre C T W ⟨v, h⟩ b hb
    rcases (h.cc b).1 hb with rfl | e | ⟨x, hx, rfl⟩
    · exact ⟨cell_lt h.r, h.nt _ (by omega)⟩
    · exact ⟨(World.ownsRow.lt h.own.own b e).2, h.nv b e⟩
    · exact ⟨(OwnI.lt (h.mem x hx).1).1, (h.mem x hx).2.1⟩
  keep := fun ⟨v, h⟩ ht hT => ⟨v, h.keep ht hT⟩
theorem AppI.ms {w : World} {v : Value} {pre : List SetV} {C T : Blk} {W : World} (h : AppI w v pre C T W) : ∃ a c, v = .slice a (pre.map Prod.snd).length c ∧ Ms W a (pre.map Prod.snd) := h.own.ms
theorem AppI.box2 {w : World} {v : Value} {pre : List SetV} {C T : Blk} {V W2 : World} {o : Obj} (h : AppI w v pre C T V) (h2 : (V.alloc o).grownBy W2 v.ownBlock) : W2.cell? ⟨w.heap.size, 0, none⟩ = some v ∧ W2.frozen? ⟨w.heap.size, 0, none⟩ = false := by
  have l0 : w.heap.size < V.heap.size := cell_lt h.r
  have hbV : Below V.heap.size V (V.alloc o) := (Below.refl _ _).alloc (Nat.le_refl _) _
  have hbox : v.ownBlock ≠ some w.heap.size := fun e => by have := (World.ownsRow.lt h.own.own _ e).1; omega
  have blk : W2.heap[w.heap.size]? = V.heap[w.heap.size]? := (h2.block _ (by rw [World.size_alloc]; omega) (Ne.symm hbox)).trans (hbV.block _ l0)
  exact ⟨(World.cell?_of_block (a := ⟨w.heap.size, 0, none⟩) blk).trans h.r, (World.frozen?_of_block (a := ⟨w.heap.size, 0, none⟩) blk).trans h.fr⟩
theorem AppI.push {w : World} {v : Value} {pre : List SetV} {C T : Blk} {V W2 : World} {x : SetV} {g cap : Nat} {t : TypeId} (h : AppI w v pre C T V) (hx : MemS x V) (hT : T x.1)
    (h1 : W2.ownsRow (w.heap.size + 1) 22 1 (.slice (some ⟨g, 0, none⟩) (pre.length + 1) cap) (pre.length + 1) (hdO (pre.map hdS) (pre.map Prod.snd) ++ [.slice (some ⟨x.1, 0, none⟩) x.2.length x.2.length]))
    (h2 : (V.alloc (.cells #[.slice (some ⟨x.1, 0, none⟩) x.2.length x.2.length] t)).grownBy W2 v.ownBlock) (h3 : v.ownBlock = some g ∨ g = V.heap.size + 1) (hg : g < W2.heap.size) :
    Went (fun pre C T W => ∃ v, AppI w v pre C T W) (fun y b => b = y.1) pre x C T V (W2.setCell ⟨w.heap.size, 0, none⟩ (.slice (some ⟨g, 0, none⟩) (pre.length + 1) cap)) := by
  obtain ⟨V1, hV1⟩ : ∃ V1, V.alloc (.cells #[.slice (some ⟨x.1, 0, none⟩) x.2.length x.2.length] t) = V1 := ⟨_, rfl⟩
  have hV1s : V1.heap.size = V.heap.size + 1 := by rw [← hV1]; exact World.size_alloc _ _
  have hbV : Below V.heap.size V V1 := by rw [← hV1]; exact (Below.refl _ _).alloc (Nat.le_refl _) _
  rw [hV1] at h2
  have l0 : w.heap.size < V.heap.size := cell_lt h.r
  have hxl : x.1 < V.heap.size := (OwnI.lt hx).1
  have hxw : w.heap.size + 1 ≤ x.1 := Nat.le_of_not_lt fun e => h.nt _ e hT
  have hxv : v.ownBlock ≠ some x.1 := fun e => h.nv _ e hT
  have hgw : w.heap.size + 1 ≤ g := by
    rcases h3 with e | e
    · exact (World.ownsRow.lt h.own.own g e).1
    · omega
  have hxg : x.1 ≠ g := by
    rcases h3 with e | e
    · intro e2; exact hxv (by rw [e, e2])
    · omega
  have hvg : ∀ b, v.ownBlock = some b → b = g ∨ g = V.heap.size + 1 := fun b e => by
    rcases h3 with e2 | e2
    · rw [e] at e2; exact .inl (by cases e2; rfl)
    · exact .inr e2
  have h' := h.keep (turned_below hbV) (fun b e => Or.inl e)
  have hx' : MemS x V1 := OwnI.below hx hbV
  have hr := h'.own.push (row := x.2) (a := some ⟨x.1, 0, none⟩) (c := x.2.length) (g := g) (cap := cap) (OwnI.sl hx') (fun ad e => by cases e; exact ⟨by show x.1 < _; omega, hxv⟩) (by rw [List.length_map]; exact h1) h2 (by rw [hV1s]; exact h3)
  rw [List.length_map] at hr
  have blk : ∀ b, b < V1.heap.size → v.ownBlock ≠ some b → W2.heap[b]? = V1.heap[b]? := fun b hb hn => h2.block b hb (Ne.symm hn)
  have hbox : v.ownBlock ≠ some w.heap.size := fun e => by have := (World.ownsRow.lt h.own.own _ e).1; omega
  have memK : ∀ y : SetV, MemS y V → v.ownBlock ≠ some y.1 → w.heap.size + 1 ≤ y.1 → MemS y (W2.setCell ⟨w.heap.size, 0, none⟩ (.slice (some ⟨g, 0, none⟩) (pre.length + 1) cap)) := fun y hy hn hw => by
    have l := (OwnI.lt hy).1
    refine OwnI.sameBlock (OwnI.below hy hbV) ?_
    exact (Below.heap_setCell _ _ _ _ (by show y.1 ≠ w.heap.size; omega)).trans (blk _ (by omega) hn)
  have own' : ∀ y ∈ pre, v.ownBlock ≠ some y.1 := fun y hy e => by
    obtain ⟨i, hi, rfl⟩ := List.mem_iff_getElem.1 hy
    exact (h.own.out i (hdS pre[i]) (by simp [hi]) ⟨pre[i].1, 0, none⟩ rfl).2 e
  have hsz : V1.heap.size ≤ W2.heap.size := h2.size
  refine ⟨fun b => b = w.heap.size ∨ b = g ∨ ∃ y ∈ pre ++ [x], b = y.1, fun b => T b ∧ b ≠ x.1 ∧ b ≠ g, ⟨.slice (some ⟨g, 0, none⟩) (pre.length + 1) cap, ?_⟩, ?_, ?_, ?_⟩
  · refine ⟨?_, ?_, ?_, fun b hb e => h.nt b hb e.1, fun q hq e => ?_, fun b => ?_, ?_, fun y hy => ?_⟩
    · exact World.cell?_setCell_same _ _ _ ((World.cell?_of_block (blk _ (by show w.heap.size < _; omega) hbox)).trans h'.r)
    · have := (World.frozen?_of_block (a := ⟨w.heap.size, 0, none⟩) (blk _ (by show w.heap.size < _; omega) hbox)).trans h'.fr
      simpa using this
    · exact (h'.bw.grown h2 (by omega) (fun k e => by have := (World.ownsRow.lt h.own.own k e).1; omega)).setCell (p := ⟨w.heap.size, 0, none⟩) (Nat.le_refl _) _
    · simp [Value.ownBlock] at hq
      exact e.2.2 hq.symm
    · simp [Value.ownBlock, eq_comm]
    · have e1 : (pre ++ [x]).map hdS = pre.map hdS ++ [(some ⟨x.1, 0, none⟩, x.2.length)] := by simp [hdS]
      have e2 : (pre ++ [x]).map Prod.snd = pre.map Prod.snd ++ [x.2] := by simp
      rw [e1, e2]
      refine hr.far ?_ (fun i y hy ad ea => ?_) _
      · intro e; simp [Value.ownBlock] at e; omega
      · rcases get_snoc hy with hy | ⟨_, rfl⟩
        · rw [List.getElem?_map] at hy
          obtain ⟨z, hz, rfl⟩ := Option.map_eq_some_iff.1 hy
          have := (h.mem z (List.mem_of_getElem? hz)).2.2
          cases ea
          show z.1 ≠ w.heap.size
          omega
        · cases ea
          show x.1 ≠ w.heap.size
          omega
    · rcases List.mem_append.1 hy with hy | hy
      · obtain ⟨m1, m2, m3⟩ := h.mem y hy
        exact ⟨memK y m1 (own' y hy) m3, fun e => m2 e.1, m3⟩
      · obtain rfl : y = x := List.mem_singleton.1 hy
        exact ⟨memK y hx hxv hxw, fun e => e.2.1 rfl, hxw⟩
  · rintro b hb hl hn
    refine ⟨hb, hn, fun e => ?_⟩
    subst e
    rcases h3 with e | e
    · exact h.nv _ e hb
    · omega
  · rintro b (rfl | rfl | ⟨y, hy, rfl⟩)
    · exact .inl ((h.cc _).2 (.inl rfl))
    · rcases h3 with e | e
      · exact .inl ((h.cc _).2 (.inr (.inl e)))
      · exact .inr (.inr (by omega))
    · rcases List.mem_append.1 hy with hy | hy
      · exact .inl ((h.cc _).2 (.inr (.inr ⟨y, hy, rfl⟩)))
      · obtain rfl : y = x := List.mem_singleton.1 hy
        exact .inr (.inl rfl)
  · refine ((turned_below hbV).trans (turned_grown (T := fun b => C b ∨ b = x.1) h2 fun r e => .inl ((h.cc r).2 (.inr (.inl e)))) fun b e => .inl e).trans (turned_set _ _ (.inl ((h.cc _).2 (.inl rfl)))) fun b e => .inl e
end Go.Proofs.YtgbnfhfkehpfaaaGreat
/- slices.AppendSeq over lists of ints: the contract. -/
namespace Go.Proofs.YtgbnfhfkehpfaaaGreat
open Go.RowKit Go.Shelf
attribute [local go_sem] Oper.semAt_some

theorem AppI.start (w : World) : AppI w (.slice none 0 0) [] (fun b => b = w.heap.size) (fun _ => False) (w.alloc (.cells #[.slice none 0 0] 25)) := by
  refine ⟨alloc_cell _ _ _ _ _ rfl, by simp, (Below.refl _ _).alloc (Nat.le_refl _) _, fun _ _ e => e, fun _ h => (own_none h).elim, fun b => ?_, HR.nil _ _, fun x hx => by cases hx⟩
  simp [Value.ownBlock]
end Go.Proofs.YtgbnfhfkehpfaaaGreat
/- slices.Collect over lists of ints; Circuits of layer 3: contracts. -/
namespace Go.Proofs.YtgbnfhfkehpfaaaGreat
open Go.RowKit Go.Shelf

theorem len_small : ∀ n, n ≤ 10 → ∀ r, r ≤ 11 → (compl n r 0).length ≤ 300 := by decide +kernel
end Go.Proofs.YtgbnfhfkehpfaaaGreat
/- All circuits, the first one, and what depends on itself: by least supports. Plain words. Speaks of no program. -/
namespace Go.Proofs.YtgbnfhfkehpfaaaGreat
open Go.RowKit

theorem pw_len : ∀ (s : List Int) (b n : Nat), b ≤ n → s.Pairwise (· < ·) → (∀ j ∈ s, (b : Int) ≤ j ∧ j < n) → s.length + b ≤ n
  | [], b, n, hb, _, _ => by simpa using hb
  | x :: t, b, n, hb, hp, hj => by
    have h1 := hj x List.mem_cons_self
    rw [List.pairwise_cons] at hp
    have := pw_len t (x.toNat + 1) n (by omega) hp.2 fun j h => by
      have := hp.1 j h
      have := hj j (List.mem_cons_of_mem _ h)
      omega
    rw [List.length_cons]; omega
theorem compl_of : ∀ (s : List Int) (b n : Nat), s.Pairwise (· < ·) → (∀ j ∈ s, (b : Int) ≤ j ∧ j < n) → s ∈ compl n s.length b
  | [], b, n, _, _ => by simp [compl]
  | x :: t, b, n, hp, hj => by
    have h1 := hj x List.mem_cons_self
    rw [List.pairwise_cons] at hp
    have ht : ∀ j ∈ t, ((x.toNat + 1 : Nat) : Int) ≤ j ∧ j < n := fun j h => by
      have := hp.1 j h
      have := hj j (List.mem_cons_of_mem _ h)
      omega
    have hl := pw_len t (x.toNat + 1) n (by omega) hp.2 ht
    have ih := compl_of t (x.toNat + 1) n hp.2 ht
    rw [List.length_cons]
    unfold compl
    refine List.mem_flatMap.2 ⟨x.toNat - b, List.mem_range.2 (by omega), List.mem_map.2 ⟨t, ?_, ?_⟩⟩
    · rw [show b + (x.toNat - b) + 1 = x.toNat + 1 by omega]; exact ih
    · rw [show ((b + (x.toNat - b) : Nat) : Int) = x by omega]
theorem compl_asc {n : Nat} : ∀ {r b : Nat} {s : List Int}, s ∈ compl n r b → s.Pairwise (· < ·)
  | 0, b, s, h => by
    have : s = [] := by simpa [compl] using h
    subst this; exact List.Pairwise.nil
  | r + 1, b, s, h => by
    unfold compl at h
    obtain ⟨d, _, h2⟩ := List.mem_flatMap.1 h
    obtain ⟨t, ht, rfl⟩ := List.mem_map.1 h2
    rw [List.pairwise_cons]
    exact ⟨fun j hj => by have := (compl_mem ht).2 j hj; omega, compl_asc ht⟩
theorem pw_ext : ∀ {a b : List Int}, a.Pairwise (· < ·) → b.Pairwise (· < ·) → (∀ x, x ∈ a ↔ x ∈ b) → a = b
  | [], [], _, _, _ => rfl
  | [], y :: b, _, _, h => by have := (h y).2 List.mem_cons_self; cases this
  | x :: a, [], _, _, h => by have := (h x).1 List.mem_cons_self; cases this
  | x :: a, y :: b, ha, hb, h => by
    rw [List.pairwise_cons] at ha hb
    have e : x = y := by
      rcases List.mem_cons.1 ((h x).1 List.mem_cons_self) with e | e
      · exact e
      · rcases List.mem_cons.1 ((h y).2 List.mem_cons_self) with e2 | e2
        · exact e2.symm
        · have := hb.1 x e; have := ha.1 y e2; omega
    subst e
    congr 1
    refine pw_ext ha.2 hb.2 fun z => ⟨fun hz => ?_, fun hz => ?_⟩
    · rcases List.mem_cons.1 ((h z).1 (List.mem_cons_of_mem _ hz)) with e | e
      · have := ha.1 z hz; omega
      · exact e
    · rcases List.mem_cons.1 ((h z).2 (List.mem_cons_of_mem _ hz)) with e | e
      · have := hb.1 z hz; omega
      · exact e
section
variable {m : List (List Int)}
theorem compl_set {r : Nat} {s : List Int} (h : s ∈ compl (colsM m) r 0) : SetP m s := ⟨compl_asc h, fun j hj => by have := (compl_mem h).2 j hj; omega⟩
theorem SetP.compl {s : List Int} (h : SetP m s) : s ∈ compl (colsM m) s.length 0 := compl_of s 0 _ h.asc fun j hj => by have := h.ok j hj; omega
theorem circsTo_mem {k : Nat} {c : List Int} : c ∈ circsTo m k ↔ ∃ S, SetP m S ∧ 1 ≤ S.length ∧ S.length ≤ k ∧ circB m S = true ∧ c = circH m S := by
  unfold circsTo
  rw [List.mem_flatMap]
  constructor
  · rintro ⟨f, hf, h2⟩
    obtain ⟨S, hS, rfl⟩ := List.mem_map.1 h2
    rw [List.mem_filter] at hS
    have hl := (compl_mem hS.1).1
    have := List.mem_range.1 hf
    exact ⟨S, compl_set hS.1, by omega, by omega, hS.2, rfl⟩
  · rintro ⟨S, h1, h2, h3, h4, rfl⟩
    refine ⟨S.length - 1, List.mem_range.2 (by omega), List.mem_map.2 ⟨S, List.mem_filter.2 ⟨?_, h4⟩, rfl⟩⟩
    rw [show S.length - 1 + 1 = S.length by omega]
    exact h1.compl
theorem circsAll_mem (hv : validM m = true) {c : List Int} : c ∈ circsAll m ↔ ∃ S, SetP m S ∧ 1 ≤ S.length ∧ circB m S = true ∧ c = circH m S := by
  unfold circsAll
  rw [circsTo_mem]
  constructor
  · rintro ⟨S, h1, h2, _, h4, h5⟩; exact ⟨S, h1, h2, h4, h5⟩
  · rintro ⟨S, h1, h2, h4, h5⟩; exact ⟨S, h1, h2, circ_small hv h1.ok h4, h4, h5⟩
theorem nzTo_filter (xs : List Int) : ∀ k, nzTo xs k = (((List.range k).filter fun j => gt xs j != 0).length : Int)
  | 0 => rfl
  | k + 1 => by
    rw [List.range_succ, List.filter_append, List.length_append, nzTo, nzTo_filter xs k]
    by_cases e : gt xs k = 0
    · rw [if_pos e]; simp [e]
    · rw [if_neg e]; simp [e]
theorem CircP.supp_eq {S c : List Int} (hS : SetP m S) (h : CircP m S c) : suppL m (gt c) = S := by
  refine pw_ext (suppL_set _).asc hS.asc fun x => ⟨fun hx => ?_, fun hx => ?_⟩
  · have := (suppL_set (m := m) (gt c)).ok x hx
    obtain ⟨y, rfl⟩ : ∃ y : Nat, x = (y : Int) := ⟨x.toNat, by omega⟩
    have := suppL_mem.1 hx
    exact (h.supp y this.1).1 this.2
  · have := hS.ok x hx
    obtain ⟨y, rfl⟩ : ∃ y : Nat, x = (y : Int) := ⟨x.toNat, by omega⟩
    exact suppL_mem.2 ⟨by omega, (h.supp y (by omega)).2 hx⟩
theorem CircP.size {S c : List Int} (hS : SetP m S) (h : CircP m S c) : nzTo c c.length = S.length := by
  rw [nzTo_filter, h.len]
  have := congrArg List.length (h.supp_eq hS)
  unfold suppL at this
  rw [List.length_map] at this
  rw [this]
theorem kerB_iff (hv : validM m = true) {h : List Int} : kerB m h = true ↔ (h.length = colsM m ∧ allB 1000000 h = true) ∧ allZ h = false ∧ KerF m (gt h) := by
  by_cases hf : fitsV h (colsM m) 1000000 = 0
  · have hlen : h.length = colsM m ∧ allB 1000000 h = true := by
      unfold fitsV at hf
      split at hf
      · rename_i e
        split at hf
        · rename_i e2; exact ⟨by omega, e2⟩
        · cases hf
      · cases hf
    rw [kerB_ok hv hf]
    simp only [Bool.and_eq_true, Bool.not_eq_true']
    have hrow : ∀ i, i < m.length → gt (readL m h) i = sumTo (fun c => a0 m i c * gt h c) (colsM m) := fun i hi => by
      have e : gt (readL m h) i = dot (rowL m i) h := by unfold readL gt rowL; simp [hi]
      rw [e]
      unfold dot
      rw [((validM_of hv).2.2.2.2 _ (rowL_mem hi)).1]
      rfl
    constructor
    · rintro ⟨h1, h2⟩
      exact ⟨hlen, h1, fun i hi => by rw [← hrow i hi]; exact allZ_gt h2 (by simpa [readL] using hi)⟩
    · rintro ⟨_, h1, h2⟩
      exact ⟨h1, allZ_all fun i hi => by
        have hi : i < m.length := by simpa [readL] using hi
        rw [hrow i hi]; exact h2 i hi⟩
  · rw [kerB_err hv hf]
    constructor
    · intro e; cases e
    · rintro ⟨⟨h1, h2⟩, _⟩
      exact absurd (by unfold fitsV; rw [if_pos (by omega), if_pos h2]) hf
theorem CircP.kerB (hv : validM m = true) {S c : List Int} (hS : SetP m S) (h1 : 1 ≤ S.length) (h : CircP m S c) : kerB m c = true := by
  rw [kerB_iff hv]
  refine ⟨⟨h.len, allB_all fun j hj => ?_⟩, ?_, h.ker⟩
  · have := h.bd j (by rw [← h.len]; exact hj); omega
  · cases hz : allZ c with
    | false => rfl
    | true =>
      have := allZ_gt hz (c := pos S 0) (by rw [h.len]; exact hS.lt (by omega))
      have := h.first; omega
end
end Go.Proofs.YtgbnfhfkehpfaaaGreat
/- Sets of a size, one after the other: the next one by its last number that can grow. Plain words. Speaks of no program. -/
namespace Go.Proofs.YtgbnfhfkehpfaaaGreat
open Go.RowKit

def upFrom (a : Int) : Nat → List Int
  | 0 => []
  | k + 1 => a :: upFrom (a + 1) k
theorem upFrom_len (a : Int) : ∀ k, (upFrom a k).length = k
  | 0 => rfl
  | k + 1 => by show (upFrom (a + 1) k).length + 1 = k + 1; rw [upFrom_len]
theorem upFrom_gt : ∀ (k j : Nat) (a : Int), j < k → gt (upFrom a k) j = a + j
  | 0, j, a, h => by omega
  | k + 1, 0, a, h => by show a = a + (0 : Nat); omega
  | k + 1, j + 1, a, h => by
    show gt (upFrom (a + 1) k) j = a + (j + 1 : Nat)
    rw [upFrom_gt k j (a + 1) (by omega)]; omega
def nextS (n : Nat) : List Int → Option (List Int)
  | [] => none
  | x :: t => match nextS n t with
    | some t' => some (x :: t')
    | none => if x + 1 + t.length < n then some (upFrom (x + 1) (t.length + 1)) else none
theorem nextS_some {n : Nat} {x : Int} {t t' : List Int} (h : nextS n t = some t') : nextS n (x :: t) = some (x :: t') := by unfold nextS; rw [h]
theorem nextS_none {n : Nat} {x : Int} {t : List Int} (h : nextS n t = none) : nextS n (x :: t) = if x + 1 + t.length < n then some (upFrom (x + 1) (t.length + 1)) else none := by
  conv => lhs; unfold nextS
  rw [h]
def RunS (n : Nat) (L : List (List Int)) : Prop := (∀ i, i + 1 < L.length → nextS n (rowL L i) = some (rowL L (i + 1))) ∧ nextS n (rowL L (L.length - 1)) = none
theorem compl_head_is {n : Nat} : ∀ (r b : Nat), r + b ≤ n → (compl n r b).length ≠ 0 ∧ rowL (compl n r b) 0 = upFrom b r
  | 0, b, _ => by simp [compl, rowL, upFrom]
  | r + 1, b, h => by
    obtain ⟨k, hk⟩ : ∃ k, n - r - b = k + 1 := ⟨n - r - b - 1, by omega⟩
    obtain ⟨h1, h2⟩ := compl_head_is (n := n) r (b + 0 + 1) (by omega)
    have e : compl n (r + 1) b = ((compl n r (b + 0 + 1)).map fun s => ((b + 0 : Nat) : Int) :: s) ++ ((List.range k).flatMap fun d => (compl n r (b + (d + 1) + 1)).map fun s => ((b + (d + 1) : Nat) : Int) :: s) := by
      show ((List.range (n - r - b)).flatMap fun d => (compl n r (b + d + 1)).map fun s => ((b + d : Nat) : Int) :: s) = _
      rw [hk, List.range_succ_eq_map, List.flatMap_cons, flatMap_map']
    match hl : compl n r (b + 0 + 1) with
    | [] => rw [hl] at h1; exact absurd rfl h1
    | s :: L =>
      rw [hl] at e h2
      rw [e]
      have h2 : s = upFrom ((b + 0 + 1 : Nat) : Int) r := h2
      subst h2
      exact ⟨by simp, by show ((b + 0 : Nat) : Int) :: upFrom ((b + 0 + 1 : Nat) : Int) r = (b : Int) :: upFrom ((b : Int) + 1) r; simp⟩
theorem rowL_app1 {A B : List (List Int)} {i : Nat} (h : i < A.length) : rowL (A ++ B) i = rowL A i := by unfold rowL; rw [List.getElem?_append_left h]
theorem rowL_app2 {A B : List (List Int)} {i : Nat} (h : A.length ≤ i) : rowL (A ++ B) i = rowL B (i - A.length) := by unfold rowL; rw [List.getElem?_append_right h]
theorem rowL_mapS {A : List (List Int)} {f : List Int → List Int} {i : Nat} (h : i < A.length) : rowL (A.map f) i = f (rowL A i) := by unfold rowL; simp [h]
theorem RunS.join {n : Nat} {A B : List (List Int)} (hA : ∀ i, i + 1 < A.length → nextS n (rowL A i) = some (rowL A (i + 1))) (_ha : A.length ≠ 0) (hB : RunS n B) (hb : B.length ≠ 0) (hl : nextS n (rowL A (A.length - 1)) = some (rowL B 0)) : RunS n (A ++ B) := by
  constructor
  · intro i hi
    rw [List.length_append] at hi
    by_cases h1 : i + 1 < A.length
    · rw [rowL_app1 (by omega), rowL_app1 h1]; exact hA i h1
    · by_cases h2 : i < A.length
      · obtain rfl : i = A.length - 1 := by omega
        rw [rowL_app1 h2, rowL_app2 (by omega), hl, show A.length - 1 + 1 - A.length = 0 by omega]
      · rw [rowL_app2 (by omega), rowL_app2 (by omega), show i + 1 - A.length = (i - A.length) + 1 by omega]
        exact hB.1 _ (by omega)
  · rw [List.length_append, rowL_app2 (by omega), show A.length + B.length - 1 - A.length = B.length - 1 by omega]
    exact hB.2
theorem compl_run {n : Nat} : ∀ (r b : Nat), r + b ≤ n → RunS n (compl n r b)
  | 0, b, _ => ⟨fun i h => by simp [compl] at h, rfl⟩
  | r + 1, b, h => by
    have seg : ∀ d, r + (b + d + 1) ≤ n → (∀ i, i + 1 < ((compl n r (b + d + 1)).map fun s => ((b + d : Nat) : Int) :: s).length → nextS n (rowL ((compl n r (b + d + 1)).map fun s => ((b + d : Nat) : Int) :: s) i) = some (rowL ((compl n r (b + d + 1)).map fun s => ((b + d : Nat) : Int) :: s) (i + 1))) ∧ nextS n (rowL ((compl n r (b + d + 1)).map fun s => ((b + d : Nat) : Int) :: s) (((compl n r (b + d + 1)).map fun s => ((b + d : Nat) : Int) :: s).length - 1)) = if ((b + d : Nat) : Int) + 1 + r < n then some (upFrom (((b + d : Nat) : Int) + 1) (r + 1)) else none := fun d hd => by
      have ih := compl_run r (b + d + 1) hd
      have hne := (compl_head_is r (b + d + 1) hd).1
      constructor
      · intro i hi
        rw [List.length_map] at hi
        rw [rowL_mapS (by omega), rowL_mapS hi]
        exact nextS_some (ih.1 i hi)
      · rw [List.length_map, rowL_mapS (by omega), nextS_none ih.2]
        have hl : (rowL (compl n r (b + d + 1)) ((compl n r (b + d + 1)).length - 1)).length = r := (compl_mem (rowL_mem (show (compl n r (b + d + 1)).length - 1 < _ by omega))).1
        rw [hl]
    have key : ∀ k d, k + d = n - r - b → 1 ≤ k → RunS n ((List.range k).flatMap fun e => (compl n r (b + (d + e) + 1)).map fun s => ((b + (d + e) : Nat) : Int) :: s) ∧ rowL ((List.range k).flatMap fun e => (compl n r (b + (d + e) + 1)).map fun s => ((b + (d + e) : Nat) : Int) :: s) 0 = upFrom ((b + d : Nat) : Int) (r + 1) ∧ ((List.range k).flatMap fun e => (compl n r (b + (d + e) + 1)).map fun s => ((b + (d + e) : Nat) : Int) :: s).length ≠ 0 := by
      intro k
      induction k with
      | zero => intro d _ h1; omega
      | succ k ih =>
        intro d hd _
        obtain ⟨s1, s2⟩ := seg d (by omega)
        obtain ⟨h1, h2⟩ := compl_head_is (n := n) r (b + d + 1) (by omega)
        have e0 : ((List.range (k + 1)).flatMap fun e => (compl n r (b + (d + e) + 1)).map fun s => ((b + (d + e) : Nat) : Int) :: s) = ((compl n r (b + d + 1)).map fun s => ((b + d : Nat) : Int) :: s) ++ ((List.range k).flatMap fun e => (compl n r (b + (d + 1 + e) + 1)).map fun s => ((b + (d + 1 + e) : Nat) : Int) :: s) := by
          rw [List.range_succ_eq_map, List.flatMap_cons, flatMap_map', Nat.add_zero]
          congr 1
          exact flatMap_congr' fun e _ => by rw [show d + e.succ = d + 1 + e by omega]
        rw [e0]
        have hal : ((compl n r (b + d + 1)).map fun s => ((b + d : Nat) : Int) :: s).length ≠ 0 := by rw [List.length_map]; exact h1
        have hhead : rowL ((compl n r (b + d + 1)).map fun s => ((b + d : Nat) : Int) :: s) 0 = upFrom ((b + d : Nat) : Int) (r + 1) := by
          rw [rowL_mapS (by omega), h2]
          show ((b + d : Nat) : Int) :: upFrom ((b + d + 1 : Nat) : Int) r = ((b + d : Nat) : Int) :: upFrom (((b + d : Nat) : Int) + 1) r
          rw [show ((b + d + 1 : Nat) : Int) = ((b + d : Nat) : Int) + 1 by omega]
        by_cases hk : k = 0
        · subst hk
          rw [if_neg (by omega)] at s2
          rw [show (List.range 0).flatMap (fun e => (compl n r (b + (d + 1 + e) + 1)).map fun s => ((b + (d + 1 + e) : Nat) : Int) :: s) = [] from rfl, List.append_nil]
          exact ⟨⟨s1, s2⟩, hhead, hal⟩
        · obtain ⟨i1, i2, i3⟩ := ih (d + 1) (by omega) (by omega)
          rw [if_pos (by omega)] at s2
          refine ⟨RunS.join s1 hal i1 i3 ?_, ?_, by rw [List.length_append]; omega⟩
          · rw [s2, i2, show ((b + (d + 1) : Nat) : Int) = ((b + d : Nat) : Int) + 1 by omega]
          · rw [rowL_app1 (by omega)]; exact hhead
    have := (key (n - r - b) 0 (by omega) (by omega)).1
    have e : compl n (r + 1) b = (List.range (n - r - b)).flatMap fun e => (compl n r (b + (0 + e) + 1)).map fun s => ((b + (0 + e) : Nat) : Int) :: s := by
      show ((List.range (n - r - b)).flatMap fun d => (compl n r (b + d + 1)).map fun s => ((b + d : Nat) : Int) :: s) = _
      exact flatMap_congr' fun d _ => by rw [Nat.zero_add]
    rw [e]; exact this
theorem nextS_last {n : Nat} : ∀ (s : List Int), (∀ j, j < s.length → gt s j = (n : Int) - s.length + j) → nextS n s = none
  | [], _ => rfl
  | x :: t, h => by
    have h0 := h 0 (by simp)
    have hx : x = (n : Int) - (t.length + 1 : Nat) := by
      have : gt (x :: t) 0 = x := rfl
      rw [this, List.length_cons] at h0; omega
    rw [nextS_none (nextS_last t fun j hj => ?_), if_neg (by omega)]
    have := h (j + 1) (by rw [List.length_cons]; omega)
    rw [List.length_cons] at this
    have e : gt (x :: t) (j + 1) = gt t j := rfl
    rw [e] at this
    omega
theorem nextS_at {n : Nat} : ∀ (s : List Int) (i : Nat), s.Pairwise (· < ·) → (∀ j ∈ s, 0 ≤ j ∧ j < (n : Int)) → i < s.length → gt s i ≠ (n : Int) - s.length + i → (∀ j, i < j → j < s.length → gt s j = (n : Int) - s.length + j) → nextS n s = some (s.take i ++ upFrom (gt s i + 1) (s.length - i))
  | [], i, _, _, h, _, _ => by simp at h
  | x :: t, 0, hp, hb, _, hne, hl => by
    have hx : gt (x :: t) 0 = x := rfl
    have hxb := hb x List.mem_cons_self
    rw [List.pairwise_cons] at hp
    have hpl := pw_len t (x.toNat + 1) n (by omega) hp.2 fun j hj => by
      have := hp.1 j hj
      have := hb j (List.mem_cons_of_mem _ hj)
      omega
    rw [nextS_none (nextS_last t fun j hj => ?_)]
    · rw [hx, List.length_cons] at hne
      rw [if_pos (by omega)]; rfl
    · have := hl (j + 1) (by omega) (by rw [List.length_cons]; omega)
      rw [List.length_cons] at this
      have e : gt (x :: t) (j + 1) = gt t j := rfl
      rw [e] at this
      omega
  | x :: t, i + 1, hp, hb, hi, hne, hl => by
    rw [List.pairwise_cons] at hp
    have e : ∀ j, gt (x :: t) (j + 1) = gt t j := fun j => rfl
    rw [List.length_cons] at hi
    have ih := nextS_at t i hp.2 (fun j hj => hb j (List.mem_cons_of_mem _ hj)) (by omega) (by
      rw [e, List.length_cons] at hne
      intro h2; apply hne; rw [h2]; omega) fun j h1 h2 => by
        have := hl (j + 1) (by omega) (by rw [List.length_cons]; omega)
        rw [e, List.length_cons] at this
        omega
    rw [nextS_some ih, e, List.length_cons, show t.length + 1 - (i + 1) = t.length - i by omega]
    rfl
end Go.Proofs.YtgbnfhfkehpfaaaGreat
/- sets and advance of layer 4: contracts. -/
namespace Go.Proofs.YtgbnfhfkehpfaaaGreat
open Go.RowKit Go.Shelf

def stepS (s : List Int) (i : Nat) (x : Int) (q : Nat) : List Int := (List.range s.length).map fun j => if i ≤ j ∧ j < q then x + ((j : Int) - i) else gt s j
theorem stepS_len (s : List Int) (i : Nat) (x : Int) (q : Nat) : (stepS s i x q).length = s.length := by simp [stepS]
theorem stepS_start (s : List Int) (i : Nat) (x : Int) : stepS s i x i = s := by
  refine list_ext_gt (stepS_len _ _ _ _) fun k hk => ?_
  rw [stepS_len] at hk
  unfold stepS
  rw [gt_map_range _ hk, if_neg (by omega)]
theorem stepS_succ {s : List Int} {i : Nat} {x : Int} {q : Nat} (hi : i ≤ q) (hq : q < s.length) : (stepS s i x q).set q (x + q - i) = stepS s i x (q + 1) := by
  refine list_ext_gt (by rw [List.length_set, stepS_len, stepS_len]) fun k hk => ?_
  rw [List.length_set, stepS_len] at hk
  rw [gt_set (by rw [stepS_len]; exact hq)]
  unfold stepS
  rw [gt_map_range _ hk, gt_map_range _ hk]
  by_cases e : k = q
  · subst e; rw [if_pos rfl, if_pos (by omega)]; omega
  · rw [if_neg e]
    by_cases h : i ≤ k ∧ k < q
    · rw [if_pos h, if_pos (by omega)]
    · rw [if_neg h, if_neg (by omega)]
theorem stepS_end {s : List Int} {i : Nat} {x : Int} (hi : i < s.length) : stepS s i x s.length = s.take i ++ upFrom x (s.length - i) := by
  refine list_ext_gt (by rw [stepS_len, List.length_append, List.length_take, upFrom_len]; omega) fun k hk => ?_
  rw [stepS_len] at hk
  unfold stepS
  rw [gt_map_range _ hk]
  by_cases h : k < i
  · rw [if_neg (by omega)]
    unfold gt
    rw [List.getElem?_append_left (by rw [List.length_take]; omega), List.getElem?_take, if_pos h]
  · have e : gt (s.take i ++ upFrom x (s.length - i)) k = gt (upFrom x (s.length - i)) (k - i) := by
      unfold gt
      rw [List.getElem?_append_right (by rw [List.length_take]; omega), List.length_take, show min i s.length = i by omega]
    rw [if_pos (by omega), e, upFrom_gt _ _ _ (by omega)]; omega
set_option maxRecDepth 1000000 in
set_option maxHeartbeats 2000000 in
theorem advance_any (SB r n : Nat) (s : List Int) (hn : n ≤ 100) (hr : r ≤ 100) (hp : s.Pairwise (· < ·)) (hb : ∀ j ∈ s, 0 ≤ j ∧ j < (n : Int)) (hl : s.length = r) (w : World) (ho : OwnI w 0 (.slice (some ⟨SB, 0, none⟩) r r) s) :
    Calls Tryz.prog 136 #[.slice (some ⟨SB, 0, none⟩) r r, .int .i64 n] w fun e w' => (nextS n s = none ∧ e = .returned (.bool false) ∧ w' = w) ∨ (∃ s', nextS n s = some s' ∧ e = .returned (.bool true) ∧ OwnI w' 0 (.slice (some ⟨SB, 0, none⟩) r r) s' ∧ Turned (fun b => b = SB) w w') := by
  have HO := Lib.hid ho
  have HL := Lib.hid hl
  have HLAST : Hid ((∀ j, j < r → gt s j = (n : Int) - r + j) → nextS n s = none) := fun h => nextS_last s fun j hj => by rw [hl]; exact h j (by omega)
  have HAT : Hid (∀ i, i < r → gt s i ≠ (n : Int) - r + i → (∀ j, i < j → j < r → gt s j = (n : Int) - r + j) → nextS n s = some (stepS s i (gt s i + 1) r)) := fun i hi h1 h2 => by
    have k := nextS_at s i hp hb (by omega) (by rw [hl]; exact h1) fun j h3 h4 => by rw [hl]; exact h2 j h3 (by omega)
    rw [k, ← stepS_end (by omega), hl]
  have HBD : Hid (∀ i, i < r → 0 ≤ gt s i ∧ gt s i < n) := fun i hi => hb _ (mem_gt.2 ⟨i, by omega, rfl⟩)
  clear ho hl hp hb
  go_enter Tryz.func136, Tryz.ntmps136
  go_wp2
  go_loopw [5] (fun iv wr => ∃ k : Nat, k ≤ r ∧ iv = .int .i64 ((k : Int) - 1) ∧ wr = w ∧ ∀ j, k ≤ j → j < r → gt s j = (n : Int) - r + j) (fun iv _ => (intOf iv + 1).toNat)
  case atStart => exact ⟨r, Nat.le_refl _, rfl, rfl, fun j h1 h2 => by omega⟩
  case round =>
    obtain ⟨k, hk, rfl, rfl, hmax⟩ := hrel
    have HMX := Lib.hid hmax; clear hmax
    cases k with
    | zero =>
      have HNO := Lib.hid (HLAST.out fun j hj => HMX.out j (Nat.zero_le _) hj)
      go_wp2
      go_ret
      exact .inl ⟨HNO.out, rfl, rfl⟩
    | succ t =>
      have e1 : ((t + 1 : Nat) : Int) - 1 = (t : Int) := by omega
      rw [e1]
      have htr : t < r := by omega
      have ht0 : (t : Int) < (r : Int) := by omega
      obtain ⟨cz0, fz⟩ := HO.out.cell (j := t) (by rw [HL.out]; exact htr)
      have cz : wr.cell? ⟨SB, t, none⟩ = some (.int .i64 (gt s t)) := cz0
      have hbd := HBD.out t htr
      obtain ⟨x, hx⟩ : ∃ x, gt s t = x := ⟨_, rfl⟩
      have HX := Lib.hid hx
      rw [hx] at cz hbd
      clear hx e1 fz cz0
      by_cases hm : x = (n : Int) - r + t
      · have HM := Lib.hid hm
        clear hm
        have y1 : (x == (n : Int) - r + t) = true := by rw [HM.out]; simp
        have y2 : decide (x = (n : Int) - r + t) = true := by rw [HM.out]; simp
        go_wp2
        go_roundw
        case rel => exact ⟨t, by omega, by first | rfl | go_num, by first | trivial | rfl, fun j h1 h2 => by
          by_cases e : j = t
          · subst e; rw [HX.out]; exact HM.out
          · exact HMX.out j (by omega) h2⟩
        case measure => simp [intOf]
      · have y1 : (x == (n : Int) - r + t) = false := by simpa using hm
        have y2 : decide (x = (n : Int) - r + t) = false := by simpa using hm
        have HNX : Hid (nextS n s = some (stepS s t (x + 1) r)) := by
          have k := HAT.out t htr (by rw [HX.out]; exact hm) fun j h1 h2 => HMX.out j (by omega) h2
          rw [HX.out] at k; exact k
        clear hm
        go_wp2
        clear cz
        obtain ⟨wk, hwk⟩ : ∃ wk, wk = wr := ⟨_, rfl⟩
        subst hwk
        go_loopw [7] (fun kv wr2 => ∃ q : Nat, t ≤ q ∧ q ≤ r ∧ kv = .int .i64 q ∧ OwnI wr2 0 (.slice (some ⟨SB, 0, none⟩) r r) (stepS s t (x + 1) q) ∧ Turned (fun b => b = SB) wk wr2) (fun kv _ => r - (intOf kv).toNat)
        case atStart => exact ⟨t, Nat.le_refl _, by omega, rfl, by rw [stepS_start]; exact HO.out, Turned.refl _ _⟩
        case round =>
          obtain ⟨q, h1, h2, rfl, hO2, hT2⟩ := hrel
          have HO2 := Lib.hid hO2; clear hO2
          have HT2 := Lib.hid hT2; clear hT2
          by_cases hlt : q < r
          · obtain ⟨cz, fz⟩ := HO2.out.cell (j := q) (by rw [stepS_len, HL.out]; exact hlt)
            have hq0 : (q : Int) < (r : Int) := by omega
            have HST : Hid (OwnI (wr.setCell ⟨SB, q, none⟩ (.int .i64 (x + 1 + q - t))) 0 (.slice (some ⟨SB, 0, none⟩) r r) (stepS s t (x + 1) (q + 1))) := by
              have h := HO2.out.stored q (x + 1 + q - t)
              rw [stepS_succ h1 (by rw [HL.out]; exact hlt)] at h
              exact h
            have HT3 : Hid (Turned (fun b => b = SB) wk (wr.setCell ⟨SB, q, none⟩ (.int .i64 (x + 1 + q - t)))) := HT2.out.trans (turned_set (T := fun b => b = SB) _ _ rfl) fun b e => .inl e
            go_wp2
            go_roundw
            case rel => exact ⟨q + 1, by omega, by omega, by go_num, HST.out, HT3.out⟩
            case measure => simp [intOf]; omega
          · obtain rfl : q = r := by omega
            go_wp2
            go_ret
            exact .inr ⟨_, HNX.out, rfl, HO2.out, HT2.out⟩
theorem ssets_any (n size : Int) (w : World) : Calls Tryz.prog 116 #[.int .i64 n, .int .i64 size] w fun e w' =>
    e = .returned (.func (.func 135) #[] #[.pointer (some ⟨w.heap.size + 1, 0, none⟩), .pointer (some ⟨w.heap.size, 0, none⟩)]) ∧ w' = (w.alloc (.cells #[.int .i64 n] 3)).alloc (.cells #[.int .i64 size] 3) := by
  go_enter Tryz.func116, Tryz.ntmps116
  go_wp2
  go_ret
  exact ⟨rfl, rfl⟩
theorem wpListIn_make_full {F : Fence} {n : Nat} {P : Program} (w : World) {ops : Array Oper} {rest : List Oper} {o : Oper} {a : Act} {Q : Exit → Act → World → Prop}
    (hg : o.guard = none) (l c : Operand) (t : TypeId) (hop : o.op = Op.makeSlice t l c)
    (base : Nat) (e : TypeId) (i : TypeInfo) (z : Value) (size : Nat) (h1 : P.underlying t = some (.slice e)) (h2 : P.info? e = some i) (h3 : i.zero = some z) (h4 : i.size = size)
    (kl kc : IntKind) (L C : Int) (m : Nat) (hl : a.eval l = .int kl L) (hc : a.eval c = .int kc C) (hL : L = (m : Int)) (hC : C = (m : Int)) (b2 : i.bytes * m ≤ 281474976710656) (b3 : m ≤ maxLen) (b4 : base ≤ w.heap.size)
    (hK : ∀ w', w'.ownsRow base e size (.slice (some ⟨w.heap.size, 0, none⟩) m m) m (madeCells z.cells (m * size)).toList → w.grownBy w' none → wpListIn F n P ops Q rest (a.put o.dst (.slice (some ⟨w.heap.size, 0, none⟩) m m)) w') :
    wpListIn F n P ops Q (o :: rest) a w := by
  refine wpListIn_plain hg fun K hK' => ?_
  obtain ⟨w', hrun, r1, r2⟩ := run_make_full (P := P) w base t e i z size h1 h2 h3 h4 kl kc m b2 b3 b4
  subst hL
  subst hC
  unfold Oper.wpIn
  refine ⟨?_, ?_⟩
  · simp [Oper.about, hop]
  · rw [Oper.semAt_plain F _ _ (by rw [hop]; intro c hc'; cases hc')]
    simp [execOp, hop, hl, hc, hrun, Result.andThen]
    exact hK' _ _ (hK w' r1 r2)
end Go.Proofs.YtgbnfhfkehpfaaaGreat
/- sets of layer 4: the contract of what it hands back. -/
namespace Go.Proofs.YtgbnfhfkehpfaaaGreat
open Go.RowKit Go.Shelf
attribute [local go_sem] Oper.semAt_some

theorem stepS_all (s : List Int) (x : Int) : stepS s 0 x s.length = upFrom x s.length := by
  cases s with
  | nil => rfl
  | cons a t => rw [stepS_end (by simp)]; simp
theorem rows_split {Z : List (List Int)} {i : Nat} (h : i < Z.length) : Z = Z.take i ++ rowL Z i :: Z.drop (i + 1) := by
  conv => lhs; rw [← List.take_append_drop i Z, List.drop_eq_getElem_cons h]
  have : rowL Z i = Z[i] := by unfold rowL; simp [h]
  rw [this]
theorem take_row {Z : List (List Int)} {i : Nat} (h : i < Z.length) : Z.take (i + 1) = Z.take i ++ [rowL Z i] := by
  rw [List.take_succ_eq_append_getElem h]
  have : rowL Z i = Z[i] := by unfold rowL; simp [h]
  rw [this]
set_option maxRecDepth 1000000 in
set_option maxHeartbeats 4000000 in
theorem ssets1_seq (n size S N : Nat) (hn : n ≤ 100) (hs : size ≤ n) (w : World) (hS : w.cell? ⟨S, 0, none⟩ = some (.int .i64 size)) (hN : w.cell? ⟨N, 0, none⟩ = some (.int .i64 n)) :
    SeqM Tryz.prog 135 #[.pointer (some ⟨S, 0, none⟩), .pointer (some ⟨N, 0, none⟩)] encS MemS (fun _ _ => False) Prod.snd (compl n size 0) (fun b => b = S ∨ b = N) w := by
  intro l J Jx C T W hW hJ hJx hneed hY h0
  obtain ⟨i0, hi, hz0, hz1, hz2⟩ := info_parts Tryz.infoInt
  have cS : W.cell? ⟨S, 0, none⟩ = some (.int .i64 size) := (hW.cell (p := ⟨S, 0, none⟩) (cell_lt hS)).trans hS
  have cN : W.cell? ⟨N, 0, none⟩ = some (.int .i64 n) := (hW.cell (p := ⟨N, 0, none⟩) (cell_lt hN)).trans hN
  have LN : Hid (N < W.heap.size) := cell_lt cN
  have HY := Lib.hid hY
  have H0 := Lib.hid h0
  have HNEED : Hid (¬ C N) := hneed N (.inr rfl)
  have HN := Lib.hid cN
  obtain ⟨Z, hZ⟩ : ∃ Z, compl n size 0 = Z := ⟨_, rfl⟩
  have hrun := compl_run (n := n) size 0 (by omega)
  have hhead := compl_head_is (n := n) size 0 (by omega)
  have HROW : Hid (∀ i, i < Z.length → (rowL Z i).length = size ∧ (rowL Z i).Pairwise (· < ·) ∧ ∀ j ∈ rowL Z i, 0 ≤ j ∧ j < (n : Int)) := fun i hi => by
    have hm : rowL Z i ∈ compl n size 0 := by rw [hZ]; exact rowL_mem hi
    have h1 := compl_mem hm
    exact ⟨h1.1, compl_asc hm, fun j hj => by have := h1.2 j hj; omega⟩
  rw [hZ] at hrun hhead HY ⊢
  have HRUN := Lib.hid hrun
  have HHEAD := Lib.hid hhead
  clear hY h0 hneed hS hN hW cN hrun hhead hZ
  show Calls _ _ (#[.func (.yield l) #[] #[], .pointer (some ⟨S, 0, none⟩), .pointer (some ⟨N, 0, none⟩)]) _ _
  refine (callsIn_wide (n := 50)).1 ?_
  refine callsIn_of_wp Tryz.func135 rfl trivial ?_ rfl
  simp only [Tryz.ntmps135, List.size_toArray, List.length_cons, List.length_nil, Nat.reduceAdd, Nat.reduceSub, Array.replicate_succ, Array.replicate_zero, List.push_toArray, List.append_toArray, List.nil_append, List.cons_append]
  gi_wp2_with (gi_at_make; with_reducible refine wpListIn_make_full _ rfl (.tmp 6) (.tmp 6) 22 rfl W.heap.size 3 i0 (.int .i64 0) 1 Tryz.underlying22 hi hz0 hz1 .i64 .i64 (size : Int) (size : Int) size rfl rfl rfl rfl (by rw [hz2]; omega) (by unfold maxLen; omega) (Nat.le_refl _) ?_)
  rotate_left
  intro w5 hown hgrow
  have hb5 : Below W.heap.size W w5 := (Below.refl _ _).grown hgrow (Nat.le_refl _) (fun k e => by cases e)
  have hown2 : OwnI w5 W.heap.size (.slice (some ⟨W.heap.size, 0, none⟩) size size) (List.replicate size 0) := by
    have z := zeros_are size
    rw [Nat.mul_one] at z
    show w5.ownsRow _ _ _ _ _ _
    rw [List.length_replicate, ← z]; exact hown
  have HO5 : Hid (OwnI w5 0 (.slice (some ⟨W.heap.size, 0, none⟩) size size) (List.replicate size 0)) := hown2.mono (Nat.zero_le _)
  have HB5 := Lib.hid hb5
  obtain ⟨SB, hSB⟩ : ∃ SB, W.heap.size = SB := ⟨_, rfl⟩
  rw [hSB] at HO5 HB5 ⊢
  have HSB := Lib.hid hSB
  clear hown hown2 hgrow hb5 cS hSB
  gi_wp2
  gi_loopw [10] (fun i wr => ∃ k : Nat, k ≤ size ∧ i = .int .i64 (k : Int) ∧ OwnI wr 0 (.slice (some ⟨SB, 0, none⟩) size size) (stepS (List.replicate size 0) 0 0 k) ∧ Below SB W wr) (fun i _ => size - (intOf i).toNat)
  case atStart => exact ⟨0, Nat.zero_le _, rfl, by rw [stepS_start]; exact HO5.out, HB5.out⟩
  case round =>
    obtain ⟨k, hk, rfl, hO, hB⟩ := hrel
    have HO := Lib.hid hO; clear hO
    have HB := Lib.hid hB; clear hB
    by_cases hlt : k < size
    · obtain ⟨cz, fz⟩ := HO.out.cell (j := k) (by rw [stepS_len, List.length_replicate]; exact hlt)
      have hk0 : (k : Int) < (size : Int) := by omega
      have HST : Hid (OwnI (wr.setCell ⟨SB, k, none⟩ (.int .i64 (k : Int))) 0 (.slice (some ⟨SB, 0, none⟩) size size) (stepS (List.replicate size 0) 0 0 (k + 1))) := by
        have h := HO.out.stored k (k : Int)
        have e := stepS_succ (s := List.replicate size 0) (i := 0) (x := 0) (q := k) (Nat.zero_le _) (by rw [List.length_replicate]; exact hlt)
        rw [show (0 : Int) + (k : Int) - ((0 : Nat) : Int) = (k : Int) by omega] at e
        rw [e] at h
        exact h
      have HB2 : Hid (Below SB W (wr.setCell ⟨SB, k, none⟩ (.int .i64 (k : Int)))) := HB.out.setCell (p := ⟨SB, k, none⟩) (Nat.le_refl _) _
      gi_wp2
      go_roundw
      case rel => exact ⟨k + 1, by omega, by go_num, HST.out, HB2.out⟩
      case measure => simp [intOf]; omega
    · obtain rfl : k = size := by omega
      have HO6 : Hid (OwnI wr 0 (.slice (some ⟨SB, 0, none⟩) k k) (rowL Z 0)) := by
        have h := HO.out
        have e := stepS_all (List.replicate k 0) 0
        rw [List.length_replicate] at e
        rw [e] at h
        rw [HHEAD.out.2]; exact h
      have HLTN : Hid (N < SB) := by rw [← HSB.out]; exact LN.out
      have HJ6 : Hid (∃ pre C2 T2, pre.map Prod.snd = Z.take 0 ∧ J pre C2 T2 wr ∧ T2 SB ∧ ¬ C2 N) := ⟨[], C, fun b => T b ∨ W.heap.size ≤ b, rfl, hJ.keep H0.out (turned_below (by rw [HSB.out]; exact HB.out)) (fun b e => e), .inr (by rw [HSB.out]; exact Nat.le_refl _), HNEED.out⟩
      have hcN : wr.cell? ⟨N, 0, none⟩ = some (.int .i64 n) := (HB.out.cell (p := ⟨N, 0, none⟩) HLTN.out).trans HN.out
      have HCN := Lib.hid hcN
      have hZ0 : 0 < Z.length := Nat.pos_of_ne_zero HHEAD.out.1
      clear HO HB hcN
      gi_wp2
      gi_loopg [] Z.length (fun g wr => ∃ (i : Nat) (pre : List SetV) (C2 T2 : Blk), i < Z.length ∧ g = Z.length - i ∧ pre.map Prod.snd = Z.take i ∧ J pre C2 T2 wr ∧ T2 SB ∧ ¬ C2 N ∧ OwnI wr 0 (.slice (some ⟨SB, 0, none⟩) k k) (rowL Z i) ∧ wr.cell? ⟨N, 0, none⟩ = some (.int .i64 n))
      case atStart =>
        obtain ⟨pre, C2, T2, h1, h2, h3, h4⟩ := HJ6.out
        exact ⟨0, pre, C2, T2, hZ0, rfl, h1, h2, h3, h4, HO6.out, HCN.out⟩
      case round =>
        clear HO6 HJ6 HCN HHEAD H0 hZ0
        obtain ⟨i, pre, C2, T2, hi2, rfl, hpre, hj, hTS, hCN, hO, hcN⟩ := hrel
        obtain ⟨r1, r2, r3⟩ := HROW.out i hi2
        have HSPL := Lib.hid (rows_split hi2)
        have HTK := Lib.hid (take_row hi2)
        have HLAST : Hid (¬ i + 1 < Z.length → nextS n (rowL Z i) = none) := fun h => by
          have := HRUN.out.2
          rwa [show Z.length - 1 = i by omega] at this
        have HNEXT : Hid (i + 1 < Z.length → nextS n (rowL Z i) = some (rowL Z (i + 1))) := fun h => HRUN.out.1 i h
        obtain ⟨s, hs2⟩ : ∃ s, rowL Z i = s := ⟨_, rfl⟩
        rw [hs2] at r1 r2 r3 HSPL HTK HLAST HNEXT hO
        have HP : Hid (MemS (SB, s) wr) := by show OwnI _ _ _ _; dsimp only; rw [r1]; exact hO
        have hy := HY.out pre (SB, s) C2 T2 wr hj HP.out (fun _ h => h.elim) ⟨Z.drop (i + 1), by rw [hpre]; exact HSPL.out⟩ 49
        obtain ⟨fn, tmps, assign, body, hy1, hR⟩ := hy
        dsimp only [encS] at hy1
        rw [r1] at hy1
        have HR1 := Lib.hid r1; have HR2 := Lib.hid r2; have HR3 := Lib.hid r3
        have HJ2 := Lib.hid hj; have HTS := Lib.hid hTS; have HCN2 := Lib.hid hCN; have HO2 := Lib.hid hO; have HC2 := Lib.hid hcN; have HPRE := Lib.hid hpre
        have HI2 := Lib.hid hi2
        clear r1 r2 r3 hj hTS hCN hO hcN hpre hi2 hs2
        gi_wp2
        refine hR.mono ?_
        rintro e W3 (⟨rfl, hw⟩ | ⟨rfl, hw⟩)
        · obtain ⟨C3, T3, hj3, hT3, hC3, ht3⟩ := hw
          have hlt2 := (OwnI.lt HO2.out).1
          have hnS : ¬ C2 SB := fun e => (hJ.lt HJ2.out _ e).2 HTS.out
          have HO3 : Hid (OwnI W3 0 (.slice (some ⟨SB, 0, none⟩) k k) s) := HO2.out.sameBlock (ht3.same _ hlt2 fun e => e.elim hnS id)
          have HT3 : Hid (T3 SB) := hT3 SB HTS.out hlt2 id
          have hcN3 : W3.cell? ⟨N, 0, none⟩ = some (.int .i64 n) := ht3.cell HC2.out fun e => e.elim HCN2.out id
          have hNlt := cell_lt HC2.out
          have HNC3 : Hid (¬ C3 N) := fun e => (hC3 N e).elim HCN2.out fun e => e.elim id fun e => by dsimp only at hNlt; omega
          have HJ3 := Lib.hid hj3
          have HC3 := Lib.hid hcN3
          have HAD : Hid (Calls Tryz.prog 136 #[.slice (some ⟨SB, 0, none⟩) k k, .int .i64 n] W3 fun e w' => (nextS n s = none ∧ e = .returned (.bool false) ∧ w' = W3) ∨ (∃ s', nextS n s = some s' ∧ e = .returned (.bool true) ∧ OwnI w' 0 (.slice (some ⟨SB, 0, none⟩) k k) s' ∧ Turned (fun b => b = SB) W3 w')) := advance_any SB k n s hn (by omega) HR2.out HR3.out HR1.out W3 HO3.out
          clear hj3 hT3 hC3 ht3 hlt2 hnS hNlt hy1 hR
          by_cases hlast : i + 1 < Z.length
          · have hnx := HNEXT.out hlast
            have HAD2 : Hid (Calls Tryz.prog 136 #[.slice (some ⟨SB, 0, none⟩) k k, .int .i64 n] W3 fun e w' => e = .returned (.bool true) ∧ Hid (OwnI w' 0 (.slice (some ⟨SB, 0, none⟩) k k) (rowL Z (i + 1))) ∧ Hid (Turned (fun b => b = SB) W3 w')) := HAD.out.mono fun e w' h => by
              rcases h with ⟨h1, _⟩ | ⟨s', h1, h2, h3, h4⟩
              · rw [hnx] at h1; cases h1
              · rw [hnx] at h1
                obtain rfl := Option.some.inj h1
                exact ⟨h2, h3, h4⟩
            clear HAD hnx
            gi_wp2_with (refine ⟨trivial, ?_⟩; gi_at_call 136; refine (callsIn_wide.2 HAD2.out).mono ?_; rintro e w7 ⟨rfl, HO7, HT7⟩)
            gi_roundg (Z.length - (i + 1))
            case rel => exact ⟨i + 1, pre ++ [(SB, s)], C3, T3, hlast, rfl, by rw [List.map_append, HPRE.out, HTK.out]; rfl, hJ.keep HJ3.out (HT7.out.mono fun b _ e => by rw [e]; exact HT3.out) (fun b e => .inl e), HT3.out, HNC3.out, HO7.out, HT7.out.cell HC3.out (fun e => by have e : N = SB := e; have := HLTN.out; omega)⟩
            case measure => omega
          · have hnx := HLAST.out hlast
            have HAD2 : Hid (Calls Tryz.prog 136 #[.slice (some ⟨SB, 0, none⟩) k k, .int .i64 n] W3 fun e w' => e = .returned (.bool false) ∧ w' = W3) := HAD.out.mono fun e w' h => by
              rcases h with ⟨h1, h2, h3⟩ | ⟨s', h1, _⟩
              · exact ⟨h2, h3⟩
              · rw [hnx] at h1; cases h1
            have HEND : Hid ((pre ++ [(SB, s)]).map Prod.snd = Z) := by
              show _ = _
              rw [List.map_append, HPRE.out]
              have h1 := HTK.out
              rw [List.take_of_length_le (by omega)] at h1
              exact h1.symm
            clear HAD hnx
            gi_wp2_with (refine ⟨trivial, ?_⟩; gi_at_call 136; refine (callsIn_wide.2 HAD2.out).mono ?_; rintro e w7 ⟨rfl, rfl⟩)
            go_end0
            exact ⟨⟨_, rfl⟩, .inl ⟨_, _, _, HEND.out, HJ3.out⟩⟩
        · obtain ⟨C3, T3, hj3, _⟩ := hw
          have HJ3 := Lib.hid hj3
          clear hj3 hy1 hR
          gi_wp2
          refine ⟨trivial, ?_⟩
          gi_wp2
          go_end0
          exact ⟨⟨_, rfl⟩, .inr ⟨_, _, _, HJ3.out⟩⟩
end Go.Proofs.YtgbnfhfkehpfaaaGreat
/- (question).fits of layer 4: the contract of what it hands back. -/
namespace Go.Proofs.YtgbnfhfkehpfaaaGreat
open Go.RowKit Go.Shelf
attribute [local go_sem] Oper.semAt_some

structure FitV where
  qa : Option Addr
  qc : Nat
  px : List Int
  va : Option Addr
  vc : Nat
  vs : List (Int × Int)
abbrev fitV (x : FitV) : Value := .agg #[.slice x.qa x.px.length x.qc, .slice x.va x.vs.length x.vc]
abbrev encF (x : FitV) : Array Value := #[fitV x]
abbrev keyF (x : FitV) : List Int × List (Int × Int) := (x.px, x.vs)
def MemF (x : FitV) (W : World) : Prop := FitAt W 0 x.qa x.px x.va x.vs
def ownF (x : FitV) : Blk := fun b => (∃ ad, x.qa = some ad ∧ b = ad.block) ∨ (∃ ad, x.va = some ad ∧ b = ad.block)
def fitsTo (wr : Int × Int → Bool) (m : List (List Int)) (y : List Int) (j : Nat) : List (List Int × List (Int × Int)) := (List.range j).flatMap fun s => (compl (colsM m) s 0).filterMap fun px => (fitO wr m y px).map fun vs => (px, vs)
theorem fitsTo_succ (wr : Int × Int → Bool) (m : List (List Int)) (y : List Int) (j : Nat) : fitsTo wr m y (j + 1) = fitsTo wr m y j ++ (compl (colsM m) j 0).filterMap fun px => (fitO wr m y px).map fun vs => (px, vs) := by
  unfold fitsTo; rw [List.range_succ, List.flatMap_append]; simp
theorem fitsTo_split (wr : Int × Int → Bool) (m : List (List Int)) (y : List Int) (k n : Nat) (h : k ≤ n) : ∃ post, fitsTo wr m y n = fitsTo wr m y k ++ post := by
  obtain ⟨d, rfl⟩ : ∃ d, n = k + d := ⟨n - k, by omega⟩
  unfold fitsTo
  rw [List.range_add, List.flatMap_append]
  exact ⟨_, rfl⟩
theorem memF_put (x : FitV) (W : World) (l : Nat) (r r' : Loop) (h : MemF x W) (hl : W.heap[l]? = some (.loop r)) : MemF x (W.putObj l (.loop r')) := by
  have key : ∀ {a : Addr} {v : Value}, W.cell? a = some v → (W.putObj l (.loop r')).cell? a = some v := fun {a v} hc => by
    refine (World.cell?_of_block (World.putObj_heap_other fun e => ?_)).trans hc
    unfold World.cell? at hc
    rw [e, hl] at hc
    cases hc
  have hsz : W.heap.size ≤ (W.putObj l (.loop r')).heap.size := (turned_put (T := fun b => b = l) W (.loop r') rfl).size
  refine ⟨fun k hk => ?_, fun j p hj => ?_, fun ad e => ⟨(h.q ad e).1, Nat.lt_of_lt_of_le (h.q ad e).2 hsz⟩, fun ad e => ⟨(h.v ad e).1, Nat.lt_of_lt_of_le (h.v ad e).2 hsz⟩⟩
  · obtain ⟨b, o, e, hc⟩ := h.sl k hk
    exact ⟨b, o, e, key hc⟩
  · obtain ⟨b, e, c1, c2⟩ := h.rl j p hj
    exact ⟨b, e, key c1, key c2⟩
structure FIn {α : Type} (w0 : World) (bs : List (Addr × Value)) (Y l : Nat) (ms : List Nat) (K : List α → Blk → Blk → World → Prop) (pre : List α) (C T : Blk) (W : World) : Prop where
  cl : ∃ T2, K pre C T2 W ∧ (∀ b, T b → T2 b) ∧ T2 Y ∧ ∀ D, D ∈ ms → T2 D
  nc : ∀ b, (b < w0.heap.size ∨ ∃ p ∈ bs, b = p.1.block) → ¬ C b
  nt : ∀ b, (b < w0.heap.size ∨ ∃ p ∈ bs, b = p.1.block) ∨ b = Y ∨ b ∈ ms → ¬ T b
  cB : ∀ p ∈ bs, W.cell? p.1 = some p.2
  bw : Below w0.heap.size w0 W
  cY : W.cell? ⟨Y, 0, none⟩ = some (.func (.yield l) #[] #[])
  dm : ∀ D, D ∈ ms → W.heap[D]? = some (.deferred (some []))
theorem FIn.client {α β : Type} {w0 : World} {bs : List (Addr × Value)} {Y l : Nat} {ms : List Nat} {K : List α → Blk → Blk → World → Prop} {q : List β → List α → Prop} (hK : Client K) : Client fun (s : List β) C T W => ∃ pre, q s pre ∧ FIn w0 bs Y l ms K pre C T W where
  lt := by
    rintro s C T W ⟨pre, _, h⟩ b hb
    obtain ⟨T2, hk, h1, _⟩ := h.cl
    exact ⟨(hK.lt hk b hb).1, fun e => (hK.lt hk b hb).2 (h1 b e)⟩
  keep := by
    rintro s C T T' W W' ⟨pre, hq, h⟩ ht hT
    obtain ⟨T2, hk, h1, h2, h3⟩ := h.cl
    have lY := cell_lt h.cY
    have lD : ∀ D, D ∈ ms → D < W.heap.size := fun D hD => (Array.getElem?_eq_some_iff.1 (h.dm D hD)).1
    have hnt : ∀ b, (b < w0.heap.size ∨ ∃ p ∈ bs, b = p.1.block) ∨ b = Y ∨ b ∈ ms → ¬ T' b := by
      intro b hb e
      rcases hT b e with q | q
      · exact h.nt b hb q
      · have := h.bw.size
        rcases hb with (hb | ⟨p, hp, rfl⟩) | rfl | hb
        · omega
        · have := cell_lt (h.cB p hp); omega
        · dsimp only at lY; omega
        · have := lD b hb; omega
    refine ⟨pre, hq, ⟨fun b => T2 b ∨ W.heap.size ≤ b, hK.keep hk (ht.mono fun b _ e => h1 b e) (fun b e => e), fun b e => (hT b e).elim (fun e => .inl (h1 b e)) .inr, .inl h2, fun D hD => .inl (h3 D hD)⟩, h.nc, hnt, fun p hp => ht.cell (h.cB p hp) (h.nt _ (.inl (.inr ⟨p, hp, rfl⟩))), h.bw.trans (ht.below h.bw.size fun b hb => h.nt b (.inl (.inl hb))), ht.cell h.cY (h.nt _ (by simp)), fun D hD => (ht.same D (lD D hD) (h.nt D (by simp [hD]))).trans (h.dm D hD)⟩
theorem fin_next {α : Type} {own : α → Blk} {x : α} {w0 V2 W5 W6 : World} {bs : List (Addr × Value)} {Y l : Nat} {ms : List Nat} {J K : List α → Blk → Blk → World → Prop} {pre' : List α} {C3 T3 T2 : Blk} (hJ : Client J) (hI : FIn w0 bs Y l ms J pre' C3 T3 V2)
    (hk : J pre' C3 T2 V2) (h1 : ∀ b, T3 b → T2 b) (h2 : T2 Y) (h3 : ∀ D, D ∈ ms → T2 D) (hb5 : Below V2.heap.size V2 W5) (hbh : ∀ b, own x b → V2.heap.size ≤ b) (hw : Went K own pre' x C3 (fun b => T2 b ∨ V2.heap.size ≤ b) W5 W6) :
    ∃ C', FIn w0 bs Y l ms K (pre' ++ [x]) C' (fun b => T3 b ∧ b < V2.heap.size) W6 ∧ (∀ b, C' b → C3 b ∨ V2.heap.size ≤ b) ∧ Turned C3 V2 W6 := by
  obtain ⟨C', T', hj6, hT', hC', ht'⟩ := hw
  have s5 := hb5.size
  have lY := cell_lt hI.cY
  dsimp only at lY
  have lD : ∀ D, D ∈ ms → D < V2.heap.size := fun D hD => (Array.getElem?_eq_some_iff.1 (hI.dm D hD)).1
  have lw := hI.bw.size
  have nC : ∀ b, T2 b → ¬ C3 b := fun b hb hc => (hJ.lt hk b hc).2 hb
  have no : ∀ b, b < V2.heap.size → ¬ C3 b → ¬ (C3 b ∨ own x b) := fun b hb hn e => e.elim hn fun e => by have := hbh b e; omega
  have t5 : Turned C3 V2 W5 := turned_below hb5
  have hc5 : ∀ {a : Addr} {v : Value}, a.block < V2.heap.size → V2.cell? a = some v → ¬ C3 a.block → W6.cell? a = some v := fun hl hc hn => ht'.cell ((hb5.cell hl).trans hc) (no _ hl hn)
  refine ⟨C', ⟨⟨T', hj6, fun b hb => hT' b (.inl (h1 b hb.1)) (by omega) (fun e => by have := hbh b e; omega), hT' Y (.inl h2) (by omega) (fun e => by have := hbh _ e; omega), fun D hD => hT' D (.inl (h3 D hD)) (by have := lD D hD; omega) (fun e => by have := hbh _ e; have := lD D hD; omega)⟩, ?_, fun b hb e => hI.nt b hb e.1, fun p hp => hc5 (cell_lt (hI.cB p hp)) (hI.cB p hp) (hI.nc _ (.inr ⟨p, hp, rfl⟩)), ?_, hc5 lY hI.cY (nC Y h2), ?_⟩, ?_, ?_⟩
  · intro b hb e
    rcases hC' b e with q | q | q
    · exact hI.nc b hb q
    · have := hbh b q
      rcases hb with hb | ⟨p, hp, rfl⟩
      · omega
      · have := cell_lt (hI.cB p hp); omega
    · rcases hb with hb | ⟨p, hp, rfl⟩
      · omega
      · have := cell_lt (hI.cB p hp); omega
  · exact hI.bw.trans ((hb5.mono lw).trans (ht'.below (by omega) fun b hb => no b (by omega) (hI.nc b (.inl hb))))
  · intro D hD
    have := lD D hD
    exact (ht'.same D (by omega) (no D this (nC D (h3 D hD)))).trans ((hb5.block D this).trans (hI.dm D hD))
  · intro b hb
    rcases hC' b hb with q | q | q
    · exact .inl q
    · exact .inr (hbh b q)
    · exact .inr (by omega)
  · exact t5.trans ht' fun b e => e.elim .inl fun e => .inr (hbh b e)
theorem fit_leaves {α β : Type} {key : α → β} {fn : Func} {tmps : Array Value} {K J Jx : List α → Blk → Blk → World → Prop} {Z : List β} {pre : List α} {C T2 : Blk} {ms : List Nat} {V : World} (hf : fn.results = #[]) (hK : Client K) (hk : K pre C T2 V) (hT : ∀ D, D ∈ ms → T2 D) (hn : ms.Nodup) (hd : ∀ D, D ∈ ms → V.heap[D]? = some (.deferred (some [])))
    (hR : ∀ C T W, K pre C T W → (∃ xs C T, xs.map key = Z ∧ J xs C T W) ∨ (∃ pre C T, Jx pre C T W)) :
    LeavesInM Fence.wide 50 Tryz.prog fn tmps (fun e W' => (∃ v, e = .returned v) ∧ ((∃ xs C T, xs.map key = Z ∧ J xs C T W') ∨ (∃ pre C T, Jx pre C T W'))) (ms.map mark) .returning V := by
  refine leaves_marks2 (fun W => ∃ C T, K pre C T W ∧ ∀ D, D ∈ ms → T D) ms ?_ ?_ ms V (fun _ h => h) hn hd ⟨C, T2, hk, hT⟩
  · rintro W D hD ⟨C', T', h1, h2⟩
    exact ⟨C', T', hK.keep h1 (turned_put W _ (h2 D hD)) (fun b e => .inl e), h2⟩
  · rintro W ⟨C', T', h1, _⟩
    exact ⟨_, results_none hf _ _ _, ⟨_, rfl⟩, hR _ _ _ h1⟩
set_option maxRecDepth 1000000 in
set_option maxHeartbeats 4000000 in
theorem fits1_seq {wg : Nat} {wl : Array Value} {wr : Int × Int → Bool} {ma : Option Addr} {m : List (List Int)} {mc : Nat} {ya : Option Addr} {y : List Int} {yc Q KB WB kk : Nat} {w0 w : World} {bs : List (Addr × Value)} (hv : validM m = true) (hly : y.length ≤ 1000) (hkk : kk ≤ 100) (hms : Ms w0 ma m) (hys : Sl w0 ya y) (hbw : Below w0.heap.size w0 w) (hbs : ∀ p ∈ bs, w.cell? p.1 = some p.2)
    (hQ0 : ((⟨Q, 0, none⟩ : Addr), Value.slice ma m.length mc) ∈ bs) (hQ1 : ((⟨Q, 1, none⟩ : Addr), Value.slice ya y.length yc) ∈ bs) (hKB : ((⟨KB, 0, none⟩ : Addr), Value.int .i64 kk) ∈ bs) (hWB : ((⟨WB, 0, none⟩ : Addr), .func (.func wg) #[] wl) ∈ bs)
    (hcf : ∀ W a vs cap, (∀ p ∈ bs, W.cell? p.1 = some p.2) → vs.length ≤ 1000 → Rl W a vs → Calls Tryz.prog 138 #[.slice a vs.length cap, .func (.func wg) #[] wl] W fun e w' => e = .returned (.bool (vs.any wr)) ∧ Below W.heap.size W w') :
    SeqM Tryz.prog 114 #[.pointer (some ⟨Q, 0, none⟩), .pointer (some ⟨KB, 0, none⟩), .pointer (some ⟨WB, 0, none⟩)] encF MemF ownF keyF (fitsTo wr m y (min kk (rankM m) + 1)) (fun b => b < w0.heap.size ∨ ∃ p ∈ bs, b = p.1.block) w := by
  intro l J Jx C T W hW hJ hJx hneed hY h0
  obtain ⟨mn, hmn0⟩ : ∃ mn, min kk (rankM m) = mn := ⟨_, rfl⟩
  rw [hmn0] at hY ⊢
  obtain ⟨hm1, hm6, hc1, hc10, hrows⟩ := validM_of hv
  have HRL : Hid (∀ r ∈ m, r.length = colsM m) := fun r hr => (hrows r hr).1
  have HM1 := Lib.hid hm1
  have HC : Hid (1 ≤ colsM m ∧ colsM m ≤ 10) := ⟨hc1, hc10⟩
  have HMS := Lib.hid hms
  have HYS := Lib.hid hys
  have HV := Lib.hid hv
  have HY := Lib.hid hY
  have H0 := Lib.hid h0
  have HNEED := Lib.hid hneed
  have HCF := Lib.hid hcf
  have HLY := Lib.hid hly
  have HW0 : Hid (Below w0.heap.size w0 W) := hbw.trans (hW.mono hbw.size)
  have HWW := Lib.hid hW
  have HBS := Lib.hid hbs
  have HKK := Lib.hid hkk
  have HCELL : Hid (∀ V : World, (∀ p ∈ bs, V.cell? p.1 = some p.2) → V.cell? ⟨Q, 0, none⟩ = some (.slice ma m.length mc) ∧ V.cell? ⟨Q, 1, none⟩ = some (.slice ya y.length yc) ∧ V.cell? ⟨KB, 0, none⟩ = some (.int .i64 kk) ∧ V.cell? ⟨WB, 0, none⟩ = some (.func (.func wg) #[] wl)) := fun V hb => ⟨hb _ hQ0, hb _ hQ1, hb _ hKB, hb _ hWB⟩
  obtain ⟨b1, o1, ai, rr, ci, rfl, hcell, hsl, HR⟩ := hms.at (show 0 < m.length from hm1)
  have HROW : Hid (∀ V, Below w0.heap.size w0 V → V.cell? ⟨b1, o1, none⟩ = some (.slice ai (colsM m) ci)) := fun V hb => by
    rw [← (hrows rr (List.mem_of_getElem? HR.out)).1]
    exact (hb.cell (p := ⟨b1, o1, none⟩) (cell_lt hcell)).trans hcell
  clear hms hys hv hY h0 hneed hcf hly hkk hW hrows hc1 hc10 hm6 hQ0 hQ1 hKB hWB hcell hsl HR hbs hbw
  obtain ⟨V, hV⟩ : ∃ V, W.alloc (.cells #[.func (.yield l) #[] #[]] 133) = V := ⟨_, rfl⟩
  have HB0 : Hid (Below W.heap.size W V) := by rw [← hV]; exact (Below.refl _ _).alloc (Nat.le_refl _) _
  have HVS : Hid (V.heap.size = W.heap.size + 1) := by rw [← hV]; exact World.size_alloc _ _
  have HCY : Hid (V.cell? ⟨W.heap.size, 0, none⟩ = some (.func (.yield l) #[] #[])) := by rw [← hV]; exact alloc_cell _ _ _ _ _ rfl
  have HBW : Hid (Below w0.heap.size w0 V) := HW0.out.trans (HB0.out.mono HW0.out.size)
  have HBV : Hid (∀ p ∈ bs, V.cell? p.1 = some p.2) := fun p hp => by
    have h1 := (HWW.out.cell (p := p.1) (cell_lt (HBS.out p hp))).trans (HBS.out p hp)
    exact (HB0.out.cell (p := p.1) (cell_lt h1)).trans h1
  obtain ⟨cq0, cq1, ck0, cw0⟩ := HCELL.out V HBV.out
  show Calls _ _ (#[.func (.yield l) #[] #[], .pointer (some ⟨Q, 0, none⟩), .pointer (some ⟨KB, 0, none⟩), .pointer (some ⟨WB, 0, none⟩)]) _ _
  refine (callsIn_wide (n := 50)).1 ?_
  refine callsIn_of_wp_marks Tryz.func114 rfl trivial ?_ rfl
  simp only [Tryz.ntmps114, List.size_toArray, List.length_cons, List.length_nil, Nat.reduceAdd, Nat.reduceSub, Array.replicate_succ, Array.replicate_zero, List.push_toArray, List.append_toArray, List.nil_append, List.cons_append]
  obtain ⟨rk, hrk⟩ : ∃ rk, rankM m = rk := ⟨_, rfl⟩
  have hrkc : rk ≤ colsM m := by
    have h := (basis_fin HV.out).count
    unfold rankM at hrk
    omega
  have HRV : Hid (rankV m = ((rk : Int), 0)) := by
    show _ = _
    unfold rankV
    rw [if_pos HV.out]
    unfold rankM at hrk
    rw [hrk]
  have HRA : Hid (∀ V', Below w0.heap.size w0 V' → Calls Tryz.prog 115 #[.slice (some ⟨b1, o1, none⟩) m.length mc] V' fun e w' => e = .returned (.tuple #[.int .i64 (rk : Int), .int .i64 0]) ∧ Below V'.heap.size V' w') := fun V' hb => by
    have h := lrank_any (some ⟨b1, o1, none⟩) m mc V' (mok_of HV.out) (HMS.out.below hb)
    rw [HRV.out] at h
    exact h
  have hmn : min kk rk = mn := by rw [← hrk]; exact hmn0
  have HMNC : Hid (mn ≤ colsM m) := by show _ ≤ _; omega
  have hrk10 : rk ≤ 10 := by have := HC.out.2; omega
  clear hrk hrkc hmn0
  have hcases : kk < rk ∧ mn = kk ∨ kk = rk ∧ mn = kk ∨ rk < kk ∧ mn = rk := by omega
  rcases hcases with ⟨h, rfl⟩ | ⟨rfl, rfl⟩ | ⟨h, rfl⟩
  all_goals
   (try have hI : (mn : Int) < (rk : Int) := by omega)
   (try have hI : (mn : Int) < (kk : Int) := by omega)
  all_goals gi_wp2_with (refine ⟨trivial, ?_⟩; gi_at_call 115; refine (callsIn_wide.2 (HRA.out V HBW.out)).mono ?_; rintro e w3 ⟨rfl, hb3⟩; have HB3 := Lib.hid hb3; have HBW3 : Hid (Below w0.heap.size w0 w3) := HBW.out.trans (hb3.mono HBW.out.size); have HBV3 : Hid (∀ p ∈ bs, w3.cell? p.1 = some p.2) := fun p hp => (hb3.cell (p := p.1) (cell_lt (HBV.out p hp))).trans (HBV.out p hp); obtain ⟨dq0, dq1, dk0, dw0⟩ := HCELL.out w3 HBV3.out; clear hb3)
  all_goals
    clear hrk10 hmn HRA HRV
    have HW3 : Hid (Below W.heap.size W w3) := HB0.out.trans (HB3.out.mono (by have := HVS.out; omega))
    have HI0 : Hid (∃ pre C, FIn w0 bs W.heap.size l [] J pre C (fun _ => False) w3 ∧ pre.map keyF = fitsTo wr m y 0) := by
      refine ⟨[], C, ⟨⟨fun b => T b ∨ W.heap.size ≤ b, hJ.keep H0.out (turned_below HW3.out) (fun b e => e), fun b e => e.elim, .inr (Nat.le_refl _), fun D hD => by cases hD⟩, HNEED.out, fun b _ e => e, HBV3.out, HBW3.out, ?_, fun D hD => by cases hD⟩, rfl⟩
      exact (HB3.out.cell (p := ⟨W.heap.size, 0, none⟩) (by have := HVS.out; show W.heap.size < _; omega)).trans HCY.out
    clear hV cq0 cq1 ck0 cw0 dq0 dq1 dk0 dw0
    refine wpIn_loop (fun a' X => ∃ (k : Nat) (ms : List Nat) (u5 u6 u7 u8 u9 u10 u11 u12 u13 u14 u15 u16 u17 u18 u19 u22 u23 u24 u25 u26 u27 u28 u29 u30 u31 u32 u33 u34 u35 u36 u37 u38 u39 u40 u41 u42 u43 u44 u45 u46 : Value), a' = { tmps := #[.func (.yield l) #[] #[], .pointer (some ⟨Q, 0, none⟩), .pointer (some ⟨KB, 0, none⟩), .pointer (some ⟨WB, 0, none⟩), .pointer (some ⟨W.heap.size, 0, none⟩), u5, u6, u7, u8, u9, u10, u11, u12, u13, u14, u15, u16, u17, u18, u19, .int .i64 ((mn : Int) + 1), .int .i64 (k : Int), u22, u23, u24, u25, u26, u27, u28, u29, u30, u31, u32, u33, u34, u35, u36, u37, u38, u39, u40, u41, u42, u43, u44, u45, u46], defers := ms.map mark } ∧ k ≤ mn + 1 ∧ ms.Nodup ∧ ∃ pre C, FIn w0 bs W.heap.size l ms J pre C (fun _ => False) X ∧ pre.map keyF = fitsTo wr m y k)
      (fun a' _ => 12 - (intOf (a'.tmps.getD 21 undef)).toNat) ?start ?round
    case start =>
      exact ⟨0, [], _, _, _, _, _, _, _, _, _, _, _, _, _, _, _, _, _, _, _, _, _, _, _, _, _, _, _, _, _, _, _, _, _, _, _, _, _, _, _, _, rfl, Nat.zero_le _, List.nodup_nil, HI0.out⟩
    case round =>
      rintro a' X ⟨k, ms, u5, u6, u7, u8, u9, u10, u11, u12, u13, u14, u15, u16, u17, u18, u19, u22, u23, u24, u25, u26, u27, u28, u29, u30, u31, u32, u33, u34, u35, u36, u37, u38, u39, u40, u41, u42, u43, u44, u45, u46, rfl, hk, hnd, pre, C1, hI, hpre⟩
      have HI := Lib.hid hI
      have HPRE := Lib.hid hpre
      have HND := Lib.hid hnd
      clear HI0 hpre hnd
      by_cases hlt : k < mn + 1
      · obtain ⟨n, hn⟩ : ∃ n, colsM m = n := ⟨_, rfl⟩
        have HN := Lib.hid hn
        have hn1 : 1 ≤ n := by rw [← hn]; exact HC.out.1
        have hn10 : n ≤ 10 := by rw [← hn]; exact HC.out.2
        have hkn : k ≤ n := by have := HMNC.out; omega
        have hcX := HROW.out X hI.bw
        rw [hn] at hcX
        obtain ⟨cq0, cq1, ck0, cw0⟩ := HCELL.out X hI.cB
        clear hn hI
        gi_wp2_with (refine ⟨trivial, ?_⟩; gi_at_call 116; refine (callsIn_wide.2 (ssets_any (n : Int) (k : Int) X)).mono ?_; rintro e w4 ⟨rfl, rfl⟩)
        obtain ⟨V1, hV1⟩ : ∃ V1, (X.alloc (.cells #[.int .i64 (n : Int)] 3)).alloc (.cells #[.int .i64 (k : Int)] 3) = V1 := ⟨_, rfl⟩
        have hv1 : V1.heap.size = X.heap.size + 2 := by rw [← hV1, World.size_alloc, World.size_alloc]
        have hcN : V1.cell? ⟨X.heap.size, 0, none⟩ = some (.int .i64 n) := by rw [← hV1]; exact (alloc_old _ _ _ _ (alloc_lt' rfl)).trans (alloc_cell _ _ _ _ _ rfl)
        have hcS : V1.cell? ⟨X.heap.size + 1, 0, none⟩ = some (.int .i64 (k : Int)) := by rw [← hV1]; exact (two_last _ _ _ _).1
        have hbX : Below X.heap.size X V1 := by rw [← hV1]; exact ((Below.refl _ _).alloc (Nat.le_refl _) _).alloc (by rw [World.size_alloc]; omega) _
        rw [hV1]
        have hC1 : ∀ b, C1 b → b < X.heap.size := by
          obtain ⟨T2, hk2, _⟩ := HI.out.cl
          exact fun b hb => (hJ.lt hk2 b hb).1
        have hI1 : ∃ pre', (pre'.map keyF = fitsTo wr m y k ++ (([] : List SetV).map Prod.snd).filterMap fun px => (fitO wr m y px).map fun vs => (px, vs)) ∧ FIn w0 bs W.heap.size l ms J pre' C1 (fun _ => False) V1 :=
          (FIn.client hJ (q := fun (s : List SetV) pre' => pre'.map keyF = fitsTo wr m y k ++ (s.map Prod.snd).filterMap fun px => (fitO wr m y px).map fun vs => (px, vs))).keep ⟨pre, by rw [HPRE.out]; simp, HI.out⟩ (turned_below hbX) (fun b e => e.elim)
        have HI1 := Lib.hid hI1
        have HXV := Lib.hid hbX
        have HV1 := Lib.hid hv1
        have HC1 := Lib.hid hC1
        have HK := Lib.hid hlt
        clear hI1 hbX hV1 hcX hC1 cq0 cq1 ck0 cw0
        refine wpIn_rangeFunc_M (by omega) (gf := 135) (lb := #[.pointer (some ⟨X.heap.size + 1, 0, none⟩), .pointer (some ⟨X.heap.size, 0, none⟩)]) rfl (enters_of Tryz.func135 (by kernel_rfl) rfl)
          (ssets1_seq n k (X.heap.size + 1) X.heap.size (by omega) hkn V1 hcS hcN) (Below.refl _ _) (fun _ => rfl) memS_put
          (fun s C T W' => ∃ pre', (pre'.map keyF = fitsTo wr m y k ++ (s.map Prod.snd).filterMap fun px => (fitO wr m y px).map fun vs => (px, vs)) ∧ FIn w0 bs W.heap.size l ms J pre' C T W')
          (fun c s C T W' => ∃ pre' : List FitV, c = .ret ∧ FIn w0 bs W.heap.size l ms Jx pre' C T W')
          (FIn.client hJ) (fun c => FIn.client hJx (q := fun _ _ => c = .ret)) C1 (fun _ => False) ?need (fun _ e => e.elim) HI1.out
          (fun x => { tmps := #[.func (.yield l) #[] #[], .pointer (some ⟨Q, 0, none⟩), .pointer (some ⟨KB, 0, none⟩), .pointer (some ⟨WB, 0, none⟩), .pointer (some ⟨W.heap.size, 0, none⟩), u5, u6, .int .i64 (k : Int), .slice (some ⟨x.1, 0, none⟩) x.2.length x.2.length, u9, u10, u11, u12, u13, u14, u15, u16, u17, u18, u19, .int .i64 ((mn : Int) + 1), .int .i64 (k : Int), .bool true, .int .i64 (k : Int), .pointer (some ⟨Q, 0, none⟩), .slice (some ⟨b1, o1, none⟩) m.length mc, .pointer (some ⟨b1, o1, none⟩), .slice ai n ci, .int .i64 (n : Int), .int .i64 (k : Int), .func (.func 135) #[] #[.pointer (some ⟨X.heap.size + 1, 0, none⟩), .pointer (some ⟨X.heap.size, 0, none⟩)], .slice (some ⟨x.1, 0, none⟩) x.2.length x.2.length, u32, u33, u34, u35, u36, u37, u38, u39, u40, u41, u42, u43, u44, u45, u46], defers := [] }) ?assign ?body ?done ?stop
        case need =>
          have h1 := HV1.out
          rintro b (rfl | rfl)
          · exact ⟨fun e => by have := HC1.out _ e; omega, by omega⟩
          · exact ⟨fun e => by have := HC1.out _ e; omega, by omega⟩
        case assign =>
          intro l2 x V K hK
          gi_wp2
          exact hK
        case stop =>
          rintro D c pre2 C3 T3 V2 hD ⟨pre', rfl, hI'⟩ hTD hK2
          obtain ⟨T2, q1, q2, q3, q4⟩ := hI'.cl
          have X1 := Lib.hid q1; have X4 := Lib.hid q4
          have XT := Lib.hid (q2 D hTD)
          have XD := Lib.hid hK2
          have XM := Lib.hid hI'.dm
          have hlD : ∀ E, E ∈ ms → E < X.heap.size := fun E hE => (Array.getElem?_eq_some_iff.1 (HI.out.dm E hE)).1
          have XN : Hid ((D :: ms).Nodup) := List.nodup_cons.2 ⟨fun hm => by have := hlD D hm; have := HV1.out; omega, HND.out⟩
          clear q1 q2 q3 q4 hI' hK2 hTD hD hcS hcN hv1 hlD
          gi_wp2
          refine fit_leaves (ms := D :: ms) rfl hJx X1.out ?_ XN.out ?_ (fun C T W h => .inr ⟨_, _, _, h⟩)
          · intro E hE
            rcases List.mem_cons.1 hE with rfl | hE
            · exact XT.out
            · exact X4.out E hE
          · intro E hE
            rcases List.mem_cons.1 hE with rfl | hE
            · exact XD.out
            · exact XM.out E hE
        case done =>
          rintro D ys C3 T3 V2 hD hys ⟨pre', hpre', hI'⟩ hTD hK2
          have hlD : ∀ E, E ∈ ms → E < X.heap.size := fun E hE => (Array.getElem?_eq_some_iff.1 (HI.out.dm E hE)).1
          have XN : Hid ((D :: ms).Nodup) := List.nodup_cons.2 ⟨fun hm => by have := hlD D hm; have := HV1.out; omega, HND.out⟩
          have XP : Hid (pre'.map keyF = fitsTo wr m y (k + 1)) := by show _ = _; rw [hpre', hys, fitsTo_succ, HN.out]
          have XI : Hid (FIn w0 bs W.heap.size l (D :: ms) J pre' C3 (fun _ => False) V2) := by
            obtain ⟨T2, q1, q2, q3, q4⟩ := hI'.cl
            refine ⟨⟨T2, q1, fun b e => e.elim, q3, fun E hE => ?_⟩, hI'.nc, fun b _ e => e, hI'.cB, hI'.bw, hI'.cY, fun E hE => ?_⟩
            · rcases List.mem_cons.1 hE with rfl | hE
              · exact q2 _ hTD
              · exact q4 E hE
            · rcases List.mem_cons.1 hE with rfl | hE
              · exact hK2
              · exact hI'.dm E hE
          clear hys hpre' hI' hTD hK2 hcS hcN hv1 hlD hD
          gi_wp2
          refine ⟨?_, ?_⟩
          · refine ⟨k + 1, D :: ms, ?_⟩
            (repeat apply Exists.intro)
            refine ⟨?_, by have := HK.out; omega, XN.out, pre', C3, XI.out, XP.out⟩
            simp only [List.map_cons, mark]
            congr 1
          · have := HK.out; simp [intOf]; omega
        case body =>
          rintro l2 pre2 ⟨xb, xs⟩ C3 T3 V2 ⟨pre', hpre', hI'⟩ hmem hown ⟨rest, hrest⟩
          dsimp only at hmem hrest
          have hin : xs ∈ compl n k 0 := by rw [hrest]; simp
          obtain ⟨hxl, hxr⟩ := compl_mem hin
          have hxl2 : xs.length ≤ 1000 := by omega
          have XSL := Lib.hid (OwnI.sl hmem)
          have XI := Lib.hid hI'
          have XP := Lib.hid hpre'
          have XR := Lib.hid hrest
          obtain ⟨cq0, cq1, ck0, cw0⟩ := HCELL.out V2 hI'.cB
          obtain ⟨r, hr⟩ : ∃ r, fitO wr m y xs = r := ⟨_, rfl⟩
          have HFO := Lib.hid hr
          have HFT : Hid (Calls Tryz.prog 117 #[.agg #[.slice (some ⟨b1, o1, none⟩) m.length mc, .slice ya y.length yc], .slice (some ⟨xb, 0, none⟩) xs.length xs.length, .func (.func wg) #[] wl] V2 (FitPost r xs V2)) := by
            rw [← hr]
            exact sfit_any (.func (.func wg) #[] wl) wr _ m mc ya y yc ⟨xb, 0, none⟩ xs xs.length V2 (mok_of HV.out) hxl2 HLY.out (HMS.out.below hI'.bw) XSL.out (HYS.out.below hI'.bw) fun W a vs cap hb h1 h2 => HCF.out W a vs cap (fun p hp => (hb.cell (p := p.1) (cell_lt (hI'.cB p hp))).trans (hI'.cB p hp)) h1 h2
          have hcY2 := hI'.cY
          clear hmem hrest hin hxl hxr hI' hpre' hown hcS hcN hv1 hr
          dsimp only
          cases r with
          | none =>
            have HFT2 : Hid (Calls Tryz.prog 117 #[.agg #[.slice (some ⟨b1, o1, none⟩) m.length mc, .slice ya y.length yc], .slice (some ⟨xb, 0, none⟩) xs.length xs.length, .func (.func wg) #[] wl] V2 fun e w' => Hid (Below V2.heap.size V2 w') ∧ e = .returned (.tuple #[.agg #[.slice none 0 0, .slice none 0 0], .bool false])) := HFT.out.mono fun e w' ⟨h1, h2⟩ => ⟨h1, by
              rcases h2 with ⟨_, h2⟩ | ⟨vs, _, _, _, _, h3, _⟩
              · exact h2
              · cases h3⟩
            clear HFT
            gi_wp2_with (refine ⟨trivial, ?_⟩; gi_at_call 117; refine (callsIn_wide.2 HFT2.out).mono ?_; rintro e W5 ⟨HB5, rfl⟩)
            have HB6 : Hid (Below V2.heap.size V2 (W5.alloc (.cells #[.slice none 0 0, .slice none 0 0] 106))) := HB5.out.alloc HB5.out.size _
            obtain ⟨q1, q2, q3⟩ := (FIn.client hJ (q := fun (s : List SetV) pre' => pre'.map keyF = fitsTo wr m y k ++ (s.map Prod.snd).filterMap fun px => (fitO wr m y px).map fun vs => (px, vs))).keep (pre := pre2) ⟨pre', XP.out, XI.out⟩ (turned_below HB6.out) (fun b e => .inl e)
            have Q1 := Lib.hid q2; have Q3 := Lib.hid q3
            clear q2 q3
            refine ⟨fun _ h => (by cases h), ?_⟩
            gi_wp2
            refine ⟨C3, T3, ⟨q1, ?_, Q3.out⟩, fun b hb _ _ => hb, fun b hb => .inl hb, turned_below HB6.out⟩
            rw [Q1.out, List.map_append, List.filterMap_append]
            simp [HFO.out]
          | some vs =>
            obtain ⟨T2, q1, q2, q3, q4⟩ := XI.out.cl
            have XPR : Hid (∃ rest2, fitsTo wr m y (mn + 1) = pre'.map keyF ++ (xs, vs) :: rest2) := by
              obtain ⟨post, hpost⟩ := fitsTo_split wr m y (k + 1) (mn + 1) (by have := HK.out; omega)
              refine ⟨rest.filterMap (fun px => (fitO wr m y px).map fun vs => (px, vs)) ++ post, ?_⟩
              rw [hpost, fitsTo_succ, HN.out, XR.out, XP.out, List.filterMap_append, List.filterMap_cons, HFO.out]
              simp
            have Q1 := Lib.hid q1; have Q2 := Lib.hid q2; have Q3 := Lib.hid q3; have Q4 := Lib.hid q4
            have HYP : Hid (∀ qa qc va vc W5, Below V2.heap.size V2 W5 → FitAt W5 V2.heap.size qa xs va vs → YieldAt Fence.wide 47 Tryz.prog l (encF ⟨qa, qc, xs, va, vc, vs⟩) (W5.alloc (.cells #[.slice qa xs.length qc, .slice va vs.length vc] 106)) fun e W' =>
                (e = .returned (.bool true) ∧ Went J ownF pre' ⟨qa, qc, xs, va, vc, vs⟩ C3 (fun b => T2 b ∨ V2.heap.size ≤ b) (W5.alloc (.cells #[.slice qa xs.length qc, .slice va vs.length vc] 106)) W') ∨ (e = .returned (.bool false) ∧ Went Jx ownF pre' ⟨qa, qc, xs, va, vc, vs⟩ C3 (fun b => T2 b ∨ V2.heap.size ≤ b) (W5.alloc (.cells #[.slice qa xs.length qc, .slice va vs.length vc] 106)) W')) := by
              intro qa qc va vc W5 hb5 hfa
              have hb6 : Below V2.heap.size V2 (W5.alloc (.cells #[.slice qa xs.length qc, .slice va vs.length vc] 106)) := hb5.alloc hb5.size _
              have hb7 : Below W5.heap.size W5 (W5.alloc (.cells #[.slice qa xs.length qc, .slice va vs.length vc] 106)) := (Below.refl _ _).alloc (Nat.le_refl _) _
              refine HY.out pre' ⟨qa, qc, xs, va, vc, vs⟩ C3 (fun b => T2 b ∨ V2.heap.size ≤ b) _ (hJ.keep Q1.out (turned_below hb6) (fun b e => e)) ⟨hfa.sl.below hb7, hfa.rl.below hb7, fun ad e => ⟨Nat.zero_le _, Nat.lt_of_lt_of_le (hfa.q ad e).2 hb7.size⟩, fun ad e => ⟨Nat.zero_le _, Nat.lt_of_lt_of_le (hfa.v ad e).2 hb7.size⟩⟩ (fun b e => ?_) XPR.out 47
              rcases e with ⟨ad, e, rfl⟩ | ⟨ad, e, rfl⟩
              · exact .inr (hfa.q ad e).1
              · exact .inr (hfa.v ad e).1
            have HFT2 : Hid (Calls Tryz.prog 117 #[.agg #[.slice (some ⟨b1, o1, none⟩) m.length mc, .slice ya y.length yc], .slice (some ⟨xb, 0, none⟩) xs.length xs.length, .func (.func wg) #[] wl] V2 fun e w' => ∃ qa qc va vc, e = .returned (.tuple #[.agg #[.slice qa xs.length qc, .slice va vs.length vc], .bool true]) ∧ Below V2.heap.size V2 w' ∧ FitAt w' V2.heap.size qa xs va vs) := HFT.out.mono fun e w' ⟨h1, h2⟩ => by
              rcases h2 with ⟨h3, _⟩ | ⟨vs', qa, qc, va, vc, h3, h4, h5⟩
              · cases h3
              · obtain rfl := Option.some.inj h3
                exact ⟨qa, qc, va, vc, h4, h1, h5⟩
            clear HFT q1 q2 q3 q4
            gi_wp2_with (refine ⟨trivial, ?_⟩; gi_at_call 117; refine (callsIn_wide.2 HFT2.out).mono ?_; rintro e W5 ⟨qa, qc, va, vc, rfl, hb5, hfa⟩; obtain ⟨fn, tmps, assign, body, hy1, hR⟩ := HYP.out qa qc va vc W5 hb5 hfa; have HFA := Lib.hid hfa; have HB5 := Lib.hid hb5; have hcY5 := (hb5.cell (p := ⟨W.heap.size, 0, none⟩) (cell_lt hcY2)).trans hcY2; have hcY6 := (alloc_old W5 (.cells #[.slice qa xs.length qc, .slice va vs.length vc] 106) _ _ (cell_lt hcY5)).trans hcY5; clear hb5 hfa)
            have HB6 : Hid (Below V2.heap.size V2 (W5.alloc (.cells #[.slice qa xs.length qc, .slice va vs.length vc] 106))) := HB5.out.alloc HB5.out.size _
            have HBH : Hid (∀ b, ownF ⟨qa, qc, xs, va, vc, vs⟩ b → V2.heap.size ≤ b) := fun b e => by
              rcases e with ⟨ad, e, rfl⟩ | ⟨ad, e, rfl⟩
              · exact (HFA.out.q ad e).1
              · exact (HFA.out.v ad e).1
            refine hR.mono ?_
            rintro e W6 (⟨rfl, hw⟩ | ⟨rfl, hw⟩)
            · obtain ⟨C', r1, r2, r3⟩ := fin_next hJ XI.out Q1.out Q2.out Q3.out Q4.out HB6.out HBH.out hw
              have R1 := Lib.hid r1; have R2 := Lib.hid r2; have R3 := Lib.hid r3
              clear r1 r2 r3 hw hR hy1 hcY5 hcY6 hcY2 cq0 cq1 ck0 cw0
              gi_wp2
              refine ⟨C', fun b => T3 b ∧ b < V2.heap.size, ⟨_, ?_, R1.out⟩, fun b hb hl _ => ⟨hb, hl⟩, fun b hb => (R2.out b hb).elim .inl (fun q => .inr (.inr q)), R3.out.mono fun b _ e => .inl e⟩
              rw [List.map_append, XP.out, List.map_append, List.filterMap_append]
              simp [HFO.out]
            · obtain ⟨C', r1, r2, r3⟩ := fin_next hJ XI.out Q1.out Q2.out Q3.out Q4.out HB6.out HBH.out hw
              have R1 := Lib.hid r1; have R2 := Lib.hid r2; have R3 := Lib.hid r3
              clear r1 r2 r3 hw hR hy1 hcY5 hcY6 hcY2 cq0 cq1 ck0 cw0
              gi_wp2
              exact ⟨C', fun b => T3 b ∧ b < V2.heap.size, ⟨_, rfl, R1.out⟩, fun b hb hl _ => ⟨hb, hl⟩, fun b hb => (R2.out b hb).elim .inl (fun q => .inr (.inr q)), R3.out.mono fun b _ e => .inl e⟩
      · obtain ⟨T2, q1, q2, q3, q4⟩ := hI.cl
        obtain rfl : k = mn + 1 := by omega
        have X1 := Lib.hid q1; have X4 := Lib.hid q4
        have XM := Lib.hid hI.dm
        clear q1 q2 q3 q4 hI
        gi_wp2
        refine fit_leaves (ms := ms) rfl hJ X1.out X4.out HND.out XM.out (fun C T W h => .inl ⟨_, _, _, ?_, h⟩)
        exact HPRE.out
end Go.Proofs.YtgbnfhfkehpfaaaGreat
/- Slices of fits of the call's own: appended to, in a plain walk and in a fenced one. -/
namespace Go.Proofs.YtgbnfhfkehpfaaaGreat
open Go.RowKit

theorem Tryz.infoFit : (Tryz.prog.info? 106).map (fun i => (i.zero, i.size, i.bytes)) = some (some (.agg #[.slice none 0 0, .slice none 0 0]), 2, 48) := by kernel_rfl
def flatF : List FitV → List Value
  | [] => []
  | x :: xs => .slice x.qa x.px.length x.qc :: .slice x.va x.vs.length x.vc :: flatF xs
theorem flatF_at : ∀ (xs : List FitV) {j : Nat} {x : FitV}, xs[j]? = some x → (flatF xs)[j * 2]? = some (.slice x.qa x.px.length x.qc) ∧ (flatF xs)[j * 2 + 1]? = some (.slice x.va x.vs.length x.vc)
  | [], j, p, h => by simp at h
  | q :: ps, 0, p, h => by simp at h; subst h; exact ⟨rfl, rfl⟩
  | q :: ps, j + 1, p, h => by
    have h := flatF_at ps (j := j) (x := p) (by simpa using h)
    rw [show (j + 1) * 2 = j * 2 + 1 + 1 by omega]
    exact ⟨by simp only [flatF, List.getElem?_cons_succ]; exact h.1, by simp only [flatF, List.getElem?_cons_succ]; exact h.2⟩
theorem flatF_snoc : ∀ (xs : List FitV) (x : FitV), flatF (xs ++ [x]) = flatF xs ++ [.slice x.qa x.px.length x.qc, .slice x.va x.vs.length x.vc]
  | [], x => rfl
  | p :: ps, x => by simp only [List.cons_append, flatF, flatF_snoc ps x]
def OwnF (w : World) (base : Nat) (v : Value) (xs : List FitV) : Prop := w.ownsRow base 106 2 v xs.length (flatF xs)
theorem OwnF.nil (w : World) (base : Nat) : OwnF w base (.slice none 0 0) [] := World.ownsRow_nil _ _ _ _
theorem OwnF.below {w w' : World} {base : Nat} {v : Value} {xs : List FitV} (h : OwnF w base v xs) (hb : Below w.heap.size w w') : OwnF w' base v xs := row_below h hb
theorem OwnF.same {w w' : World} {base : Nat} {v : Value} {xs : List FitV} (h : OwnF w base v xs) (hb : ∀ b, v.ownBlock = some b → w'.heap[b]? = w.heap[b]?) : OwnF w' base v xs := row_same h hb
theorem OwnF.form {w : World} {base : Nat} {v : Value} {xs : List FitV} (h : OwnF w base v xs) : (v = .slice none 0 0 ∧ xs = []) ∨ ∃ g cap, v = .slice (some ⟨g, 0, none⟩) xs.length cap := by
  obtain ⟨h0, ⟨e, hn⟩ | ⟨g, cap, cur, e, _⟩⟩ := h
  · exact .inl ⟨e, List.length_eq_zero_iff.1 hn⟩
  · exact .inr ⟨g, cap, e⟩
theorem OwnF.cell {w : World} {base g n cap : Nat} {xs : List FitV} (h : OwnF w base (.slice (some ⟨g, 0, none⟩) n cap) xs) {j : Nat} {x : FitV} (hj : xs[j]? = some x) :
    w.cell? ⟨g, j * 2, none⟩ = some (.slice x.qa x.px.length x.qc) ∧ w.cell? ⟨g, j * 2 + 1, none⟩ = some (.slice x.va x.vs.length x.vc) := by
  have hl := (List.getElem?_eq_some_iff.1 hj).1
  obtain ⟨h1, h2⟩ := flatF_at xs hj
  obtain rfl : n = xs.length := by
    rcases h.form with ⟨e, _⟩ | ⟨g', cap', e⟩
    · cases e
    · simpa using congrArg (fun v => match v with | .slice _ n _ => n | _ => 0) e
  have h : w.ownsRow base 106 2 (.slice (some ⟨g, 0, none⟩) xs.length cap) xs.length (flatF xs) := h
  exact ⟨(World.ownsRow.cellAt h (j * 2) (by omega)).trans h1, (World.ownsRow.cellAt h (j * 2 + 1) (by omega)).trans h2⟩
theorem OwnF.block {w : World} {base b : Nat} {v : Value} {xs : List FitV} (h : OwnF w base v xs) (hb : v.ownBlock = some b) : b < w.heap.size := (World.ownsRow.lt h b hb).2
theorem ownF_news (V : World) (u v : Value) (t : TypeId) : ∀ j x, [u, v][j]? = some x → (V.alloc (.cells #[u, v] t)).cell? ((⟨V.heap.size, 0, none⟩ : Addr).add j) = some x := fun j x hj => by
  match j, hj with
  | 0, hj => simp at hj; subst hj; rw [addr_add]; exact alloc_cell _ _ _ _ _ rfl
  | 1, hj => simp at hj; subst hj; rw [addr_add]; exact alloc_cell _ _ _ _ _ rfl
  | j + 2, hj => simp at hj
theorem wpListIn_append_lies {F : Fence} {r : Nat} {P : Program} {w : World} {ops : Array Oper} {rest : List Oper} {o : Oper} {a : Act} {Q : Exit → Act → World → Prop} (hgd : o.guard = none) (s x : Operand) (t : TypeId)
    (ho : o.op = .call { callee := .builtin .append, args := #[s, x], argTypes := #[t, t] })
    (base : Nat) (e : TypeId) (i : TypeInfo) (z : Value) (size bytes : Nat) (ht : P.underlying t = some (.slice e)) (hi : P.info? e = some i) (hz : i.zero = some z)
    (hsize : i.size = size) (hby : i.bytes = bytes) (hzs : z.cells.size = size) (hsz : 0 < size)
    (v : Value) (n : Nat) (xs : List Value) (hs : a.eval s = v) (hown : w.ownsRow base e size v n xs)
    (ad : Addr) (m c : Nat) (news : List Value) (hx : a.eval x = .slice (some ad) m c) (hl : news.length = m * size) (hnews : ∀ j u, news[j]? = some u → w.cell? (ad.add j) = some u) (h1 : ∀ u ∈ news, u.oneCell' = true)
    (hm : 0 < m) (h63 : n + m ≤ maxLen) (hbytes : (n + m) * bytes ≤ 140737488355328) (hbase : base ≤ w.heap.size) (H : Nat) (hH : w.heap.size = H)
    (h : ∀ g cap w', w'.ownsRow base e size (.slice (some ⟨g, 0, none⟩) (n + m) cap) (n + m) (xs ++ news) → w.grownBy w' v.ownBlock → (v.ownBlock = some g ∨ g = H) → g < w'.heap.size → wpListIn F r P ops Q rest (a.put o.dst (.slice (some ⟨g, 0, none⟩) (n + m) cap)) w') : wpListIn F r P ops Q (o :: rest) a w := by
  refine wpListIn_plain hgd fun K hK' => ?_
  obtain ⟨g, cap, w', hr, h2, h3, h4, h5⟩ := run_append_lies (P := P) w t o.type base e i z size bytes ht hi hz hsize hby hzs hsz v n xs hown ad m c news hl hnews h1 hm h63 hbytes hbase H hH
  unfold Oper.wpIn
  refine ⟨?_, ?_⟩
  · simp [Oper.about, ho, resolve, Target.leads, Sem.run_pure]
  · rw [Oper.semAt_plain F _ _ (by rw [ho]; intro c hc'; cases hc')]
    simp [execOp, ho, resolve, invoke, builtin, hs, hx, hr, Result.andThen]
    exact hK' _ _ (h g cap w' h2 h3 h4 h5)
def PushedF (V : World) (base : Nat) (v : Value) (xs : List FitV) (x : FitV) (g cap : Nat) (w' : World) : Prop :=
  OwnF w' base (.slice (some ⟨g, 0, none⟩) (xs.length + 1) cap) (xs ++ [x]) ∧ Turned (fun b => v.ownBlock = some b) V w' ∧ (v.ownBlock = some g ∨ V.heap.size ≤ g)
theorem pushedF {V w' : World} {base : Nat} {v : Value} {xs : List FitV} {x : FitV} {g cap : Nat} {t : TypeId} (h1 : w'.ownsRow base 106 2 (.slice (some ⟨g, 0, none⟩) (xs.length + 1) cap) (xs.length + 1) (flatF xs ++ [.slice x.qa x.px.length x.qc, .slice x.va x.vs.length x.vc]))
    (h2 : (V.alloc (.cells #[.slice x.qa x.px.length x.qc, .slice x.va x.vs.length x.vc] t)).grownBy w' v.ownBlock) (h3 : v.ownBlock = some g ∨ g = (V.alloc (.cells #[.slice x.qa x.px.length x.qc, .slice x.va x.vs.length x.vc] t)).heap.size) : PushedF V base v xs x g cap w' := by
  refine ⟨?_, ?_, h3.imp_right fun e => by rw [e, World.size_alloc]; omega⟩
  · show World.ownsRow _ _ _ _ _ _ _
    rw [flatF_snoc, List.length_append]; exact h1
  · exact (turned_alloc _ V _).trans (turned_grown (T := fun b => v.ownBlock = some b) h2 fun r e => e) fun b e => .inl e
theorem wpListIn_pushF {F : Fence} {r : Nat} {ops : Array Oper} {rest : List Oper} {o : Oper} {act : Act} {Q : Exit → Act → World → Prop} (hgd : o.guard = none) (s x : Operand)
    (ho : o.op = .call { callee := .builtin .append, args := #[s, x], argTypes := #[78, 78] }) (base : Nat) (v : Value) (xs : List FitV) (y : FitV) (V : World) (B : Nat) (t : TypeId)
    (hs : act.eval s = v) (hx : act.eval x = .slice (some ⟨B, 0, none⟩) 1 1) (hB : B = V.heap.size) (hown : OwnF V base v xs) (hl : xs.length ≤ 100000) (hbase : base ≤ V.heap.size)
    (h : ∀ g cap w', PushedF V base v xs y g cap w' → wpListIn F r Tryz.prog ops Q rest (act.put o.dst (.slice (some ⟨g, 0, none⟩) (xs.length + 1) cap)) w') : wpListIn F r Tryz.prog ops Q (o :: rest) act (V.alloc (.cells #[.slice y.qa y.px.length y.qc, .slice y.va y.vs.length y.vc] t)) := by
  obtain ⟨i0, hi, hz0, hz1, hz2⟩ := info_parts Tryz.infoFit
  subst hB
  have hb1 : Below V.heap.size V (V.alloc (.cells #[.slice y.qa y.px.length y.qc, .slice y.va y.vs.length y.vc] t)) := (Below.refl _ _).alloc (Nat.le_refl _) _
  refine wpListIn_append_lies hgd s x 78 ho base 106 i0 (.agg #[.slice none 0 0, .slice none 0 0]) 2 48 Tryz.underlying78 hi hz0 hz1 hz2 rfl (by decide) v xs.length (flatF xs) hs (hown.below hb1) ⟨V.heap.size, 0, none⟩ 1 1 [.slice y.qa y.px.length y.qc, .slice y.va y.vs.length y.vc] hx rfl (ownF_news _ _ _ _) (fun u hu => by simp at hu; rcases hu with rfl | rfl <;> rfl) (by decide) (by unfold maxLen; omega) (by omega) (by rw [World.size_alloc]; omega) _ rfl ?_
  intro g cap w' h1 h2 h3 _
  exact h g cap w' (pushedF h1 h2 h3)
theorem memF_turned {x : FitV} {T : Blk} {W W' : World} (h : MemF x W) (ht : Turned T W W') (hn : ∀ b, ownF x b → ¬ T b) : MemF x W' := by
  refine ⟨fun k hk => ?_, fun j p hj => ?_, fun ad e => ⟨Nat.zero_le _, Nat.lt_of_lt_of_le (h.q ad e).2 ht.size⟩, fun ad e => ⟨Nat.zero_le _, Nat.lt_of_lt_of_le (h.v ad e).2 ht.size⟩⟩
  · obtain ⟨b, o, e, hc⟩ := h.sl k hk
    exact ⟨b, o, e, ht.cell hc (hn _ (.inl ⟨_, e, rfl⟩))⟩
  · obtain ⟨b, e, c1, c2⟩ := h.rl j p hj
    exact ⟨b, e, ht.cell c1 (hn _ (.inr ⟨_, e, rfl⟩)), ht.cell c2 (hn _ (.inr ⟨_, e, rfl⟩))⟩
theorem memF_lt {x : FitV} {W : World} (h : MemF x W) {b : Nat} (hb : ownF x b) : b < W.heap.size := by
  rcases hb with ⟨ad, e, rfl⟩ | ⟨ad, e, rfl⟩
  · exact (h.q ad e).2
  · exact (h.v ad e).2
def Fs (W : World) (a : Option Addr) (l : List (List Int × List (Int × Int))) : Prop := ∀ k p, l[k]? = some p → ∃ b qa qc va vc, a = some ⟨b, 0, none⟩ ∧ W.cell? ⟨b, k * 2, none⟩ = some (.slice qa p.1.length qc) ∧ W.cell? ⟨b, k * 2 + 1, none⟩ = some (.slice va p.2.length vc) ∧ Sl W qa p.1 ∧ Rl W va p.2
theorem Fs.below {W W' : World} {a : Option Addr} {l : List (List Int × List (Int × Int))} (h : Fs W a l) (hb : Below W.heap.size W W') : Fs W' a l := fun k p hk => by
  obtain ⟨b, qa, qc, va, vc, e, h1, h2, h3, h4⟩ := h k p hk
  exact ⟨b, qa, qc, va, vc, e, (hb.cell (p := ⟨b, k * 2, none⟩) (cell_lt h1)).trans h1, (hb.cell (p := ⟨b, k * 2 + 1, none⟩) (cell_lt h2)).trans h2, h3.below hb, h4.below hb⟩
theorem OwnF.fs {W : World} {base : Nat} {a : Option Addr} {n cap : Nat} {xs : List FitV} (h : OwnF W base (.slice a n cap) xs) (hm : ∀ x ∈ xs, MemF x W) : n = xs.length ∧ Fs W a (xs.map keyF) := by
  rcases h.form with ⟨e, rfl⟩ | ⟨g, cap', e⟩
  · have : n = 0 := by simpa using congrArg (fun v => match v with | .slice _ n _ => n | _ => 0) e
    exact ⟨this, fun k p hk => by simp at hk⟩
  · obtain ⟨rfl, rfl, rfl⟩ : a = some ⟨g, 0, none⟩ ∧ n = xs.length ∧ cap = cap' := by simpa using e
    refine ⟨rfl, fun k p hk => ?_⟩
    rw [List.getElem?_map] at hk
    obtain ⟨x, hx, rfl⟩ := Option.map_eq_some_iff.1 hk
    obtain ⟨c1, c2⟩ := h.cell hx
    have hmx := hm x (List.mem_of_getElem? hx)
    exact ⟨g, x.qa, x.qc, x.va, x.vc, rfl, c1, c2, hmx.sl, hmx.rl⟩
def leastF (Z : List (List Int × List (Int × Int))) : List (List Int × List (Int × Int)) := match Z with | [] => [] | p :: _ => Z.filter fun q => q.1.length == p.1.length
def zB (p : Int × Int) : Bool := p.1 == 0
def allFits (m : List (List Int)) (y : List Int) : List (List Int × List (Int × Int)) := fitsTo zB m y (min 10 (rankM m) + 1)
theorem allFits_len {m : List (List Int)} (hv : validM m = true) (y : List Int) : ∀ wr k, k ≤ 11 → (fitsTo wr m y k).length ≤ 300 * k
  | wr, 0, _ => by simp [fitsTo]
  | wr, k + 1, h => by
    rw [fitsTo_succ, List.length_append]
    have h1 := allFits_len hv y wr k (by omega)
    have h2 := List.length_filterMap_le (fun px => (fitO wr m y px).map fun vs => (px, vs)) (compl (colsM m) k 0)
    have h3 := len_small (colsM m) (validM_of hv).2.2.2.1 k (by omega)
    omega
end Go.Proofs.YtgbnfhfkehpfaaaGreat
/- Solve of the answers, and fractions compared: contracts. -/
namespace Go.Proofs.YtgbnfhfkehpfaaaGreat
open Go.RowKit

end Go.Proofs.YtgbnfhfkehpfaaaGreat
/- every and known of the answers: contracts. -/
namespace Go.Proofs.YtgbnfhfkehpfaaaGreat
open Go.RowKit

def rknownB (m : List (List Int)) (j : Nat) : Bool := (basisM m).all fun h => gt h j == 0
end Go.Proofs.YtgbnfhfkehpfaaaGreat
/- Read and Any of the answers: contracts. -/
namespace Go.Proofs.YtgbnfhfkehpfaaaGreat
open Go.RowKit

def anyV (m : List (List Int)) (y : List Int) : List (Int × Int) × Int :=
  if readE m y = 0 then (if possB (redB m (upTo (colsM m)) (oneB y)).rows (redB m (upTo (colsM m)) (oneB y)).piv.length (upTo (colsM m)).length = true then (solL (upTo (colsM m)).length (redB m (upTo (colsM m)) (oneB y)).rows (redB m (upTo (colsM m)) (oneB y)).piv (redB m (upTo (colsM m)) (oneB y)).dv (redB m (upTo (colsM m)) (oneB y)).piv.length, 0) else ([], 10)) else ([], readE m y)
end Go.Proofs.YtgbnfhfkehpfaaaGreat
/- Any of the program: a contract. -/
namespace Go.Proofs.YtgbnfhfkehpfaaaGreat
open Go.RowKit

end Go.Proofs.YtgbnfhfkehpfaaaGreat
/- Possible of the answers: a contract. -/
namespace Go.Proofs.YtgbnfhfkehpfaaaGreat
open Go.RowKit

def possV (m : List (List Int)) (y : List Int) : Bool × Int := if (anyV m y).2 = 10 then (false, 0) else (decide ((anyV m y).2 = 0), (anyV m y).2)
end Go.Proofs.YtgbnfhfkehpfaaaGreat
/- Possible of the program: a contract. -/
namespace Go.Proofs.YtgbnfhfkehpfaaaGreat
open Go.RowKit

set_option maxRecDepth 1000000 in
set_option maxHeartbeats 3200000 in
theorem lpossible_any (ma : Option Addr) (m : List (List Int)) (mc : Nat) (ya : Option Addr) (y : List Int) (yc : Nat) (w : World) (hm : MOk m) (hly : y.length ≤ 9223372036854775807) (hs : Ms w ma m) (hy : Sl w ya y) :
    Calls Tryz.prog 14 #[.slice ma m.length mc, .slice ya y.length yc] w fun e w' => e = .returned (.tuple #[.bool (possV m y).1, .int .i64 (possV m y).2]) ∧ Below w.heap.size w w' := by
  obtain ⟨rv, hrv⟩ : ∃ rv, readE m y = rv := ⟨_, rfl⟩
  have HRE : Hid (Calls Tryz.prog 38 #[.slice ma m.length mc, .slice ya y.length yc] w fun e w' => e = .returned (.int .i64 rv) ∧ Below w.heap.size w w') := by rw [← hrv]; exact lread_any ma m mc ya y yc w hm hly hs hy
  by_cases hr0 : rv = 0
  · subst hr0
    obtain ⟨hv, hyl, hyb⟩ := readE_ok hrv
    obtain ⟨px, hpx⟩ : ∃ px, upTo (colsM m) = px := ⟨_, rfl⟩
    have h1 : ∀ j ∈ px, 0 ≤ j ∧ j < (colsM m : Int) := fun j hj => by rw [← hpx] at hj; exact upTo_in hj
    have h2 : px.length ≤ 10 := by rw [← hpx, upTo_len]; exact (validM_of hv).2.2.2.1
    obtain ⟨hm1, hm6, hc1, hc10, hrows⟩ := validM_of hv
    have h64 : Hid (All64 m) := fun q hq x hx => by
      obtain ⟨c, hc, rfl⟩ := mem_gt.1 hx
      have := gt_in (hrows q hq).2 hc
      unfold In64; omega
    have hy64 : ∀ x ∈ y, In64 x := fun x hx => by
      obtain ⟨c, hc, rfl⟩ := mem_gt.1 hx
      have := gt_in hyb hc
      unfold In64; omega
    have HF := Lib.hid (redB_fin hv h1 hyl hyb)
    have hco := redB_cols m px (oneB y)
    obtain ⟨rd, hrd⟩ : ∃ rd, redB m px (oneB y) = rd := ⟨_, rfl⟩
    have HRD : Hid (∀ W, Below w.heap.size w W → Calls Tryz.prog 39 #[.slice ma m.length mc, .func (.func 73) #[] #[.pointer (some ⟨W.heap.size, 0, none⟩)]] (W.alloc (.cells #[.slice ya y.length yc] 22)) (RdPost rd (W.alloc (.cells #[.slice ya y.length yc] 22)))) := fun W hb => by
      have hb2 : Below w.heap.size w (W.alloc (.cells #[.slice ya y.length yc] 22)) := hb.alloc hb.size _
      rw [← hrd, ← hpx]
      exact reduceAll_anyOne (Lib.hid (one_beh (Nat.le_of_eq hyl.symm) (by omega) (alloc_cell _ _ _ _ _ rfl) (hy.below hb2))) ⟨Nat.le_refl _, by decide⟩ (Lib.hid (oneB_ok hy64)) (Lib.hid hm6) (Lib.hid hm1) (Lib.hid ⟨hc1, hc10⟩) (Lib.hid fun r hr => (hrows r hr).1) h64 (Lib.hid (hs.below hb2))
    have HSV : Hid (possV m y = (possB rd.rows rd.piv.length px.length, 0)) := by
      show _ = _
      have e : anyV m y = if possB rd.rows rd.piv.length px.length = true then (solL px.length rd.rows rd.piv rd.dv rd.piv.length, 0) else ([], 10) := by unfold anyV; rw [if_pos hrv, hpx, hrd]
      unfold possV
      rw [e]
      cases possB rd.rows rd.piv.length px.length <;> rfl
    rw [HSV.out]
    rw [hrd] at HF hco
    obtain ⟨pl, hpl⟩ : ∃ pl, px.length = pl := ⟨_, rfl⟩
    rw [hpl] at HF hco h2 ⊢
    obtain ⟨cols, rows, piv, dv⟩ := rd
    dsimp only at hco ⊢
    subst hco
    have hlen := HF.out.len
    have hrow := HF.out.row
    have hplr := HF.out.pl
    dsimp only at hlen hrow hplr
    obtain ⟨z, hz⟩ : ∃ z, possB rows piv.length cols = z := ⟨_, rfl⟩
    have HPO : Hid (∀ (g cp : Nat) (ads : List (Nat × Nat)) (pa : Option Addr) (pc base : Nat) (W : World), SI W base g ads rows → Calls Tryz.prog 41 #[.agg #[.int .i64 (cols : Int), .slice (some ⟨g, 0, none⟩) rows.length cp, .slice pa piv.length pc, .int .i64 dv]] W fun e w' => e = .returned (.bool z) ∧ Below W.heap.size W w') := fun g cp ads pa pc base W h => by rw [← hz]; exact possible_any cols g cp (cols + 1) ads rows pa piv.length pc piv dv base W rfl (by omega) (by omega) hrow (by omega) (by omega) h
    rw [hz]
    clear hv hs hm h1 hrd hrows h64 hm1 hm6 hc1 hc10 hrv hyl hyb hy64 hy hpl hpx hlen hrow hplr hz HF HSV
    go_enter Tryz.func14, Tryz.ntmps14
    go_wp2_with (first | (go_at_call 38; refine HRE.out.mono ?_; rintro e w2 ⟨rfl, hb⟩; have HB2 := Lib.hid hb; clear hb) | (go_at_call 40; refine (oneOf_any ya y.length yc w2).mono ?_; rintro e w9 ⟨rfl, rfl⟩) | (go_at_call 39; refine (HRD.out w2 HB2.out).mono ?_; rintro e w3 ⟨hb3, g, cp, ads, pa2, pc2, rfl, hgg, si, pi⟩; unfold rdV; dsimp only at si pi ⊢; have HSI := Lib.hid si; have HB3 := Lib.hid hb3; clear si pi hgg hb3) | (go_at_call 41; refine (HPO.out _ _ _ _ _ _ _ HSI.out).mono ?_; rintro e w5 ⟨rfl, hb5⟩; have HB5 := Lib.hid hb5; clear hb5))
    go_ret2
    exact ⟨rfl, (HB2.out.alloc HB2.out.size _).trans ((HB3.out.mono (by rw [World.size_alloc]; have := HB2.out.size; omega)).trans (HB5.out.mono (by have h1 := HB3.out.size; rw [World.size_alloc] at h1; have := HB2.out.size; omega)))⟩
  · have y0 : (rv == 0) = false := by simpa using hr0
    have y1 : (rv != 0) = true := by simpa using hr0
    have hne : rv ≠ 10 := by
      rw [← hrv]; unfold readE fitsV; split
      · split
        · split <;> decide
        · decide
      · decide
    have HSV : Hid (possV m y = (false, rv)) := by
      show _ = _
      have e : anyV m y = ([], rv) := by unfold anyV; rw [hrv, if_neg hr0]
      unfold possV; rw [e]; dsimp only; rw [if_neg hne, decide_eq_false hr0]
    rw [HSV.out]
    clear hs hm hr0 hrv hy HSV
    go_enter Tryz.func14, Tryz.ntmps14
    go_wp2_with (go_at_call 38; refine HRE.out.mono ?_; rintro e w2 ⟨rfl, hb⟩; have HB2 := Lib.hid hb; clear hb)
    go_ret2
    exact ⟨rfl, HB2.out⟩
end Go.Proofs.YtgbnfhfkehpfaaaGreat
/- ask and fits of layer 4: contracts. -/
namespace Go.Proofs.YtgbnfhfkehpfaaaGreat
open Go.RowKit

theorem poss_e (m : List (List Int)) (y : List Int) : (possV m y).2 = readE m y := by
  have hr : readE m y ≠ 10 := by
    unfold readE
    split
    · unfold fitsV
      split
      · split <;> decide
      · decide
    · decide
  unfold possV anyV
  by_cases h : readE m y = 0
  · rw [if_pos h, h]
    obtain ⟨z, hz⟩ : ∃ z, possB (redB m (upTo (colsM m)) (oneB y)).rows (redB m (upTo (colsM m)) (oneB y)).piv.length (upTo (colsM m)).length = z := ⟨_, rfl⟩
    rw [hz]
    cases z
    · rfl
    · rfl
  · rw [if_neg h, if_neg (by show ¬ readE m y = 10; exact hr)]
set_option maxRecDepth 100000 in
set_option maxHeartbeats 800000 in
theorem ask_ok (ma : Option Addr) (m : List (List Int)) (mc : Nat) (ya : Option Addr) (y : List Int) (yc : Nat) (w : World) (hr : readE m y = 0) (hm : MOk m) (hly : y.length ≤ 9223372036854775807) (hs : Ms w ma m) (hy : Sl w ya y) :
    Calls Tryz.prog 112 #[.slice ma m.length mc, .slice ya y.length yc] w fun e w' => e = .returned (.tuple #[.agg #[.slice ma m.length mc, .slice ya y.length yc], .int .i64 0]) ∧ Below w.heap.size w w' := by
  obtain ⟨V, hV⟩ : ∃ V, w.alloc (.cells #[.slice none 0 0, .slice none 0 0] 115) = V := ⟨_, rfl⟩
  have HBV : Hid (Below w.heap.size w V) := by rw [← hV]; exact (Below.refl _ _).alloc (Nat.le_refl _) _
  have HVW := Lib.hid (box2 hV)
  obtain ⟨t0, t1, t2, t3⟩ := HVW.out V (Below.refl _ _)
  have HPO : Hid (Calls Tryz.prog 14 #[.slice ma m.length mc, .slice ya y.length yc] V fun e w' => ∃ b, e = .returned (.tuple #[.bool b, .int .i64 0]) ∧ Below V.heap.size V w') := by
    refine (lpossible_any ma m mc ya y yc V hm hly (hs.below HBV.out) (hy.below HBV.out)).mono ?_
    rintro e w' ⟨h1, h2⟩
    rw [poss_e, hr] at h1
    exact ⟨_, h1, h2⟩
  clear hr hm hs hy
  go_enter Tryz.func112, Tryz.ntmps112
  go_wp2_with (go_at_call 14; refine HPO.out.mono ?_; rintro e w2 ⟨b, rfl, hb⟩; obtain ⟨u0, u1, u2, u3⟩ := HVW.out w2 hb; have HBW2 : Hid (Below w.heap.size w w2) := HBV.out.trans (hb.mono HBV.out.size); clear hb)
  refine bodyPost_ret (v := .tuple #[.agg #[.slice ma m.length mc, .slice ya y.length yc], .int .i64 0]) ?_ rfl ⟨rfl, (HBW2.out.setCell (p := ⟨w.heap.size, 0, none⟩) (Nat.le_refl _) _).setCell (p := ⟨w.heap.size, 1, none⟩) (Nat.le_refl _) _⟩
  rw [results_cell_tmp rfl]; go_simp
set_option maxRecDepth 100000 in
set_option maxHeartbeats 800000 in
theorem ask_no (ma : Option Addr) (m : List (List Int)) (mc : Nat) (ya : Option Addr) (y : List Int) (yc : Nat) (w : World) (e0 : Int) (hr : readE m y = e0) (h0 : e0 ≠ 0) (hm : MOk m) (hly : y.length ≤ 9223372036854775807) (hs : Ms w ma m) (hy : Sl w ya y) :
    Calls Tryz.prog 112 #[.slice ma m.length mc, .slice ya y.length yc] w fun e w' => e = .returned (.tuple #[.agg #[.slice none 0 0, .slice none 0 0], .int .i64 e0]) ∧ Below w.heap.size w w' := by
  obtain ⟨V, hV⟩ : ∃ V, w.alloc (.cells #[.slice none 0 0, .slice none 0 0] 115) = V := ⟨_, rfl⟩
  have HBV : Hid (Below w.heap.size w V) := by rw [← hV]; exact (Below.refl _ _).alloc (Nat.le_refl _) _
  have HVW := Lib.hid (box2 hV)
  obtain ⟨t0, t1, t2, t3⟩ := HVW.out V (Below.refl _ _)
  have HPO : Hid (Calls Tryz.prog 14 #[.slice ma m.length mc, .slice ya y.length yc] V fun e w' => ∃ b, e = .returned (.tuple #[.bool b, .int .i64 e0]) ∧ Below V.heap.size V w') := by
    refine (lpossible_any ma m mc ya y yc V hm hly (hs.below HBV.out) (hy.below HBV.out)).mono ?_
    rintro e w' ⟨h1, h2⟩
    rw [poss_e, hr] at h1
    exact ⟨_, h1, h2⟩
  have y1 : (e0 == 0) = false := by simpa using h0
  have y2 : (e0 != 0) = true := by simpa using h0
  clear hr hm hs hy h0
  go_enter Tryz.func112, Tryz.ntmps112
  go_wp2_with (go_at_call 14; refine HPO.out.mono ?_; rintro e w2 ⟨b, rfl, hb⟩; obtain ⟨u0, u1, u2, u3⟩ := HVW.out w2 hb; have HBW2 : Hid (Below w.heap.size w w2) := HBV.out.trans (hb.mono HBV.out.size); clear hb)
  refine bodyPost_ret (v := .tuple #[.agg #[.slice none 0 0, .slice none 0 0], .int .i64 e0]) ?_ rfl ⟨rfl, (HBW2.out.setCell (p := ⟨w.heap.size, 0, none⟩) (Nat.le_refl _) _).setCell (p := ⟨w.heap.size, 1, none⟩) (Nat.le_refl _) _⟩
  rw [results_cell_tmp rfl]; go_simp
theorem sfits_any (u v : Value) (k : Int) (wg : Nat) (wl : Array Value) (w : World) (hu : ∃ a n c, u = .slice a n c) (hv : ∃ a n c, v = .slice a n c) : Calls Tryz.prog 102 #[.agg #[u, v], .int .i64 k, .func (.func wg) #[] wl] w fun e w' =>
    e = .returned (.func (.func 114) #[] #[.pointer (some ⟨w.heap.size, 0, none⟩), .pointer (some ⟨w.heap.size + 1, 0, none⟩), .pointer (some ⟨w.heap.size + 1 + 1, 0, none⟩)]) ∧ w' = ((w.alloc (.cells #[u, v] 115)).alloc (.cells #[.int .i64 k] 3)).alloc (.cells #[.func (.func wg) #[] wl] 122) := by
  obtain ⟨a, n, c, rfl⟩ := hu
  obtain ⟨a', n', c', rfl⟩ := hv
  go_enter Tryz.func102, Tryz.ntmps102
  go_wp2
  go_ret
  exact ⟨rfl, rfl⟩
end Go.Proofs.YtgbnfhfkehpfaaaGreat
/- A range over a function whose variable lies in a box of each round. Speaks of no function. -/
namespace Go.Proofs.YtgbnfhfkehpfaaaGreat
open Go.RowKit

section
variable {α β : Type}
theorem wpIn_rangeFunc_M2 {P : Program} {n : Nat} {g : Operand} {ps : Array Tmp} {assign body : Code} {Q : Exit → Act → World → Prop} {a : Act} {w : World}
    (h1 : 1 ≤ n) {gf : Nat} {lb : Array Value} (hg : a.eval g = .func (.func gf) #[] lb) (eg : ∀ args w, (callFunc gf args).run P w = .ok (.enter gf args) w)
    {encs : α → Array Value} {Mem : α → World → Prop} {own : α → Blk} {key : α → β} {Z : List β} {need : Blk} {w0 : World} (hseq : SeqM P gf lb encs Mem own key Z need w0) (hb0 : Below w0.heap.size w0 w) (hps : ∀ x, (encs x).size = ps.size)
    (hMem : ∀ x W l r r', Mem x W → W.heap[l]? = some (.loop r) → Mem x (W.putObj l (.loop r'))) (I : List α → Blk → Blk → World → Prop) (Ix : Code → List α → Blk → Blk → World → Prop) (hI : Client I) (hIx : ∀ c, Client (Ix c)) (C T : Blk) (hneed : ∀ b, need b → ¬ C b ∧ b < w.heap.size) (hT : ∀ b, T b → b < w.heap.size) (h0 : I [] C T w) (a₁ : α → World → Act) (W₁ : α → World → World) (hW₁ : ∀ x W, Below W.heap.size W (W₁ x W)) (hMemB : ∀ x W W', Mem x W → Below W.heap.size W W' → Mem x W')
    (hassign : ∀ (l : Nat) (x : α) (W : World) (K : Act → World → Prop), K (a₁ x W) (W₁ x W) →
      assign.wpIn (Fence.wide.inRound l) (n - 1 - 1) P (Exit.then K (fun _ _ _ => False)) { tmps := (ps.zip (encs x)).foldl (fun t (p, v) => t.setIfInBounds p v) a.tmps, defers := [] } W)
    (hbody : ∀ (l : Nat) (pre : List α) (x : α) (C T : Blk) (W0 W : World), I pre C T W → Mem x W → (∀ b, own x b → T b) → (∃ rest, Z = pre.map key ++ key x :: rest) → (∀ a v, (W₁ x W0).cell? a = some v → W.cell? a = some v) → body.wpIn (Fence.wide.inRound l) (n - 1 - 1) P (wentPost I Ix own pre x C T W) (a₁ x W0) W)
    (hdone : ∀ (D : Nat) (xs : List α) (C T : Blk) (W : World), w.heap.size ≤ D → xs.map key = Z → I xs C T W → T D → W.heap[D]? = some (.deferred (some [])) → Q .normal { a with defers := { target := .collected D, args := #[] } :: a.defers } W)
    (hstop : ∀ (D : Nat) (c : Code) (pre : List α) (C T : Blk) (W : World), w.heap.size ≤ D → Ix c pre C T W → T D → W.heap[D]? = some (.deferred (some [])) → c.wpIn Fence.wide n P Q { a with defers := { target := .collected D, args := #[] } :: a.defers } W) :
    (Code.rangeFunc g ps assign body).wpIn Fence.wide n P Q a w := by
  refine wpIn_rangeFunc fun fn _ => ?_
  obtain ⟨rec, hrec⟩ : ∃ rec : LoopState → Option Code → Loop, rec = fun st pe => { state := st, pending := pe, fn, tmps := a.tmps, params := ps, assign, body, defers := w.heap.size } := ⟨_, rfl⟩
  obtain ⟨D, hD⟩ : ∃ D, w.heap.size = D := ⟨_, rfl⟩
  obtain ⟨W1, hW1⟩ : ∃ W1, (w.alloc (.deferred (some []))).alloc (.loop (rec .ready none)) = W1 := ⟨_, rfl⟩
  have sz : W1.heap.size = D + 2 := by rw [← hW1]; simp; omega
  have hL1 : W1.heap[D + 1]? = some (.loop (rec .ready none)) := by
    rw [← hW1]; have := World.alloc_heap_new (w.alloc (.deferred (some []))) (.loop (rec .ready none)); rw [World.size_alloc, hD] at this; exact this
  have hK1 : W1.heap[D]? = some (.deferred (some [])) := by
    rw [← hW1, ← hD]; exact (Below.heap_alloc _ _ _ (by simp)).trans (World.alloc_heap_new w _)
  have hbw : Below w.heap.size w W1 := by
    rw [← hW1]; exact ((Below.refl _ w).alloc (Nat.le_refl _) _).alloc (by simp) _
  have hI1 : I [] C T W1 := hI.keep h0 (turned_below hbw) fun b hb => .inl hb
  have hC1 : ∀ b, C b → b < D := fun b hb => by have := (hI.lt h0 b hb).1; omega
  refine ⟨D + 1, [{ target := .collected D, args := #[] }], W1, { target := .fn (.func gf) lb, args := #[.func (.yield (D + 1)) #[] #[]] }, W1, gf, #[.func (.yield (D + 1)) #[] #[]] ++ lb, W1, ?_, ?_, ?_, ?_, fun _ => by omega, ?_⟩
  · rw [← hW1, hrec, ← hD]; exact run_enterLoop_outer _ _ _ _ _
  · simp only [resolve, hg]
    simp [go_sem]
  · intro _ _; trivial
  · simp [invoke, go_sem, eg]
  refine (callsIn_wide.2 (hseq (D + 1) (Ring I (D + 1) D (rec .ready none)) (fun pre C T W => ∃ c, Ring (Ix c) (D + 1) D (rec .done (some c)) pre C T W) (fun b => C b ∨ b = D + 1 ∨ b = D) T W1 (hb0.trans (hbw.mono hb0.size)) (hI.ring' _ _ _) ?_ ?_ ?_ ?_)).mono ?_
  · exact { lt := fun ⟨c, h⟩ => ((hIx c).ring' _ _ _).lt h, keep := fun ⟨c, h⟩ ht hT => ⟨c, ((hIx c).ring' _ _ _).keep h ht hT⟩ }
  · rintro b hb (e | e | e)
    · exact (hneed b hb).1 e
    · have := (hneed b hb).2; omega
    · have := (hneed b hb).2; omega
  · rintro pre x C T W ⟨C1, T1, hi, hC, hTT, q1, q2, tl, tD, hl, hk⟩ hmem hown hrest m
    have hlt := (Array.getElem?_eq_some_iff.1 hl).1
    have hlk := (Array.getElem?_eq_some_iff.1 hk).1
    have hy := run_yield (P := P) (args := encs x) hl (by rw [hrec]; exact hps x)
    rw [hrec] at hy
    have hbA : Below W.heap.size W (W₁ x W) := hW₁ x W
    have hlA : (W₁ x W).heap[D + 1]? = some (.loop (rec .ready none)) := (hbA.block _ hlt).trans hl
    refine ⟨fn, _, assign, body, hy, roundIn_n (n := n - 1 - 1) <| roundIn_of_wpIn trivial (hassign _ x W _ ⟨_, run_beginRound hlA (by rw [hrec]), ?_⟩)⟩
    clear hy
    have hmA : Mem x (W₁ x W) := hMemB x W _ hmem hbA
    obtain ⟨W2, hW2⟩ : ∃ W2, (W₁ x W).putObj (D + 1) (.loop { rec .ready none with state := .busy }) = W2 := ⟨_, rfl⟩
    rw [hW2]
    have hl2 : W2.heap[D + 1]? = some (.loop { rec .ready none with state := .busy }) := by rw [← hW2]; exact World.putObj_heap_same (Array.getElem?_eq_some_iff.1 hlA).1
    have ht2 : Turned (fun b => b = D + 1) W W2 := by rw [← hW2]; exact (turned_below hbA).trans (turned_put (T := fun b => b = D + 1) _ _ rfl) fun b e => .inl e
    have hcl : ∀ a v, (W₁ x W).cell? a = some v → W2.cell? a = some v := fun a v hc => by
      rw [← hW2]
      refine (World.cell?_of_block (World.putObj_heap_other fun e => ?_)).trans hc
      unfold World.cell? at hc
      rw [e, hlA] at hc
      cases hc
    have hk2 : W2.heap[D]? = some (.deferred (some [])) := (ht2.same D hlk (by show ¬ D = D + 1; omega)).trans hk
    have hi2 : I pre C1 T1 W2 := hI.keep hi (ht2.mono fun b _ e => by subst e; exact q1) fun b e => .inl e
    have hm2 : Mem x W2 := by rw [← hW2]; exact hMem x _ _ _ _ hmA hlA
    have fin : ∀ (K : List α → Blk → Blk → World → Prop) (jump : Option Code) (W3 : World), Client K → Went K own pre x C1 T1 W2 W3 →
        (Instr.endRound (D + 1) jump).run P W3 = .ok (.bool jump.isNone) (W3.putObj (D + 1) (.loop (rec (if jump.isNone then .ready else .done) jump))) ∧
        Went (Ring K (D + 1) D (rec (if jump.isNone then .ready else .done) jump)) own pre x C T W (W3.putObj (D + 1) (.loop (rec (if jump.isNone then .ready else .done) jump))) := by
      rintro K jump W3 hK ⟨C', T', hi3, hT3, hC3, ht3⟩
      have nl : ¬ (C1 (D + 1) ∨ own x (D + 1)) := fun e => e.elim (fun e => (hI.lt hi _ e).2 q1) fun e => tl (hown _ e)
      have nD : ¬ (C1 D ∨ own x D) := fun e => e.elim (fun e => (hI.lt hi _ e).2 q2) fun e => tD (hown _ e)
      have hl3 : W3.heap[D + 1]? = some (.loop { rec .ready none with state := .busy }) := (ht3.same _ (Array.getElem?_eq_some_iff.1 hl2).1 nl).trans hl2
      have hk3 : W3.heap[D]? = some (.deferred (some [])) := (ht3.same _ (Array.getElem?_eq_some_iff.1 hk2).1 nD).trans hk2
      have hr := run_endRound (P := P) jump hl3
      rw [hrec] at hr
      refine ⟨by rw [hrec]; exact hr, fun b => C' b ∨ b = D + 1 ∨ b = D, fun b => T' b ∧ b ≠ D + 1 ∧ b ≠ D, ⟨C', T', ?_, fun b => Iff.rfl, fun b e => e.1, hT3 _ q1 (Array.getElem?_eq_some_iff.1 hl2).1 (fun e => nl (.inr e)), hT3 _ q2 (Array.getElem?_eq_some_iff.1 hk2).1 (fun e => nD (.inr e)), fun e => e.2.1 rfl, fun e => e.2.2 rfl, World.putObj_heap_same (Array.getElem?_eq_some_iff.1 hl3).1, (World.putObj_heap_other (by omega)).trans hk3⟩, ?_, ?_, ?_⟩
      · exact hK.keep hi3 (turned_put W3 _ (hT3 _ q1 (Array.getElem?_eq_some_iff.1 hl2).1 fun e => nl (.inr e))) fun b e => .inl e
      · exact fun b hb hlt hn => ⟨hT3 b (hTT b hb) (Nat.lt_of_lt_of_le hlt ht2.size) hn, fun e => tl (e ▸ hb), fun e => tD (e ▸ hb)⟩
      · rintro b (e | e | e)
        · rcases hC3 b e with q | q | q
          · exact .inl ((hC b).2 (.inl q))
          · exact .inr (.inl q)
          · exact .inr (.inr (Nat.le_trans ht2.size q))
        · exact .inl ((hC b).2 (.inr (.inl e)))
        · exact .inl ((hC b).2 (.inr (.inr e)))
      · have a1 : Turned (fun b => C b ∨ own x b) W W2 := ht2.mono fun b _ e => .inl ((hC b).2 (.inr (.inl e)))
        have a2 : Turned (fun b => C b ∨ own x b) W2 W3 := ht3.mono fun b _ e => e.elim (fun e => .inl ((hC b).2 (.inl e))) .inr
        have a3 : Turned (fun b => C b ∨ own x b) W3 (W3.putObj (D + 1) (.loop (rec (if jump.isNone then .ready else .done) jump))) := turned_put W3 _ (.inl ((hC _).2 (.inr (.inl rfl))))
        exact (a1.trans a2 fun b e => .inl e).trans a3 fun b e => .inl e
    refine wpIn_mono (hbody _ pre x C1 T1 W W2 hi2 hm2 (fun b e => hTT b (hown b e)) hrest hcl) ?_
    rintro e a3 W3 hp
    cases e with
    | normal => obtain ⟨hr, hw⟩ := fin I none W3 hI hp; exact ⟨_, _, hr, .inl ⟨rfl, hw⟩⟩
    | ret => obtain ⟨hr, C', T', hw, q⟩ := fin _ (some .ret) W3 (hIx _) hp; exact ⟨_, _, hr, .inr ⟨rfl, C', T', ⟨_, hw⟩, q⟩⟩
    | exit id => obtain ⟨hr, C', T', hw, q⟩ := fin _ (some (.exit id)) W3 (hIx _) hp; exact ⟨_, _, hr, .inr ⟨rfl, C', T', ⟨_, hw⟩, q⟩⟩
    | goto t => obtain ⟨hr, C', T', hw, q⟩ := fin _ (some (.goto t)) W3 (hIx _) hp; exact ⟨_, _, hr, .inr ⟨rfl, C', T', ⟨_, hw⟩, q⟩⟩
    | panic ch => exact hp.elim
    | outgrown => exact hp.elim
  · refine ⟨C, fun b => T b ∨ w.heap.size ≤ b, hI.keep h0 (turned_below hbw) (fun b e => e), fun b => Iff.rfl, fun b e => .inl e, .inr (by omega), .inr (by omega), fun e => by have := hT _ e; omega, fun e => by have := hT _ e; omega, hL1, hK1⟩
  · rintro e W2 ⟨⟨v, rfl⟩, (⟨xs, C', T', hZ, C1, T1, hi, hC, hTT, q1, q2, tl, tD, hl, hk⟩ | ⟨pre, C', T', c, C1, T1, hi, hC, hTT, q1, q2, tl, tD, hl, hk⟩)⟩
    · refine ⟨none, _, by have := run_endLoop (P := P) hl (by rw [hrec]; simp); rw [hrec] at this; exact this, hdone D xs C1 T1 _ (by omega) hZ (hI.keep hi (turned_put W2 _ q1) fun b e => .inl e) q2 ((World.putObj_heap_other (by omega)).trans hk)⟩
    · refine ⟨some c, _, by have := run_endLoop (P := P) hl (by rw [hrec]; simp); rw [hrec] at this; exact this, hstop D c pre C1 T1 _ (by omega) ((hIx c).keep hi (turned_put W2 _ q1) fun b e => .inl e) q2 ((World.putObj_heap_other (by omega)).trans hk)⟩
end
end Go.Proofs.YtgbnfhfkehpfaaaGreat
/- A region that draws its order and only reads, within a round of a range over a function. Speaks of no function. -/
namespace Go.Proofs.YtgbnfhfkehpfaaaGreat
open Go.RowKit

end Go.Proofs.YtgbnfhfkehpfaaaGreat
/- sparsest of layer 4: a contract. -/
namespace Go.Proofs.YtgbnfhfkehpfaaaGreat
open Go.RowKit Go.Shelf
attribute [local go_sem] Oper.semAt_some

structure SpI (w : World) (FB : Nat) (v : Value) (pre : List FitV) (C T : Blk) (W : World) : Prop where
  lo : w.heap.size ≤ FB
  r : W.cell? ⟨FB, 0, none⟩ = some v
  fr : W.frozen? ⟨FB, 0, none⟩ = false
  own : OwnF W (FB + 1) v pre
  bw : Below w.heap.size w W
  nt : ∀ b, b ≤ FB → ¬ T b
  nv : ∀ b, v.ownBlock = some b → ¬ T b
  cc : ∀ b, C b ↔ b = FB ∨ v.ownBlock = some b ∨ ∃ x ∈ pre, ownF x b
  ap : ∀ x ∈ pre, ∀ b, ownF x b → b ≠ FB ∧ v.ownBlock ≠ some b
  mem : ∀ x ∈ pre, MemF x W ∧ ∀ b, ownF x b → ¬ T b
theorem SpI.keep {w : World} {FB : Nat} {v : Value} {pre : List FitV} {C T T' : Blk} {W W' : World} (h : SpI w FB v pre C T W) (ht : Turned T W W') (hT : ∀ b, T' b → T b ∨ W.heap.size ≤ b) : SpI w FB v pre C T' W' := by
  have l0 := cell_lt h.r
  dsimp only at l0
  refine ⟨h.lo, ht.cell h.r (h.nt _ (Nat.le_refl _)), (ht.frozen l0 (h.nt _ (Nat.le_refl _))).trans h.fr, h.own.same fun b e => ht.same b (h.own.block e) (h.nv b e), h.bw.trans (ht.below h.bw.size fun b hb => h.nt b (by have := h.lo; omega)), fun b hb e => (hT b e).elim (h.nt b hb) (by omega), fun b hb e => (hT b e).elim (h.nv b hb) (by have := h.own.block hb; omega), h.cc, h.ap, fun x hx => ?_⟩
  obtain ⟨m1, m2⟩ := h.mem x hx
  exact ⟨memF_turned m1 ht m2, fun b hb e => (hT b e).elim (m2 b hb) (by have := memF_lt m1 hb; omega)⟩
theorem SpI.client {w : World} {FB : Nat} {p : List FitV → Value → Prop} {q : List FitV → List FitV} : Client fun pre C T W => ∃ v, p pre v ∧ SpI w FB v (q pre) C T W where
  lt := by
    rintro pre C T W ⟨v, _, h⟩ b hb
    rcases (h.cc b).1 hb with rfl | e | ⟨x, hx, e⟩
    · exact ⟨cell_lt h.r, h.nt _ (Nat.le_refl _)⟩
    · exact ⟨h.own.block e, h.nv b e⟩
    · exact ⟨memF_lt (h.mem x hx).1 e, (h.mem x hx).2 b e⟩
  keep := fun ⟨v, hp, h⟩ ht hT => ⟨v, hp, h.keep ht hT⟩
def SameF (pre : List FitV) : Prop := ∀ a ∈ pre, ∀ b ∈ pre, a.px.length = b.px.length
theorem SpI.push {w : World} {FB : Nat} {v : Value} {pre : List FitV} {C T : Blk} {W W2 w' : World} {x : FitV} {g cap : Nat} (h : SpI w FB v pre C T W) (hx : MemF x W) (hown : ∀ b, ownF x b → T b) (hb : Below W.heap.size W W2) (hp : PushedF W2 (FB + 1) v pre x g cap w') :
    SpI w FB (.slice (some ⟨g, 0, none⟩) (pre.length + 1) cap) (pre ++ [x]) (fun b => b = FB ∨ b = g ∨ ∃ z ∈ pre ++ [x], ownF z b) (fun b => T b ∧ ¬ ownF x b ∧ b < W.heap.size) (w'.setCell ⟨FB, 0, none⟩ (.slice (some ⟨g, 0, none⟩) (pre.length + 1) cap)) ∧ (g = g ∧ (v.ownBlock = some g ∨ W.heap.size ≤ g)) ∧ Turned (fun b => b = FB ∨ v.ownBlock = some b) W (w'.setCell ⟨FB, 0, none⟩ (.slice (some ⟨g, 0, none⟩) (pre.length + 1) cap)) := by
  obtain ⟨h1, h2, h3⟩ := hp
  have s1 := hb.size
  have hg : v.ownBlock = some g ∨ W.heap.size ≤ g := h3.imp_right fun e => by omega
  have ht : Turned (fun b => v.ownBlock = some b) W w' := (turned_below hb).trans h2 fun b e => .inl e
  have htF : Turned (fun b => b = FB ∨ v.ownBlock = some b) W (w'.setCell ⟨FB, 0, none⟩ (.slice (some ⟨g, 0, none⟩) (pre.length + 1) cap)) := (ht.mono fun b _ e => .inr e).trans (turned_set (T := fun b => b = FB) _ _ rfl) fun b e => .inl (.inl e)
  have l0 := cell_lt h.r
  dsimp only at l0
  have hlo := h.lo
  have nF : v.ownBlock ≠ some FB := fun e => by have := World.ownsRow.lt h.own FB e; omega
  have hgF : g ≠ FB := fun e => by
    subst e
    rcases hg with e | e
    · exact nF e
    · omega
  have hxb : ∀ z ∈ pre ++ [x], MemF z W ∧ ∀ b, ownF z b → b ≠ FB ∧ v.ownBlock ≠ some b := fun z hz => by
    rcases List.mem_append.1 hz with hz | hz
    · exact ⟨(h.mem z hz).1, h.ap z hz⟩
    · obtain rfl := List.mem_singleton.1 hz
      exact ⟨hx, fun b hzb => ⟨fun e => h.nt b (by omega) (hown b hzb), fun e => h.nv b e (hown b hzb)⟩⟩
  have hob : ∀ b, (Value.slice (some ⟨g, 0, none⟩) (pre.length + 1) cap).ownBlock = some b ↔ b = g := fun b => by
    show some g = some b ↔ b = g
    exact ⟨fun e => (Option.some.inj e).symm, fun e => by rw [e]⟩
  refine ⟨⟨hlo, World.cell?_setCell_same _ _ _ (ht.cell h.r nF), ?_, h1.same fun b e => Below.heap_setCell _ _ _ b (by rw [(hob b).1 e]; exact hgF), h.bw.trans (htF.below h.bw.size fun b hb e => ?_), fun b hb e => h.nt b hb e.1, fun b hb e => ?_, fun b => ?_, fun z hz b hzb => ⟨((hxb z hz).2 b hzb).1, fun e => ?_⟩, fun z hz => ⟨memF_turned (hxb z hz).1 htF fun b hzb e => ?_, fun b hzb e => ?_⟩⟩, ⟨rfl, hg⟩, htF⟩
  · have := (ht.frozen l0 nF).trans h.fr
    simpa using this
  · rcases e with rfl | e
    · omega
    · have := World.ownsRow.lt h.own b e; omega
  · rw [hob] at hb
    subst hb
    rcases hg with q | q
    · exact h.nv _ q e.1
    · omega
  · rw [hob]
  · rw [hob] at e
    subst e
    rcases hg with q | q
    · exact ((hxb z hz).2 _ hzb).2 q
    · have := memF_lt (hxb z hz).1 hzb; omega
  · rcases e with rfl | e
    · exact ((hxb z hz).2 _ hzb).1 rfl
    · exact ((hxb z hz).2 _ hzb).2 e
  · rcases List.mem_append.1 hz with hz | hz
    · exact (h.mem z hz).2 b hzb e.1
    · obtain rfl := List.mem_singleton.1 hz
      exact e.2.1 hzb

theorem SpI.pcell {w : World} {FB : Nat} {v : Value} {pre : List FitV} {C T : Blk} {W W2 w' : World} {x : FitV} {g cap : Nat} (h : SpI w FB v pre C T W) (hb : Below W.heap.size W W2) (hp : PushedF W2 (FB + 1) v pre x g cap w') : w'.cell? ⟨FB, 0, none⟩ = some v ∧ w'.frozen? ⟨FB, 0, none⟩ = false := by
  have l0 := cell_lt h.r
  dsimp only at l0
  have nF : v.ownBlock ≠ some FB := fun e => by have := World.ownsRow.lt h.own FB e; omega
  have ht : Turned (fun b => v.ownBlock = some b) W w' := (turned_below hb).trans hp.2.1 fun b e => .inl e
  exact ⟨ht.cell h.r nF, (ht.frozen l0 nF).trans h.fr⟩
theorem SpI.went {w : World} {FB : Nat} {v : Value} {pre : List FitV} {C T : Blk} {W W2 w' : World} {x : FitV} {g cap : Nat} (h : SpI w FB v pre C T W) (hs : SameF (pre ++ [x])) (hx : MemF x W) (hown : ∀ b, ownF x b → T b) (hb : Below W.heap.size W W2) (hp : PushedF W2 (FB + 1) v pre x g cap w') :
    Went (fun pre C T W => ∃ v, SameF pre ∧ SpI w FB v pre C T W) ownF pre x C T W (w'.setCell ⟨FB, 0, none⟩ (.slice (some ⟨g, 0, none⟩) (pre.length + 1) cap)) := by
  obtain ⟨h1, ⟨_, h2⟩, h3⟩ := h.push hx hown hb hp
  refine ⟨_, _, ⟨_, hs, h1⟩, fun b hb hl hn => ⟨hb, hn, hl⟩, fun b hb => ?_, h3.mono fun b _ e => .inl ((h.cc b).2 (e.elim .inl fun e => .inr (.inl e)))⟩
  rcases hb with rfl | rfl | ⟨z, hz, e⟩
  · exact .inl ((h.cc _).2 (.inl rfl))
  · rcases h2 with e | e
    · exact .inl ((h.cc _).2 (.inr (.inl e)))
    · exact .inr (.inr e)
  · rcases List.mem_append.1 hz with hz | hz
    · exact .inl ((h.cc _).2 (.inr (.inr ⟨z, hz, e⟩)))
    · obtain rfl := List.mem_singleton.1 hz
      exact .inr (.inl e)
theorem SpI.stop {w : World} {FB : Nat} {v : Value} {pre : List FitV} {C T : Blk} {W : World} {x : FitV} {Z : List (List Int × List (Int × Int))} (h : SpI w FB v pre C T W) (_hown : ∀ b, ownF x b → T b) (hne : pre ≠ []) (hl : leastF Z = pre.map keyF) (n : Nat) :
    Went (fun pre C T W => ∃ v, ((Code.exit 0 : Code) = .exit 0 ∧ pre.dropLast ≠ [] ∧ leastF Z = pre.dropLast.map keyF) ∧ SpI w FB v pre.dropLast C T W) ownF pre x C T W (W.drewN n) := by
  have hd : (pre ++ [x]).dropLast = pre := by simp
  refine ⟨C, fun b => T b ∧ ¬ ownF x b, ⟨v, ⟨rfl, by rw [hd]; exact hne, by rw [hd]; exact hl⟩, ?_⟩, fun b hb _ hn => ⟨hb, hn⟩, fun b hb => .inl hb, turned_below (below_drewN (Below.refl _ _) n)⟩
  rw [hd]
  exact h.keep (turned_below (below_drewN (Below.refl _ _) n)) fun b e => .inl e.1
theorem sp_leaves {fn : Func} {tmps : Array Value} {w : World} {FB : Nat} {v r : Value} {pre : List FitV} {C T : Blk} {ms : List Nat} {V : World} {R : Ending → World → Prop}
    (hres : ∀ W : World, (results fn tmps).run Tryz.prog W = .ok r W)
    (h : SpI w FB v pre C T V) (hT : ∀ D, D ∈ ms → T D) (hn : ms.Nodup) (hd : ∀ D, D ∈ ms → V.heap[D]? = some (.deferred (some []))) (hR : ∀ W, SpI w FB v pre C T W → R (.returned r) W) :
    LeavesInM Fence.wide 50 Tryz.prog fn tmps R (ms.map mark) .returning V := by
  refine leaves_marks2 (fun W => SpI w FB v pre C T W) ms ?_ ?_ ms V (fun _ h => h) hn hd h
  · exact fun W D hD hW => hW.keep (turned_put W _ (hT D hD)) fun b e => .inl e
  · exact fun W hW => ⟨_, hres W, hR W hW⟩
theorem zfunc_any (W : World) (a : Option Addr) (vs : List (Int × Int)) (cap : Nat) (h1 : vs.length ≤ 1000) (h2 : Rl W a vs) : Calls Tryz.prog 138 #[.slice a vs.length cap, .func (.func 103) #[] #[]] W fun e w' => e = .returned (.bool (vs.any zB)) ∧ Below W.heap.size W w' := containsZ_any a vs cap W h1 h2
end Go.Proofs.YtgbnfhfkehpfaaaGreat
/- askUpTo: a contract. -/
namespace Go.Proofs.YtgbnfhfkehpfaaaGreat
open Go.RowKit Go.Shelf

theorem up_not {k : Int} (h : 10 < k) : decide (k < 0) = false := by simp; omega
def upE (m : List (List Int)) (y : List Int) (k : Int) : Int := if readE m y = 0 then (if rangeB k 0 10 = true then 0 else 7) else readE m y
set_option maxRecDepth 100000 in
set_option maxHeartbeats 800000 in
theorem askUp_any (ma : Option Addr) (m : List (List Int)) (mc : Nat) (ya : Option Addr) (y : List Int) (yc : Nat) (k : Int) (w : World) (hm : MOk m) (hly : y.length ≤ 9223372036854775807) (hs : Ms w ma m) (hy : Sl w ya y) :
    Calls Tryz.prog 100 #[.slice ma m.length mc, .slice ya y.length yc, .int .i64 k] w fun e w' => e = .returned (.tuple #[if upE m y k = 0 then .agg #[.slice ma m.length mc, .slice ya y.length yc] else .agg #[.slice none 0 0, .slice none 0 0], .int .i64 (upE m y k)]) ∧ Below w.heap.size w w' := by
  obtain ⟨V, hV⟩ : ∃ V, w.alloc (.cells #[.slice none 0 0, .slice none 0 0] 115) = V := ⟨_, rfl⟩
  have hbv : Below w.heap.size w V := by rw [← hV]; exact (Below.refl _ _).alloc (Nat.le_refl _) _
  have HBV := Lib.hid hbv
  have HVW := Lib.hid (box2 hV)
  obtain ⟨e0, he0⟩ : ∃ e0, readE m y = e0 := ⟨_, rfl⟩
  by_cases h0 : e0 = 0
  · subst h0
    have HAS := Lib.hid (ask_ok ma m mc ya y yc V he0 hm hly (hs.below hbv) (hy.below hbv))
    obtain ⟨rb, hrb⟩ : ∃ rb, rangeB k 0 10 = rb := ⟨_, rfl⟩
    have HRB := Lib.hid hrb
    have HUE : Hid (upE m y k = if rb = true then 0 else 7) := by show _ = _; unfold upE; rw [if_pos he0, hrb]
    clear hm hs hy hbv he0 hrb
    cases rb with
    | true =>
      have HE : Hid (upE m y k = 0) := HUE.out
      have hk0 : 0 ≤ k ∧ k ≤ 10 := by have := HRB.out; simpa [rangeB] using this
      have y1 : ¬ k < 0 := by omega
      have y2 : ¬ 10 < k := by omega
      rw [HE.out]
      clear hk0
      go_enter Tryz.func100, Tryz.ntmps100
      go_wp2_with (go_at_call 112; refine HAS.out.mono ?_; rintro e w2 ⟨rfl, hb2⟩
                   obtain ⟨x2, hx2⟩ : ∃ x2, w2.alloc (.cells #[.slice ma m.length mc, .slice ya y.length yc] 115) = x2 := ⟨_, rfl⟩
                   have hbx : Below w2.heap.size w2 x2 := by rw [← hx2]; exact (Below.refl _ _).alloc (Nat.le_refl _) _
                   have hbV : Below V.heap.size V x2 := hb2.trans (hbx.mono hb2.size)
                   obtain ⟨u0, u1, u2, u3⟩ := HVW.out x2 hbV
                   obtain ⟨z0, z1, _, _⟩ := box2 hx2 x2 (Below.refl _ _)
                   have HBX : Hid (Below w.heap.size w x2) := HBV.out.trans (hbV.mono HBV.out.size); clear hb2 hbx hbV)
      refine bodyPost_ret (v := .tuple #[.agg #[.slice ma m.length mc, .slice ya y.length yc], .int .i64 0]) ?_ rfl ⟨rfl, (HBX.out.setCell (p := ⟨w.heap.size, 0, none⟩) (Nat.le_refl _) _).setCell (p := ⟨w.heap.size, 1, none⟩) (Nat.le_refl _) _⟩
      rw [results_cell_tmp rfl]; go_simp
    | false =>
      have HE : Hid (upE m y k = 7) := HUE.out
      have hk0 : k < 0 ∨ 10 < k := by
        have := HRB.out
        simp only [rangeB, Bool.and_eq_false_iff, decide_eq_false_iff_not] at this
        omega
      rw [HE.out]
      rcases hk0 with y1 | y1
      all_goals
        (try have y2 := up_not y1)
        go_enter Tryz.func100, Tryz.ntmps100
        go_wp2_with (go_at_call 112; refine HAS.out.mono ?_; rintro e w2 ⟨rfl, hb2⟩
                     obtain ⟨x2, hx2⟩ : ∃ x2, w2.alloc (.cells #[.slice ma m.length mc, .slice ya y.length yc] 115) = x2 := ⟨_, rfl⟩
                     have hbx : Below w2.heap.size w2 x2 := by rw [← hx2]; exact (Below.refl _ _).alloc (Nat.le_refl _) _
                     have hbV : Below V.heap.size V x2 := hb2.trans (hbx.mono hb2.size)
                     obtain ⟨u0, u1, u2, u3⟩ := HVW.out x2 hbV
                     have HBX : Hid (Below w.heap.size w x2) := HBV.out.trans (hbV.mono HBV.out.size); clear hb2 hbx hbV)
        all_goals
          refine bodyPost_ret (v := .tuple #[.agg #[.slice none 0 0, .slice none 0 0], .int .i64 7]) ?_ rfl ?_
          · rw [results_cell_tmp rfl]; go_simp
          · exact ⟨rfl, (HBX.out.setCell (p := ⟨w.heap.size, 0, none⟩) (Nat.le_refl _) _).setCell (p := ⟨w.heap.size, 1, none⟩) (Nat.le_refl _) _⟩
  · have HUE : Hid (upE m y k = e0) := by show _ = _; unfold upE; rw [he0, if_neg h0]
    have HAS := Lib.hid (ask_no ma m mc ya y yc V e0 he0 h0 hm hly (hs.below hbv) (hy.below hbv))
    have y1 : (e0 == 0) = false := by simpa using h0
    have y2 : (e0 != 0) = true := by simpa using h0
    rw [HUE.out, if_neg h0]
    clear hm hs hy hbv he0 h0
    go_enter Tryz.func100, Tryz.ntmps100
    go_wp2_with (go_at_call 112; refine HAS.out.mono ?_; rintro e w2 ⟨rfl, hb2⟩
                 have hbV : Below V.heap.size V (w2.alloc (.cells #[.slice none 0 0, .slice none 0 0] 115)) := hb2.alloc hb2.size _
                 obtain ⟨u0, u1, u2, u3⟩ := HVW.out _ hbV
                 have HBX : Hid (Below w.heap.size w (w2.alloc (.cells #[.slice none 0 0, .slice none 0 0] 115))) := HBV.out.trans (hbV.mono HBV.out.size); clear hb2 hbV)
    refine bodyPost_ret (v := .tuple #[.agg #[.slice none 0 0, .slice none 0 0], .int .i64 e0]) ?_ rfl ⟨rfl, (HBX.out.setCell (p := ⟨w.heap.size, 0, none⟩) (Nat.le_refl _) _).setCell (p := ⟨w.heap.size, 1, none⟩) (Nat.le_refl _) _⟩
    rw [results_cell_tmp rfl]; go_simp
end Go.Proofs.YtgbnfhfkehpfaaaGreat
/- Sparsest, Only, Size, Count of layer 4 and of its reference: contracts, given one of sparsest. -/
namespace Go.Proofs.YtgbnfhfkehpfaaaGreat
open Go.RowKit Go.Shelf
attribute [local go_sem] Oper.semAt_some

end Go.Proofs.YtgbnfhfkehpfaaaGreat
/- fit of the reference of layer 4: a contract. -/
namespace Go.Proofs.YtgbnfhfkehpfaaaGreat
open Go.RowKit Go.Shelf

def Zero (a : Option Addr) : Prop := a = none ∨ ∃ b, a = some ⟨b, 0, none⟩
theorem OwnI.zero {w : World} {base : Nat} {a : Option Addr} {n c : Nat} {xs : List Int} (h : OwnI w base (.slice a n c) xs) : Zero a := by
  obtain ⟨_, ⟨e, _⟩ | ⟨g, cap, cur, e, _⟩⟩ := h
  · exact .inl (by injection e)
  · exact .inr ⟨g, by injection e⟩
end Go.Proofs.YtgbnfhfkehpfaaaGreat
/- All of the reference of layer 4: a contract. -/
namespace Go.Proofs.YtgbnfhfkehpfaaaGreat
open Go.RowKit Go.Shelf

structure FitR (x : FitV) (W : World) : Prop where
  sl : Sl W x.qa x.px
  rl : Rl W x.va x.vs
  z : Zero x.qa
theorem FitR.below {x : FitV} {W W' : World} (h : FitR x W) (hb : Below W.heap.size W W') : FitR x W' := ⟨h.sl.below hb, h.rl.below hb, h.z⟩
theorem OwnF.no_int {W : World} {base b : Nat} {v : Value} {xs : List FitV} {k : Int} (h : OwnF W base v xs) (hx : v = .slice none 0 0 ∨ xs ≠ []) (hc : W.cell? ⟨b, 0, none⟩ = some (.int .i64 k)) : v.ownBlock ≠ some b := by
  intro e
  rcases hx with rfl | hx
  · cases e
  · rcases h.form with ⟨_, q⟩ | ⟨g, cap, rfl⟩
    · exact hx q
    · obtain rfl : g = b := by injection e
      cases xs with
      | nil => exact hx rfl
      | cons x xs =>
        have := (h.cell (j := 0) (x := x) rfl).1
        rw [Nat.zero_mul, hc] at this
        cases this
theorem FitR.turned {x : FitV} {W W' : World} {base : Nat} {v : Value} {xs : List FitV} (h : FitR x W) (ho : OwnF W base v xs) (hx : v = .slice none 0 0 ∨ xs ≠ []) (ht : Turned (fun b => v.ownBlock = some b) W W') : FitR x W' := by
  refine ⟨fun k hk => ?_, fun j p hj => ?_, h.z⟩
  · obtain ⟨b, off, e, hc⟩ := h.sl k hk
    refine ⟨b, off, e, ht.cell hc ?_⟩
    obtain ⟨b2, off2, e2, hc2⟩ := h.sl 0 (by omega)
    rw [e] at e2
    obtain ⟨rfl, rfl⟩ : b = b2 ∧ off = off2 := by simpa using e2
    have hoff : off = 0 := by
      rcases h.z with q | ⟨b3, q⟩
      · rw [e] at q; cases q
      · rw [e] at q; simpa using (by simpa using q : _ ∧ off = 0).2
    subst hoff
    exact ho.no_int hx hc2
  · obtain ⟨b, e, h1, h2⟩ := h.rl j p hj
    obtain ⟨p0, hp0⟩ : ∃ p0, x.vs[0]? = some p0 := ⟨x.vs[0]'(by have := (List.getElem?_eq_some_iff.1 hj).1; omega), by simp [show 0 < x.vs.length by have := (List.getElem?_eq_some_iff.1 hj).1; omega]⟩
    obtain ⟨b2, e2, h3, _⟩ := h.rl 0 p0 hp0
    rw [e] at e2
    obtain rfl : b = b2 := by simpa using e2
    rw [Nat.zero_mul] at h3
    exact ⟨b, e, ht.cell h1 (ho.no_int hx h3), ht.cell h2 (ho.no_int hx h3)⟩
structure RowI (base : Nat) (v : Value) (xs : List FitV) (W : World) : Prop where
  own : OwnF W base v xs
  mem : ∀ x ∈ xs, FitR x W
  sh : v = .slice none 0 0 ∨ xs ≠ []
theorem RowI.nil (base : Nat) (W : World) : RowI base (.slice none 0 0) [] W := ⟨OwnF.nil _ _, fun x hx => (by cases hx), .inl rfl⟩
theorem RowI.below {base : Nat} {v : Value} {xs : List FitV} {W W' : World} (h : RowI base v xs W) (hb : Below W.heap.size W W') : RowI base v xs W' := ⟨h.own.below hb, fun x hx => (h.mem x hx).below hb, h.sh⟩
theorem RowI.push {base : Nat} {v : Value} {xs : List FitV} {V w' : World} {x : FitV} {g cap : Nat} (h : RowI base v xs V) (hx : FitR x V) (hp : PushedF V base v xs x g cap w') : RowI base (.slice (some ⟨g, 0, none⟩) (xs.length + 1) cap) (xs ++ [x]) w' := by
  obtain ⟨h1, h2, _⟩ := hp
  refine ⟨h1, fun z hz => ?_, .inr (by simp)⟩
  rcases List.mem_append.1 hz with hz | hz
  · exact (h.mem z hz).turned h.own h.sh h2
  · obtain rfl := List.mem_singleton.1 hz
    exact hx.turned h.own h.sh h2
end Go.Proofs.YtgbnfhfkehpfaaaGreat
/- known of a reduction: a contract. -/
namespace Go.Proofs.YtgbnfhfkehpfaaaGreat
open Go.RowKit

def loneR (M : List (List Int)) (pz : List Int) (cols i : Nat) : Bool := (freeTo pz cols).all fun f => gt (rowL M i) f.toNat == 0
def knownV (M : List (List Int)) (pz : List Int) (cols : Nat) (v : Int) : Int := if indexV pz v < 0 then -1 else if loneR M pz cols (indexV pz v).toNat = true then indexV pz v else -1
theorem indexV_at (pz : List Int) (v : Int) : indexV pz v = -1 ∨ ∃ i : Nat, indexV pz v = (i : Int) ∧ i < pz.length ∧ gt pz i = v := by
  have hm := indexV_mem (xs := pz) (v := v)
  by_cases h : v ∈ pz
  · have hex : ∃ k, k < pz.length ∧ gt pz k = v ∧ ∀ j, j < k → gt pz j ≠ v := by
      obtain ⟨k, hk, e⟩ := mem_gt.1 h
      induction k using Nat.strongRecOn with
      | _ k ih =>
        by_cases hj : ∃ j, j < k ∧ gt pz j = v
        · obtain ⟨j, j1, j2⟩ := hj
          exact ih j j1 (by omega) j2
        · exact ⟨k, hk, e, fun j j1 j2 => hj ⟨j, j1, j2⟩⟩
    obtain ⟨k, k1, k2, k3⟩ := hex
    exact .inr ⟨k, indexV_hit k1 k3 k2, k1, k2⟩
  · exact .inl (indexV_miss fun j hj e => h (mem_gt.2 ⟨j, hj, e⟩))
set_option maxRecDepth 1000000 in
set_option maxHeartbeats 1600000 in
theorem known_any (cols g cap N : Nat) (ads : List (Nat × Nat)) (M : List (List Int)) (pa : Option Addr) (pz : List Int) (pc : Nat) (dv : Int) (v : Int) (base : Nat) (w : World) (hpM : pz.length ≤ M.length) (hM : M.length ≤ 100) (hN : ∀ q ∈ M, q.length = N) (hc : cols ≤ N) (hN1 : N ≤ 100) (hs : SI w base g ads M) (hps : Sl w pa pz) :
    Calls Tryz.prog 43 #[RdV cols g M.length cap (.slice pa pz.length pc) dv, .int .i64 v] w fun e w' => e = .returned (.int .i64 (knownV M pz cols v)) ∧ Below w.heap.size w w' := by
  have HS := Lib.hid hs; clear hs
  have HPS := Lib.hid hps; clear hps
  have HN := Lib.hid hN; clear hN
  obtain ⟨pn, hpn⟩ : ∃ pn, pz.length = pn := ⟨_, rfl⟩
  have HPN := Lib.hid hpn
  have HIX : Hid (∀ W, Below w.heap.size w W → Calls Tryz.prog 76 #[.slice pa pn pc, .int .i64 v] W fun e w' => e = .returned (.int .i64 (indexV pz v)) ∧ W = w') := fun W hb => by rw [← hpn]; exact index_any pa pz pc v W (by omega) (HPS.out.below hb)
  have HFR : Hid (∀ W, Below w.heap.size w W → Calls Tryz.prog 46 #[.agg #[.int .i64 (cols : Int), .slice (some ⟨g, 0, none⟩) M.length cap, .slice pa pn pc, .int .i64 dv]] W fun e w' => Below W.heap.size W w' ∧ ∃ a k, e = .returned (.slice a (freeTo pz cols).length k) ∧ Sl w' a (freeTo pz cols)) := fun W hb => by rw [← hpn]; exact free_any cols g M.length cap pa pz pc dv W (by omega) (by omega) (HPS.out.below hb)
  have HFM : Hid (∀ c, c ∈ freeTo pz cols ↔ ∃ j : Nat, j < cols ∧ c = (j : Int) ∧ (j : Int) ∉ pz) := freeTo_mem pz cols
  have hat := indexV_at pz v
  obtain ⟨n, hn⟩ : ∃ n, M.length = n := ⟨_, rfl⟩
  have HNL := Lib.hid hn
  rw [hpn] at hpM hat ⊢
  rw [hn] at hpM hM HFR ⊢
  clear hn hpn
  unfold RdV
  obtain ⟨V, hV⟩ : ∃ V, w.alloc (.cells #[.int .i64 (cols : Int), .slice (some ⟨g, 0, none⟩) n cap, .slice pa pn pc, .int .i64 dv] 61) = V := ⟨_, rfl⟩
  have HBV : Hid (Below w.heap.size w V) := by rw [← hV]; exact (Below.refl _ _).alloc (Nat.le_refl _) _
  have HCV : Hid (∀ W, Below V.heap.size V W → W.cell? ⟨w.heap.size, 0, none⟩ = some (.int .i64 (cols : Int)) ∧ W.cell? ⟨w.heap.size, 1, none⟩ = some (.slice (some ⟨g, 0, none⟩) n cap) ∧ W.cell? ⟨w.heap.size, 2, none⟩ = some (.slice pa pn pc) ∧ W.cell? ⟨w.heap.size, 3, none⟩ = some (.int .i64 dv)) := box_cells hV
  obtain ⟨c0, c1, c2, c3⟩ := HCV.out V (Below.refl _ _)
  rcases hat with hi | ⟨i, hi, hip, _⟩
  · have HK : Hid (knownV M pz cols v = -1) := by show _ = _; unfold knownV; rw [hi]; rfl
    rw [hi] at HIX
    go_enter Tryz.func43, Tryz.ntmps43
    go_wp2_with (go_at_call 76; refine (HIX.out V HBV.out).mono ?_; rintro e w1 ⟨rfl, rfl⟩)
    go_ret
    exact ⟨ret_i64 HK.out.symm, HBV.out⟩
  · have HK : Hid (knownV M pz cols v = if loneR M pz cols i = true then (i : Int) else -1) := by show _ = _; unfold knownV; rw [hi, if_neg (by omega), Int.toNat_natCast]
    rw [hi] at HIX
    have hin : i < n := by omega
    have hi0 : (i : Int) < (n : Int) := by omega
    have hi1 : ¬ (i : Int) < 0 := by omega
    have HIM : Hid (i < M.length) := by show _ < _; rw [HNL.out]; exact hin
    go_enter Tryz.func43, Tryz.ntmps43
    go_wp2_with (first | (go_at_call 76; refine (HIX.out V HBV.out).mono ?_; rintro e w1 ⟨rfl, rfl⟩) | (go_at_call 46; refine (HFR.out V HBV.out).mono ?_; rintro e w2 ⟨hb2, fa, fk, rfl, hf⟩; have HF := Lib.hid hf; have HB2 := Lib.hid hb2; clear hf hb2))
    clear c0 c1 c2 c3 hV
    obtain ⟨fz, hfz⟩ : ∃ fz, freeTo pz cols = fz := ⟨_, rfl⟩
    have HLO : Hid (loneR M pz cols i = fz.all fun f => gt (rowL M i) f.toNat == 0) := by show _ = _; unfold loneR; rw [hfz]
    have HFL : Hid (fz.length ≤ 100) := by show _ ≤ _; have := freeTo_len pz cols; rw [hfz] at this; omega
    have hfl : fz.length ≤ 100 := HFL.out
    rw [hfz] at HFM HF ⊢
    clear hfz
    go_loopw [17] (fun j wr => ∃ k : Nat, k ≤ fz.length ∧ j = .int .i64 k ∧ wr = w2 ∧ ∀ t, t < k → gt (rowL M i) (gt fz t).toNat = 0) (fun j _ => fz.length - (intOf j).toNat)
    case atStart => exact ⟨0, Nat.zero_le _, rfl, rfl, fun t h => by omega⟩
    case round =>
      obtain ⟨k, hk, rfl, rfl, hno⟩ := hrel
      have HNO := Lib.hid hno; clear hno
      have HBW : Hid (Below w.heap.size w wr) := HBV.out.trans (HB2.out.mono HBV.out.size)
      by_cases hlt : k < fz.length
      · obtain ⟨fb, fo, u, hfa, hfc, HU⟩ := HF.out.at hlt
        subst hfa
        obtain ⟨f, hf, rfl, _⟩ := (HFM.out u).1 (List.mem_of_getElem? HU.out)
        have HGU := Lib.hid (gt_some' HU.out)
        have e1 : ads[i]? = some (ads[i]'(by rw [HS.out.len]; exact HIM.out)) := List.getElem?_eq_getElem _
        have e2 : M[i]? = some (rowL M i) := by unfold rowL; have := HIM.out; simp [this]
        obtain ⟨hh, hro⟩ := (HS.out.below HBW.out).row i _ _ e1 e2
        obtain ⟨xb, hxb⟩ : ∃ xb, (ads[i]'(by rw [HS.out.len]; exact HIM.out)).1 = xb := ⟨_, rfl⟩
        obtain ⟨xc, hxc⟩ : ∃ xc, (ads[i]'(by rw [HS.out.len]; exact HIM.out)).2 = xc := ⟨_, rfl⟩
        rw [hxb, hxc] at hh hro
        have hrn := HN.out _ (rowL_mem HIM.out)
        have hcx : wr.cell? ⟨xb, f, none⟩ = some (.int .i64 (gt (rowL M i) f)) := (OwnI.cell hro (j := f) (by rw [hrn]; omega)).1
        rw [hrn] at hh
        obtain ⟨x, hx⟩ : ∃ x, gt (rowL M i) f = x := ⟨_, rfl⟩
        rw [hx] at hcx
        have HX := Lib.hid hx
        obtain ⟨c0, c1, c2, c3⟩ := HCV.out wr HB2.out
        have hf0 : (f : Int) < (N : Int) := by omega
        clear hro hrn hx e1 e2 hxb hxc HU
        by_cases hx0 : x = 0
        · have HX0 := Lib.hid hx0
          have y0 : (x == 0) = true := by simp [hx0]
          have y1 : (x != 0) = false := by simp [hx0]
          clear hx0
          go_wp2
          go_roundw
          case rel => exact ⟨k + 1, by omega, by go_num, by first | trivial | rfl, fun t ht => by
            by_cases e : t = k
            · rw [e, HGU.out, Int.toNat_natCast, HX.out]; exact HX0.out
            · exact HNO.out t (by omega)⟩
          case measure => simp [intOf]; omega
        · have y0 : (x == 0) = false := by simpa using hx0
          have y1 : (x != 0) = true := by simpa using hx0
          have HF2 : Hid (knownV M pz cols v = -1) := by
            show _ = _
            rw [HK.out, if_neg]
            rw [HLO.out, List.all_eq_true]
            intro h
            have := h _ (mem_gt.2 ⟨k, hlt, HGU.out⟩)
            rw [Int.toNat_natCast, HX.out] at this
            exact hx0 (by simpa using this)
          go_wp2
          go_ret
          exact ⟨ret_i64 HF2.out.symm, HBW.out⟩
      · obtain rfl : k = fz.length := by omega
        have HF2 : Hid (knownV M pz cols v = (i : Int)) := by
          show _ = _
          rw [HK.out, if_pos]
          rw [HLO.out, List.all_eq_true]
          intro f hf
          obtain ⟨t, ht, e⟩ := mem_gt.1 hf
          have := HNO.out t ht
          rw [e] at this
          rw [this]; rfl
        go_wp2
        go_ret
        exact ⟨ret_i64 HF2.out.symm, HBW.out⟩
end Go.Proofs.YtgbnfhfkehpfaaaGreat
/- What is known: the two sides agree. Plain words. Speaks of no program. -/
namespace Go.Proofs.YtgbnfhfkehpfaaaGreat
open Go.RowKit

theorem short_zero {v : List Int} {c : Nat} (hc : c < v.length) (hg : gcdL v ≠ 0) : gt (shortL v) c = 0 ↔ gt v c = 0 := by
  have e := gt_short hc
  constructor
  · intro h; rw [e, h]; simp
  · intro h
    rw [h] at e
    rcases Int.mul_eq_zero.mp e.symm with e2 | e2
    · omega
    · exact e2
theorem known_same {m : List (List Int)} (hv : validM m = true) {j : Nat} (hj : j < colsM m) :
    (decide (0 ≤ knownV (redN m (upTo (colsM m))).rows (redN m (upTo (colsM m))).piv (colsM m) (j : Int)) = rknownB m j) := by
  obtain ⟨_, hm6, _, _, _⟩ := validM_of hv
  have h := basis_fin hv
  unfold rknownB basisM
  obtain ⟨r, hr⟩ : ∃ r, redN m (upTo (colsM m)) = r := ⟨_, rfl⟩
  rw [hr] at h ⊢
  obtain ⟨N, hN⟩ : ∃ N, colsM m = N := ⟨_, rfl⟩
  rw [hN] at h hj ⊢
  rw [Bool.eq_iff_iff, decide_eq_true_eq, List.all_eq_true]
  have hz : ∀ f, f < N → (f : Int) ∉ r.piv → (gt (shortL (kvec r N f)) j = 0 ↔ gt (kvec r N f) j = 0) := fun f hf hn => short_zero (by rw [kvec_len]; exact hj) (h.kvec_gcd hm6 (Nat.le_refl _) hf hn)
  have all : (∀ x ∈ (freeTo r.piv N).map (fun c => shortL (kvec r N c.toNat)), (gt x j == 0) = true) ↔ ∀ f, f < N → (f : Int) ∉ r.piv → gt (kvec r N f) j = 0 := by
    constructor
    · intro ha f hf hn
      have := ha _ (List.mem_map.2 ⟨(f : Int), (freeTo_mem _ _ _).2 ⟨f, hf, rfl, hn⟩, rfl⟩)
      rw [Int.toNat_natCast] at this
      exact (hz f hf hn).1 (by simpa using this)
    · intro ha x hx
      obtain ⟨c, hc, rfl⟩ := List.mem_map.1 hx
      obtain ⟨f, hf, rfl, hn⟩ := (freeTo_mem _ _ _).1 hc
      rw [Int.toNat_natCast]
      simpa using (hz f hf hn).2 (ha f hf hn)
  rw [all]
  rcases indexV_at r.piv (j : Int) with e | ⟨i, e, hi, hp⟩
  · have hn : (j : Int) ∉ r.piv := by
      have hm := indexV_mem (xs := r.piv) (v := (j : Int))
      rw [e] at hm
      intro hin
      rw [decide_eq_true hin] at hm
      exact absurd hm (by decide)
    unfold knownV
    rw [e, if_pos (by decide)]
    constructor
    · intro hh; omega
    · intro ha
      have := ha j hj hn
      rw [h.kvec_free hm6 (Nat.le_refl _) hj hn] at this
      have := h.pos; omega
  · have hpj : pivN r i = j := by have := h.pivN_eq hi; omega
    unfold knownV
    rw [e, if_neg (by omega), Int.toNat_natCast]
    have hl : loneR r.rows r.piv N i = true ↔ ∀ f, f < N → (f : Int) ∉ r.piv → gt (rowL r.rows i) f = 0 := by
      unfold loneR
      rw [List.all_eq_true]
      constructor
      · intro ha f hf hn
        have := ha _ ((freeTo_mem _ _ _).2 ⟨f, hf, rfl, hn⟩)
        rw [Int.toNat_natCast] at this
        simpa using this
      · intro ha x hx
        obtain ⟨f, hf, rfl, hn⟩ := (freeTo_mem _ _ _).1 hx
        rw [Int.toNat_natCast]
        simpa using ha f hf hn
    have hk : (∀ f, f < N → (f : Int) ∉ r.piv → gt (kvec r N f) j = 0) ↔ ∀ f, f < N → (f : Int) ∉ r.piv → gt (rowL r.rows i) f = 0 := by
      constructor <;> intro ha f hf hn <;> have h1 := h.kvec_piv hm6 (Nat.le_refl _) hf hn hi <;> rw [hpj] at h1 <;> have h2 := ha f hf hn <;> omega
    rw [hk, ← hl]
    cases loneR r.rows r.piv N i
    · simp
    · simp
end Go.Proofs.YtgbnfhfkehpfaaaGreat
/- What is known does not hang on the numbers behind the rows; the row of a pivot as a sum of rows. Plain words. Speaks of no program. -/
namespace Go.Proofs.YtgbnfhfkehpfaaaGreat
open Go.RowKit

variable {R N cols : Nat} {A0 : Nat → Nat → Int} {r : Rd}
end Go.Proofs.YtgbnfhfkehpfaaaGreat
/- The fits of the reference are those of the program: more columns than the rank carry no fit. -/
namespace Go.Proofs.YtgbnfhfkehpfaaaGreat
open Go.RowKit

end Go.Proofs.YtgbnfhfkehpfaaaGreat
/- sparsest of the reference of layer 4: a contract. -/
namespace Go.Proofs.YtgbnfhfkehpfaaaGreat
open Go.RowKit Go.Shelf

theorem RowI.at {base : Nat} {v : Value} {xs : List FitV} {W : World} (h : RowI base v xs W) : ∃ a cap, v = .slice a xs.length cap ∧ ∀ k x, xs[k]? = some x → ∃ g, a = some ⟨g, 0, none⟩ ∧ W.cell? ⟨g, k * 2, none⟩ = some (.slice x.qa x.px.length x.qc) ∧ W.cell? ⟨g, k * 2 + 1, none⟩ = some (.slice x.va x.vs.length x.vc) ∧ FitR x W := by
  rcases h.own.form with ⟨e, rfl⟩ | ⟨g, cap', rfl⟩
  · exact ⟨none, 0, e, fun k x hk => by simp at hk⟩
  · refine ⟨_, cap', rfl, fun k x hk => ?_⟩
    obtain ⟨c1, c2⟩ := h.own.cell hk
    exact ⟨g, rfl, c1, c2, h.mem x (List.mem_of_getElem? hk)⟩
end Go.Proofs.YtgbnfhfkehpfaaaGreat
/- Fits of the reference of layer 4: a contract. -/
namespace Go.Proofs.YtgbnfhfkehpfaaaGreat
open Go.RowKit Go.Shelf

def shortF (k : Int) (Z : List (List Int × List (Int × Int))) : List (List Int × List (Int × Int)) := Z.filter fun q => decide ((q.1.length : Int) ≤ k)
def fitsKV (m : List (List Int)) (y : List Int) (k : Int) : List (List Int × List (Int × Int)) × Int := if readE m y = 0 then (if rangeB k 0 10 = true then (shortF k (allFits m y), 0) else ([], 7)) else ([], readE m y)
end Go.Proofs.YtgbnfhfkehpfaaaGreat
/- The values that are no whole numbers within a million: contracts of the closure and of ContainsFunc over it. -/
namespace Go.Proofs.YtgbnfhfkehpfaaaGreat
open Go.RowKit Go.Shelf

end Go.Proofs.YtgbnfhfkehpfaaaGreat
/- The whole fits of both sides are one list. -/
namespace Go.Proofs.YtgbnfhfkehpfaaaGreat
open Go.RowKit Go.Shelf

theorem shortF_row {m : List (List Int)} {y : List Int} (k j : Nat) : shortF k ((compl (colsM m) j 0).filterMap fun px => (fitO zB m y px).map fun vs => (px, vs)) = if j ≤ k then (compl (colsM m) j 0).filterMap fun px => (fitO zB m y px).map fun vs => (px, vs) else [] := by
  have hlen : ∀ q ∈ ((compl (colsM m) j 0).filterMap fun px => (fitO zB m y px).map fun vs => (px, vs)), q.1.length = j := fun q hq => by
    obtain ⟨px, hpx, e⟩ := List.mem_filterMap.1 hq
    obtain ⟨vs, _, rfl⟩ := Option.map_eq_some_iff.1 e
    exact (compl_mem hpx).1
  unfold shortF
  split
  · exact List.filter_eq_self.2 fun q hq => by have := hlen q hq; simp; omega
  · exact List.filter_eq_nil_iff.2 fun q hq => by have := hlen q hq; simp; omega
end Go.Proofs.YtgbnfhfkehpfaaaGreat
/- slices.Collect over fits; Fits of layer 4: contracts. -/
namespace Go.Proofs.YtgbnfhfkehpfaaaGreat
open Go.RowKit Go.Shelf
attribute [local go_sem] Oper.semAt_some

theorem SpI.went2 {w : World} {FB : Nat} {v : Value} {pre : List FitV} {C T : Blk} {W W2 w' : World} {x : FitV} {g cap : Nat} (h : SpI w FB v pre C T W) (hx : MemF x W) (hown : ∀ b, ownF x b → T b) (hb : Below W.heap.size W W2) (hp : PushedF W2 (FB + 1) v pre x g cap w') :
    Went (fun pre C T W => ∃ v, True ∧ SpI w FB v pre C T W) ownF pre x C T W (w'.setCell ⟨FB, 0, none⟩ (.slice (some ⟨g, 0, none⟩) (pre.length + 1) cap)) := by
  obtain ⟨h1, ⟨_, h2⟩, h3⟩ := h.push hx hown hb hp
  refine ⟨_, _, ⟨_, trivial, h1⟩, fun b hb hl hn => ⟨hb, hn, hl⟩, fun b hb => ?_, h3.mono fun b _ e => .inl ((h.cc b).2 (e.elim .inl fun e => .inr (.inl e)))⟩
  rcases hb with rfl | rfl | ⟨z, hz, e⟩
  · exact .inl ((h.cc _).2 (.inl rfl))
  · rcases h2 with e | e
    · exact .inl ((h.cc _).2 (.inr (.inl e)))
    · exact .inr (.inr e)
  · rcases List.mem_append.1 hz with hz | hz
    · exact .inl ((h.cc _).2 (.inr (.inr ⟨z, hz, e⟩)))
    · obtain rfl := List.mem_singleton.1 hz
      exact .inr (.inl e)
theorem SpI.start (w : World) : SpI w w.heap.size (.slice none 0 0) [] (fun b => b = w.heap.size) (fun _ => False) (w.alloc (.cells #[.slice none 0 0] 78)) :=
  ⟨Nat.le_refl _, alloc_cell _ _ _ _ _ rfl, by simp, OwnF.nil _ _, (Below.refl _ _).alloc (Nat.le_refl _) _, fun _ _ e => e, fun b e => (by cases e), fun b => ⟨.inl, fun e => e.elim id fun e => e.elim (fun e => (by cases e)) fun ⟨x, hx, _⟩ => (by cases hx)⟩, fun x hx => (by cases hx), fun x hx => (by cases hx)⟩
theorem boxes4 (w1 : World) (u v : Value) (k : Int) (f : Value) (t1 t3 t4 t5 : TypeId) : let V := (((w1.alloc (.cells #[u, v] t1)).alloc (.cells #[u, v] t3)).alloc (.cells #[.int .i64 k] t4)).alloc (.cells #[f] t5)
    V.heap.size = w1.heap.size + 1 + 3 ∧ Below w1.heap.size w1 V ∧ V.cell? ⟨w1.heap.size + 1, 0, none⟩ = some u ∧ V.cell? ⟨w1.heap.size + 1, 1, none⟩ = some v ∧ V.cell? ⟨w1.heap.size + 1 + 1, 0, none⟩ = some (.int .i64 k) ∧ V.cell? ⟨w1.heap.size + 1 + 1 + 1, 0, none⟩ = some f := by
  obtain ⟨A, hA⟩ : ∃ A, w1.alloc (.cells #[u, v] t1) = A := ⟨_, rfl⟩
  obtain ⟨C, hC⟩ : ∃ C, A.alloc (.cells #[u, v] t3) = C := ⟨_, rfl⟩
  obtain ⟨D, hD⟩ : ∃ D, C.alloc (.cells #[.int .i64 k] t4) = D := ⟨_, rfl⟩
  obtain ⟨E, hE⟩ : ∃ E, D.alloc (.cells #[f] t5) = E := ⟨_, rfl⟩
  intro V
  have hV : V = E := by show (((w1.alloc (.cells #[u, v] t1)).alloc _).alloc _).alloc _ = E; rw [hA, hC, hD, hE]
  have sA : A.heap.size = w1.heap.size + 1 := by rw [← hA]; exact World.size_alloc _ _
  have sC : C.heap.size = w1.heap.size + 1 + 1 := by rw [← hC, World.size_alloc, sA]
  have sD : D.heap.size = w1.heap.size + 1 + 1 + 1 := by rw [← hD, World.size_alloc, sC]
  have sE : E.heap.size = w1.heap.size + 1 + 3 := by rw [← hE, World.size_alloc, sD]
  have bA : Below w1.heap.size w1 A := by rw [← hA]; exact (Below.refl _ _).alloc (Nat.le_refl _) _
  have bC : Below A.heap.size A C := by rw [← hC]; exact (Below.refl _ _).alloc (Nat.le_refl _) _
  have bD : Below C.heap.size C D := by rw [← hD]; exact (Below.refl _ _).alloc (Nat.le_refl _) _
  have bE : Below D.heap.size D E := by rw [← hE]; exact (Below.refl _ _).alloc (Nat.le_refl _) _
  have bCE : Below C.heap.size C E := bD.trans (bE.mono bD.size)
  have bAE : Below A.heap.size A E := bC.trans (bCE.mono bC.size)
  rw [hV]
  refine ⟨sE, bA.trans (bAE.mono bA.size), ?_, ?_, ?_, ?_⟩
  · rw [← sA]; exact (bCE.cell (p := ⟨A.heap.size, 0, none⟩) (by show A.heap.size < C.heap.size; omega)).trans (by rw [← hC]; exact alloc_cell _ _ _ _ _ rfl)
  · rw [← sA]; exact (bCE.cell (p := ⟨A.heap.size, 1, none⟩) (by show A.heap.size < C.heap.size; omega)).trans (by rw [← hC]; exact alloc_cell _ _ _ _ _ rfl)
  · rw [← sC]; exact (bE.cell (p := ⟨C.heap.size, 0, none⟩) (by show C.heap.size < D.heap.size; omega)).trans (by rw [← hD]; exact alloc_cell _ _ _ _ _ rfl)
  · rw [← sD, ← hE]; exact alloc_cell _ _ _ _ _ rfl
theorem short_to {m : List (List Int)} {y : List Int} (k : Nat) : ∀ j, shortF k (fitsTo zB m y j) = fitsTo zB m y (min j (k + 1))
  | 0 => by simp [fitsTo, shortF]
  | j + 1 => by
    have e : shortF k (fitsTo zB m y (j + 1)) = shortF k (fitsTo zB m y j) ++ shortF k ((compl (colsM m) j 0).filterMap fun px => (fitO zB m y px).map fun vs => (px, vs)) := by
      rw [fitsTo_succ]; unfold shortF; rw [List.filter_append]
    rw [e, short_to k j, shortF_row]
    by_cases h : j ≤ k
    · rw [if_pos h, show min j (k + 1) = j by omega, show min (j + 1) (k + 1) = j + 1 by omega, fitsTo_succ]
    · rw [if_neg h, List.append_nil, show min j (k + 1) = k + 1 by omega, show min (j + 1) (k + 1) = k + 1 by omega]
theorem fits_ok {m : List (List Int)} {y : List Int} {kk : Nat} (hr : readE m y = 0) (hk : kk ≤ 10) : fitsKV m y kk = (fitsTo zB m y (min kk (rankM m) + 1), 0) := by
  have hb : rangeB (kk : Int) 0 10 = true := by simp [rangeB]; omega
  unfold fitsKV
  rw [if_pos hr, if_pos hb]
  unfold allFits
  rw [short_to, show min (min 10 (rankM m) + 1) (kk + 1) = min kk (rankM m) + 1 by omega]
theorem fits_no {m : List (List Int)} {y : List Int} {k : Int} (h : upE m y k ≠ 0) : fitsKV m y k = ([], upE m y k) := by
  unfold upE at h ⊢
  unfold fitsKV
  split
  · rename_i h1
    rw [if_pos h1] at h
    split
    · rename_i h2; rw [if_pos h2] at h; exact absurd rfl h
    · rfl
  · rfl
end Go.Proofs.YtgbnfhfkehpfaaaGreat
