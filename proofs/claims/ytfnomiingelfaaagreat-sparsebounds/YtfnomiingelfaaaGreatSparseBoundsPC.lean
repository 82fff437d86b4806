/- Parts of the proof of SparseBounds: plain words, walks and contracts, each under its own heading. -/
import Derived.Test.YtfnomiingelfaaaGreatSparseBoundsPB
import Derived.Deep.RegionLaw
import Derived.RangeFuncFrom
import Derived.RangeFuncBox
import Derived.RangeFuncLeaves
import Derived.Test.YtfnomiingelfaaaGreatSparseBoundsPA
import Derived.RangeFuncNested
import Derived.RangeFuncBound
import Derived.RangeFuncCalls
import Derived.Shelf.Abstract
import Derived.Shelf.RegionOpen
import Derived.OwnWalkIn
import Derived.TacticsInMore
import Derived.LoopNIn
import Derived.LoopIn
import Derived.Deep.RegionHeldLaw
import Derived.Test.YtfnomiingelfaaaGreatProg
import Derived.BigQuiet
import Derived.Deep.QuietTactic
/- circuitOn of layer 3: a contract. -/
namespace Go.Proofs.YtfnomiingelfaaaGreat
open Go.RowKit

def putTo (n : Nat) (px : List Int) (part : List Int) : Nat → List Int
  | 0 => List.replicate n 0
  | k + 1 => (putTo n px part k).set (gt px k).toNat (gt part k)
theorem putTo_len (n : Nat) (px part : List Int) : ∀ k, (putTo n px part k).length = n
  | 0 => by simp [putTo]
  | k + 1 => by unfold putTo; rw [List.length_set]; exact putTo_len n px part k
def partC (m : List (List Int)) (px : List Int) : List Int := shortL (kvec (redN m px) px.length (gt (freeTo (redN m px).piv px.length) 0).toNat)
def signC (xs : List Int) : List Int := if gt xs 0 < 0 then negL xs else xs
def circB (m : List (List Int)) (px : List Int) : Bool := decide ((freeTo (redN m px).piv px.length).length = 1) && !decide ((0 : Int) ∈ partC m px)
def circH (m : List (List Int)) (px : List Int) : List Int := putTo (colsM m) px (signC (partC m px)) px.length
def CPost (m : List (List Int)) (px : List Int) (w : World) (e : Ending) (w' : World) : Prop :=
  Below w.heap.size w w' ∧ ((circB m px = false ∧ e = .returned (.tuple #[.slice none 0 0, .bool false])) ∨ (circB m px = true ∧ ∃ b, e = .returned (.tuple #[.slice (some ⟨b, 0, none⟩) (colsM m) (colsM m), .bool true]) ∧ OwnI w' w.heap.size (.slice (some ⟨b, 0, none⟩) (colsM m) (colsM m)) (circH m px)))
set_option maxRecDepth 100000 in
set_option maxHeartbeats 2000000 in
theorem circuitOn_any {ma : Option Addr} {m : List (List Int)} {mc : Nat} {pxa : Option Addr} {px : List Int} {pxc : Nat} {w : World} (hv : validM m = true) (hpx : 1 ≤ px.length ∧ px.length ≤ 10) (hin : pxOk m px) (hms : Ms w ma m) (hps : Sl w pxa px) :
    Calls Tryz.prog 138 #[.slice ma m.length mc, .slice pxa px.length pxc] w (CPost m px w) := by
  have HF := Lib.hid (redN_fin hv hin)
  obtain ⟨hm1, hm6, hc1, hc10, hrows⟩ := validM_of hv
  have h64 : Hid (All64 m) := fun q hq x hx => by
    obtain ⟨c, hc, rfl⟩ := mem_gt.1 hx
    have := gt_in (hrows q hq).2 hc
    unfold In64; omega
  have HRL : Hid (∀ r ∈ m, r.length = colsM m) := fun r hr => (hrows r hr).1
  have HMS := Lib.hid hms
  have HPS := Lib.hid hps
  have HPX := Lib.hid hpx
  have HIN : Hid (∀ j ∈ px, 0 ≤ j ∧ j < colsM m) := hin
  have HM6 := Lib.hid hm6
  have HM1 := Lib.hid hm1
  have HC10 := Lib.hid hc10
  have HC1 := Lib.hid hc1
  clear hv hin hms hps hrows hm1 hm6 hc1 hc10
  obtain ⟨r, hr⟩ : ∃ r, redN m px = r := ⟨_, rfl⟩
  have HRE := Lib.hid hr
  have hcols : r.cols = px.length := by rw [← hr]; exact redN_cols m px
  obtain ⟨cols, rows, piv, dv⟩ := r
  dsimp only at hcols
  subst hcols
  have HF1 : Hid (RFin m.length px.length px.length (a0 (pixM px m)) { cols := px.length, rows := rows, piv := piv, dv := dv }) := by rw [← hr]; exact HF.out
  have HRA : Hid (Calls Tryz.prog 90 #[.slice ma m.length mc, .slice pxa px.length pxc, .func (.func 91) #[] #[]] w (RdPost { cols := px.length, rows := rows, piv := piv, dv := dv } w)) := by rw [← hr]; exact reduce_any HM6 HM1 HPX HIN HRL h64 HMS HPS
  have HRLEN : Hid (rows.length = m.length) := HF1.out.len
  obtain ⟨fz, hfz⟩ : ∃ fz, freeTo piv px.length = fz := ⟨_, rfl⟩
  have HFZ := Lib.hid hfz
  have HFL : Hid (fz.length ≤ 10) := by have h1 := freeTo_len piv px.length; rw [hfz] at h1; have := HPX.out.2; show _ ≤ _; omega
  have HFM : Hid (∀ c, c ∈ fz ↔ ∃ j : Nat, j < px.length ∧ c = (j : Int) ∧ (j : Int) ∉ piv) := fun c => by rw [← hfz]; exact freeTo_mem piv px.length c
  have HPL : Hid (piv.length ≤ m.length) := HF1.out.pl
  clear hr hfz HF
  by_cases hone : fz.length = 1
  case neg =>
    have hne : ¬ ((fz.length : Int) = 1) := by omega
    have HB : Hid (circB m px = false) := by show _ = _; unfold circB; rw [HRE.out]; dsimp only; rw [HFZ.out]; simp [hone]
    clear hone
    go_enter Tryz.func138, Tryz.ntmps138
    go_wp2_with (first | (go_at_call 90; refine HRA.out.mono ?_; rintro e w2 ⟨hb2, g, cap, ads, pa2, pc2, rfl, hgg, si, pi⟩; dsimp only at hgg si pi; unfold rdV; dsimp only; have HB2 := Lib.hid hb2; have HSI := Lib.hid si; have HPI := Lib.hid (OwnI.sl pi); clear si pi hgg hb2) | (go_at_call 154; refine (free_any px.length g rows.length cap pa2 piv pc2 dv _ (by have := HPX.out.2; omega) (by have := HPL.out; have := HM6.out; omega) (HPI.out.below ((Below.refl _ _).alloc (Nat.le_refl _) _))).mono ?_; rintro e w3 ⟨hb3, fa, fk, rfl, hsf⟩; rw [HFZ.out] at hsf ⊢; have HB3 := Lib.hid hb3; have HSF := Lib.hid hsf; clear hb3 hsf))
    go_ret2
    exact ⟨(HB2.out.alloc HB2.out.size _).trans (HB3.out.mono (by rw [World.size_alloc]; have := HB2.out.size; omega)), .inl ⟨HB.out, rfl⟩⟩
  case pos =>
  obtain ⟨f, hf⟩ : ∃ f, fz = [f] := by
    match fz, hone with
    | [f], _ => exact ⟨f, rfl⟩
  subst hf
  obtain ⟨fr, hfr, hff, hfn⟩ := (HFM.out f).1 (by simp)
  subst hff
  have HFR := Lib.hid hfr
  have HFN := Lib.hid hfn
  have HK : Hid (∀ (w' : World) (g' cap' pc' : Nat) (ads' : List (Nat × Nat)) (pa' : Option Addr), Sl w' pa' piv → SI w' w.heap.size g' ads' rows → Calls Tryz.prog 155 #[.agg #[.int .i64 (px.length : Int), .slice (some ⟨g', 0, none⟩) rows.length cap', .slice pa' piv.length pc', .int .i64 dv], .int .i64 (fr : Int)] w' fun e w2 => Below w'.heap.size w' w2 ∧ ∃ b k, e = .returned (.slice (some ⟨b, 0, none⟩) px.length k) ∧ OwnI w2 w'.heap.size (.slice (some ⟨b, 0, none⟩) px.length k) (partC m px)) := by
    intro w' g' cap' pc' ads' pa' h1 h2
    have e : partC m px = kerL px.length rows piv dv fr := by unfold partC; rw [HRE.out]; dsimp only; rw [HFZ.out]; rfl
    rw [e]
    exact kernel_any w.heap.size px.length g' cap' ads' rows pa' piv pc' dv fr w' (by have := HPX.out.2; omega) hfr (by have h3 := HRLEN.out; have h4 := HPL.out; omega) (by have h3 := HRLEN.out; have h4 := HM6.out; omega) (fun k hk => by have := HF1.out.pz k hk; dsimp only at this; exact this)
      (fun r hr => by have := HF1.out.row r hr; omega) (HF1.out.kvec_mid HM6.out (Nat.le_refl _) hfr hfn) (HF1.out.kvec_gcd HM6.out (Nat.le_refl _) hfr hfn) h1 h2
  clear hone hfr hfn hpx
  go_enter Tryz.func138, Tryz.ntmps138
  go_wp2_with (first | (go_at_call 90; refine HRA.out.mono ?_; rintro e w2 ⟨hb2, g, cap, ads, pa2, pc2, rfl, hgg, si, pi⟩; dsimp only at hgg si pi; unfold rdV; dsimp only; have HB2 := Lib.hid hb2; have HSI := Lib.hid si; have HPI := Lib.hid (OwnI.sl pi); clear si pi hgg hb2) | (go_at_call 154; refine (free_any px.length g rows.length cap pa2 piv pc2 dv _ (by have := HPX.out.2; omega) (by have := HPL.out; have := HM6.out; omega) (HPI.out.below ((Below.refl _ _).alloc (Nat.le_refl _) _))).mono ?_; rintro e w3 ⟨hb3, fa, fk, rfl, hsf⟩; rw [HFZ.out] at hsf ⊢; have HB3 := Lib.hid hb3; have HSF := Lib.hid hsf; obtain ⟨fb, fo, v, rfl, hcv, hvv⟩ := hsf.at (k := 0) Nat.zero_lt_one; have hv2 : (fr : Int) = v := Option.some.inj hvv; subst hv2; clear hb3 hsf hvv))
  have hsz : (w2.alloc (.cells #[.int .i64 (px.length : Int), .slice (some ⟨g, 0, none⟩) rows.length cap, .slice pa2 piv.length pc2, .int .i64 dv] 113)).heap.size = w2.heap.size + 1 := World.size_alloc _ _
  have HBX := (HB3.out.cell (p := ⟨w2.heap.size, 0, none⟩) (by rw [hsz]; exact Nat.lt_succ_self _)).trans (alloc_cell w2 _ _ _ _ rfl)
  have HBY := (HB3.out.cell (p := ⟨w2.heap.size, 1, none⟩) (by rw [hsz]; exact Nat.lt_succ_self _)).trans (alloc_cell w2 _ _ _ _ rfl)
  have HBZ := (HB3.out.cell (p := ⟨w2.heap.size, 2, none⟩) (by rw [hsz]; exact Nat.lt_succ_self _)).trans (alloc_cell w2 _ _ _ _ rfl)
  have HBW := (HB3.out.cell (p := ⟨w2.heap.size, 3, none⟩) (by rw [hsz]; exact Nat.lt_succ_self _)).trans (alloc_cell w2 _ _ _ _ rfl)
  have HB23 : Hid (Below w2.heap.size w2 w3) := ((Below.refl _ _).alloc (Nat.le_refl _) _).trans (HB3.out.mono (by rw [hsz]; exact Nat.le_succ _))
  have HPI3 : Hid (Sl w3.drew pa2 piv) := (HPI.out.below HB23.out).drew
  have HSI3 : Hid (SI w3.drew w.heap.size g ads rows) := (HSI.out.below HB23.out).below (Below.refl _ _).drew
  have HW3 : Hid (Below w.heap.size w w3) := HB2.out.trans (HB23.out.mono HB2.out.size)
  clear hsz
  rw [Nat.add_zero] at hcv
  have l2 : w2.heap.size < w3.drew.heap.size := by have h1 := HB3.out.size; rw [World.size_alloc] at h1; exact h1
  have lf : fb < w3.drew.heap.size := cell_lt hcv
  go_region_held_law (fun w' => w'.cell? ⟨w2.heap.size, 0, none⟩ = some (.int .i64 (px.length : Int)) ∧ w'.cell? ⟨w2.heap.size, 1, none⟩ = some (.slice (some ⟨g, 0, none⟩) rows.length cap) ∧ w'.cell? ⟨w2.heap.size, 2, none⟩ = some (.slice pa2 piv.length pc2) ∧ w'.cell? ⟨w2.heap.size, 3, none⟩ = some (.int .i64 dv) ∧ w'.cell? ⟨fb, fo, none⟩ = some (.int .i64 (fr : Int))) (first | exact ⟨by assumption, by assumption, by assumption, by assumption, by assumption⟩ | go_keep | exact ⟨(hb4.cell (p := ⟨w2.heap.size, 0, none⟩) l2).trans (by assumption), (hb4.cell (p := ⟨w2.heap.size, 1, none⟩) l2).trans (by assumption), (hb4.cell (p := ⟨w2.heap.size, 2, none⟩) l2).trans (by assumption), (hb4.cell (p := ⟨w2.heap.size, 3, none⟩) l2).trans (by assumption), (hb4.cell (p := ⟨fb, fo, none⟩) lf).trans (by assumption)⟩) (first | (go_at_call 155; refine (HK.out _ g cap pc2 ads pa2 HPI3.out HSI3.out).mono ?_; rintro e w4 ⟨hb4, kb, kk, rfl, ho4⟩))
  rename_i hsk
  clear hsk
  have HB4 := Lib.hid hb4
  have HO4 := Lib.hid ho4
  clear hb4 ho4 l2 lf
  obtain ⟨pt, hpt⟩ : ∃ pt, partC m px = pt := ⟨_, rfl⟩
  rw [hpt] at HO4
  have HPT := Lib.hid hpt
  have HFZ1 : Hid ((freeTo (redN m px).piv px.length).length = 1) := by show _ = _; rw [HRE.out]; dsimp only; rw [HFZ.out]; rfl
  have hptl : pt.length = px.length := by
    rw [← hpt]; unfold partC; rw [HRE.out]; dsimp only; rw [HFZ.out]
    show (shortL (kvec _ px.length fr)).length = _
    unfold shortL; rw [List.length_map, kvec_len]
  have HPTL := Lib.hid hptl
  have HB34 : Hid (Below w.heap.size w w4) := HW3.out.trans ((Below.refl _ _).drew.trans (HB4.out.mono HW3.out.size))
  have HSP := Lib.hid HO4.out.sl
  have HCN : Hid (Calls Tryz.prog 156 #[.slice (some ⟨kb, 0, none⟩) px.length kk, .int .i64 0] w4 fun e w' => e = .returned (.bool (decide ((0 : Int) ∈ pt))) ∧ w4 = w') := by
    have h := contains_any (some ⟨kb, 0, none⟩) pt kk 0 w4 (by have := HPX.out.2; omega) HSP.out
    rw [hptl] at h
    exact h
  clear hpt HBX HBY HBZ HBW hcv hptl
  by_cases hz : (0 : Int) ∈ pt
  case pos =>
    have HB : Hid (circB m px = false) := by show _ = _; unfold circB; rw [HPT.out]; simp [hz]
    have hd : decide ((0 : Int) ∈ pt) = true := by simpa using hz
    rw [hd] at HCN
    clear hz hd
    go_wp2_with (go_at_call 156; refine HCN.out.mono ?_; rintro e w5 ⟨rfl, rfl⟩)
    go_ret2
    exact ⟨HB34.out, .inl ⟨HB.out, rfl⟩⟩
  case neg =>
  have HB : Hid (circB m px = true) := by show _ = _; unfold circB; rw [HPT.out, HFZ1.out]; simp [hz]
  have hd : decide ((0 : Int) ∈ pt) = false := by simpa using hz
  rw [hd] at HCN
  clear hz hd
  obtain ⟨v0, hv0⟩ : ∃ v, gt pt 0 = v := ⟨_, rfl⟩
  have HV0 := Lib.hid hv0
  have hc0 : w4.cell? ⟨kb, 0, none⟩ = some (.int .i64 v0) := by rw [← hv0]; exact (OwnI.cell HO4.out (j := 0) (by have := HPTL.out; have := HPX.out.1; omega)).1
  clear hv0
  obtain ⟨b1, o1, ai, rr, ci, rfl, hcell, hsl, HR⟩ := HMS.out.at (show 0 < m.length from HM1.out)
  have hrn : rr.length = colsM m := HRL.out rr (List.mem_of_getElem? HR.out)
  rw [hrn] at hcell
  clear hrn hsl
  obtain ⟨i0, hi, hz0, hz1, hz2⟩ := info_parts Tryz.infoInt
  have hm1 := HM1.out
  have hp1 := HPX.out.1
  have hp10 := HPX.out.2
  by_cases hneg : v0 < 0
  case pos =>
    have HTN : Hid (Calls Tryz.prog 148 #[.slice (some ⟨kb, 0, none⟩) px.length kk] w4 fun e w' => e = .returned (.tuple #[]) ∧ OnlyB kb w4 w' ∧ Below w3.drew.heap.size w4 w' ∧ OwnI w' w3.drew.heap.size (.slice (some ⟨kb, 0, none⟩) px.length kk) (negL pt)) := by
      have h := turn_any w3.drew.heap.size kb kk pt w4 (by have h1 := HPTL.out; have := HPX.out.2; omega) (by rw [HPTL.out]; exact HO4.out)
      rw [HPTL.out] at h
      exact h
    obtain ⟨q, hq⟩ : ∃ q, signC pt = q := ⟨_, rfl⟩
    have HQ := Lib.hid hq
    have hqn : negL pt = q := by rw [← hq]; unfold signC; rw [if_pos (by rw [HV0.out]; exact hneg)]
    rw [hqn] at HTN
    clear hq hqn
    have hlb := cell_lt hcell
    have HQL : Hid (q.length = px.length) := by show _ = _; rw [← HQ.out]; unfold signC; split <;> simp [negL, HPTL.out]
    have HHQ : Hid (circH m px = putTo (colsM m) px q px.length) := by show _ = _; unfold circH; rw [HPT.out, HQ.out]
    have hn10 := HC10.out
    obtain ⟨n, hn⟩ : ∃ n, colsM m = n := ⟨_, rfl⟩
    rw [hn] at hcell HHQ hn10
    have HN := Lib.hid hn
    clear hn
    have HLB := Lib.hid hlb
    have HCELL := Lib.hid hcell
    clear hlb hcell
    go_wp2_with (first | (go_at_call 156; refine HCN.out.mono ?_; rintro e w5 ⟨rfl, rfl⟩) | (go_at_call 148; refine HTN.out.mono ?_; rintro e w5 ⟨rfl, -, hb5, ho5⟩; have HB5 := Lib.hid (HB34.out.trans (hb5.mono HW3.out.size)); have HSQ := Lib.hid ho5.sl; clear hb5 ho5; have hcell5 : w5.cell? ⟨b1, o1, none⟩ = some (.slice ai n ci) := (HB5.out.cell (p := ⟨b1, o1, none⟩) HLB.out).trans HCELL.out) | (with_reducible refine wpList_make_full _ rfl (.tmp 35) (.tmp 35) 24 rfl w5.heap.size 3 i0 (.int .i64 0) 1 Tryz.underlying24 hi hz0 hz1 .i64 .i64 (n : Int) (n : Int) n rfl rfl rfl rfl (by rw [hz2]; omega) (by unfold maxLen; omega) (Nat.le_refl _) ?_))
    clear hcell5
    rotate_left
    intro w6 hown hgrow
    have hb6 : Below w5.heap.size w5 w6 := (Below.refl _ _).grown hgrow (Nat.le_refl _) (fun k e => by cases e)
    have HB6 : Hid (Below w.heap.size w w6) := HB5.out.trans (hb6.mono HB5.out.size)
    have HO6 : Hid (OwnI w6 w.heap.size (.slice (some ⟨w5.heap.size, 0, none⟩) n n) (putTo n px q 0)) := by
      have z := zeros_are n
      rw [Nat.mul_one] at z
      refine OwnI.mono (base := w5.heap.size) ?_ HB5.out.size
      show w6.ownsRow _ _ _ _ _ _
      rw [putTo_len]
      show w6.ownsRow _ _ _ _ _ ((List.replicate n (0 : Int)).map (Value.int .i64))
      rw [← z]; exact hown
    have HWS : Hid (w.heap.size ≤ w5.heap.size) := HB5.out.size
    have HSQ6 : Hid (Sl w6 (some ⟨kb, 0, none⟩) q) := HSQ.out.below hb6
    have HPS6 : Hid (Sl w6 pxa px) := HPS.out.below HB6.out
    have HLQ : Hid (∀ c, c < q.length → ∃ v, w6.cell? ⟨kb, 0 + c, none⟩ = some v ∧ kb < w5.heap.size) := fun c hc => by
      obtain ⟨b', o', e, h2⟩ := HSQ.out c hc
      have h3 := HSQ6.out c hc
      obtain ⟨b'', o'', e2, h4⟩ := h3
      rw [e] at e2
      obtain ⟨rfl, rfl⟩ : kb = b' ∧ 0 = o' := by simpa using e
      obtain ⟨rfl, rfl⟩ : kb = b'' ∧ 0 = o'' := by simpa using e2
      exact ⟨_, h4, cell_lt h2⟩
    clear hown hgrow hb6
    go_wp2
    go_loopw [39] (fun i wr => ∃ k : Nat, k ≤ px.length ∧ i = .int .i64 k ∧ OwnI wr w.heap.size (.slice (some ⟨w5.heap.size, 0, none⟩) n n) (putTo n px q k) ∧ OnlyB w5.heap.size w6 wr ∧ Below w.heap.size w wr) (fun i _ => px.length - (intOf i).toNat)
    case atStart => exact ⟨0, Nat.zero_le _, rfl, HO6.out, OnlyB.refl _ _, HB6.out⟩
    case round =>
      clear HO6 HB6
      obtain ⟨k, hk, rfl, hO, hN, hB⟩ := hrel
      have HO := Lib.hid hO; clear hO
      have HON := Lib.hid hN; clear hN
      have HBB := Lib.hid hB; clear hB
      by_cases hlt : k < px.length
      · obtain ⟨pb, po, v, rfl, hcv, HV⟩ := (HPS.out.below HBB.out).at hlt
        have hgv := gt_some' HV.out
        have hvr := HIN.out v (List.mem_of_getElem? HV.out)
        obtain ⟨j, rfl⟩ := Int.eq_ofNat_of_zero_le hvr.1
        have hj : j < n := by have := HN.out; omega
        obtain ⟨y, hy⟩ : ∃ y, gt q k = y := ⟨_, rfl⟩
        have hqk : k < q.length := by rw [HQL.out]; exact hlt
        have hcq : wr.cell? ⟨kb, k, none⟩ = some (.int .i64 y) := by
          obtain ⟨_, _, l1⟩ := HLQ.out k hqk
          refine (HON.out.cell (by omega)).trans ?_
          obtain ⟨b', o', e, h2⟩ := HSQ6.out k hqk
          obtain ⟨rfl, rfl⟩ : kb = b' ∧ 0 = o' := by simpa using e
          rw [Nat.zero_add] at h2
          rw [h2, ← hy]; rfl
        obtain ⟨cz, fz⟩ := HO.out.cell (j := j) (by rw [putTo_len]; exact hj)
        have HKN : Hid ((putTo n px q k).set j y = putTo n px q (k + 1)) := by
          show _ = _
          conv => rhs; unfold putTo
          rw [hgv, Int.toNat_natCast, hy]
        have HST := Lib.hid (HO.out.stored j y)
        clear hgv hvr hy hqk
        go_wp2
        go_roundw
        case rel => exact ⟨k + 1, by omega, by go_num, by rw [← HKN.out]; exact HST.out, HON.out.setCell _ _, HBB.out.setCell (p := ⟨w5.heap.size, j, none⟩) HWS.out _⟩
        case measure => simp [intOf]; omega
      · obtain rfl : k = px.length := by omega
        go_wp2
        go_ret2
        refine ⟨HBB.out, .inr ⟨HB.out, w5.heap.size, by rw [HN.out]; rfl, ?_⟩⟩
        rw [HN.out, HHQ.out]; exact HO.out
  case neg =>
    obtain ⟨q, hq⟩ : ∃ q, signC pt = q := ⟨_, rfl⟩
    have HQ := Lib.hid hq
    have hqn : pt = q := by rw [← hq]; unfold signC; rw [if_neg (by rw [HV0.out]; exact hneg)]
    rw [hqn] at HSP
    have HB5 := HB34
    have HSQ := HSP
    clear hq hqn
    have hlb := cell_lt hcell
    have HQL : Hid (q.length = px.length) := by show _ = _; rw [← HQ.out]; unfold signC; split <;> simp [negL, HPTL.out]
    have HHQ : Hid (circH m px = putTo (colsM m) px q px.length) := by show _ = _; unfold circH; rw [HPT.out, HQ.out]
    have hn10 := HC10.out
    obtain ⟨n, hn⟩ : ∃ n, colsM m = n := ⟨_, rfl⟩
    rw [hn] at hcell HHQ hn10
    have HN := Lib.hid hn
    clear hn
    have HLB := Lib.hid hlb
    have HCELL := Lib.hid hcell
    clear hlb hcell
    have hcell5 : w4.cell? ⟨b1, o1, none⟩ = some (.slice ai n ci) := (HB5.out.cell (p := ⟨b1, o1, none⟩) HLB.out).trans HCELL.out
    go_wp2_with (first | (go_at_call 156; refine HCN.out.mono ?_; rintro e w5 ⟨rfl, rfl⟩) | (with_reducible refine wpList_make_full _ rfl (.tmp 35) (.tmp 35) 24 rfl w4.heap.size 3 i0 (.int .i64 0) 1 Tryz.underlying24 hi hz0 hz1 .i64 .i64 (n : Int) (n : Int) n rfl rfl rfl rfl (by rw [hz2]; omega) (by unfold maxLen; omega) (Nat.le_refl _) ?_))
    clear hcell5
    rotate_left
    intro w6 hown hgrow
    have hb6 : Below w4.heap.size w4 w6 := (Below.refl _ _).grown hgrow (Nat.le_refl _) (fun k e => by cases e)
    have HB6 : Hid (Below w.heap.size w w6) := HB5.out.trans (hb6.mono HB5.out.size)
    have HO6 : Hid (OwnI w6 w.heap.size (.slice (some ⟨w4.heap.size, 0, none⟩) n n) (putTo n px q 0)) := by
      have z := zeros_are n
      rw [Nat.mul_one] at z
      refine OwnI.mono (base := w4.heap.size) ?_ HB5.out.size
      show w6.ownsRow _ _ _ _ _ _
      rw [putTo_len]
      show w6.ownsRow _ _ _ _ _ ((List.replicate n (0 : Int)).map (Value.int .i64))
      rw [← z]; exact hown
    have HWS : Hid (w.heap.size ≤ w4.heap.size) := HB5.out.size
    have HSQ6 : Hid (Sl w6 (some ⟨kb, 0, none⟩) q) := HSQ.out.below hb6
    have HPS6 : Hid (Sl w6 pxa px) := HPS.out.below HB6.out
    have HLQ : Hid (∀ c, c < q.length → ∃ v, w6.cell? ⟨kb, 0 + c, none⟩ = some v ∧ kb < w4.heap.size) := fun c hc => by
      obtain ⟨b', o', e, h2⟩ := HSQ.out c hc
      have h3 := HSQ6.out c hc
      obtain ⟨b'', o'', e2, h4⟩ := h3
      rw [e] at e2
      obtain ⟨rfl, rfl⟩ : kb = b' ∧ 0 = o' := by simpa using e
      obtain ⟨rfl, rfl⟩ : kb = b'' ∧ 0 = o'' := by simpa using e2
      exact ⟨_, h4, cell_lt h2⟩
    clear hown hgrow hb6
    go_wp2
    go_loopw [39] (fun i wr => ∃ k : Nat, k ≤ px.length ∧ i = .int .i64 k ∧ OwnI wr w.heap.size (.slice (some ⟨w4.heap.size, 0, none⟩) n n) (putTo n px q k) ∧ OnlyB w4.heap.size w6 wr ∧ Below w.heap.size w wr) (fun i _ => px.length - (intOf i).toNat)
    case atStart => exact ⟨0, Nat.zero_le _, rfl, HO6.out, OnlyB.refl _ _, HB6.out⟩
    case round =>
      clear HO6 HB6
      obtain ⟨k, hk, rfl, hO, hN, hB⟩ := hrel
      have HO := Lib.hid hO; clear hO
      have HON := Lib.hid hN; clear hN
      have HBB := Lib.hid hB; clear hB
      by_cases hlt : k < px.length
      · obtain ⟨pb, po, v, rfl, hcv, HV⟩ := (HPS.out.below HBB.out).at hlt
        have hgv := gt_some' HV.out
        have hvr := HIN.out v (List.mem_of_getElem? HV.out)
        obtain ⟨j, rfl⟩ := Int.eq_ofNat_of_zero_le hvr.1
        have hj : j < n := by have := HN.out; omega
        obtain ⟨y, hy⟩ : ∃ y, gt q k = y := ⟨_, rfl⟩
        have hqk : k < q.length := by rw [HQL.out]; exact hlt
        have hcq : wr.cell? ⟨kb, k, none⟩ = some (.int .i64 y) := by
          obtain ⟨_, _, l1⟩ := HLQ.out k hqk
          refine (HON.out.cell (by omega)).trans ?_
          obtain ⟨b', o', e, h2⟩ := HSQ6.out k hqk
          obtain ⟨rfl, rfl⟩ : kb = b' ∧ 0 = o' := by simpa using e
          rw [Nat.zero_add] at h2
          rw [h2, ← hy]; rfl
        obtain ⟨cz, fz⟩ := HO.out.cell (j := j) (by rw [putTo_len]; exact hj)
        have HKN : Hid ((putTo n px q k).set j y = putTo n px q (k + 1)) := by
          show _ = _
          conv => rhs; unfold putTo
          rw [hgv, Int.toNat_natCast, hy]
        have HST := Lib.hid (HO.out.stored j y)
        clear hgv hvr hy hqk
        go_wp2
        go_roundw
        case rel => exact ⟨k + 1, by omega, by go_num, by rw [← HKN.out]; exact HST.out, HON.out.setCell _ _, HBB.out.setCell (p := ⟨w4.heap.size, j, none⟩) HWS.out _⟩
        case measure => simp [intOf]; omega
      · obtain rfl : k = px.length := by omega
        go_wp2
        go_ret2
        refine ⟨HBB.out, .inr ⟨HB.out, w4.heap.size, by rw [HN.out]; rfl, ?_⟩⟩
        rw [HN.out, HHQ.out]; exact HO.out
end Go.Proofs.YtfnomiingelfaaaGreat
/- Ranges over functions whose values lie in memory: what an iterator owes its caller and what the caller owes it, told by the blocks that each of the two alone may write. Speaks of no function. -/
namespace Go.Proofs.YtfnomiingelfaaaGreat
open Go.RowKit

theorem roundIn_n {P : Program} {n m l : Nat} {f : FuncId} {tmps : Array Value} {assign body : Code} {w : World} {R : Ending → World → Prop} (h : RoundIn Fence.wide n P l f tmps assign body w R) : RoundIn Fence.wide m P l f tmps assign body w R :=
  ⟨h.1, fun c cs _ => h.2 c cs (room_wide _)⟩
abbrev Blk := Nat → Prop
structure Turned (T : Blk) (W W' : World) : Prop where
  os : W'.os = W.os
  tape : W'.tape = W.tape
  output : W'.output = W.output
  size : W.heap.size ≤ W'.heap.size
  same : ∀ b, b < W.heap.size → ¬ T b → W'.heap[b]? = W.heap[b]?
theorem Turned.refl (T : Blk) (W : World) : Turned T W W := ⟨rfl, rfl, rfl, Nat.le_refl _, fun _ _ _ => rfl⟩
theorem Turned.trans {T T' : Blk} {A B C : World} (h : Turned T A B) (k : Turned T' B C) (hT : ∀ b, T' b → T b ∨ A.heap.size ≤ b) : Turned T A C :=
  ⟨k.os.trans h.os, k.tape.trans h.tape, k.output.trans h.output, Nat.le_trans h.size k.size, fun b hb hn => (k.same b (Nat.lt_of_lt_of_le hb h.size) (fun e => by rcases hT b e with q | q; exact hn q; omega)).trans (h.same b hb hn)⟩
theorem Turned.mono {T T' : Blk} {A B : World} (h : Turned T A B) (hT : ∀ b, b < A.heap.size → T b → T' b) : Turned T' A B := ⟨h.os, h.tape, h.output, h.size, fun b hb hn => h.same b hb fun e => hn (hT b hb e)⟩
theorem turned_of_below {T : Blk} {B : Nat} {W W' : World} (h : Below B W W') (hT : ∀ b, b < W.heap.size → B ≤ b → T b) : Turned T W W' := ⟨h.os, h.tape, h.output, h.size, fun b hb hn => h.block b (by rcases Nat.lt_or_ge b B with q | q; exact q; exact absurd (hT b hb q) hn)⟩
theorem turned_below {T : Blk} {W W' : World} (h : Below W.heap.size W W') : Turned T W W' := turned_of_below h fun b hb hB => by omega
theorem turned_alloc (T : Blk) (W : World) (o : Obj) : Turned T W (W.alloc o) := turned_below ((Below.refl _ _).alloc (Nat.le_refl _) o)
theorem turned_grown {T : Blk} {W W' : World} {row : Option Nat} (h : W.grownBy W' row) (hr : ∀ r, row = some r → T r) : Turned T W W' := ⟨h.os, h.tape, h.output, h.size, fun b hb hn => h.block b hb fun e => hn (hr b e.symm)⟩
theorem turned_set {T : Blk} (W : World) {a : Addr} (v : Value) (h : T a.block) : Turned T W (W.setCell a v) := ⟨rfl, rfl, rfl, by simp, fun b _ hn => Below.heap_setCell W a v b fun e => hn (e ▸ h)⟩
theorem turned_put {T : Blk} (W : World) {l : Nat} (o : Obj) (h : T l) : Turned T W (W.putObj l o) := turned_grown (grownBy_putObj' W l o) fun r e => by cases e; exact h
theorem Turned.cell {T : Blk} {W W' : World} (h : Turned T W W') {a : Addr} {v : Value} (hc : W.cell? a = some v) (hn : ¬ T a.block) : W'.cell? a = some v := by
  have hb : a.block < W.heap.size := by
    unfold World.cell? at hc
    rcases Nat.lt_or_ge a.block W.heap.size with hl | hl
    · exact hl
    · simp [Array.getElem?_eq_none hl] at hc
  exact (World.cell?_of_block (h.same _ hb hn)).trans hc
theorem Turned.frozen {T : Blk} {W W' : World} (h : Turned T W W') {a : Addr} (hb : a.block < W.heap.size) (hn : ¬ T a.block) : W'.frozen? a = W.frozen? a := World.frozen?_of_block (h.same _ hb hn)
theorem Turned.below {T : Blk} {W W' : World} {B : Nat} (h : Turned T W W') (hB : B ≤ W.heap.size) (hT : ∀ b, b < B → ¬ T b) : Below B W W' :=
  ⟨h.os, h.tape, h.output, h.size, fun b hb => h.same b (Nat.lt_of_lt_of_le hb hB) (hT b hb)⟩

section
variable {α β : Type}
structure Client (J : List α → Blk → Blk → World → Prop) : Prop where
  lt : ∀ {pre C T W}, J pre C T W → ∀ b, C b → b < W.heap.size ∧ ¬ T b
  keep : ∀ {pre C T T' W W'}, J pre C T W → Turned T W W' → (∀ b, T' b → T b ∨ W.heap.size ≤ b) → J pre C T' W'
def Went (J : List α → Blk → Blk → World → Prop) (own : α → Blk) (pre : List α) (x : α) (C T : Blk) (W W' : World) : Prop :=
  ∃ C' T', J (pre ++ [x]) C' T' W' ∧ (∀ b, T b → b < W.heap.size → ¬ own x b → T' b) ∧ (∀ b, C' b → C b ∨ own x b ∨ W.heap.size ≤ b) ∧ Turned (fun b => C b ∨ own x b) W W'
def SeqM (P : Program) (g : Nat) (lb : Array Value) (encs : α → Array Value) (Mem : α → World → Prop) (own : α → Blk) (key : α → β) (Z : List β) (need : Blk) (w : World) : Prop :=
  ∀ (l : Nat) (J Jx : List α → Blk → Blk → World → Prop) (C T : Blk) (W : World), Below w.heap.size w W → Client J → Client Jx → (∀ b, need b → ¬ C b) →
    (∀ pre x C T W1, J pre C T W1 → Mem x W1 → (∀ b, own x b → T b) → (∃ rest, Z = pre.map key ++ key x :: rest) → ∀ m, YieldAt Fence.wide m P l (encs x) W1 fun e W' =>
      (e = .returned (.bool true) ∧ Went J own pre x C T W1 W') ∨ (e = .returned (.bool false) ∧ Went Jx own pre x C T W1 W')) →
    J [] C T W →
    Calls P g (#[.func (.yield l) #[] #[]] ++ lb) W fun e W' => (∃ v, e = .returned v) ∧ ((∃ xs C T, xs.map key = Z ∧ J xs C T W') ∨ (∃ pre C T, Jx pre C T W'))
def wentPost (I : List α → Blk → Blk → World → Prop) (Ix : Code → List α → Blk → Blk → World → Prop) (own : α → Blk) (pre : List α) (x : α) (C T : Blk) (W : World) : Exit → Act → World → Prop
  | .normal, _, W' => Went I own pre x C T W W'
  | .ret, _, W' => Went (Ix .ret) own pre x C T W W'
  | .exit id, _, W' => Went (Ix (.exit id)) own pre x C T W W'
  | .goto t, _, W' => Went (Ix (.goto t)) own pre x C T W W'
  | .panic _, _, _ => False
  | .outgrown, _, _ => False
def Ring (I : List α → Blk → Blk → World → Prop) (l D : Nat) (r : Loop) (pre : List α) (C T : Blk) (W : World) : Prop :=
  ∃ C1 T1, I pre C1 T1 W ∧ (∀ b, C b ↔ C1 b ∨ b = l ∨ b = D) ∧ (∀ b, T b → T1 b) ∧ T1 l ∧ T1 D ∧ ¬ T l ∧ ¬ T D ∧ W.heap[l]? = some (.loop r) ∧ W.heap[D]? = some (.deferred (some []))
theorem Client.ring' {I : List α → Blk → Blk → World → Prop} (h : Client I) (l D : Nat) (r : Loop) : Client (Ring I l D r) where
  lt := by
    rintro pre C T W ⟨C1, T1, hI, hC, hT, q1, q2, tl, tD, hl, hD⟩ b hb
    rcases (hC b).1 hb with q | rfl | rfl
    · exact ⟨(h.lt hI b q).1, fun e => (h.lt hI b q).2 (hT b e)⟩
    · exact ⟨(Array.getElem?_eq_some_iff.1 hl).1, tl⟩
    · exact ⟨(Array.getElem?_eq_some_iff.1 hD).1, tD⟩
  keep := by
    rintro pre C T T' W W' ⟨C1, T1, hI, hC, hT, q1, q2, tl, tD, hl, hD⟩ ht hT'
    have ll := (Array.getElem?_eq_some_iff.1 hl).1
    have lD := (Array.getElem?_eq_some_iff.1 hD).1
    exact ⟨C1, fun b => T1 b ∨ W.heap.size ≤ b, h.keep hI (ht.mono fun b _ e => hT b e) (fun b e => e), hC, fun b e => (hT' b e).elim (fun e => .inl (hT b e)) .inr, .inl q1, .inl q2,
      (fun e => (hT' _ e).elim tl (by omega)), (fun e => (hT' _ e).elim tD (by omega)), (ht.same _ ll tl).trans hl, (ht.same _ lD tD).trans hD⟩
theorem wpIn_rangeFunc_M {P : Program} {n : Nat} {g : Operand} {ps : Array Tmp} {assign body : Code} {Q : Exit → Act → World → Prop} {a : Act} {w : World}
    (h1 : 1 ≤ n) {gf : Nat} {lb : Array Value} (hg : a.eval g = .func (.func gf) #[] lb) (eg : ∀ args w, (callFunc gf args).run P w = .ok (.enter gf args) w)
    {encs : α → Array Value} {Mem : α → World → Prop} {own : α → Blk} {key : α → β} {Z : List β} {need : Blk} {w0 : World} (hseq : SeqM P gf lb encs Mem own key Z need w0) (hb0 : Below w0.heap.size w0 w) (hps : ∀ x, (encs x).size = ps.size)
    (hMem : ∀ x W l r r', Mem x W → W.heap[l]? = some (.loop r) → Mem x (W.putObj l (.loop r'))) (I : List α → Blk → Blk → World → Prop) (Ix : Code → List α → Blk → Blk → World → Prop) (hI : Client I) (hIx : ∀ c, Client (Ix c)) (C T : Blk) (hneed : ∀ b, need b → ¬ C b ∧ b < w.heap.size) (hT : ∀ b, T b → b < w.heap.size) (h0 : I [] C T w) (a₁ : α → Act)
    (hassign : ∀ (l : Nat) (x : α) (W : World) (K : Act → World → Prop), K (a₁ x) W →
      assign.wpIn (Fence.wide.inRound l) (n - 1 - 1) P (Exit.then K (fun _ _ _ => False)) { tmps := (ps.zip (encs x)).foldl (fun t (p, v) => t.setIfInBounds p v) a.tmps, defers := [] } W)
    (hbody : ∀ (l : Nat) (pre : List α) (x : α) (C T : Blk) (W : World), I pre C T W → Mem x W → (∀ b, own x b → T b) → (∃ rest, Z = pre.map key ++ key x :: rest) → body.wpIn (Fence.wide.inRound l) (n - 1 - 1) P (wentPost I Ix own pre x C T W) (a₁ x) W)
    (hdone : ∀ (D : Nat) (xs : List α) (C T : Blk) (W : World), w.heap.size ≤ D → xs.map key = Z → I xs C T W → T D → W.heap[D]? = some (.deferred (some [])) → Q .normal { a with defers := { target := .collected D, args := #[] } :: a.defers } W)
    (hstop : ∀ (D : Nat) (c : Code) (pre : List α) (C T : Blk) (W : World), w.heap.size ≤ D → Ix c pre C T W → T D → W.heap[D]? = some (.deferred (some [])) → c.wpIn Fence.wide n P Q { a with defers := { target := .collected D, args := #[] } :: a.defers } W) :
    (Code.rangeFunc g ps assign body).wpIn Fence.wide n P Q a w := by
  refine wpIn_rangeFunc fun fn _ => ?_
  obtain ⟨rec, hrec⟩ : ∃ rec : LoopState → Option Code → Loop, rec = fun st pe => { state := st, pending := pe, fn, tmps := a.tmps, params := ps, assign, body, defers := w.heap.size } := ⟨_, rfl⟩
  obtain ⟨D, hD⟩ : ∃ D, w.heap.size = D := ⟨_, rfl⟩
  obtain ⟨W1, hW1⟩ : ∃ W1, (w.alloc (.deferred (some []))).alloc (.loop (rec .ready none)) = W1 := ⟨_, rfl⟩
  have sz : W1.heap.size = D + 2 := by rw [← hW1]; simp; omega
  have hL1 : W1.heap[D + 1]? = some (.loop (rec .ready none)) := by
    rw [← hW1]; have := World.alloc_heap_new (w.alloc (.deferred (some []))) (.loop (rec .ready none)); rw [World.size_alloc, hD] at this; exact this
  have hK1 : W1.heap[D]? = some (.deferred (some [])) := by
    rw [← hW1, ← hD]; exact (Below.heap_alloc _ _ _ (by simp)).trans (World.alloc_heap_new w _)
  have hbw : Below w.heap.size w W1 := by
    rw [← hW1]; exact ((Below.refl _ w).alloc (Nat.le_refl _) _).alloc (by simp) _
  have hI1 : I [] C T W1 := hI.keep h0 (turned_below hbw) fun b hb => .inl hb
  have hC1 : ∀ b, C b → b < D := fun b hb => by have := (hI.lt h0 b hb).1; omega
  refine ⟨D + 1, [{ target := .collected D, args := #[] }], W1, { target := .fn (.func gf) lb, args := #[.func (.yield (D + 1)) #[] #[]] }, W1, gf, #[.func (.yield (D + 1)) #[] #[]] ++ lb, W1, ?_, ?_, ?_, ?_, fun _ => by omega, ?_⟩
  · rw [← hW1, hrec, ← hD]; exact run_enterLoop_outer _ _ _ _ _
  · simp only [resolve, hg]
    simp [go_sem]
  · intro _ _; trivial
  · simp [invoke, go_sem, eg]
  refine (callsIn_wide.2 (hseq (D + 1) (Ring I (D + 1) D (rec .ready none)) (fun pre C T W => ∃ c, Ring (Ix c) (D + 1) D (rec .done (some c)) pre C T W) (fun b => C b ∨ b = D + 1 ∨ b = D) T W1 (hb0.trans (hbw.mono hb0.size)) (hI.ring' _ _ _) ?_ ?_ ?_ ?_)).mono ?_
  · exact { lt := fun ⟨c, h⟩ => ((hIx c).ring' _ _ _).lt h, keep := fun ⟨c, h⟩ ht hT => ⟨c, ((hIx c).ring' _ _ _).keep h ht hT⟩ }
  · rintro b hb (e | e | e)
    · exact (hneed b hb).1 e
    · have := (hneed b hb).2; omega
    · have := (hneed b hb).2; omega
  · rintro pre x C T W ⟨C1, T1, hi, hC, hTT, q1, q2, tl, tD, hl, hk⟩ hmem hown hrest m
    have hlt := (Array.getElem?_eq_some_iff.1 hl).1
    have hlk := (Array.getElem?_eq_some_iff.1 hk).1
    have hy := run_yield (P := P) (args := encs x) hl (by rw [hrec]; exact hps x)
    rw [hrec] at hy
    refine ⟨fn, _, assign, body, hy, roundIn_n (n := n - 1 - 1) <| roundIn_of_wpIn trivial (hassign _ x W _ ⟨_, run_beginRound hl (by rw [hrec]), ?_⟩)⟩
    clear hy
    obtain ⟨W2, hW2⟩ : ∃ W2, W.putObj (D + 1) (.loop { rec .ready none with state := .busy }) = W2 := ⟨_, rfl⟩
    rw [hW2]
    have hl2 : W2.heap[D + 1]? = some (.loop { rec .ready none with state := .busy }) := by rw [← hW2]; exact World.putObj_heap_same hlt
    have ht2 : Turned (fun b => b = D + 1) W W2 := by rw [← hW2]; exact turned_put W _ rfl
    have hk2 : W2.heap[D]? = some (.deferred (some [])) := (ht2.same D hlk (by show ¬ D = D + 1; omega)).trans hk
    have hi2 : I pre C1 T1 W2 := hI.keep hi (ht2.mono fun b _ e => by subst e; exact q1) fun b e => .inl e
    have hm2 : Mem x W2 := by rw [← hW2]; exact hMem x W _ _ _ hmem hl
    have fin : ∀ (K : List α → Blk → Blk → World → Prop) (jump : Option Code) (W3 : World), Client K → Went K own pre x C1 T1 W2 W3 →
        (Instr.endRound (D + 1) jump).run P W3 = .ok (.bool jump.isNone) (W3.putObj (D + 1) (.loop (rec (if jump.isNone then .ready else .done) jump))) ∧
        Went (Ring K (D + 1) D (rec (if jump.isNone then .ready else .done) jump)) own pre x C T W (W3.putObj (D + 1) (.loop (rec (if jump.isNone then .ready else .done) jump))) := by
      rintro K jump W3 hK ⟨C', T', hi3, hT3, hC3, ht3⟩
      have nl : ¬ (C1 (D + 1) ∨ own x (D + 1)) := fun e => e.elim (fun e => (hI.lt hi _ e).2 q1) fun e => tl (hown _ e)
      have nD : ¬ (C1 D ∨ own x D) := fun e => e.elim (fun e => (hI.lt hi _ e).2 q2) fun e => tD (hown _ e)
      have hl3 : W3.heap[D + 1]? = some (.loop { rec .ready none with state := .busy }) := (ht3.same _ (Array.getElem?_eq_some_iff.1 hl2).1 nl).trans hl2
      have hk3 : W3.heap[D]? = some (.deferred (some [])) := (ht3.same _ (Array.getElem?_eq_some_iff.1 hk2).1 nD).trans hk2
      have hr := run_endRound (P := P) jump hl3
      rw [hrec] at hr
      refine ⟨by rw [hrec]; exact hr, fun b => C' b ∨ b = D + 1 ∨ b = D, fun b => T' b ∧ b ≠ D + 1 ∧ b ≠ D, ⟨C', T', ?_, fun b => Iff.rfl, fun b e => e.1, hT3 _ q1 (Array.getElem?_eq_some_iff.1 hl2).1 (fun e => nl (.inr e)), hT3 _ q2 (Array.getElem?_eq_some_iff.1 hk2).1 (fun e => nD (.inr e)), fun e => e.2.1 rfl, fun e => e.2.2 rfl, World.putObj_heap_same (Array.getElem?_eq_some_iff.1 hl3).1, (World.putObj_heap_other (by omega)).trans hk3⟩, ?_, ?_, ?_⟩
      · exact hK.keep hi3 (turned_put W3 _ (hT3 _ q1 (Array.getElem?_eq_some_iff.1 hl2).1 fun e => nl (.inr e))) fun b e => .inl e
      · exact fun b hb hlt hn => ⟨hT3 b (hTT b hb) (Nat.lt_of_lt_of_le hlt ht2.size) hn, fun e => tl (e ▸ hb), fun e => tD (e ▸ hb)⟩
      · rintro b (e | e | e)
        · rcases hC3 b e with q | q | q
          · exact .inl ((hC b).2 (.inl q))
          · exact .inr (.inl q)
          · exact .inr (.inr (Nat.le_trans ht2.size q))
        · exact .inl ((hC b).2 (.inr (.inl e)))
        · exact .inl ((hC b).2 (.inr (.inr e)))
      · have a1 : Turned (fun b => C b ∨ own x b) W W2 := ht2.mono fun b _ e => .inl ((hC b).2 (.inr (.inl e)))
        have a2 : Turned (fun b => C b ∨ own x b) W2 W3 := ht3.mono fun b _ e => e.elim (fun e => .inl ((hC b).2 (.inl e))) .inr
        have a3 : Turned (fun b => C b ∨ own x b) W3 (W3.putObj (D + 1) (.loop (rec (if jump.isNone then .ready else .done) jump))) := turned_put W3 _ (.inl ((hC _).2 (.inr (.inl rfl))))
        exact (a1.trans a2 fun b e => .inl e).trans a3 fun b e => .inl e
    refine wpIn_mono (hbody _ pre x C1 T1 W2 hi2 hm2 (fun b e => hTT b (hown b e)) hrest) ?_
    rintro e a3 W3 hp
    cases e with
    | normal => obtain ⟨hr, hw⟩ := fin I none W3 hI hp; exact ⟨_, _, hr, .inl ⟨rfl, hw⟩⟩
    | ret => obtain ⟨hr, C', T', hw, q⟩ := fin _ (some .ret) W3 (hIx _) hp; exact ⟨_, _, hr, .inr ⟨rfl, C', T', ⟨_, hw⟩, q⟩⟩
    | exit id => obtain ⟨hr, C', T', hw, q⟩ := fin _ (some (.exit id)) W3 (hIx _) hp; exact ⟨_, _, hr, .inr ⟨rfl, C', T', ⟨_, hw⟩, q⟩⟩
    | goto t => obtain ⟨hr, C', T', hw, q⟩ := fin _ (some (.goto t)) W3 (hIx _) hp; exact ⟨_, _, hr, .inr ⟨rfl, C', T', ⟨_, hw⟩, q⟩⟩
    | panic ch => exact hp.elim
    | outgrown => exact hp.elim
  · refine ⟨C, fun b => T b ∨ w.heap.size ≤ b, hI.keep h0 (turned_below hbw) (fun b e => e), fun b => Iff.rfl, fun b e => .inl e, .inr (by omega), .inr (by omega), fun e => by have := hT _ e; omega, fun e => by have := hT _ e; omega, hL1, hK1⟩
  · rintro e W2 ⟨⟨v, rfl⟩, (⟨xs, C', T', hZ, C1, T1, hi, hC, hTT, q1, q2, tl, tD, hl, hk⟩ | ⟨pre, C', T', c, C1, T1, hi, hC, hTT, q1, q2, tl, tD, hl, hk⟩)⟩
    · refine ⟨none, _, by have := run_endLoop (P := P) hl (by rw [hrec]; simp); rw [hrec] at this; exact this, hdone D xs C1 T1 _ (by omega) hZ (hI.keep hi (turned_put W2 _ q1) fun b e => .inl e) q2 ((World.putObj_heap_other (by omega)).trans hk)⟩
    · refine ⟨some c, _, by have := run_endLoop (P := P) hl (by rw [hrec]; simp); rw [hrec] at this; exact this, hstop D c pre C1 T1 _ (by omega) ((hIx c).keep hi (turned_put W2 _ q1) fun b e => .inl e) q2 ((World.putObj_heap_other (by omega)).trans hk)⟩
end
end Go.Proofs.YtfnomiingelfaaaGreat
/- sets of layer 3 (sets$1, sets$1$1: a closure that calls itself): a contract. -/
namespace Go.Proofs.YtfnomiingelfaaaGreat
open Go.RowKit Go.Shelf
attribute [local go_sem] Oper.semAt_some

def compl (n : Nat) : Nat → Nat → List (List Int)
  | 0, _ => [[]]
  | r + 1, b => (List.range (n - r - b)).flatMap fun d => (compl n r (b + d + 1)).map fun s => ((b + d : Nat) : Int) :: s
def complTo (n r b d : Nat) : List (List Int) := (List.range d).flatMap fun d => (compl n r (b + d + 1)).map fun s => ((b + d : Nat) : Int) :: s
theorem complTo_succ (n r b d : Nat) : complTo n r b (d + 1) = complTo n r b d ++ (compl n r (b + d + 1)).map fun s => ((b + d : Nat) : Int) :: s := by
  unfold complTo; rw [List.range_succ, List.flatMap_append]; simp
theorem compl_succ (n r b : Nat) : compl n (r + 1) b = complTo n r b (n - r - b) := rfl
theorem complTo_split (n r b : Nat) : ∀ d e, d ≤ e → ∃ post, complTo n r b e = complTo n r b d ++ post
  | d, e, h => by
    obtain ⟨k, rfl⟩ : ∃ k, e = d + k := ⟨e - d, by omega⟩
    refine ⟨(List.range k).flatMap fun i => (compl n r (b + (d + i) + 1)).map fun s => ((b + (d + i) : Nat) : Int) :: s, ?_⟩
    unfold complTo
    rw [List.range_add, List.flatMap_append, List.flatMap_map]
theorem compl_mem {n : Nat} : ∀ {r b : Nat} {s : List Int}, s ∈ compl n r b → s.length = r ∧ ∀ j ∈ s, (b : Int) ≤ j ∧ j < n
  | 0, b, s, h => by
    have : s = [] := by simpa [compl] using h
    subst this; exact ⟨rfl, fun j hj => by cases hj⟩
  | r + 1, b, s, h => by
    unfold compl at h
    obtain ⟨d, hd, h2⟩ := List.mem_flatMap.1 h
    obtain ⟨t, ht, rfl⟩ := List.mem_map.1 h2
    have hd := List.mem_range.1 hd
    obtain ⟨h3, h4⟩ := compl_mem ht
    refine ⟨by simp [h3], fun j hj => ?_⟩
    rcases List.mem_cons.1 hj with rfl | hj
    · constructor <;> omega
    · have := h4 j hj; omega
abbrev SetV := Nat × List Int
abbrev encS (x : SetV) : Array Value := #[.slice (some ⟨x.1, 0, none⟩) x.2.length x.2.length]
def MemS (x : SetV) (W : World) : Prop := OwnI W 0 (.slice (some ⟨x.1, 0, none⟩) x.2.length x.2.length) x.2
structure SetsF (l S Y E N K SB n size : Nat) (xs : List Int) (W : World) : Prop where
  cs : W.cell? ⟨S, 0, none⟩ = some (.int .i64 size)
  cy : W.cell? ⟨Y, 0, none⟩ = some (.func (.yield l) #[] #[])
  ce : W.cell? ⟨E, 0, none⟩ = some (.slice (some ⟨SB, 0, none⟩) size size)
  cn : W.cell? ⟨N, 0, none⟩ = some (.int .i64 n)
  ck : W.cell? ⟨K, 0, none⟩ = some (.func (.func 153) #[] #[.pointer (some ⟨S, 0, none⟩), .pointer (some ⟨Y, 0, none⟩), .pointer (some ⟨E, 0, none⟩), .pointer (some ⟨N, 0, none⟩), .pointer (some ⟨K, 0, none⟩)])
  own : OwnI W 0 (.slice (some ⟨SB, 0, none⟩) size size) xs
  len : xs.length = size
  apart : SB ≠ S ∧ SB ≠ Y ∧ SB ≠ E ∧ SB ≠ N ∧ SB ≠ K
theorem memS_put (x : SetV) (W : World) (l : Nat) (r r' : Loop) (h : MemS x W) (hl : W.heap[l]? = some (.loop r)) : MemS x (W.putObj l (.loop r')) := by
  refine OwnI.sameBlock h (World.putObj_heap_other fun e => ?_)
  subst e
  obtain ⟨_, ⟨e, _⟩ | ⟨g, cap, cur, e, _, hh, _⟩⟩ := h
  · cases e
  · obtain ⟨rfl, _⟩ : x.1 = g ∧ _ := by simpa using e
    rw [hl] at hh; cases hh
theorem SetsF.stored {l S Y E N K SB n size : Nat} {xs : List Int} {W : World} (h : SetsF l S Y E N K SB n size xs W) (k : Nat) (j : Int) : SetsF l S Y E N K SB n size (xs.set k j) (W.setCell ⟨SB, k, none⟩ (.int .i64 j)) := by
  obtain ⟨cs, cy, ce, cn, ck, own, len, h1, h2, h3, h4, h5⟩ := h
  exact ⟨(cell_other _ _ _ _ (Ne.symm h1)).trans cs, (cell_other _ _ _ _ (Ne.symm h2)).trans cy, (cell_other _ _ _ _ (Ne.symm h3)).trans ce, (cell_other _ _ _ _ (Ne.symm h4)).trans cn, (cell_other _ _ _ _ (Ne.symm h5)).trans ck, own.stored k j, by rw [List.length_set]; exact len, h1, h2, h3, h4, h5⟩
def SetsA (S Y E N K SB : Nat) (C T : Blk) : Prop := T SB ∧ ∀ b, (b = S ∨ b = Y ∨ b = E ∨ b = N ∨ b = K ∨ b = SB) → ¬ C b
theorem SetsF.turned {l S Y E N K SB n size : Nat} {xs : List Int} {W W' : World} {C : Blk} (h : SetsF l S Y E N K SB n size xs W) (ht : Turned C W W') (ha : ∀ b, (b = S ∨ b = Y ∨ b = E ∨ b = N ∨ b = K ∨ b = SB) → ¬ C b) : SetsF l S Y E N K SB n size xs W' := by
  obtain ⟨cs, cy, ce, cn, ck, own, len, h1, h2, h3, h4, h5⟩ := h
  exact ⟨ht.cell cs (ha _ (by simp)), ht.cell cy (ha _ (by simp)), ht.cell ce (ha _ (by simp)), ht.cell cn (ha _ (by simp)), ht.cell ck (ha _ (by simp)), own.sameBlock (ht.same _ (OwnI.lt own).1 (ha _ (by simp))), len, h1, h2, h3, h4, h5⟩
theorem take_set {xs : List Int} {p : List Int} {k : Nat} {j : Int} (hp : xs.take k = p) (hk : k < xs.length) : (xs.set k j).take (k + 1) = p ++ [j] := by
  subst hp
  apply List.ext_getElem?
  intro i
  rw [List.getElem?_append, List.getElem?_take]
  have hl : (xs.take k).length = k := by rw [List.length_take]; omega
  rw [hl, List.getElem?_take, List.getElem?_set]
  by_cases h1 : i < k
  · rw [if_pos (by omega), if_neg (by omega), if_pos h1, if_pos h1]
  · by_cases h2 : i = k
    · subst h2; rw [if_pos (by omega), if_pos rfl, if_neg h1]; simp [hk]
    · rw [if_neg (by omega), if_neg h1, List.getElem?_eq_none (by simp; omega)]
theorem take_less {xs p : List Int} {k : Nat} {j : Int} (h : xs.take (k + 1) = p ++ [j]) (hp : p.length = k) : xs.take k = p := by
  have h2 : (xs.take (k + 1)).take k = (p ++ [j]).take k := by rw [h]
  rw [List.take_take, Nat.min_eq_left (by omega)] at h2
  rw [h2]; simp [← hp]
def ChPost (l S Y E N K SB n size : Nat) (J Jx : List SetV → Blk → Blk → World → Prop) (k : Nat) (p : List Int) (pre : List SetV) (L : List (List Int)) (e : Ending) (W' : World) : Prop :=
  (e = .returned (.bool true) ∧ ∃ ys C T xs', ys.map Prod.snd = L.map (p ++ ·) ∧ J (pre ++ ys) C T W' ∧ SetsF l S Y E N K SB n size xs' W' ∧ SetsA S Y E N K SB C T ∧ xs'.take k = p) ∨ (e = .returned (.bool false) ∧ ∃ pre' C T, Jx pre' C T W')
set_option maxRecDepth 100000 in
set_option maxHeartbeats 2000000 in
theorem choose_in (l S Y E N K SB n size : Nat) (hn : n ≤ 100) (hs : size ≤ 100) (J Jx : List SetV → Blk → Blk → World → Prop) (hJ : Client J) (Z : List (List Int))
    (hY : ∀ pre x C T W1, J pre C T W1 → MemS x W1 → (∀ b, False → T b) → (∃ rest, Z = pre.map Prod.snd ++ x.2 :: rest) → ∀ m, YieldAt Fence.wide m Tryz.prog l (encS x) W1 fun e W' =>
      (e = .returned (.bool true) ∧ Went J (fun _ _ => False) pre x C T W1 W') ∨ (e = .returned (.bool false) ∧ Went Jx (fun _ _ => False) pre x C T W1 W')) :
    ∀ (r k b : Nat) (p : List Int) (pre : List SetV) (C T : Blk) (xs : List Int) (W : World), k + r = size → p.length = k → b ≤ n → J pre C T W → SetsF l S Y E N K SB n size xs W → SetsA S Y E N K SB C T → xs.take k = p → (∃ post, Z = pre.map Prod.snd ++ (compl n r b).map (p ++ ·) ++ post) →
      CallsIn Fence.wide 50 Tryz.prog 153 #[.int .i64 k, .int .i64 b, .pointer (some ⟨S, 0, none⟩), .pointer (some ⟨Y, 0, none⟩), .pointer (some ⟨E, 0, none⟩), .pointer (some ⟨N, 0, none⟩), .pointer (some ⟨K, 0, none⟩)] W (ChPost l S Y E N K SB n size J Jx k p pre (compl n r b)) := by
  intro r
  induction r with
  | zero =>
    intro k b p pre C T xs W hk hp hb hj hF hA htake hZ
    obtain rfl : k = size := by omega
    have HF := Lib.hid hF
    have HA := Lib.hid hA
    have HZ := Lib.hid hZ
    have cs := hF.cs; have cy := hF.cy; have ce := hF.ce; have own := hF.own; have len := hF.len
    clear hF
    have hx : xs = p := by rw [← htake, List.take_of_length_le (by omega)]
    subst hx
    have LEN := Lib.hid len
    have HP : Hid (MemS (SB, xs) W) := by show OwnI _ _ _ _; dsimp only; rw [len]; exact own
    have HJ := Lib.hid hj
    have hy := hY pre (SB, xs) C T W hj HP.out (fun _ h => h.elim) (by obtain ⟨post, h⟩ := hZ; exact ⟨post, by rw [h]; simp [compl]⟩)
    obtain ⟨fn, tmps, assign, body, hy1, hR⟩ := hy 49
    dsimp only [encS] at hy1
    rw [len] at hy1
    clear hy hj hZ hA htake len own
    refine callsIn_of_wp Tryz.func153 rfl trivial ?_ rfl
    simp only [Tryz.ntmps153, List.size_toArray, List.length_cons, List.length_nil, Nat.reduceAdd, Nat.reduceSub, Array.replicate_succ, Array.replicate_zero, List.push_toArray, List.append_toArray, List.nil_append, List.cons_append]
    gi_wp2
    refine hR.mono ?_
    rintro e W3 (⟨rfl, hw⟩ | ⟨rfl, hw⟩)
    · have HW := Lib.hid hw; clear hw
      gi_wp2
      go_ret
      obtain ⟨C', T', hj', hT', hC', ht'⟩ := HW.out
      refine .inl ⟨rfl, [(SB, xs)], C', T', xs, by simp [compl], hj', HF.out.turned ht' (fun b hb e => e.elim (HA.out.2 b hb) id), ⟨hT' _ HA.out.1 (OwnI.lt HF.out.own).1 id, fun b hb e => ?_⟩, by rw [List.take_of_length_le (by have := LEN.out; omega)]⟩
      rcases hC' b e with q | q | q
      · exact HA.out.2 b hb q
      · exact q
      · have l1 := cell_lt cs; have l2 := cell_lt cy; have l3 := cell_lt ce; have l4 := cell_lt HF.out.cn; have l5 := cell_lt HF.out.ck; dsimp only at l1 l2 l3 l4 l5; have l6 := (OwnI.lt HF.out.own).1
        rcases hb with rfl | rfl | rfl | rfl | rfl | rfl <;> omega
    · have HW := Lib.hid hw; clear hw
      gi_wp2
      go_ret
      obtain ⟨C', T', hj', hT', hC', ht'⟩ := HW.out
      exact .inr ⟨rfl, _, C', T', hj'⟩
  | succ r ih =>
    intro k b p pre C T xs W hk hp hb hj hF hA htake hZ
    have hks : k < size := by omega
    have HF := Lib.hid hF
    have HA := Lib.hid hA
    have HZ := Lib.hid hZ
    have HJ := Lib.hid hj
    have HT := Lib.hid htake
    have HP := Lib.hid hp
    have HK := Lib.hid hk
    have cs := hF.cs
    clear hj hZ hA htake hp hk hF
    refine callsIn_of_wp Tryz.func153 rfl trivial ?_ rfl
    simp only [Tryz.ntmps153, List.size_toArray, List.length_cons, List.length_nil, Nat.reduceAdd, Nat.reduceSub, Array.replicate_succ, Array.replicate_zero, List.push_toArray, List.append_toArray, List.nil_append, List.cons_append]
    gi_wp2
    clear cs
    gi_loopw [10] (fun i wr => ∃ j : Nat, b ≤ j ∧ (j = b ∨ j ≤ n - r) ∧ i = .int .i64 (j : Int) ∧ ∃ ys C T xs', ys.map Prod.snd = (complTo n r b (j - b)).map (p ++ ·) ∧ J (pre ++ ys) C T wr ∧ SetsF l S Y E N K SB n size xs' wr ∧ SetsA S Y E N K SB C T ∧ xs'.take k = p) (fun i _ => n + 2 - (intOf i).toNat)
    case atStart => exact ⟨b, Nat.le_refl _, .inl rfl, rfl, [], C, T, xs, by rw [Nat.sub_self]; rfl, by simpa using HJ.out, HF.out, HA.out, HT.out⟩
    case round =>
      obtain ⟨j, hd1, hd2, rfl, ys, C', T', xs', hys, hj', hF', hA', ht'⟩ := hrel
      have HF' := Lib.hid hF'
      have HJ' := Lib.hid hj'
      have HA' := Lib.hid hA'
      have HT' := Lib.hid ht'
      have HYS := Lib.hid hys
      have cs := hF'.cs; have ce := hF'.ce; have cn := hF'.cn; have own := hF'.own; have len := hF'.len
      clear hj' hA' ht' hys hF'
      by_cases hlt : j < n - r
      · have hle : (j : Int) ≤ (n : Int) - size + k := by have := HK.out; omega
        obtain ⟨cz, fz⟩ := own.cell (j := k) (by omega)
        have LEN := Lib.hid len
        have HF2 := Lib.hid (HF'.out.stored k (j : Int))
        have ck2 := HF2.out.ck
        have HJ2 : Hid (J (pre ++ ys) C' T' (wr.setCell ⟨SB, k, none⟩ (.int .i64 (j : Int)))) := hJ.keep HJ'.out (turned_set wr _ HA'.out.1) fun b e => .inl e
        have HT2 : Hid ((xs'.set k (j : Int)).take (k + 1) = p ++ [(j : Int)]) := take_set HT'.out (by omega)
        have HS : Hid (complTo n r b (j - b + 1) = complTo n r b (j - b) ++ (compl n r (j + 1)).map fun s => (j : Int) :: s) := by
          show _ = _
          rw [complTo_succ, show b + (j - b) = j by omega]
        have HZ2 : Hid (∃ post, Z = (pre ++ ys).map Prod.snd ++ (compl n r (j + 1)).map ((p ++ [(j : Int)]) ++ ·) ++ post) := by
          obtain ⟨post, hz⟩ := HZ.out
          obtain ⟨post2, hz2⟩ := complTo_split n r b (j - b + 1) (n - r - b) (by omega)
          refine ⟨post2.map (p ++ ·) ++ post, ?_⟩
          rw [hz, compl_succ, hz2, HS.out]
          rw [List.map_append (l₁ := pre), HYS.out, List.map_append, List.map_append]
          simp [List.append_assoc]
        have HLT := Lib.hid hlt
        clear own len hlt
        have hk1 : Hid (k + 1 + r = size) := by have := HK.out; show _ = _; omega
        have hp1 : Hid ((p ++ [(j : Int)]).length = k + 1) := by have := HP.out; show _ = _; simp; omega
        have hb1 : Hid (j + 1 ≤ n) := by show _ ≤ _; omega
        gi_wp2_with (refine ⟨trivial, ?_⟩; gi_at_call 153; refine CallsIn.mono (callsIn_wide.2 (callsIn_wide.1 (ih (k + 1) (j + 1) (p ++ [(j : Int)]) (pre ++ ys) C' T' _ _ hk1.out hp1.out hb1.out HJ2.out HF2.out HA'.out HT2.out HZ2.out))) ?_; rintro e W3 (⟨rfl, hw⟩ | ⟨rfl, hw⟩) <;> have HW := Lib.hid hw <;> clear hw)
        · obtain ⟨zs, C3, T3, xs3, hzs, hj3, hF3, hA3, ht3⟩ := HW.out
          have hj3' : J (pre ++ (ys ++ zs)) C3 T3 W3 := by rw [← List.append_assoc]; exact hj3
          have R1 := Lib.hid hj3'; have R2 := Lib.hid hF3; have R3 := Lib.hid hA3; have R4 := Lib.hid (take_less ht3 HP.out); have R5 := Lib.hid hzs
          clear hj3 hj3' hF3 hA3 ht3 hzs ck2 cz fz cs
          gi_wp2
          go_roundw
          case rel =>
            have := hb1.out; have := HLT.out
            refine ⟨j + 1, by omega, .inr (by omega), by go_num, ys ++ zs, C3, T3, xs3, ?_, R1.out, R2.out, R3.out, R4.out⟩
            rw [List.map_append, HYS.out, R5.out, show j + 1 - b = j - b + 1 by omega, HS.out, List.map_append]
            simp
          case measure => have := hb1.out; simp [intOf]; omega
        · obtain ⟨pre', C3, T3, hx3⟩ := HW.out
          have R1 := Lib.hid hx3
          clear hx3 ck2 cz fz cs
          gi_wp2
          go_ret
          exact .inr ⟨rfl, _, _, _, R1.out⟩
      · have hle : ¬ ((j : Int) ≤ (n : Int) - size + k) := by have := HK.out; omega
        have HJE : Hid (complTo n r b (j - b) = compl n (r + 1) b) := by
          show _ = _
          rw [compl_succ]
          congr 1
          omega
        clear own len ce
        gi_wp2
        go_ret
        exact .inl ⟨rfl, ys, C', T', xs', by rw [← HJE.out]; exact HYS.out, HJ'.out, HF'.out, HA'.out, HT'.out⟩
end Go.Proofs.YtfnomiingelfaaaGreat
/- sets of layer 3: the contract of what it hands back. -/
namespace Go.Proofs.YtfnomiingelfaaaGreat
open Go.RowKit Go.Shelf

theorem sets_any (n size : Int) (w : World) : Calls Tryz.prog 137 #[.int .i64 n, .int .i64 size] w fun e w' =>
    e = .returned (.func (.func 152) #[] #[.pointer (some ⟨w.heap.size + 1, 0, none⟩), .pointer (some ⟨w.heap.size, 0, none⟩)]) ∧ w' = (w.alloc (.cells #[.int .i64 n] 3)).alloc (.cells #[.int .i64 size] 3) := by
  go_enter Tryz.func137, Tryz.ntmps137
  go_wp2
  go_ret
  exact ⟨rfl, rfl⟩
theorem two_last (w : World) (o : Obj) (v : Value) (t : TypeId) : ((w.alloc o).alloc (.cells #[v] t)).cell? ⟨w.heap.size + 1, 0, none⟩ = some v ∧ ((w.alloc o).alloc (.cells #[v] t)).frozen? ⟨w.heap.size + 1, 0, none⟩ = false := by
  have h : (w.alloc o).heap.size = w.heap.size + 1 := World.size_alloc _ _
  rw [← h]
  exact ⟨alloc_cell _ _ _ _ _ rfl, by simp⟩
theorem sets_boxes {w4 W V : World} {S N l n size : Nat} {t t' : TypeId} {u : Value} (h1 : V.heap.size = W.heap.size + 1) (h2 : V.heap.size < w4.heap.size) (hb : Below W.heap.size W w4) (hbV : Below V.heap.size V w4) (cS : W.cell? ⟨S, 0, none⟩ = some (.int .i64 size)) (cN : W.cell? ⟨N, 0, none⟩ = some (.int .i64 n))
    (cY : V.cell? ⟨W.heap.size, 0, none⟩ = some (.func (.yield l) #[] #[])) (ho : OwnI w4 0 (.slice (some ⟨V.heap.size, 0, none⟩) size size) (List.replicate size 0)) :
    let f : Value := .func (.func 153) #[] #[.pointer (some ⟨S, 0, none⟩), .pointer (some ⟨W.heap.size, 0, none⟩), .pointer (some ⟨w4.heap.size, 0, none⟩), .pointer (some ⟨N, 0, none⟩), .pointer (some ⟨w4.heap.size + 1, 0, none⟩)]
    let X := ((w4.alloc (.cells #[.slice (some ⟨V.heap.size, 0, none⟩) size size] t)).alloc (.cells #[u] t')).setCell ⟨w4.heap.size + 1, 0, none⟩ f
    SetsF l S W.heap.size w4.heap.size N (w4.heap.size + 1) V.heap.size n size (List.replicate size 0) X ∧ Below W.heap.size W X := by
  intro f X
  have LS : S < W.heap.size := cell_lt cS
  have LN : N < W.heap.size := cell_lt cN
  have e1 : (w4.alloc (.cells #[.slice (some ⟨V.heap.size, 0, none⟩) size size] t)).heap.size = w4.heap.size + 1 := World.size_alloc _ _
  have hX : Below w4.heap.size w4 X := ((((Below.refl _ _).alloc (Nat.le_refl _) _).alloc (by omega) _).setCell (p := ⟨w4.heap.size + 1, 0, none⟩) (by show _ ≤ w4.heap.size + 1; omega) _)
  have old : ∀ {b o : Nat} {v : Value}, w4.cell? ⟨b, o, none⟩ = some v → X.cell? ⟨b, o, none⟩ = some v := fun h => (hX.cell (p := ⟨_, _, none⟩) (cell_lt h)).trans h
  have hws : W.heap.size ≤ w4.heap.size := hb.size
  refine ⟨⟨old ((hb.cell (p := ⟨S, 0, none⟩) LS).trans cS), old ((hbV.cell (p := ⟨W.heap.size, 0, none⟩) (by show W.heap.size < _; omega)).trans cY), ?_, old ((hb.cell (p := ⟨N, 0, none⟩) LN).trans cN), World.cell?_setCell_same _ _ _ (two_last _ _ _ _).1, ho.below hX, by simp, by omega, by omega, by omega, by omega, by omega⟩, hb.trans (hX.mono hws)⟩
  refine (cell_other _ _ _ _ (by show w4.heap.size ≠ w4.heap.size + 1; omega)).trans ((alloc_old _ _ _ _ (by omega)).trans (alloc_cell _ _ _ _ _ rfl))
@[local go_sem] theorem run_store_func' (P : Program) (w : World) (a : Addr) (m : Mode) (f : Fn) (x y : Array Value) : (store a (.func f x y) m).run P w = stored P w a (.func f x y) m := run_store P w a _ m rfl
set_option maxRecDepth 100000 in
set_option maxHeartbeats 1000000 in
theorem sets1_seq (n size S N : Nat) (hn : n ≤ 100) (hs : 1 ≤ size ∧ size ≤ 100) (w : World) (hS : w.cell? ⟨S, 0, none⟩ = some (.int .i64 size)) (hN : w.cell? ⟨N, 0, none⟩ = some (.int .i64 n)) :
    SeqM Tryz.prog 152 #[.pointer (some ⟨S, 0, none⟩), .pointer (some ⟨N, 0, none⟩)] encS MemS (fun _ _ => False) Prod.snd (compl n size 0) (fun b => b = S ∨ b = N) w := by
  intro l J Jx C T W hW hJ hJx hneed hY h0
  obtain ⟨i0, hi, hz0, hz1, hz2⟩ := info_parts Tryz.infoInt
  have cS : W.cell? ⟨S, 0, none⟩ = some (.int .i64 size) := (hW.cell (p := ⟨S, 0, none⟩) (cell_lt hS)).trans hS
  have cN : W.cell? ⟨N, 0, none⟩ = some (.int .i64 n) := (hW.cell (p := ⟨N, 0, none⟩) (cell_lt hN)).trans hN
  have LS : S < W.heap.size := cell_lt cS
  have LN : N < W.heap.size := cell_lt cN
  have HY := Lib.hid hY
  have H0 := Lib.hid h0
  have HNEED := Lib.hid hneed
  have HSZ := Lib.hid hs
  obtain ⟨hs1, hs2⟩ := hs
  have CS := Lib.hid cS
  have CN := Lib.hid cN
  clear hY h0 hneed hS hN hW cN
  show Calls _ _ (#[.func (.yield l) #[] #[], .pointer (some ⟨S, 0, none⟩), .pointer (some ⟨N, 0, none⟩)]) _ _
  obtain ⟨V, hV⟩ : ∃ V, W.alloc (.cells #[.func (.yield l) #[] #[]] 75) = V := ⟨_, rfl⟩
  have HB0 : Hid (Below W.heap.size W V) := by rw [← hV]; exact (Below.refl _ _).alloc (Nat.le_refl _) _
  have cSV : V.cell? ⟨S, 0, none⟩ = some (.int .i64 size) := (HB0.out.cell (p := ⟨S, 0, none⟩) LS).trans cS
  have hVs : V.heap.size = W.heap.size + 1 := by rw [← hV]; exact World.size_alloc _ _
  have HCY : Hid (V.cell? ⟨W.heap.size, 0, none⟩ = some (.func (.yield l) #[] #[])) := by rw [← hV]; exact alloc_cell _ _ _ _ _ rfl
  go_enter Tryz.func152, Tryz.ntmps152
  have HVS := Lib.hid hVs
  clear cS hVs
  go_wp2_with (with_reducible refine wpList_make_full _ rfl (.tmp 6) (.tmp 6) 24 rfl V.heap.size 3 i0 (.int .i64 0) 1 Tryz.underlying24 hi hz0 hz1 .i64 .i64 (size : Int) (size : Int) size rfl rfl rfl rfl (by rw [hz2]; omega) (by unfold maxLen; omega) (Nat.le_refl _) ?_)
  rotate_left
  intro w4 hown hgrow
  have hb4 : Below V.heap.size V w4 := (Below.refl _ _).grown hgrow (Nat.le_refl _) (fun k e => by cases e)
  have hsz4 : V.heap.size ≤ w4.heap.size := hb4.size
  have HB4 : Hid (Below W.heap.size W w4) := HB0.out.trans (hb4.mono (by have := HVS.out; omega))
  have HSB : Hid (V.heap.size < w4.heap.size) := (OwnI.lt (xs := List.replicate size 0) (by
    have z := zeros_are size
    rw [Nat.mul_one] at z
    show w4.ownsRow V.heap.size _ _ _ _ _
    rw [List.length_replicate, ← z]; exact hown)).1
  have HO4 : Hid (OwnI w4 0 (.slice (some ⟨V.heap.size, 0, none⟩) size size) (List.replicate size 0)) := by
    have z := zeros_are size
    rw [Nat.mul_one] at z
    refine OwnI.mono (base := V.heap.size) ?_ (Nat.zero_le _)
    show w4.ownsRow _ _ _ _ _ _
    rw [List.length_replicate, ← z]; exact hown
  have HBV := Lib.hid hb4
  have HL := Lib.hid LS
  have HLN := Lib.hid LN
  clear hown hgrow hb4 cSV hsz4 LS LN
  obtain ⟨k1, k2⟩ := two_last w4 (.cells #[.slice (some ⟨V.heap.size, 0, none⟩) size size] 24) .nilFunc 125
  obtain ⟨q1, q2⟩ := sets_boxes (t := 24) (t' := 125) (u := .nilFunc) HVS.out HSB.out HB4.out HBV.out CS.out CN.out HCY.out HO4.out
  have Q1 := Lib.hid q1
  have Q2 := Lib.hid q2
  clear q1 q2
  obtain ⟨X0, hX0⟩ : ∃ X0, (w4.alloc (.cells #[.slice (some ⟨V.heap.size, 0, none⟩) size size] 24)).alloc (.cells #[.nilFunc] 125) = X0 := ⟨_, rfl⟩
  rw [hX0] at k1 k2 Q1 Q2
  go_wp2_with fail
  refine (callsIn_wide.1 (choose_in l S W.heap.size w4.heap.size N (w4.heap.size + 1) V.heap.size n size hn hs2 J Jx hJ (compl n size 0) HY.out size 0 0 [] [] C (fun b => T b ∨ W.heap.size ≤ b) (List.replicate size 0) _ (by omega) rfl (Nat.zero_le _) (hJ.keep H0.out (turned_below Q2.out) (fun b e => e)) Q1.out ⟨.inr (by have := HVS.out; omega), ?_⟩ rfl ⟨[], by simp⟩)).mono ?_
  · have hlt := fun b hb => (hJ.lt H0.out b hb).1
    have hW := HB4.out.size
    have hV := HVS.out
    rintro b (rfl | rfl | rfl | rfl | rfl | rfl) hb
    · exact HNEED.out _ (.inl rfl) hb
    · have := hlt _ hb; omega
    · have := hlt _ hb; omega
    · exact HNEED.out _ (.inr rfl) hb
    · have := hlt _ hb; omega
    · have := hlt _ hb; omega
  · rintro e W3 (⟨rfl, ys, C3, T3, xs3, hys, hj3, -⟩ | ⟨rfl, pre', C3, T3, hx3⟩)
    · have R1 := Lib.hid hj3
      have R2 := Lib.hid hys
      clear hj3 hys k1 k2
      go_wp2
      go_end0
      exact ⟨⟨_, rfl⟩, .inl ⟨ys, C3, T3, by have := R2.out; simpa using this, R1.out⟩⟩
    · have R1 := Lib.hid hx3
      clear hx3 k1 k2
      go_wp2
      go_end0
      exact ⟨⟨_, rfl⟩, .inr ⟨_, _, _, R1.out⟩⟩
end Go.Proofs.YtfnomiingelfaaaGreat
/- The marks that ranges over functions leave behind, and what is owed at the return. -/
namespace Go.Proofs.YtfnomiingelfaaaGreat
open Go.RowKit

def mark (D : Nat) : Deferred := { target := .collected D, args := #[] }
def Marks (B : Nat) (ms : List Nat) (W : World) : Prop := ms.Nodup ∧ ∀ D, D ∈ ms → B ≤ D ∧ W.heap[D]? = some (.deferred (some []))
theorem Marks.kept {B : Nat} {ms : List Nat} {W W' : World} (h : Marks B ms W) (k : ∀ D, D ∈ ms → W'.heap[D]? = W.heap[D]?) : Marks B ms W' := ⟨h.1, fun D hD => ⟨(h.2 D hD).1, (k D hD).trans (h.2 D hD).2⟩⟩
theorem Marks.lt {B : Nat} {ms : List Nat} {W : World} (h : Marks B ms W) {D : Nat} (hD : D ∈ ms) : D < W.heap.size := (Array.getElem?_eq_some_iff.1 (h.2 D hD).2).1
theorem leaves_marks {F : Fence} {n : Nat} {P : Program} {fn : Func} {tmps : Array Value} {R : Ending → World → Prop} {B : Nat} (p : World → Prop)
    (hp : ∀ W D, B ≤ D → W.heap[D]? = some (.deferred (some [])) → p W → p (W.putObj D (.deferred none))) (hR : ∀ W, p W → LeavesIn F n P fn tmps R [] .returning W) :
    ∀ (ms : List Nat) (W : World), Marks B ms W → p W → LeavesInM F n P fn tmps R (ms.map mark) .returning W := by
  intro ms
  induction ms with
  | nil => intro W _ h; exact hR W h
  | cons D ms ih =>
    intro W hM h
    have hD := hM.2 D (by simp)
    refine ⟨by simp, .inl ⟨D, W.putObj D (.deferred none), rfl, run_takeDeferred hD.2, ih _ ?_ (hp W D hD.1 hD.2 h)⟩⟩
    have hn := List.nodup_cons.1 hM.1
    exact ⟨hn.2, fun E hE => ⟨(hM.2 E (by simp [hE])).1, (World.putObj_heap_other (fun e => hn.1 (by rw [← e]; exact hE))).trans (hM.2 E (by simp [hE])).2⟩⟩
end Go.Proofs.YtfnomiingelfaaaGreat
/- circuits of layer 3: the contract of what it hands back. -/
namespace Go.Proofs.YtfnomiingelfaaaGreat
open Go.RowKit Go.Shelf
attribute [local go_sem] Oper.semAt_some

def circsTo (m : List (List Int)) (k : Nat) : List (List Int) := (List.range k).flatMap fun f => ((compl (colsM m) (f + 1) 0).filter (circB m)).map (circH m)
def rankM (m : List (List Int)) : Nat := (redN m (upTo (colsM m))).piv.length
def circsAll (m : List (List Int)) : List (List Int) := circsTo m (rankM m + 1)
theorem circsTo_succ (m : List (List Int)) (k : Nat) : circsTo m (k + 1) = circsTo m k ++ ((compl (colsM m) (k + 1) 0).filter (circB m)).map (circH m) := by
  unfold circsTo; rw [List.range_succ, List.flatMap_append]; simp
theorem circsTo_split (m : List (List Int)) (k n : Nat) (h : k ≤ n) : ∃ post, circsTo m n = circsTo m k ++ post := by
  obtain ⟨d, rfl⟩ : ∃ d, n = k + d := ⟨n - k, by omega⟩
  unfold circsTo
  rw [List.range_add, List.flatMap_append]
  exact ⟨_, rfl⟩
abbrev ownC (x : SetV) : Blk := fun b => b = x.1
structure CIn (w0 : World) (B Y l : Nat) (ma : Option Addr) (M mc : Nat) (ms : List Nat) (K : List SetV → Blk → Blk → World → Prop) (pre : List SetV) (C T : Blk) (W : World) : Prop where
  cl : ∃ T2, K pre C T2 W ∧ (∀ b, T b → T2 b) ∧ T2 Y ∧ ∀ D, D ∈ ms → T2 D
  nc : ∀ b, b < w0.heap.size ∨ b = B → ¬ C b
  nt : ∀ b, b < w0.heap.size ∨ b = B ∨ b = Y ∨ b ∈ ms → ¬ T b
  bw : Below w0.heap.size w0 W
  cB : W.cell? ⟨B, 0, none⟩ = some (.slice ma M mc)
  cY : W.cell? ⟨Y, 0, none⟩ = some (.func (.yield l) #[] #[])
  dm : ∀ D, D ∈ ms → W.heap[D]? = some (.deferred (some []))
theorem CIn.client {w0 : World} {B Y l : Nat} {ma : Option Addr} {M mc : Nat} {ms : List Nat} {K : List SetV → Blk → Blk → World → Prop} {β : Type} {q : List β → List SetV → Prop} (hK : Client K) : Client fun (s : List β) C T W => ∃ pre, q s pre ∧ CIn w0 B Y l ma M mc ms K pre C T W where
  lt := by
    rintro s C T W ⟨pre, _, h⟩ b hb
    obtain ⟨T2, hk, h1, _⟩ := h.cl
    exact ⟨(hK.lt hk b hb).1, fun e => (hK.lt hk b hb).2 (h1 b e)⟩
  keep := by
    rintro s C T T' W W' ⟨pre, hq, h⟩ ht hT
    obtain ⟨T2, hk, h1, h2, h3⟩ := h.cl
    have lB := cell_lt h.cB
    have lY := cell_lt h.cY
    have lD : ∀ D, D ∈ ms → D < W.heap.size := fun D hD => (Array.getElem?_eq_some_iff.1 (h.dm D hD)).1
    have hnt : ∀ b, b < w0.heap.size ∨ b = B ∨ b = Y ∨ b ∈ ms → ¬ T' b := by
      intro b hb e
      rcases hT b e with q | q
      · exact h.nt b hb q
      · have := h.bw.size
        rcases hb with hb | rfl | rfl | hb
        · omega
        · dsimp only at lB; omega
        · dsimp only at lY; omega
        · have := lD b hb; omega
    refine ⟨pre, hq, ⟨fun b => T2 b ∨ W.heap.size ≤ b, hK.keep hk (ht.mono fun b _ e => h1 b e) (fun b e => e), fun b e => (hT b e).elim (fun e => .inl (h1 b e)) .inr, .inl h2, fun D hD => .inl (h3 D hD)⟩, h.nc, hnt, h.bw.trans (ht.below h.bw.size fun b hb => h.nt b (.inl hb)), ht.cell h.cB (h.nt _ (by simp)), ht.cell h.cY (h.nt _ (by simp)), fun D hD => (ht.same D (lD D hD) (h.nt D (by simp [hD]))).trans (h.dm D hD)⟩
theorem cin_next {w0 V2 W5 W6 : World} {B Y l M mc bh : Nat} {ma : Option Addr} {ms : List Nat} {J K : List SetV → Blk → Blk → World → Prop} {pre' : List SetV} {h : List Int} {C3 T3 T2 : Blk} (hJ : Client J) (hI : CIn w0 B Y l ma M mc ms J pre' C3 T3 V2)
    (hk : J pre' C3 T2 V2) (h1 : ∀ b, T3 b → T2 b) (h2 : T2 Y) (h3 : ∀ D, D ∈ ms → T2 D) (hb5 : Below V2.heap.size V2 W5) (hbh : V2.heap.size ≤ bh) (hw : Went K ownC pre' (bh, h) C3 (fun b => T2 b ∨ V2.heap.size ≤ b) W5 W6) :
    ∃ C', CIn w0 B Y l ma M mc ms K (pre' ++ [(bh, h)]) C' (fun b => T3 b ∧ b < V2.heap.size) W6 ∧ (∀ b, C' b → C3 b ∨ V2.heap.size ≤ b) ∧ Turned C3 V2 W6 := by
  obtain ⟨C', T', hj6, hT', hC', ht'⟩ := hw
  have s5 := hb5.size
  have lB := cell_lt hI.cB
  have lY := cell_lt hI.cY
  dsimp only at lB lY
  have lD : ∀ D, D ∈ ms → D < V2.heap.size := fun D hD => (Array.getElem?_eq_some_iff.1 (hI.dm D hD)).1
  have lw := hI.bw.size
  have nC : ∀ b, T2 b → ¬ C3 b := fun b hb hc => (hJ.lt hk b hc).2 hb
  have no : ∀ b, b < V2.heap.size → ¬ C3 b → ¬ (C3 b ∨ ownC (bh, h) b) := fun b hb hn e => e.elim hn fun e => by have : b = bh := e; omega
  have t5 : Turned C3 V2 W5 := turned_below hb5
  have hc5 : ∀ {a : Addr} {v : Value}, a.block < V2.heap.size → V2.cell? a = some v → ¬ C3 a.block → W6.cell? a = some v := fun hl hc hn => ht'.cell ((hb5.cell hl).trans hc) (no _ hl hn)
  refine ⟨C', ⟨⟨T', hj6, fun b hb => hT' b (.inl (h1 b hb.1)) (by omega) (fun e => by have : b = bh := e; omega), hT' Y (.inl h2) (by omega) (fun e => by have : Y = bh := e; omega), fun D hD => hT' D (.inl (h3 D hD)) (by have := lD D hD; omega) (fun e => by have : D = bh := e; have := lD D hD; omega)⟩, ?_, fun b hb e => hI.nt b hb e.1, ?_, hc5 lB hI.cB (hI.nc B (.inr rfl)), hc5 lY hI.cY (nC Y h2), ?_⟩, ?_, ?_⟩
  · intro b hb e
    rcases hC' b e with q | q | q
    · exact hI.nc b hb q
    · have q : b = bh := q
      rcases hb with hb | hb <;> omega
    · rcases hb with hb | hb <;> omega
  · refine hI.bw.trans ((hb5.mono lw).trans (ht'.below (by omega) fun b hb => no b (by omega) (hI.nc b (.inl hb))))
  · intro D hD
    have := lD D hD
    exact (ht'.same D (by omega) (no D this (nC D (h3 D hD)))).trans ((hb5.block D this).trans (hI.dm D hD))
  · intro b hb
    rcases hC' b hb with q | q | q
    · exact .inl q
    · have q : b = bh := q
      exact .inr (by omega)
    · exact .inr (by omega)
  · exact t5.trans ht' fun b e => e.elim .inl fun e => .inr (by have : b = bh := e; omega)
theorem leaves_marks2 {F : Fence} {n : Nat} {P : Program} {fn : Func} {tmps : Array Value} {R : Ending → World → Prop} (p : World → Prop) (ms0 : List Nat)
    (hp : ∀ W D, D ∈ ms0 → p W → p (W.putObj D (.deferred none))) (hR : ∀ W, p W → LeavesIn F n P fn tmps R [] .returning W) :
    ∀ (ms : List Nat) (W : World), (∀ D, D ∈ ms → D ∈ ms0) → ms.Nodup → (∀ D, D ∈ ms → W.heap[D]? = some (.deferred (some []))) → p W → LeavesInM F n P fn tmps R (ms.map mark) .returning W := by
  intro ms
  induction ms with
  | nil => intro W _ _ _ h; exact hR W h
  | cons D ms ih =>
    intro W hs hn hd h
    have hn' := List.nodup_cons.1 hn
    refine ⟨by simp, .inl ⟨D, W.putObj D (.deferred none), rfl, run_takeDeferred (hd D (by simp)), ih _ (fun E hE => hs E (by simp [hE])) hn'.2 (fun E hE => ?_) (hp W D (hs D (by simp)) h)⟩⟩
    exact (World.putObj_heap_other (fun e => hn'.1 (by rw [← e]; exact hE))).trans (hd E (by simp [hE]))
theorem circ_leaves {fn : Func} {tmps : Array Value} {K J Jx : List SetV → Blk → Blk → World → Prop} {Z : List (List Int)} {pre : List SetV} {C T2 : Blk} {ms : List Nat} {V : World} (hf : fn.results = #[]) (hK : Client K) (hk : K pre C T2 V) (hT : ∀ D, D ∈ ms → T2 D) (hn : ms.Nodup) (hd : ∀ D, D ∈ ms → V.heap[D]? = some (.deferred (some [])))
    (hR : ∀ C T W, K pre C T W → (∃ xs C T, xs.map Prod.snd = Z ∧ J xs C T W) ∨ (∃ pre C T, Jx pre C T W)) :
    LeavesInM Fence.wide 50 Tryz.prog fn tmps (fun e W' => (∃ v, e = .returned v) ∧ ((∃ xs C T, xs.map Prod.snd = Z ∧ J xs C T W') ∨ (∃ pre C T, Jx pre C T W'))) (ms.map mark) .returning V := by
  refine leaves_marks2 (fun W => ∃ C T, K pre C T W ∧ ∀ D, D ∈ ms → T D) ms ?_ ?_ ms V (fun _ h => h) hn hd ⟨C, T2, hk, hT⟩
  · rintro W D hD ⟨C', T', h1, h2⟩
    exact ⟨C', T', hK.keep h1 (turned_put W _ (h2 D hD)) (fun b e => .inl e), h2⟩
  · rintro W ⟨C', T', h1, _⟩
    exact ⟨_, results_none hf _ _ _, ⟨_, rfl⟩, hR _ _ _ h1⟩
set_option maxRecDepth 100000 in
set_option maxHeartbeats 2000000 in
theorem circuits1_seq {ma : Option Addr} {m : List (List Int)} {mc B : Nat} {w0 w : World} (hv : validM m = true) (hms : Ms w0 ma m) (hw0 : Below w0.heap.size w0 w) (hB : w.cell? ⟨B, 0, none⟩ = some (.slice ma m.length mc)) :
    SeqM Tryz.prog 136 #[.pointer (some ⟨B, 0, none⟩)] encS MemS ownC Prod.snd (circsAll m) (fun b => b < w0.heap.size ∨ b = B) w := by
  intro l J Jx C T W hW hJ hJx hneed hY h0
  obtain ⟨hm1, hm6, hc1, hc10, hrows⟩ := validM_of hv
  have h64 : Hid (All64 m) := fun q hq x hx => by
    obtain ⟨c, hc, rfl⟩ := mem_gt.1 hx
    have := gt_in (hrows q hq).2 hc
    unfold In64; omega
  have HRL : Hid (∀ r ∈ m, r.length = colsM m) := fun r hr => (hrows r hr).1
  have HM6 := Lib.hid hm6
  have HM1 := Lib.hid hm1
  have HC : Hid (1 ≤ colsM m ∧ colsM m ≤ 10) := ⟨hc1, hc10⟩
  have HMS := Lib.hid hms
  have HV := Lib.hid hv
  have HY := Lib.hid hY
  have H0 := Lib.hid h0
  have HNEED := Lib.hid hneed
  have HW0 : Hid (Below w0.heap.size w0 W) := hw0.trans (hW.mono hw0.size)
  have cB : W.cell? ⟨B, 0, none⟩ = some (.slice ma m.length mc) := (hW.cell (p := ⟨B, 0, none⟩) (cell_lt hB)).trans hB
  clear hms hv hY h0 hneed hw0 hB hW hrows hc1 hc10 hm6
  obtain ⟨V, hV⟩ : ∃ V, W.alloc (.cells #[.func (.yield l) #[] #[]] 75) = V := ⟨_, rfl⟩
  have HB0 : Hid (Below W.heap.size W V) := by rw [← hV]; exact (Below.refl _ _).alloc (Nat.le_refl _) _
  have HVS : Hid (V.heap.size = W.heap.size + 1) := by rw [← hV]; exact World.size_alloc _ _
  have HCY : Hid (V.cell? ⟨W.heap.size, 0, none⟩ = some (.func (.yield l) #[] #[])) := by rw [← hV]; exact alloc_cell _ _ _ _ _ rfl
  have cBV : V.cell? ⟨B, 0, none⟩ = some (.slice ma m.length mc) := (HB0.out.cell (p := ⟨B, 0, none⟩) (cell_lt cB)).trans cB
  have HBV := Lib.hid cBV
  have HBW : Hid (Below w0.heap.size w0 V) := HW0.out.trans (HB0.out.mono HW0.out.size)
  have HLB : Hid (B < W.heap.size) := cell_lt cB
  clear cB
  show Calls _ _ (#[.func (.yield l) #[] #[], .pointer (some ⟨B, 0, none⟩)]) _ _
  refine (callsIn_wide (n := 50)).1 ?_
  refine callsIn_of_wp_marks Tryz.func136 rfl trivial ?_ rfl
  simp only [Tryz.ntmps136, List.size_toArray, List.length_cons, List.length_nil, Nat.reduceAdd, Nat.reduceSub, Array.replicate_succ, Array.replicate_zero, List.push_toArray, List.append_toArray, List.nil_append, List.cons_append]
  obtain ⟨rd, hrd⟩ : ∃ rd, redN m (upTo (colsM m)) = rd := ⟨_, rfl⟩
  obtain ⟨rk, hrk⟩ : ∃ rk, rd.piv.length = rk := ⟨_, rfl⟩
  have HRK : Hid (rankM m = rk) := by show _ = _; unfold rankM; rw [hrd, hrk]
  have hrk6 : rk ≤ 6 := by
    have h := (redN_fin HV.out (px := upTo (colsM m)) (fun j hj => upTo_in hj)).pl
    rw [hrd, hrk] at h; have := HM6.out; omega
  have HRD : Hid (Calls Tryz.prog 99 #[.slice ma m.length mc, .func (.func 91) #[] #[]] V (RdPost rd V)) := by
    rw [← hrd]; exact reduceAll_any HM6 HM1 HC HRL h64 (HMS.out.below HBW.out)
  have HRKD := Lib.hid hrk
  clear hrd hrk
  obtain ⟨rd, hrd⟩ : ∃ rd, redN m (upTo (colsM m)) = rd := ⟨_, rfl⟩
  obtain ⟨rk, hrk⟩ : ∃ rk, rd.piv.length = rk := ⟨_, rfl⟩
  have HRK : Hid (rankM m = rk) := by show _ = _; unfold rankM; rw [hrd, hrk]
  have hrk6 : rk ≤ 6 := by
    have h := (redN_fin HV.out (px := upTo (colsM m)) (fun j hj => upTo_in hj)).pl
    rw [hrd, hrk] at h; have := HM6.out; omega
  have HRD : Hid (Calls Tryz.prog 99 #[.slice ma m.length mc, .func (.func 91) #[] #[]] V (RdPost rd V)) := by
    rw [← hrd]; exact reduceAll_any HM6 HM1 HC HRL h64 (HMS.out.below HBW.out)
  have HRKD := Lib.hid hrk
  clear hrd hrk
  obtain ⟨rd, hrd⟩ : ∃ rd, redN m (upTo (colsM m)) = rd := ⟨_, rfl⟩
  obtain ⟨rk, hrk⟩ : ∃ rk, rd.piv.length = rk := ⟨_, rfl⟩
  have HRK : Hid (rankM m = rk) := by show _ = _; unfold rankM; rw [hrd, hrk]
  have hrk6 : rk ≤ 6 := by
    have h := (redN_fin HV.out (px := upTo (colsM m)) (fun j hj => upTo_in hj)).pl
    rw [hrd, hrk] at h; have := HM6.out; omega
  have HRD : Hid (Calls Tryz.prog 99 #[.slice ma m.length mc, .func (.func 91) #[] #[]] V (RdPost rd V)) := by
    rw [← hrd]; exact reduceAll_any HM6 HM1 HC HRL h64 (HMS.out.below HBW.out)
  have HRKD := Lib.hid hrk
  clear hrd hrk
  obtain ⟨rd, hrd⟩ : ∃ rd, redN m (upTo (colsM m)) = rd := ⟨_, rfl⟩
  obtain ⟨rk, hrk⟩ : ∃ rk, rd.piv.length = rk := ⟨_, rfl⟩
  have HRK : Hid (rankM m = rk) := by show _ = _; unfold rankM; rw [hrd, hrk]
  have hrk6 : rk ≤ 6 := by
    have h := (redN_fin HV.out (px := upTo (colsM m)) (fun j hj => upTo_in hj)).pl
    rw [hrd, hrk] at h; have := HM6.out; omega
  have HRD : Hid (Calls Tryz.prog 99 #[.slice ma m.length mc, .func (.func 91) #[] #[]] V (RdPost rd V)) := by
    rw [← hrd]; exact reduceAll_any HM6 HM1 HC HRL h64 (HMS.out.below HBW.out)
  have HRKD := Lib.hid hrk
  clear hrd hrk
  obtain ⟨rd, hrd⟩ : ∃ rd, redN m (upTo (colsM m)) = rd := ⟨_, rfl⟩
  obtain ⟨rk, hrk⟩ : ∃ rk, rd.piv.length = rk := ⟨_, rfl⟩
  have HRK : Hid (rankM m = rk) := by show _ = _; unfold rankM; rw [hrd, hrk]
  have hrk6 : rk ≤ 6 := by
    have h := (redN_fin HV.out (px := upTo (colsM m)) (fun j hj => upTo_in hj)).pl
    rw [hrd, hrk] at h; have := HM6.out; omega
  have HRD : Hid (Calls Tryz.prog 99 #[.slice ma m.length mc, .func (.func 91) #[] #[]] V (RdPost rd V)) := by
    rw [← hrd]; exact reduceAll_any HM6 HM1 HC HRL h64 (HMS.out.below HBW.out)
  have HRKD := Lib.hid hrk
  clear hrd hrk
  obtain ⟨rd, hrd⟩ : ∃ rd, redN m (upTo (colsM m)) = rd := ⟨_, rfl⟩
  obtain ⟨rk, hrk⟩ : ∃ rk, rd.piv.length = rk := ⟨_, rfl⟩
  have HRK : Hid (rankM m = rk) := by show _ = _; unfold rankM; rw [hrd, hrk]
  have hrk6 : rk ≤ 6 := by
    have h := (redN_fin HV.out (px := upTo (colsM m)) (fun j hj => upTo_in hj)).pl
    rw [hrd, hrk] at h; have := HM6.out; omega
  have HRD : Hid (Calls Tryz.prog 99 #[.slice ma m.length mc, .func (.func 91) #[] #[]] V (RdPost rd V)) := by
    rw [← hrd]; exact reduceAll_any HM6 HM1 HC HRL h64 (HMS.out.below HBW.out)
  have HRKD := Lib.hid hrk
  clear hrd hrk
  obtain ⟨rd, hrd⟩ : ∃ rd, redN m (upTo (colsM m)) = rd := ⟨_, rfl⟩
  obtain ⟨rk, hrk⟩ : ∃ rk, rd.piv.length = rk := ⟨_, rfl⟩
  have HRK : Hid (rankM m = rk) := by show _ = _; unfold rankM; rw [hrd, hrk]
  have hrk6 : rk ≤ 6 := by
    have h := (redN_fin HV.out (px := upTo (colsM m)) (fun j hj => upTo_in hj)).pl
    rw [hrd, hrk] at h; have := HM6.out; omega
  have HRD : Hid (Calls Tryz.prog 99 #[.slice ma m.length mc, .func (.func 91) #[] #[]] V (RdPost rd V)) := by
    rw [← hrd]; exact reduceAll_any HM6 HM1 HC HRL h64 (HMS.out.below HBW.out)
  have HRKD := Lib.hid hrk
  clear hrd hrk
  obtain ⟨rd, hrd⟩ : ∃ rd, redN m (upTo (colsM m)) = rd := ⟨_, rfl⟩
  obtain ⟨rk, hrk⟩ : ∃ rk, rd.piv.length = rk := ⟨_, rfl⟩
  have HRK : Hid (rankM m = rk) := by show _ = _; unfold rankM; rw [hrd, hrk]
  have hrk6 : rk ≤ 6 := by
    have h := (redN_fin HV.out (px := upTo (colsM m)) (fun j hj => upTo_in hj)).pl
    rw [hrd, hrk] at h; have := HM6.out; omega
  have HRD : Hid (Calls Tryz.prog 99 #[.slice ma m.length mc, .func (.func 91) #[] #[]] V (RdPost rd V)) := by
    rw [← hrd]; exact reduceAll_any HM6 HM1 HC HRL h64 (HMS.out.below HBW.out)
  have HRKD := Lib.hid hrk
  clear hrd hrk
  gi_wp2_with (first | (refine ⟨trivial, ?_⟩; gi_at_call 99; refine (callsIn_wide.2 HRD.out).mono ?_; rintro e w2 ⟨hb2, g, cap, ads, pa2, pc2, rfl, hgg, si, pi⟩; unfold rdV; have HB2 := Lib.hid hb2; clear hb2 si pi hgg) | (refine ⟨trivial, ?_⟩; gi_at_call 92; refine (callsIn_wide.2 (rank_any rd.cols g rd.rows.length cap pa2 rd.piv pc2 rd.dv _)).mono ?_; rintro e w3 ⟨rfl, hb3⟩; have HB3 := Lib.hid hb3; clear hb3; rw [HRKD.out]))
  have HV3 : Hid (Below V.heap.size V w3) := HB2.out.trans (HB3.out.mono HB2.out.size)
  have HW3 : Hid (Below W.heap.size W w3) := HB0.out.trans (HV3.out.mono (by have := HVS.out; omega))
  have HI0 : Hid (∃ pre C, CIn w0 B W.heap.size l ma m.length mc [] J pre C (fun _ => False) w3 ∧ pre.map Prod.snd = circsTo m 0) := by
    refine ⟨[], C, ⟨⟨fun b => T b ∨ W.heap.size ≤ b, hJ.keep H0.out (turned_below HW3.out) (fun b e => e), fun b e => e.elim, .inr (Nat.le_refl _), fun D hD => by cases hD⟩, HNEED.out, fun b _ e => e, HW0.out.trans (HW3.out.mono HW0.out.size), ?_, ?_, fun D hD => by cases hD⟩, rfl⟩
    · exact (HV3.out.cell (p := ⟨B, 0, none⟩) (by have := HLB.out; have := HVS.out; show B < _; omega)).trans HBV.out
    · exact (HV3.out.cell (p := ⟨W.heap.size, 0, none⟩) (by have := HVS.out; show W.heap.size < _; omega)).trans HCY.out
  clear hV cBV
  refine wpIn_loop (fun a' X => ∃ (k : Nat) (ms : List Nat) (u4 u5 u6 u7 u8 u9 u10 u11 u14 u15 u16 u17 u18 u19 u20 u21 u22 u23 u24 u25 u26 u27 u28 u29 u30 u31 u32 u33 u34 u35 u36 u37 : Value), a' = { tmps := #[.func (.yield l) #[] #[], .pointer (some ⟨B, 0, none⟩), .pointer (some ⟨W.heap.size, 0, none⟩), .int .i64 (rk : Int), u4, u5, u6, u7, u8, u9, u10, u11, .int .i64 ((rk : Int) + 1), .int .i64 (k : Int), u14, u15, u16, u17, u18, u19, u20, u21, u22, u23, u24, u25, u26, u27, u28, u29, u30, u31, u32, u33, u34, u35, u36, u37], defers := ms.map mark } ∧ k ≤ rk + 1 ∧ ms.Nodup ∧ ∃ pre C, CIn w0 B W.heap.size l ma m.length mc ms J pre C (fun _ => False) X ∧ pre.map Prod.snd = circsTo m k)
    (fun a' _ => 8 - (intOf (a'.tmps.getD 13 undef)).toNat) ?start ?round
  case start =>
    exact ⟨0, [], _, _, _, _, _, _, _, _, _, _, _, _, _, _, _, _, _, _, _, _, _, _, _, _, _, _, _, _, _, _, _, _, rfl, Nat.zero_le _, List.nodup_nil, HI0.out⟩
  case round =>
    rintro a' X ⟨k, ms, u4, u5, u6, u7, u8, u9, u10, u11, u14, u15, u16, u17, u18, u19, u20, u21, u22, u23, u24, u25, u26, u27, u28, u29, u30, u31, u32, u33, u34, u35, u36, u37, rfl, hk, hnd, pre, C1, hI, hpre⟩
    have HI := Lib.hid hI
    have HPRE := Lib.hid hpre
    have HND := Lib.hid hnd
    clear HI0 hpre hnd
    by_cases hlt : k < rk + 1
    · obtain ⟨n, hn⟩ : ∃ n, colsM m = n := ⟨_, rfl⟩
      have HN := Lib.hid hn
      have hn1 : 1 ≤ n := by rw [← hn]; exact HC.out.1
      have hn10 : n ≤ 10 := by rw [← hn]; exact HC.out.2
      obtain ⟨b1, o1, ai, rr, ci, rfl, hcell, hsl, HR⟩ := HMS.out.at (show 0 < m.length from HM1.out)
      have hrn : rr.length = n := by rw [← hn]; exact HRL.out rr (List.mem_of_getElem? HR.out)
      rw [hrn] at hcell
      have hcX : X.cell? ⟨b1, o1, none⟩ = some (.slice ai n ci) := (hI.bw.cell (p := ⟨b1, o1, none⟩) (cell_lt hcell)).trans hcell
      have hcB := hI.cB
      clear hrn hsl hcell hn hI
      gi_wp2_with (refine ⟨trivial, ?_⟩; gi_at_call 137; refine (callsIn_wide.2 (sets_any (n : Int) ((k : Int) + 1) X)).mono ?_; rintro e w4 ⟨rfl, rfl⟩)
      obtain ⟨V1, hV1⟩ : ∃ V1, (X.alloc (.cells #[.int .i64 (n : Int)] 3)).alloc (.cells #[.int .i64 ((k : Int) + 1)] 3) = V1 := ⟨_, rfl⟩
      have hv1 : V1.heap.size = X.heap.size + 2 := by rw [← hV1, World.size_alloc, World.size_alloc]
      have hcN : V1.cell? ⟨X.heap.size, 0, none⟩ = some (.int .i64 n) := by rw [← hV1]; exact (alloc_old _ _ _ _ (alloc_lt' rfl)).trans (alloc_cell _ _ _ _ _ rfl)
      have hcS : V1.cell? ⟨X.heap.size + 1, 0, none⟩ = some (.int .i64 ((k + 1 : Nat) : Int)) := by rw [← hV1]; exact (two_last _ _ _ _).1
      have hbX : Below X.heap.size X V1 := by rw [← hV1]; exact ((Below.refl _ _).alloc (Nat.le_refl _) _).alloc (by rw [World.size_alloc]; omega) _
      rw [hV1]
      have hC1 : ∀ b, C1 b → b < X.heap.size := by
        obtain ⟨T2, hk2, _⟩ := HI.out.cl
        exact fun b hb => (hJ.lt hk2 b hb).1
      have hI1 : ∃ pre', (pre'.map Prod.snd = circsTo m k ++ ((([] : List SetV).map Prod.snd).filter (circB m)).map (circH m)) ∧ CIn w0 B W.heap.size l (some ⟨b1, o1, none⟩) m.length mc ms J pre' C1 (fun _ => False) V1 :=
        (CIn.client hJ (q := fun (s : List SetV) pre' => pre'.map Prod.snd = circsTo m k ++ ((s.map Prod.snd).filter (circB m)).map (circH m))).keep ⟨pre, by rw [HPRE.out]; simp, HI.out⟩ (turned_below hbX) (fun b e => e.elim)
      have HI1 := Lib.hid hI1
      have HXV := Lib.hid hbX
      have HV1 := Lib.hid hv1
      have HC1 := Lib.hid hC1
      have HK := Lib.hid hlt
      clear hI1 hbX hV1 hcB hcX hC1
      refine wpIn_rangeFunc_M (by omega) (gf := 152) (lb := #[.pointer (some ⟨X.heap.size + 1, 0, none⟩), .pointer (some ⟨X.heap.size, 0, none⟩)]) rfl (enters_of Tryz.func152 (by kernel_rfl) rfl)
        (sets1_seq n (k + 1) (X.heap.size + 1) X.heap.size (by omega) (by omega) V1 hcS hcN) (Below.refl _ _) (fun _ => rfl) memS_put
        (fun s C T W' => ∃ pre', (pre'.map Prod.snd = circsTo m k ++ ((s.map Prod.snd).filter (circB m)).map (circH m)) ∧ CIn w0 B W.heap.size l (some ⟨b1, o1, none⟩) m.length mc ms J pre' C T W')
        (fun c s C T W' => ∃ pre' : List SetV, c = .ret ∧ CIn w0 B W.heap.size l (some ⟨b1, o1, none⟩) m.length mc ms Jx pre' C T W')
        (CIn.client hJ) (fun c => CIn.client hJx (q := fun _ _ => c = .ret)) C1 (fun _ => False) ?need (fun _ e => e.elim) HI1.out
        (fun x => { tmps := #[.func (.yield l) #[] #[], .pointer (some ⟨B, 0, none⟩), .pointer (some ⟨W.heap.size, 0, none⟩), .int .i64 (rk : Int), .int .i64 (k : Int), .slice (some ⟨x.1, 0, none⟩) x.2.length x.2.length, u6, u7, u8, u9, u10, u11, .int .i64 ((rk : Int) + 1), .int .i64 (k : Int), .bool true, .int .i64 (k : Int), .slice (some ⟨b1, o1, none⟩) m.length mc, .pointer (some ⟨b1, o1, none⟩), .slice ai n ci, .int .i64 (n : Int), .int .i64 (k : Int), .int .i64 ((k : Int) + 1), .func (.func 152) #[] #[.pointer (some ⟨X.heap.size + 1, 0, none⟩), .pointer (some ⟨X.heap.size, 0, none⟩)], .slice (some ⟨x.1, 0, none⟩) x.2.length x.2.length, u24, u25, u26, u27, u28, u29, u30, u31, u32, u33, u34, u35, u36, u37], defers := [] }) ?assign ?body ?done ?stop
      case need =>
        have h1 := HV1.out
        rintro b (rfl | rfl)
        · exact ⟨fun e => by have := HC1.out _ e; omega, by omega⟩
        · exact ⟨fun e => by have := HC1.out _ e; omega, by omega⟩
      case assign =>
        intro l2 x V K hK
        gi_wp2
        exact hK
      case stop =>
        rintro D c pre2 C3 T3 V2 hD ⟨pre', rfl, hI'⟩ hTD hK2
        obtain ⟨T2, q1, q2, q3, q4⟩ := hI'.cl
        have X1 := Lib.hid q1; have X4 := Lib.hid q4
        have XT := Lib.hid (q2 D hTD)
        have XD := Lib.hid hK2
        have XM := Lib.hid hI'.dm
        have hlD : ∀ E, E ∈ ms → E < X.heap.size := fun E hE => (Array.getElem?_eq_some_iff.1 (HI.out.dm E hE)).1
        have XN : Hid ((D :: ms).Nodup) := List.nodup_cons.2 ⟨fun hm => by have := hlD D hm; have := HV1.out; omega, HND.out⟩
        clear q1 q2 q3 q4 hI' hK2 hTD hD hcS hcN hv1 hlD
        gi_wp2
        refine circ_leaves (ms := D :: ms) rfl hJx X1.out ?_ XN.out ?_ (fun C T W h => .inr ⟨_, _, _, h⟩)
        · intro E hE
          rcases List.mem_cons.1 hE with rfl | hE
          · exact XT.out
          · exact X4.out E hE
        · intro E hE
          rcases List.mem_cons.1 hE with rfl | hE
          · exact XD.out
          · exact XM.out E hE
      case done =>
        rintro D ys C3 T3 V2 hD hys ⟨pre', hpre', hI'⟩ hTD hK2
        have hlD : ∀ E, E ∈ ms → E < X.heap.size := fun E hE => (Array.getElem?_eq_some_iff.1 (HI.out.dm E hE)).1
        have XN : Hid ((D :: ms).Nodup) := List.nodup_cons.2 ⟨fun hm => by have := hlD D hm; have := HV1.out; omega, HND.out⟩
        have XP : Hid (pre'.map Prod.snd = circsTo m (k + 1)) := by show _ = _; rw [hpre', hys, circsTo_succ, HN.out]
        have XI : Hid (CIn w0 B W.heap.size l (some ⟨b1, o1, none⟩) m.length mc (D :: ms) J pre' C3 (fun _ => False) V2) := by
          obtain ⟨T2, q1, q2, q3, q4⟩ := hI'.cl
          refine ⟨⟨T2, q1, fun b e => e.elim, q3, fun E hE => ?_⟩, hI'.nc, fun b _ e => e, hI'.bw, hI'.cB, hI'.cY, fun E hE => ?_⟩
          · rcases List.mem_cons.1 hE with rfl | hE
            · exact q2 _ hTD
            · exact q4 E hE
          · rcases List.mem_cons.1 hE with rfl | hE
            · exact hK2
            · exact hI'.dm E hE
        clear hys hpre' hI' hTD hK2 hcS hcN hv1 hlD hD
        gi_wp2
        refine ⟨?_, ?_⟩
        · refine ⟨k + 1, D :: ms, ?_⟩
          (repeat apply Exists.intro)
          refine ⟨?_, by have := HK.out; omega, XN.out, pre', C3, XI.out, XP.out⟩
          simp only [List.map_cons, mark]
          congr 1
        · have := HK.out; simp [intOf]; omega
      case body =>
        rintro l2 pre2 ⟨xb, xs⟩ C3 T3 V2 ⟨pre', hpre', hI'⟩ hmem hown ⟨rest, hrest⟩
        dsimp only at hmem hrest
        have hin : xs ∈ compl n (k + 1) 0 := by rw [hrest]; simp
        obtain ⟨hxl, hxr⟩ := compl_mem hin
        have XPX : Hid (1 ≤ xs.length ∧ xs.length ≤ 10) := by show _ ∧ _; rw [hxl]; have := HK.out; omega
        have XIN : Hid (pxOk m xs) := fun j hj => by have := hxr j hj; rw [HN.out]; omega
        have XSL := Lib.hid (OwnI.sl hmem)
        have XI := Lib.hid hI'
        have XMS : Hid (Ms V2 (some ⟨b1, o1, none⟩) m) := HMS.out.below hI'.bw
        have XP := Lib.hid hpre'
        have XR := Lib.hid hrest
        have hcB2 := hI'.cB
        have HCO : Hid (Calls Tryz.prog 138 #[.slice (some ⟨b1, o1, none⟩) m.length mc, .slice (some ⟨xb, 0, none⟩) xs.length xs.length] V2 (CPost m xs V2)) := circuitOn_any HV.out XPX.out XIN.out XMS.out XSL.out
        have HNN := Lib.hid HN.out
        clear hmem hrest hin hxl hxr hI' hpre' hown hcS hcN hv1
        dsimp only
        by_cases hcb : circB m xs = true
        case neg =>
          have hcb' : circB m xs = false := by simpa using hcb
          have HCB := Lib.hid hcb'
          clear hcb hcb'
          gi_wp2_with (refine ⟨trivial, ?_⟩; gi_at_call 138; refine (callsIn_wide.2 HCO.out).mono ?_; rintro e W5 ⟨hb5, (⟨-, rfl⟩ | ⟨ht, -⟩)⟩; rotate_left 1; exact absurd ht (by rw [HCB.out]; simp); have HB5 := Lib.hid hb5; clear hb5)
          obtain ⟨q1, q2, q3⟩ := (CIn.client hJ (q := fun (s : List SetV) pre' => pre'.map Prod.snd = circsTo m k ++ ((s.map Prod.snd).filter (circB m)).map (circH m))).keep (pre := pre2) ⟨pre', XP.out, XI.out⟩ (turned_below HB5.out) (fun b e => .inl e)
          have Q1 := Lib.hid q2; have Q3 := Lib.hid q3
          clear q2 q3
          refine ⟨fun _ h => (by cases h), ?_⟩
          gi_wp2
          refine ⟨C3, T3, ⟨q1, ?_, Q3.out⟩, fun b hb _ _ => hb, fun b hb => .inl hb, turned_below HB5.out⟩
          rw [Q1.out, List.map_append, List.filter_append]
          simp [HCB.out]
        case pos =>
          have HCB := Lib.hid hcb
          have HHL : Hid ((circH m xs).length = n) := by show _ = _; rw [← HN.out]; exact putTo_len _ _ _ _
          obtain ⟨T2, q1, q2, q3, q4⟩ := XI.out.cl
          have XPR : Hid (∃ rest2, circsAll m = pre'.map Prod.snd ++ circH m xs :: rest2) := by
            obtain ⟨post, hpost⟩ := circsTo_split m (k + 1) (rk + 1) (by have := HK.out; omega)
            refine ⟨((rest).filter (circB m)).map (circH m) ++ post, ?_⟩
            unfold circsAll
            rw [HRK.out, hpost, circsTo_succ, HN.out, XR.out, XP.out, List.filter_append, List.filter_cons_of_pos HCB.out]
            simp
          have Q1 := Lib.hid q1; have Q2 := Lib.hid q2; have Q3 := Lib.hid q3; have Q4 := Lib.hid q4
          clear hcb q1 q2 q3 q4
          gi_wp2_with (refine ⟨trivial, ?_⟩; gi_at_call 138; refine (callsIn_wide.2 HCO.out).mono ?_; rintro e W5 ⟨hb5, (⟨hff, rfl⟩ | ⟨-, bh, rfl, ho5⟩)⟩; exact absurd HCB.out (by rw [hff]; simp); rw [HN.out] at ho5 ⊢; have hY2 := HY.out pre' (bh, circH m xs) C3 (fun b => T2 b ∨ V2.heap.size ≤ b) W5 (hJ.keep Q1.out (turned_below hb5) (fun b e => e)) (by show OwnI _ _ _ _; dsimp only; rw [HHL.out]; exact ho5.mono (Nat.zero_le _)) (fun b e => by have e : b = bh := e; subst e; exact .inr (OwnI.lt ho5).2) XPR.out 47; obtain ⟨fn, tmps, assign, body, hy1, hR⟩ := hY2; dsimp only [encS] at hy1; rw [HHL.out] at hy1; have HBH := Lib.hid (OwnI.lt ho5).2; have HB5 := Lib.hid hb5; have hcY5 := (hb5.cell (p := ⟨W.heap.size, 0, none⟩) (cell_lt XI.out.cY)).trans XI.out.cY; clear hb5 ho5)
          refine hR.mono ?_
          rintro e W6 (⟨rfl, hw⟩ | ⟨rfl, hw⟩)
          · obtain ⟨C', r1, r2, r3⟩ := cin_next hJ XI.out Q1.out Q2.out Q3.out Q4.out HB5.out HBH.out hw
            have R1 := Lib.hid r1; have R2 := Lib.hid r2; have R3 := Lib.hid r3
            clear r1 r2 r3 hw hR hy1 hcY5 hcB2
            gi_wp2
            refine ⟨C', fun b => T3 b ∧ b < V2.heap.size, ⟨_, ?_, R1.out⟩, fun b hb hl _ => ⟨hb, hl⟩, fun b hb => (R2.out b hb).elim .inl (fun q => .inr (.inr q)), R3.out.mono fun b _ e => .inl e⟩
            rw [List.map_append, XP.out, List.map_append, List.filter_append]
            simp [HCB.out]
          · obtain ⟨C', r1, r2, r3⟩ := cin_next hJ XI.out Q1.out Q2.out Q3.out Q4.out HB5.out HBH.out hw
            have R1 := Lib.hid r1; have R2 := Lib.hid r2; have R3 := Lib.hid r3
            clear r1 r2 r3 hw hR hy1 hcY5 hcB2
            gi_wp2
            exact ⟨C', fun b => T3 b ∧ b < V2.heap.size, ⟨_, rfl, R1.out⟩, fun b hb hl _ => ⟨hb, hl⟩, fun b hb => (R2.out b hb).elim .inl (fun q => .inr (.inr q)), R3.out.mono fun b _ e => .inl e⟩
    · obtain ⟨T2, q1, q2, q3, q4⟩ := hI.cl
      obtain rfl : k = rk + 1 := by omega
      have X1 := Lib.hid q1; have X4 := Lib.hid q4
      have XM := Lib.hid hI.dm
      clear q1 q2 q3 q4 hI
      gi_wp2
      refine circ_leaves (ms := ms) rfl hJ X1.out X4.out HND.out XM.out (fun C T W h => .inl ⟨_, _, _, ?_, h⟩)
      rw [HPRE.out]; unfold circsAll; rw [HRK.out]
end Go.Proofs.YtfnomiingelfaaaGreat
/- Circuit and Spark of layer 3: contracts. -/
namespace Go.Proofs.YtfnomiingelfaaaGreat
open Go.RowKit Go.Shelf
attribute [local go_sem] Oper.semAt_some

theorem mok_of {m : List (List Int)} (hv : validM m = true) : MOk m := by
  obtain ⟨hm1, hm6, hc1, hc10, hrows⟩ := validM_of hv
  refine ⟨by omega, fun r hr => ⟨by have := (hrows r hr).1; omega, fun x hx => ?_⟩⟩
  obtain ⟨c, hc, rfl⟩ := mem_gt.1 hx
  have := gt_in (hrows r hr).2 hc
  unfold I64; omega
theorem circuits_any (a : Option Addr) (M cap : Nat) (w : World) :
    Calls Tryz.prog 102 #[.slice a M cap] w fun e w' =>
      e = .returned (.func (.func 136) #[] #[.pointer (some ⟨w.heap.size, 0, none⟩)]) ∧ w' = w.alloc (.cells #[.slice a M cap] 23) := by
  go_enter Tryz.func102, Tryz.ntmps102
  go_wp2
  go_ret
  exact ⟨rfl, rfl⟩
def circuitV (m : List (List Int)) : List Int × Int := if validM m = true then (match circsAll m with | [] => ([], 8) | h :: _ => (h, 0)) else ([], 1)
structure CirI (w : World) (v : Value) (n : Int) (pre : List SetV) (C T : Blk) (W : World) : Prop where
  r : W.cell? ⟨w.heap.size, 0, none⟩ = some v
  e : W.cell? ⟨w.heap.size + 1, 0, none⟩ = some (.int .i64 n)
  fr : W.frozen? ⟨w.heap.size, 0, none⟩ = false
  fe : W.frozen? ⟨w.heap.size + 1, 0, none⟩ = false
  bw : Below w.heap.size w W
  nt : ∀ b, b < w.heap.size + 2 → ¬ T b
  cc : ∀ b, C b ↔ b = w.heap.size ∨ b = w.heap.size + 1 ∨ ∃ x ∈ pre, b = x.1
  mem : ∀ x ∈ pre, MemS x W ∧ ¬ T x.1 ∧ w.heap.size + 2 ≤ x.1
theorem memS_turned {x : SetV} {T : Blk} {W W' : World} (h : MemS x W) (ht : Turned T W W') (hn : ¬ T x.1) : MemS x W' := OwnI.sameBlock h (ht.same _ (OwnI.lt h).1 hn)
theorem CirI.keep {w : World} {v : Value} {n : Int} {pre : List SetV} {C T T' : Blk} {W W' : World} (h : CirI w v n pre C T W) (ht : Turned T W W') (hT : ∀ b, T' b → T b ∨ W.heap.size ≤ b) : CirI w v n pre C T' W' := by
  have l0 := cell_lt h.r
  have l1 := cell_lt h.e
  dsimp only at l0 l1
  have hnt : ∀ b, b < w.heap.size + 2 → ¬ T' b := fun b hb e => (hT b e).elim (h.nt b hb) (by omega)
  refine ⟨ht.cell h.r (h.nt _ (by show w.heap.size < _; omega)), ht.cell h.e (h.nt _ (by show w.heap.size + 1 < _; omega)), (ht.frozen l0 (h.nt _ (by show w.heap.size < _; omega))).trans h.fr, (ht.frozen l1 (h.nt _ (by show w.heap.size + 1 < _; omega))).trans h.fe, h.bw.trans (ht.below h.bw.size fun b hb => h.nt b (by omega)), hnt, h.cc, fun x hx => ?_⟩
  obtain ⟨m1, m2, m3⟩ := h.mem x hx
  exact ⟨memS_turned m1 ht m2, fun e => (hT _ e).elim m2 (by have := (OwnI.lt m1).1; omega), m3⟩
theorem CirI.client {w : World} {p : List SetV → Value → Prop} {n : Int} : Client fun pre C T W => ∃ v, p pre v ∧ CirI w v n pre C T W where
  lt := by
    rintro pre C T W ⟨v, _, h⟩ b hb
    rcases (h.cc b).1 hb with rfl | rfl | ⟨x, hx, rfl⟩
    · exact ⟨cell_lt h.r, h.nt _ (by omega)⟩
    · exact ⟨cell_lt h.e, h.nt _ (by omega)⟩
    · exact ⟨(OwnI.lt (h.mem x hx).1).1, (h.mem x hx).2.1⟩
  keep := fun ⟨v, hp, h⟩ ht hT => ⟨v, hp, h.keep ht hT⟩
theorem CirI.over {w : World} {v : Value} {n : Int} {C T : Blk} {W : World} (h : CirI w v n [] C T W) (pre : List SetV) (hp : ∀ x ∈ pre, MemS x W ∧ T x.1) (v' : Value) (n' : Int) :
    CirI w v' n' pre (fun b => C b ∨ ∃ x ∈ pre, b = x.1) (fun b => T b ∧ ∀ x ∈ pre, b ≠ x.1) ((W.setCell ⟨w.heap.size, 0, none⟩ v').setCell ⟨w.heap.size + 1, 0, none⟩ (.int .i64 n')) := by
  obtain ⟨c0, c1, f0, f1, bw, nt, cc, -⟩ := h
  have hge : ∀ x ∈ pre, w.heap.size + 2 ≤ x.1 := fun x hx => Nat.le_of_not_lt fun e => nt x.1 e (hp x hx).2
  refine ⟨?_, ?_, ?_, ?_, ?_, fun b hb e => nt b hb e.1, fun b => ?_, fun x hx => ⟨?_, fun e => e.2 x hx rfl, hge x hx⟩⟩
  · exact (cell_other _ _ _ _ (by show w.heap.size ≠ w.heap.size + 1; omega)).trans (World.cell?_setCell_same _ _ _ c0)
  · exact World.cell?_setCell_same _ _ _ ((cell_other _ _ _ _ (by show w.heap.size + 1 ≠ w.heap.size; omega)).trans c1)
  · simpa using f0
  · simpa using f1
  · exact (bw.setCell (p := ⟨w.heap.size, 0, none⟩) (Nat.le_refl _) _).setCell (p := ⟨w.heap.size + 1, 0, none⟩) (Nat.le_succ _) _
  · constructor
    · rintro (e | e)
      · rcases (cc b).1 e with e | e | ⟨x, hx, _⟩
        · exact .inl e
        · exact .inr (.inl e)
        · cases hx
      · exact .inr (.inr e)
    · rintro (e | e | e)
      · exact .inl ((cc b).2 (.inl e))
      · exact .inl ((cc b).2 (.inr (.inl e)))
      · exact .inr e
  · have := hge x hx
    refine OwnI.sameBlock (hp x hx).1 ?_
    exact (Below.heap_setCell _ _ _ _ (by show x.1 ≠ w.heap.size + 1; omega)).trans (Below.heap_setCell _ _ _ _ (by show x.1 ≠ w.heap.size; omega))
theorem cir_leaves {fn : Func} {tmps : Array Value} {w : World} {v : Value} {n : Int} {pre : List SetV} {C T : Blk} {ms : List Nat} {V : World} {R : Ending → World → Prop}
    (hres : ∀ W : World, W.cell? ⟨w.heap.size, 0, none⟩ = some v → W.cell? ⟨w.heap.size + 1, 0, none⟩ = some (.int .i64 n) → (results fn tmps).run Tryz.prog W = .ok (.tuple #[v, .int .i64 n]) W)
    (h : CirI w v n pre C T V) (hT : ∀ D, D ∈ ms → T D) (hn : ms.Nodup) (hd : ∀ D, D ∈ ms → V.heap[D]? = some (.deferred (some []))) (hR : ∀ W, CirI w v n pre C T W → R (.returned (.tuple #[v, .int .i64 n])) W) :
    LeavesInM Fence.wide 50 Tryz.prog fn tmps R (ms.map mark) .returning V := by
  refine leaves_marks2 (fun W => CirI w v n pre C T W) ms ?_ ?_ ms V (fun _ h => h) hn hd h
  · exact fun W D hD hW => hW.keep (turned_put W _ (hT D hD)) fun b e => .inl e
  · exact fun W hW => ⟨_, hres W hW.r hW.e, hR W hW⟩
set_option maxRecDepth 100000 in
set_option maxHeartbeats 2000000 in
theorem circuit_in (a : Option Addr) (m : List (List Int)) (cap : Nat) (w : World) (hm : MOk m) (hs : Ms w a m) :
    CallsIn Fence.wide 50 Tryz.prog 71 #[.slice a m.length cap] w (LPost (circuitV m) w) := by
  have HM := Lib.hid hm; clear hm
  have HS := Lib.hid hs; clear hs
  obtain ⟨V0, hV0⟩ : ∃ V0, (w.alloc (.cells #[.slice none 0 0] 24)).alloc (.cells #[.int .i64 0] 31) = V0 := ⟨_, rfl⟩
  have hw1 : (w.alloc (.cells #[.slice none 0 0] 24)).heap.size = w.heap.size + 1 := World.size_alloc _ _
  have hB0 : Below w.heap.size w V0 := by rw [← hV0]; exact ((Below.refl _ _).alloc (Nat.le_refl _) _).alloc (by omega) _
  have hsz0 : V0.heap.size = w.heap.size + 2 := by rw [← hV0, World.size_alloc, hw1]
  have c0 : V0.cell? ⟨w.heap.size, 0, none⟩ = some (.slice none 0 0) := by rw [← hV0]; exact (alloc_old _ _ _ _ (by omega)).trans (alloc_cell _ _ _ _ _ rfl)
  have c1 : V0.cell? ⟨w.heap.size + 1, 0, none⟩ = some (.int .i64 0) := by rw [← hV0, ← hw1]; exact alloc_cell _ _ _ _ _ rfl
  have f0 : V0.frozen? ⟨w.heap.size, 0, none⟩ = false := by rw [← hV0]; simp
  have f1 : V0.frozen? ⟨w.heap.size + 1, 0, none⟩ = false := by rw [← hV0]; simp
  have HV : Hid (Calls Tryz.prog 45 #[.slice a m.length cap] V0 fun e w' => e = .returned (.bool (validM m)) ∧ Below V0.heap.size V0 w') := mvalid_any a m cap V0 HM.out (HS.out.below hB0)
  have HI0 : Hid (CirI w (.slice none 0 0) 0 [] (fun b => b = w.heap.size ∨ b = w.heap.size + 1) (fun _ => False) V0) := ⟨c0, c1, f0, f1, hB0, fun _ _ e => e, fun b => by simp, fun x hx => by cases hx⟩
  have HSZ := Lib.hid hsz0
  clear c0 c1 f0 f1 hB0 hsz0 hw1
  cases hv : validM m
  case false =>
    rw [hv] at HV
    have HC : Hid (circuitV m = ([], 1)) := by show circuitV m = _; simp [circuitV, hv]
    clear hv
    refine callsIn_of_wp_marks Tryz.func71 rfl trivial ?_ rfl
    simp only [Tryz.ntmps71, List.size_toArray, List.length_cons, List.length_nil, Nat.reduceAdd, Nat.reduceSub, Array.replicate_succ, Array.replicate_zero, List.push_toArray, List.append_toArray, List.nil_append, List.cons_append]
    gi_wp2_with (refine ⟨trivial, ?_⟩; gi_at_call 45; refine (callsIn_wide.2 HV.out).mono ?_; rintro e w1 ⟨rfl, hb⟩; have hI1 := HI0.out.keep (turned_below hb) (fun b e => .inl e); have HI1 := Lib.hid hI1; obtain ⟨c0, c1, f0, f1, -⟩ := hI1; clear hb)
    rw [HC.out]
    exact cir_leaves (ms := []) (v := .slice none 0 0) (n := 1) (by intro W q0 q1; simp [results, Tryz.results71, go_sem, q0, q1]) (HI1.out.over [] (fun x hx => by cases hx) _ 1) (fun _ h => by cases h) List.nodup_nil (fun _ h => by cases h) (fun W h => ⟨h.bw, none, 0, rfl, Sl.none _⟩)
  case true =>
    rw [hv] at HV
    have HVV := Lib.hid hv
    have hn1 : 1 ≤ m.length := (validM_of hv).1
    clear hv
    refine callsIn_of_wp_marks Tryz.func71 rfl trivial ?_ rfl
    simp only [Tryz.ntmps71, List.size_toArray, List.length_cons, List.length_nil, Nat.reduceAdd, Nat.reduceSub, Array.replicate_succ, Array.replicate_zero, List.push_toArray, List.append_toArray, List.nil_append, List.cons_append]
    gi_wp2_with (first | (refine ⟨trivial, ?_⟩; gi_at_call 45; refine (callsIn_wide.2 HV.out).mono ?_; rintro e w1 ⟨rfl, hb⟩; have HI1 := Lib.hid (HI0.out.keep (turned_below hb) (fun b e => .inl e)); have HZ1 : Hid (w.heap.size + 2 ≤ w1.heap.size) := (by have := hb.size; have := HSZ.out; show _ ≤ _; omega); clear hb) | (refine ⟨trivial, ?_⟩; gi_at_call 102; refine (callsIn_wide.2 (circuits_any a m.length cap w1)).mono ?_; rintro e w2 ⟨rfl, rfl⟩))
    obtain ⟨V1, hV1⟩ : ∃ V1, w1.alloc (.cells #[.slice a m.length cap] 23) = V1 := ⟨_, rfl⟩
    have hBV : Below w1.heap.size w1 V1 := by rw [← hV1]; exact (Below.refl _ _).alloc (Nat.le_refl _) _
    have hcB : V1.cell? ⟨w1.heap.size, 0, none⟩ = some (.slice a m.length cap) := by rw [← hV1]; exact alloc_cell _ _ _ _ _ rfl
    have hvs : V1.heap.size = w1.heap.size + 1 := by rw [← hV1]; exact World.size_alloc _ _
    rw [hV1]
    have HI2 := Lib.hid (HI1.out.keep (turned_below hBV) (fun b e => .inl e))
    have HVS := Lib.hid hvs
    clear hV1 hBV hvs
    refine wpIn_rangeFunc_M (by omega) (gf := 136) (lb := #[.pointer (some ⟨w1.heap.size, 0, none⟩)]) rfl (enters_of Tryz.func136 (by kernel_rfl) rfl)
      (circuits1_seq (w0 := w) HVV.out HS.out HI2.out.bw hcB) (Below.refl _ _) (fun _ => rfl) memS_put
      (fun pre C T W => ∃ v, (pre = [] ∧ v = .slice none 0 0) ∧ CirI w v 0 pre C T W)
      (fun c pre C T W => ∃ v, (c = .ret ∧ ∃ x, pre = [x] ∧ v = .slice (some ⟨x.1, 0, none⟩) x.2.length x.2.length ∧ ∃ rest, circsAll m = x.2 :: rest) ∧ CirI w v 0 pre C T W)
      (CirI.client (p := fun pre v => pre = [] ∧ v = .slice none 0 0)) (fun c => CirI.client (p := fun pre v => c = .ret ∧ ∃ x, pre = [x] ∧ v = .slice (some ⟨x.1, 0, none⟩) x.2.length x.2.length ∧ ∃ rest, circsAll m = x.2 :: rest)) (fun b => b = w.heap.size ∨ b = w.heap.size + 1) (fun _ => False) ?need (fun _ e => e.elim) ⟨_, ⟨rfl, rfl⟩, HI2.out⟩
      (fun x => { tmps := #[.slice a m.length cap, undef, .pointer (some ⟨w.heap.size, 0, none⟩), .pointer (some ⟨w.heap.size + 1, 0, none⟩), .slice (some ⟨x.1, 0, none⟩) x.2.length x.2.length, .slice a m.length cap, .bool true, .bool false, .slice a m.length cap, .func (.func 136) #[] #[.pointer (some ⟨w1.heap.size, 0, none⟩)], .slice (some ⟨x.1, 0, none⟩) x.2.length x.2.length, undef], defers := [] }) ?assign ?body ?done ?stop
    case need =>
      have h1 := HZ1.out
      have h2 := HVS.out
      rintro b (h | rfl)
      · exact ⟨by rintro (e | e) <;> omega, by omega⟩
      · exact ⟨by rintro (e | e) <;> omega, by omega⟩
    case assign =>
      intro l2 x V K hK
      gi_wp2
      exact hK
    case body =>
      rintro l2 pre ⟨xb, xs⟩ C T V ⟨v, ⟨rfl, rfl⟩, hI⟩ hmem hown ⟨rest, hrest⟩
      have HI := Lib.hid hI
      have HX := Lib.hid (hI.over [(xb, xs)] (fun x hx => (by obtain rfl : x = (xb, xs) := List.mem_singleton.1 hx; exact ⟨hmem, hown xb rfl⟩)) (.slice (some ⟨xb, 0, none⟩) xs.length xs.length) 0)
      have HR : Hid (circsAll m = xs :: rest) := hrest
      have HT := Lib.hid (hown xb rfl)
      obtain ⟨c0, c1, f0, f1, -⟩ := hI
      clear hmem hown hrest hcB
      dsimp only
      gi_wp2
      refine ⟨_, _, ⟨_, ⟨rfl, (xb, xs), rfl, rfl, rest, HR.out⟩, HX.out⟩, ?_, ?_, ?_⟩
      · rintro b hb hl hn
        exact ⟨hb, fun x hx => (by obtain rfl : x = (xb, xs) := List.mem_singleton.1 hx; exact hn)⟩
      · rintro b (e | ⟨x, hx, rfl⟩)
        · exact .inl e
        · obtain rfl : x = (xb, xs) := List.mem_singleton.1 hx
          exact .inr (.inl rfl)
      · exact (turned_set V _ (.inl ((HI.out.cc _).2 (.inl rfl)))).trans (turned_set _ _ (.inl ((HI.out.cc _).2 (.inr (.inl rfl))))) fun b e => .inl e
    case done =>
      rintro D ys C T V hD hys ⟨v, ⟨rfl, rfl⟩, hI⟩ hTD hK
      have HI := Lib.hid hI
      have HC : Hid (circuitV m = ([], 8)) := by show circuitV m = _; unfold circuitV; rw [if_pos HVV.out, ← hys]; rfl
      have HX := Lib.hid (hI.over [] (fun x hx => by cases hx) (.slice none 0 0) 8)
      have HT := Lib.hid hTD
      have HK := Lib.hid ((Below.heap_setCell (V.setCell ⟨w.heap.size, 0, none⟩ (.slice none 0 0)) ⟨w.heap.size + 1, 0, none⟩ (.int .i64 8) D (fun e => hI.nt D (by have e : D = w.heap.size + 1 := e; omega) hTD)).trans ((Below.heap_setCell V ⟨w.heap.size, 0, none⟩ (.slice none 0 0) D (fun e => hI.nt D (by have e : D = w.heap.size := e; omega) hTD)).trans hK))
      obtain ⟨c0, c1, f0, f1, -⟩ := hI
      clear hys hTD hK hcB hD
      gi_wp2
      rw [HC.out]
      refine cir_leaves (ms := [D]) (v := .slice none 0 0) (n := 8) (by intro W q0 q1; simp [results, Tryz.results71, go_sem, q0, q1]) HX.out (fun E hE => ?_) (by simp) (fun E hE => ?_) (fun W h => ⟨h.bw, none, 0, rfl, Sl.none _⟩)
      · obtain rfl : E = D := by simpa using hE
        exact ⟨HT.out, fun x hx => by cases hx⟩
      · obtain rfl : E = D := by simpa using hE
        exact HK.out
    case stop =>
      rintro D c pre C T V hD ⟨v, ⟨rfl, x, rfl, rfl, rest, hrest⟩, hI⟩ hTD hK
      have HI := Lib.hid hI
      have HC : Hid (circuitV m = (x.2, 0)) := by show circuitV m = _; unfold circuitV; rw [if_pos HVV.out, hrest]
      have HT := Lib.hid hTD
      have HK := Lib.hid hK
      clear hrest hTD hK hcB hD hI
      gi_wp2
      rw [HC.out]
      refine cir_leaves (ms := [D]) (v := .slice (some ⟨x.1, 0, none⟩) x.2.length x.2.length) (n := 0) (by intro W q0 q1; simp [results, Tryz.results71, go_sem, q0, q1]) HI.out (fun E hE => ?_) (by simp) (fun E hE => ?_) (fun W h => ⟨h.bw, _, _, rfl, (h.mem x (by simp)).1.sl⟩)
      · obtain rfl : E = D := by simpa using hE
        exact HT.out
      · obtain rfl : E = D := by simpa using hE
        exact HK.out
theorem circuit_any (a : Option Addr) (m : List (List Int)) (cap : Nat) (w : World) (hm : MOk m) (hs : Ms w a m) : Calls Tryz.prog 71 #[.slice a m.length cap] w (LPost (circuitV m) w) := callsIn_wide.1 (circuit_in a m cap w hm hs)
end Go.Proofs.YtfnomiingelfaaaGreat
/- Kernel of layer 3: a contract. -/
namespace Go.Proofs.YtfnomiingelfaaaGreat
open Go.RowKit

theorem wpList_pushRow {ops : Array Oper} {rest : List Oper} {o : Oper} {act : Act} {Q : Exit → Act → World → Prop} (hgd : o.guard = none) (s x : Operand)
    (ho : o.op = .call { callee := .builtin .append, args := #[s, x], argTypes := #[22, 22] }) (base : Nat) (rv : Value) (ads : List (Nat × Nat)) (M : List (List Int)) (row : List Int) (rl : Nat) (hrl : row.length = rl) (nb nc : Nat) (V : World) (t : TypeId) (A : Nat)
    (hv : act.eval s = rv) (hx : act.eval x = .slice (some ⟨A, 0, none⟩) 1 1) (hA : A = V.heap.size) (hown : RS base rv ads M V) (hrow : OwnI V base (.slice (some ⟨nb, 0, none⟩) row.length nc) row)
    (hap : ∀ (i : Nat) (x : Nat × Nat), ads[i]? = some x → x.1 ≠ nb) (hne : rv.ownBlock ≠ some nb) (hl : M.length ≤ 100000) (hbase : base ≤ V.heap.size)
    (h : ∀ g cap w', RS base (.slice (some ⟨g, 0, none⟩) (M.length + 1) cap) (ads ++ [(nb, nc)]) (M ++ [row]) w' → Below base V w' → wpList Tryz.prog ops Q rest (act.put o.dst (.slice (some ⟨g, 0, none⟩) (M.length + 1) cap)) w') : wpList Tryz.prog ops Q (o :: rest) act (V.alloc (.cells #[.slice (some ⟨nb, 0, none⟩) rl nc] t)) := by
  subst hrl
  obtain ⟨i0, hi, hz0, hz1, hz2⟩ := info_parts Tryz.infoRowL
  subst hA
  have hb1 : Below V.heap.size V (V.alloc (.cells #[.slice (some ⟨nb, 0, none⟩) row.length nc] t)) := (Below.refl _ _).alloc (Nat.le_refl _) _
  have hown' := hown.below hb1
  refine wpList_append_lies _ hgd s x 22 ho base 24 i0 (.slice none 0 0) 1 24 Tryz.underlying22 hi hz0 hz1 hz2 rfl (by decide) rv M.length (hdrs ads M) hv hown'.own ⟨V.heap.size, 0, none⟩ 1 1 [.slice (some ⟨nb, 0, none⟩) row.length nc] hx rfl ?_ ?_ (by decide) (by unfold maxLen; omega) (by omega) (by rw [World.size_alloc]; omega) _ rfl ?_
  · intro j u hj
    match j, hj with
    | 0, hj =>
      simp at hj; subst hj
      rw [addr_add]; exact alloc_cell _ _ _ _ _ rfl
    | j + 1, hj => simp at hj
  · intro u hu; simp at hu; subst hu; rfl
  · intro g cap w' h1 h2 h3 _
    exact h g cap w' (hown'.push (hrow.below hb1) hap hne h1 h2 h3) (((Below.refl base V).alloc hbase _).grown h2 (by rw [World.size_alloc]; omega) (fun k e => (World.ownsRow.lt hown.own k e).1))
theorem RS.nil (base : Nat) (w : World) : RS base (.slice none 0 0) [] [] w := ⟨rfl, World.ownsRow_nil _ _ _ _, fun i x r e _ => by simp at e, fun i j x y e _ _ => by simp at e, fun i x e => by simp at e⟩
theorem RS.ms {base : Nat} {rv : Value} {ads : List (Nat × Nat)} {M : List (List Int)} {w : World} (h : RS base rv ads M w) : ∃ a cap, rv = .slice a M.length cap ∧ Ms w a M := by
  obtain ⟨hx, ⟨e, h0⟩ | ⟨g, cap, cur, e, hg, hb, hn, hm, hsz, ht⟩⟩ := h.own
  · have : M = [] := List.eq_nil_of_length_eq_zero h0
    subst this
    exact ⟨none, 0, e, fun i hi => by simp at hi⟩
  · refine ⟨some ⟨g, 0, none⟩, cap, e, fun i hi => ?_⟩
    have e1 : ads[i]? = some (ads[i]'(by rw [h.len]; exact hi)) := by simp [h.len, hi]
    have e2 : M[i]? = some M[i] := by simp [hi]
    have ho := h.own
    rw [e] at ho
    have hc := ho.cellAt i (by rw [Nat.mul_one]; exact hi)
    rw [hdrs_at e1 e2] at hc
    rw [e2]
    exact ⟨g, 0, _, _, rfl, by rw [Nat.zero_add]; exact hc, (h.row i _ _ e1 e2).sl⟩
end Go.Proofs.YtfnomiingelfaaaGreat
/- Rows by their headers: a slice of rows whose array is the call's own, and whose rows lie anywhere else and are only read. -/
namespace Go.Proofs.YtfnomiingelfaaaGreat
open Go.RowKit

def hdO (ads : List (Option Addr × Nat)) (M : List (List Int)) : List Value := List.zipWith (fun x r => Value.slice x.1 r.length x.2) ads M
theorem hdO_at {ads : List (Option Addr × Nat)} {M : List (List Int)} {i : Nat} {x : Option Addr × Nat} {r : List Int} (e1 : ads[i]? = some x) (e2 : M[i]? = some r) : (hdO ads M)[i]? = some (.slice x.1 r.length x.2) := by
  unfold hdO; rw [List.getElem?_zipWith, e1, e2]
theorem hdO_set {ads : List (Option Addr × Nat)} {M : List (List Int)} {i : Nat} {x : Option Addr × Nat} {r : List Int} (hl : ads.length = M.length) (hi : i < M.length) : hdO (ads.set i x) (M.set i r) = (hdO ads M).set i (.slice x.1 r.length x.2) := by
  apply List.ext_getElem?
  intro j
  by_cases e : j = i
  · subst e
    rw [hdO_at (List.getElem?_set_self (by omega)) (List.getElem?_set_self hi), List.getElem?_set_self (by unfold hdO; simp; omega)]
  · rw [List.getElem?_set_ne (Ne.symm e)]
    unfold hdO
    rw [List.getElem?_zipWith, List.getElem?_zipWith, List.getElem?_set_ne (Ne.symm e), List.getElem?_set_ne (Ne.symm e)]
theorem sl_apart {w : World} {a : Option Addr} {xs : List Int} (h : Sl w a xs) {p : Addr} (hp : ∀ ad, a = some ad → ad.block ≠ p.block) (u : Value) : Sl (w.setCell p u) a xs := by
  intro k hk
  obtain ⟨b, off, e, hc⟩ := h k hk
  exact ⟨b, off, e, (cell_other w p u _ (hp _ e)).trans hc⟩
theorem OwnI.parts {w : World} {base : Nat} {v : Value} {xs : List Int} (h : OwnI w base v xs) : ∃ a c, v = .slice a xs.length c ∧ Sl w a xs ∧ ∀ ad, a = some ad → ad.block < w.heap.size ∧ base ≤ ad.block := by
  obtain ⟨a, c, rfl, hs⟩ := h.any
  refine ⟨a, c, rfl, hs, fun ad e => ?_⟩
  subst e
  have := World.ownsRow.lt h ad.block rfl
  exact ⟨this.2, this.1⟩
structure HR (base : Nat) (rv : Value) (ads : List (Option Addr × Nat)) (M : List (List Int)) (w : World) : Prop where
  len : ads.length = M.length
  own : w.ownsRow base 24 1 rv M.length (hdO ads M)
  row : ∀ (i : Nat) (x : Option Addr × Nat) (r : List Int), ads[i]? = some x → M[i]? = some r → Sl w x.1 r
  out : ∀ (i : Nat) (x : Option Addr × Nat), ads[i]? = some x → ∀ ad, x.1 = some ad → ad.block < w.heap.size ∧ rv.ownBlock ≠ some ad.block
theorem HR.nil (base : Nat) (w : World) : HR base (.slice none 0 0) [] [] w := ⟨rfl, World.ownsRow_nil _ _ _ _, fun i x r e _ => by simp at e, fun i x e => by simp at e⟩
theorem HR.below {base : Nat} {rv : Value} {ads : List (Option Addr × Nat)} {M : List (List Int)} {w w' : World} (h : HR base rv ads M w) (hb : Below w.heap.size w w') : HR base rv ads M w' where
  len := h.len
  own := row_below h.own hb
  row := fun i x r e1 e2 => (h.row i x r e1 e2).below hb
  out := fun i x e ad ea => ⟨Nat.lt_of_lt_of_le (h.out i x e ad ea).1 hb.size, (h.out i x e ad ea).2⟩
theorem HR.mono {base base' : Nat} {rv : Value} {ads : List (Option Addr × Nat)} {M : List (List Int)} {w : World} (h : HR base rv ads M w) (hb : base' ≤ base) : HR base' rv ads M w where
  len := h.len
  own := by
    obtain ⟨h0, h1 | ⟨g, cap, cur, e, hg, rest⟩⟩ := h.own
    · exact ⟨h0, .inl h1⟩
    · exact ⟨h0, .inr ⟨g, cap, cur, e, Nat.le_trans hb hg, rest⟩⟩
  row := h.row
  out := h.out
theorem HR.shape {base : Nat} {rv : Value} {ads : List (Option Addr × Nat)} {M : List (List Int)} {w : World} (h : HR base rv ads M w) : (rv = .slice none 0 0 ∧ M = []) ∨ ∃ g cap, rv = .slice (some ⟨g, 0, none⟩) M.length cap ∧ base ≤ g ∧ g < w.heap.size := by
  obtain ⟨_, ⟨e, h0⟩ | ⟨g, cap, cur, e, hg, hb, _⟩⟩ := h.own
  · exact .inl ⟨e, List.eq_nil_of_length_eq_zero h0⟩
  · exact .inr ⟨g, cap, e, hg, (Array.getElem?_eq_some_iff.1 hb).1⟩
theorem HR.at {base g n cap : Nat} {ads : List (Option Addr × Nat)} {M : List (List Int)} {w : World} (h : HR base (.slice (some ⟨g, 0, none⟩) n cap) ads M w) {i : Nat} (hi : i < M.length) :
    ∃ a c, ads[i]? = some (a, c) ∧ w.cell? ⟨g, i, none⟩ = some (.slice a (rowL M i).length c) ∧ w.frozen? ⟨g, i, none⟩ = false ∧ Sl w a (rowL M i) ∧ ∀ ad, a = some ad → ad.block < w.heap.size ∧ ad.block ≠ g := by
  have e1 : ads[i]? = some (ads[i]'(by rw [h.len]; exact hi)) := by simp [h.len, hi]
  have e2 : M[i]? = some M[i] := by simp [hi]
  have ho := h.own
  obtain rfl : n = M.length := by
    obtain ⟨_, ⟨e, _⟩ | ⟨_, _, _, e, _⟩⟩ := ho
    · cases e
    · simpa using congrArg (fun v => match v with | .slice _ n _ => n | _ => 0) e
  have hc := ho.cellAt i (by rw [Nat.mul_one]; exact hi)
  rw [hdO_at e1 e2] at hc
  refine ⟨_, _, e1, ?_, World.ownsRow.frozenAt h.own i, ?_, fun ad ea => ?_⟩
  · rw [rowL_some e2]; exact hc
  · rw [rowL_some e2]; exact h.row i _ _ e1 e2
  · have := h.out i _ e1 ad ea
    exact ⟨this.1, fun e => this.2 (by rw [e]; rfl)⟩
theorem HR.stored {base g n cap : Nat} {ads : List (Option Addr × Nat)} {M : List (List Int)} {w : World} (h : HR base (.slice (some ⟨g, 0, none⟩) n cap) ads M w) {i : Nat} (hi : i < M.length) {a : Option Addr} {c : Nat} {r : List Int} (hs : Sl w a r) (ha : ∀ ad, a = some ad → ad.block < w.heap.size ∧ ad.block ≠ g) :
    HR base (.slice (some ⟨g, 0, none⟩) n cap) (ads.set i (a, c)) (M.set i r) (w.setCell ⟨g, i, none⟩ (.slice a r.length c)) where
  len := by rw [List.length_set, List.length_set]; exact h.len
  own := by
    rw [List.length_set, hdO_set h.len hi]
    obtain rfl : n = M.length := by
      obtain ⟨_, ⟨e, _⟩ | ⟨_, _, _, e, _⟩⟩ := h.own
      · cases e
      · simpa using congrArg (fun v => match v with | .slice _ n _ => n | _ => 0) e
    exact (World.ownsRow.stored h.own i _).1
  row := fun j x q e1 e2 => by
    by_cases e : j = i
    · subst e
      rw [List.getElem?_set_self (by have := h.len; omega)] at e1
      rw [List.getElem?_set_self hi] at e2
      cases e1; cases e2
      exact sl_apart hs (fun ad ea => (ha ad ea).2) _
    · rw [List.getElem?_set_ne (Ne.symm e)] at e1 e2
      exact sl_apart (h.row j x q e1 e2) (fun ad ea e3 => (h.out j x e1 ad ea).2 (by rw [e3]; rfl)) _
  out := fun j x e1 ad ea => by
    rw [World.size_setCell]
    by_cases e : j = i
    · subst e
      rw [List.getElem?_set_self (by have := h.len; omega)] at e1
      cases e1
      exact ⟨(ha ad ea).1, fun e3 => (ha ad ea).2 (by simpa [Value.ownBlock] using e3.symm)⟩
    · rw [List.getElem?_set_ne (Ne.symm e)] at e1
      exact h.out j x e1 ad ea
theorem HR.far {base : Nat} {rv : Value} {ads : List (Option Addr × Nat)} {M : List (List Int)} {w : World} (h : HR base rv ads M w) {p : Addr} (h1 : rv.ownBlock ≠ some p.block) (h2 : ∀ (i : Nat) (x : Option Addr × Nat), ads[i]? = some x → ∀ ad, x.1 = some ad → ad.block ≠ p.block) (u : Value) : HR base rv ads M (w.setCell p u) where
  len := h.len
  own := row_same h.own fun b e => Below.heap_setCell w _ _ b (by rintro rfl; exact h1 e)
  row := fun i x r e1 e2 => sl_apart (h.row i x r e1 e2) (h2 i x e1) _
  out := fun i x e ad ea => by rw [World.size_setCell]; exact h.out i x e ad ea
theorem HR.push {base : Nat} {rv : Value} {ads : List (Option Addr × Nat)} {M : List (List Int)} {V w' : World} (h : HR base rv ads M V) {row : List Int} {a : Option Addr} {c g cap : Nat} (hs : Sl V a row) (ha : ∀ ad, a = some ad → ad.block < V.heap.size ∧ rv.ownBlock ≠ some ad.block)
    (h1 : w'.ownsRow base 24 1 (.slice (some ⟨g, 0, none⟩) (M.length + 1) cap) (M.length + 1) (hdO ads M ++ [.slice a row.length c])) (h2 : V.grownBy w' rv.ownBlock) (h3 : rv.ownBlock = some g ∨ g = V.heap.size) :
    HR base (.slice (some ⟨g, 0, none⟩) (M.length + 1) cap) (ads ++ [(a, c)]) (M ++ [row]) w' := by
  have far : ∀ b, b < V.heap.size → rv.ownBlock ≠ some b → w'.heap[b]? = V.heap[b]? := fun b hb hn => h2.block b hb (fun e => hn e.symm)
  have hne2 : ∀ b, b < V.heap.size → rv.ownBlock ≠ some b → g ≠ b := by
    intro b hb hn e
    rcases h3 with h3 | h3
    · exact hn (by rw [h3, e])
    · omega
  have hsz : V.heap.size ≤ w'.heap.size := h2.size
  have hh : hdO (ads ++ [(a, c)]) (M ++ [row]) = hdO ads M ++ [.slice a row.length c] := by
    unfold hdO; rw [List.zipWith_append h.len]; rfl
  have keep : ∀ {b : Option Addr} {q : List Int}, Sl V b q → (∀ ad, b = some ad → ad.block < V.heap.size ∧ rv.ownBlock ≠ some ad.block) → Sl w' b q := by
    intro b q hq hb k hk
    obtain ⟨b', off, e, hc⟩ := hq k hk
    have := hb _ e
    exact ⟨b', off, e, (World.cell?_of_block (far b' this.1 this.2)).trans hc⟩
  refine ⟨by simp [h.len], ?_, ?_, ?_⟩
  · rw [hh]; simpa using h1
  · intro i x r e1 e2
    have hl := h.len
    rcases get_snoc e1 with e1 | ⟨i1, rfl⟩
    · have hi := (List.getElem?_eq_some_iff.1 e1).1
      rw [List.getElem?_append_left (by omega)] at e2
      exact keep (h.row i x r e1 e2) (h.out i x e1)
    · subst i1
      rw [hl] at e2; simp at e2; subst e2
      exact keep hs ha
  · intro i x e ad ea
    have : ad.block < V.heap.size ∧ rv.ownBlock ≠ some ad.block := by
      rcases get_snoc e with e | ⟨_, rfl⟩
      · exact h.out i x e ad ea
      · exact ha ad ea
    exact ⟨by omega, fun e => hne2 _ this.1 this.2 (by simpa [Value.ownBlock] using e)⟩
theorem HR.grown {base : Nat} {rv : Value} {ads : List (Option Addr × Nat)} {M : List (List Int)} {V w' : World} {ob : Option Nat} (h : HR base rv ads M V) (hg : V.grownBy w' ob) (h1 : ∀ b, rv.ownBlock = some b → ob ≠ some b) (h2 : ∀ (i : Nat) (x : Option Addr × Nat), ads[i]? = some x → ∀ ad, x.1 = some ad → ob ≠ some ad.block) : HR base rv ads M w' where
  len := h.len
  own := row_same h.own fun b e => hg.block b (World.ownsRow.lt h.own b e).2 (Ne.symm (h1 b e))
  row := fun i x r e1 e2 k hk => by
    obtain ⟨b', off, e, hc⟩ := h.row i x r e1 e2 k hk
    exact ⟨b', off, e, (World.cell?_of_block (hg.block b' (h.out i x e1 _ e).1 (Ne.symm (h2 i x e1 _ e)))).trans hc⟩
  out := fun i x e ad ea => ⟨Nat.lt_of_lt_of_le (h.out i x e ad ea).1 hg.size, (h.out i x e ad ea).2⟩
theorem wpList_pushHR {ops : Array Oper} {rest : List Oper} {o : Oper} {act : Act} {Q : Exit → Act → World → Prop} (hgd : o.guard = none) (s x : Operand)
    (ho : o.op = .call { callee := .builtin .append, args := #[s, x], argTypes := #[22, 22] }) (base : Nat) (rv : Value) (ads : List (Option Addr × Nat)) (M : List (List Int)) (row : List Int) (rl : Nat) (hrl : row.length = rl) (a : Option Addr) (c : Nat) (V : World) (t : TypeId) (A : Nat)
    (hv : act.eval s = rv) (hx : act.eval x = .slice (some ⟨A, 0, none⟩) 1 1) (hA : A = V.heap.size) (hown : HR base rv ads M V) (hs : Sl V a row)
    (ha : ∀ ad, a = some ad → ad.block < V.heap.size ∧ rv.ownBlock ≠ some ad.block) (hl : M.length ≤ 100000) (hbase : base ≤ V.heap.size)
    (h : ∀ g cap w', HR base (.slice (some ⟨g, 0, none⟩) (M.length + 1) cap) (ads ++ [(a, c)]) (M ++ [row]) w' → (rv.ownBlock = some g ∨ V.heap.size ≤ g) → Below base V w' → (V.alloc (.cells #[.slice a rl c] t)).grownBy w' rv.ownBlock → wpList Tryz.prog ops Q rest (act.put o.dst (.slice (some ⟨g, 0, none⟩) (M.length + 1) cap)) w') : wpList Tryz.prog ops Q (o :: rest) act (V.alloc (.cells #[.slice a rl c] t)) := by
  subst hrl
  obtain ⟨i0, hi, hz0, hz1, hz2⟩ := info_parts Tryz.infoRowL
  subst hA
  have hb1 : Below V.heap.size V (V.alloc (.cells #[.slice a row.length c] t)) := (Below.refl _ _).alloc (Nat.le_refl _) _
  have hown' := hown.below hb1
  refine wpList_append_lies _ hgd s x 22 ho base 24 i0 (.slice none 0 0) 1 24 Tryz.underlying22 hi hz0 hz1 hz2 rfl (by decide) rv M.length (hdO ads M) hv hown'.own ⟨V.heap.size, 0, none⟩ 1 1 [.slice a row.length c] hx rfl ?_ ?_ (by decide) (by unfold maxLen; omega) (by omega) (by rw [World.size_alloc]; omega) _ rfl ?_
  · intro j u hj
    match j, hj with
    | 0, hj =>
      simp at hj; subst hj
      rw [addr_add]; exact alloc_cell _ _ _ _ _ rfl
    | j + 1, hj => simp at hj
  · intro u hu; simp at hu; subst hu; rfl
  · intro g cap w' h1 h2 h3 _
    exact h g cap w' (hown'.push (hs.below hb1) (fun ad ea => ⟨Nat.lt_of_lt_of_le (ha ad ea).1 hb1.size, (ha ad ea).2⟩) h1 h2 h3) (by rcases h3 with h3 | h3; exact .inl h3; rw [World.size_alloc] at h3; exact .inr (by omega)) (((Below.refl base V).alloc hbase _).grown h2 (by rw [World.size_alloc]; omega) (fun k e => (World.ownsRow.lt hown.own k e).1)) h2
end Go.Proofs.YtfnomiingelfaaaGreat
/- One int appended to a slice of the call's own, told by what grows. -/
namespace Go.Proofs.YtfnomiingelfaaaGreat
open Go.RowKit

theorem wpList_pushG {ops : Array Oper} {rest : List Oper} {o : Oper} {act : Act} {Q : Exit → Act → World → Prop} (hgd : o.guard = none) (s x : Operand)
    (ho : o.op = .call { callee := .builtin .append, args := #[s, x], argTypes := #[24, 24] }) (base : Nat) (v : Value) (zs : List Int) (y : Int) (V : World) (B : Nat) (t : TypeId)
    (hs : act.eval s = v) (hx : act.eval x = .slice (some ⟨B, 0, none⟩) 1 1) (hB : B = V.heap.size) (hown : OwnI V base v zs) (hl : zs.length ≤ 100000) (hbase : base ≤ V.heap.size)
    (h : ∀ g cap w', OwnI w' base (.slice (some ⟨g, 0, none⟩) (zs.length + 1) cap) (zs ++ [y]) → (v.ownBlock = some g ∨ V.heap.size ≤ g) → Below base V w' → (V.alloc (.cells #[.int .i64 y] t)).grownBy w' v.ownBlock → wpList Tryz.prog ops Q rest (act.put o.dst (.slice (some ⟨g, 0, none⟩) (zs.length + 1) cap)) w') : wpList Tryz.prog ops Q (o :: rest) act (V.alloc (.cells #[.int .i64 y] t)) := by
  obtain ⟨i0, hi, hz0, hz1, hz2⟩ := info_parts Tryz.infoInt
  subst hB
  have hb1 : Below V.heap.size V (V.alloc (.cells #[.int .i64 y] t)) := (Below.refl _ _).alloc (Nat.le_refl _) _
  have hown' := OwnI.below hown hb1
  refine wpList_append_lies _ hgd s x 24 ho base 3 i0 (.int .i64 0) 1 8 Tryz.underlying24 hi hz0 hz1 hz2 rfl (by decide) v zs.length (zs.map (Value.int .i64)) hs hown' ⟨V.heap.size, 0, none⟩ 1 1 [.int .i64 y] hx rfl ?_ ?_ (by decide) (by unfold maxLen; omega) (by omega) (by rw [World.size_alloc]; omega) _ rfl ?_
  · intro j u hj
    match j, hj with
    | 0, hj =>
      simp at hj; subst hj
      rw [addr_add]; exact alloc_cell _ _ _ _ _ rfl
    | j + 1, hj => simp at hj
  · intro u hu; simp at hu; subst hu; rfl
  · intro g cap w' h1 h2 h3 _
    refine h g cap w' (by simpa [OwnI] using h1) ?_ (((Below.refl base V).alloc hbase _).grown h2 (by rw [World.size_alloc]; omega) (fun k e => (World.ownsRow.lt hown k e).1)) h2
    rcases h3 with h3 | h3
    · exact .inl h3
    · rw [World.size_alloc] at h3; exact .inr (by omega)
end Go.Proofs.YtfnomiingelfaaaGreat
/- divisor, primitive, scaled, without of the answers: contracts. -/
namespace Go.Proofs.YtfnomiingelfaaaGreat
open Go.RowKit

theorem gcdTo_succ (xs : List Int) (k : Nat) : gcdTo xs (k + 1) = Nat.gcd (gcdTo xs k) (gt xs k).natAbs := rfl

set_option maxRecDepth 100000 in
set_option maxHeartbeats 800000 in
theorem rdivisor_any (v x : Int) (w : World) (hv : Mid v) (hx : Mid x) :
    Calls Tryz.prog 115 #[.int .i64 v, .int .i64 x] w fun e w' => e = .returned (.int .i64 ((Nat.gcd v.natAbs x.natAbs : Nat) : Int)) ∧ ∃ nd, w' = w.drewN nd := by
  go_enter Tryz.func115, Tryz.ntmps115
  go_wp2
  go_loopw [0, 1] (fun c n wr => ∃ (p q : Int) (nd' : Nat), c = .int .i64 p ∧ n = .int .i64 q ∧ Mid p ∧ Mid q ∧ Hid (Nat.gcd p.natAbs q.natAbs = Nat.gcd v.natAbs x.natAbs) ∧ wr = w.drewN nd') (fun _ n _ => (intOf n).natAbs)
  case atStart => exact ⟨v, x, 0, rfl, rfl, hv, hx, rfl, rfl⟩
  case round =>
    obtain ⟨p, q, nd', rfl, rfl, hp, hq, HE, rfl⟩ := hrel
    by_cases hq0 : q = 0
    · subst hq0
      have HGE : Hid (p.natAbs = Nat.gcd v.natAbs x.natAbs) := by
        show _ = _
        rw [← HE.out]; simp
      obtain ⟨p1, p2⟩ := hp
      have HF : Hid (((Nat.gcd v.natAbs x.natAbs : Nat) : Int) = if p < -p then -p else p) := by
        show _ = _
        rw [← HGE.out]; split <;> omega
      clear HGE HE
      go_wp2
      all_goals go_ret
      all_goals exact ⟨ret_i64 (by rw [HF.out]; split <;> omega), nd', rfl⟩
    · have y0 : (q == 0) = false := by simpa using hq0
      have y1 : (q != 0) = true := by simpa using hq0
      obtain ⟨t, ht⟩ : ∃ t, p.tmod q = t := ⟨_, rfl⟩
      have hta : t.natAbs = p.natAbs % q.natAbs := by rw [← ht, Int.natAbs_tmod]
      have hlt2 : p.natAbs % q.natAbs < q.natAbs := Nat.mod_lt _ (by omega)
      have hmt : Mid t := by unfold Mid at hq ⊢; omega
      have HE2 : Hid (Nat.gcd q.natAbs t.natAbs = Nat.gcd v.natAbs x.natAbs) := by
        show _ = _
        rw [hta, ← HE.out, Nat.gcd_comm p.natAbs, Nat.gcd_rec q.natAbs p.natAbs]
        exact Nat.gcd_comm _ _
      have hmeas : t.natAbs < q.natAbs := by omega
      obtain ⟨t1, t2⟩ := hmt
      have w1 : IntKind.i64.wrap t = t := IntWalk.i64_in _ (by omega)
      have w2 : wrap64 t = t := IntWalk.wrap64_in _ (by omega)
      clear hta hlt2
      go_wp2
      go_quiet (fail)
      go_wp2
      go_roundw
      case rel => exact ⟨q, t, _, rfl, rfl, hq, ⟨t1, t2⟩, HE2, World.drewN_drewN _ _ _⟩
      case measure => simp [intOf]; omega
set_option maxRecDepth 100000 in
set_option maxHeartbeats 800000 in
theorem scaled_any (a : Option Addr) (xs : List Int) (cap : Nat) (w : World) (hl : xs.length ≤ 1000) (hs : Sl w a xs) :
    Calls Tryz.prog 118 #[.slice a xs.length cap, .int .i64 (-1)] w fun e w' => ∃ v, e = .returned v ∧ OwnI w' w.heap.size v (negL xs) ∧ Below w.heap.size w w' := by
  have HS := Lib.hid hs; clear hs
  go_enter Tryz.func118, Tryz.ntmps118
  go_wp2
  go_loopw [5, 10] (fun v i wr => ∃ k : Nat, k ≤ xs.length ∧ i = .int .i64 k ∧ OwnI wr w.heap.size v ((negL xs).take k) ∧ Below w.heap.size w wr) (fun _ i _ => xs.length - (intOf i).toNat)
  case atStart => exact ⟨0, Nat.zero_le _, rfl, OwnI.nil _ _, Below.refl _ _⟩
  case round =>
    obtain ⟨k, hk, rfl, hO, hB⟩ := hrel
    have HO := Lib.hid hO; clear hO
    have HB := Lib.hid hB; clear hB
    by_cases hlt : k < xs.length
    · obtain ⟨b, off, x, rfl, hcell, HX⟩ := (HS.out.below HB.out).at hlt
      have HT : Hid ((negL xs).take (k + 1) = (negL xs).take k ++ [wrap64 (-x)]) := by
        show _ = _
        have h1 := HX.out
        rw [List.take_add_one]
        congr 1
        simp [negL, h1, wrap_is]
      have HL : Hid (((negL xs).take k).length ≤ 100000) := by show _ ≤ _; rw [List.length_take]; omega
      go_wp2_with (at_builtin; go_must (refine wpList_push rfl (.tmp 14) (.tmp 18) rfl w.heap.size _ ((negL xs).take k) _ _ _ _ rfl rfl rfl HO.out HL.out HB.out.size ?_); intro v' w9 ho' hb')
      go_roundw
      case rel => exact ⟨k + 1, by omega, by go_num, by rw [HT.out]; exact ho', HB.out.trans hb'⟩
      case measure => simp [intOf]; omega
    · obtain rfl : k = xs.length := by omega
      have HE : Hid ((negL xs).take xs.length = negL xs) := by show _ = _; rw [List.take_of_length_le]; simp [negL]
      go_wp2
      go_ret
      exact ⟨_, rfl, HE.out ▸ HO.out, HB.out⟩
set_option maxRecDepth 100000 in
set_option maxHeartbeats 800000 in
theorem primitive_any (a : Option Addr) (xs : List Int) (cap : Nat) (w : World) (hl : xs.length ≤ 1000) (hx : ∀ x ∈ xs, Mid x) (hs : Sl w a xs) :
    Calls Tryz.prog 143 #[.slice a xs.length cap] w fun e w' => ∃ v, e = .returned v ∧ OwnI w' w.heap.size v (primR xs) ∧ Below w.heap.size w w' := by
  have HS := Lib.hid hs; clear hs
  have HX := Lib.hid hx; clear hx
  go_enter Tryz.func143, Tryz.ntmps143
  go_wp2
  go_loopw [3, 11] (fun c i wr => ∃ (k nd : Nat), k ≤ xs.length ∧ i = .int .i64 k ∧ c = .int .i64 ((gcdTo xs k : Nat) : Int) ∧ Mid ((gcdTo xs k : Nat) : Int) ∧ wr = w.drewN nd) (fun _ i _ => xs.length - (intOf i).toNat)
  case atStart => exact ⟨0, 0, Nat.zero_le _, rfl, rfl, by unfold Mid gcdTo; omega, rfl⟩
  case round =>
    obtain ⟨k, nd, hk, rfl, rfl, hm, rfl⟩ := hrel
    by_cases hlt : k < xs.length
    · obtain ⟨b, off, x, rfl, hcell, HXK⟩ := HS.out.at hlt
      have hmx := HX.out x (List.mem_of_getElem? HXK.out)
      have HG : Hid (gcdTo xs (k + 1) = Nat.gcd ((gcdTo xs k : Nat) : Int).natAbs x.natAbs) := by show _ = _; rw [gcdTo_succ, gt_some' HXK.out, Int.natAbs_natCast]
      have HM : Hid (Mid ((gcdTo xs (k + 1) : Nat) : Int)) := by
        show Mid _
        rw [HG.out]
        unfold Mid at hm hmx ⊢
        by_cases h0 : x = 0
        · subst h0; simp; omega
        · have := Nat.le_of_dvd (by omega) (Nat.gcd_dvd_right ((gcdTo xs k : Nat) : Int).natAbs x.natAbs); omega
      obtain ⟨g, hg⟩ : ∃ g, ((gcdTo xs k : Nat) : Int) = g := ⟨_, rfl⟩
      rw [hg] at hm HG ⊢
      go_wp2_with fail
      refine (rdivisor_any _ _ _ hm hmx).mono ?_
      rintro e w1 ⟨rfl, n1, rfl⟩
      rw [← HG.out]
      go_wp2
      go_roundw
      case rel => exact ⟨k + 1, _, by omega, by go_num, rfl, HM.out, rfl⟩
      case measure => simp [intOf]; omega
    · obtain rfl : k = xs.length := by omega
      have HBn : Hid (Below w.heap.size w (w.drewN nd)) := drew_below rfl
      obtain ⟨g, hg⟩ : ∃ g, ((gcdTo xs xs.length : Nat) : Int) = g := ⟨_, rfl⟩
      obtain ⟨G, hG⟩ : ∃ G : Int, (if g < 1 then 1 else g) = G := ⟨_, rfl⟩
      have HGG : Hid (G = ((max (gcdL xs) 1 : Nat) : Int)) := by
        show _ = _
        unfold gcdL
        rw [← hG, ← hg]; split <;> omega
      have G1 : 1 ≤ G := by have := HGG.out; omega
      rw [hg] at hm ⊢
      have HW := Lib.hid HBn.out.size
      go_wp2
      go_loopw [6, 21] (fun v i wr => ∃ k : Nat, k ≤ xs.length ∧ i = .int .i64 k ∧ OwnI wr w.heap.size v ((primR xs).take k) ∧ Below w.heap.size w wr) (fun _ i _ => xs.length - (intOf i).toNat)
      case atStart => exact ⟨0, Nat.zero_le _, rfl, OwnI.nil _ _, HBn.out⟩
      case round =>
        obtain ⟨k, hk, rfl, hO, hB⟩ := hrel
        have HO := Lib.hid hO; clear hO
        have HB := Lib.hid hB; clear hB
        by_cases hlt : k < xs.length
        · obtain ⟨b, off, x, rfl, hcell, HXK⟩ := (HS.out.below HB.out).at hlt
          have hmx := HX.out x (List.mem_of_getElem? HXK.out)
          obtain ⟨m1, m2⟩ := tdiv_mid hmx G1
          have HT : Hid ((primR xs).take (k + 1) = (primR xs).take k ++ [x.tdiv G]) := by
            show _ = _
            have h1 := HXK.out
            rw [List.take_add_one]
            congr 1
            simp [primR, h1, HGG.out]
          have hw64 : wrap64 (x.tdiv G) = x.tdiv G := IntWalk.wrap64_in _ (by omega)
          have HL : Hid (((primR xs).take k).length ≤ 100000) := by show _ ≤ _; rw [List.length_take]; omega
          go_wp2_with (at_builtin; go_must (refine wpList_push rfl (.tmp 25) (.tmp 30) rfl w.heap.size _ ((primR xs).take k) _ _ _ _ rfl rfl rfl HO.out HL.out HB.out.size ?_); intro v' w9 ho' hb')
          go_roundw
          case rel => exact ⟨k + 1, by omega, by go_num, by rw [HT.out]; exact ho', HB.out.trans hb'⟩
          case measure => simp [intOf]; omega
        · obtain rfl : k = xs.length := by omega
          have HE : Hid ((primR xs).take xs.length = primR xs) := by show _ = _; rw [List.take_of_length_le]; simp [primR]
          go_wp2
          go_ret
          exact ⟨_, rfl, HE.out ▸ HO.out, HB.out⟩
end Go.Proofs.YtfnomiingelfaaaGreat
/- without of the answers: the contract. -/
namespace Go.Proofs.YtfnomiingelfaaaGreat
open Go.RowKit

theorem sl_cell {w : World} {b off : Nat} {xs : List Int} (h : Sl w (some ⟨b, off, none⟩) xs) {k : Nat} (hk : k < xs.length) : w.cell? ⟨b, off + k, none⟩ = some (.int .i64 (gt xs k)) := by
  obtain ⟨b', o', x, e, hc, hx⟩ := h.at hk
  cases e
  rw [gt_some' hx.out]; exact hc
set_option maxRecDepth 1000000 in
set_option maxHeartbeats 4000000 in
theorem without_any (a : Option Addr) (xs : List Int) (cap : Nat) (pa : Option Addr) (ps : List Int) (pc j : Nat) (w : World) (hl : xs.length ≤ 1000) (hp : ps.length = xs.length) (hj : j < xs.length) (hx : ∀ x ∈ wipR xs ps j, Mid x) (hs : Sl w a xs) (ht : Sl w pa ps) :
    Calls Tryz.prog 151 #[.slice a xs.length cap, .slice pa ps.length pc, .int .i64 (j : Int)] w fun e w' => ∃ v, e = .returned v ∧ OwnI w' w.heap.size v (withoutR xs ps j) ∧ Below w.heap.size w w' := by
  obtain ⟨b, off, _, rfl, _, _⟩ := hs.at hj
  obtain ⟨b2, o2, _, rfl, _, _⟩ := ht.at (show j < ps.length by omega)
  obtain ⟨pl, hpl⟩ : ∃ pl, ps.length = pl := ⟨_, rfl⟩
  rw [hpl] at hp ⊢
  obtain ⟨n, hn⟩ : ∃ n, xs.length = n := ⟨_, rfl⟩
  have HN := Lib.hid hn
  have HPL := Lib.hid hpl; clear hpl
  rw [hn] at hl hj hp ⊢
  clear hn
  subst hp
  have HS := Lib.hid hs; clear hs
  have HTT := Lib.hid ht; clear ht
  have HX := Lib.hid hx; clear hx
  have HWL : Hid ((wipR xs ps j).length = pl) := by show _ = _; rw [wipR_len, HN.out]
  go_enter Tryz.func151, Tryz.ntmps151
  go_wp2
  go_loopw [7, 11] (fun v i wr => ∃ k : Nat, k ≤ pl ∧ i = .int .i64 k ∧ OwnI wr w.heap.size v ((wipR xs ps j).take k) ∧ Below w.heap.size w wr) (fun _ i _ => pl - (intOf i).toNat)
  case atStart => exact ⟨0, Nat.zero_le _, rfl, OwnI.nil _ _, Below.refl _ _⟩
  case round =>
    obtain ⟨k, hk, rfl, hO, hB⟩ := hrel
    have HO := Lib.hid hO; clear hO
    have HB := Lib.hid hB; clear hB
    by_cases hlt : k < pl
    · have c1 := sl_cell (HS.out.below HB.out) (k := k) (by rw [HN.out]; exact hlt)
      have c2 := sl_cell (HS.out.below HB.out) (k := j) (by rw [HN.out]; exact hj)
      have c3 := sl_cell (HTT.out.below HB.out) (k := k) (by rw [HPL.out]; exact hlt)
      have c4 := sl_cell (HTT.out.below HB.out) (k := j) (by rw [HPL.out]; exact hj)
      have HT : Hid ((wipR xs ps j).take (k + 1) = (wipR xs ps j).take k ++ [IntKind.i64.wrap (IntKind.i64.wrap (gt xs k * gt ps j) - IntKind.i64.wrap (gt ps k * gt xs j))]) := by
        show _ = _
        rw [List.take_add_one]
        congr 1
        have : k < xs.length := by rw [HN.out]; exact hlt
        simp [wipR, this]
      obtain ⟨x1, hx1⟩ : ∃ v, gt xs k = v := ⟨_, rfl⟩
      obtain ⟨x2, hx2⟩ : ∃ v, gt xs j = v := ⟨_, rfl⟩
      obtain ⟨x3, hx3⟩ : ∃ v, gt ps k = v := ⟨_, rfl⟩
      obtain ⟨x4, hx4⟩ : ∃ v, gt ps j = v := ⟨_, rfl⟩
      rw [hx1] at c1 HT; rw [hx2] at c2 HT; rw [hx3] at c3 HT; rw [hx4] at c4 HT
      clear hx1 hx2 hx3 hx4
      have HL : Hid (((wipR xs ps j).take k).length ≤ 100000) := by show _ ≤ _; rw [List.length_take]; omega
      have HSZ := Lib.hid HB.out.size
      have hk0 : (k : Int) < (pl : Int) := by omega
      have hj0 : (j : Int) < (pl : Int) := by omega
      go_wp2
      go_region_law (refine step_push rfl (.tmp 14) (.tmp 34) rfl w.heap.size _ ((wipR xs ps j).take k) _ _ wr.heap.size (by rfl) (by rfl) (alloc_cell wr _ _ _ _ rfl) ((HO.out.below ((Below.refl _ _).alloc (Nat.le_refl _) _)).drew) HL.out (by simp; have := HSZ.out; omega) ?_; intro v' w9 ho' hb')
      all_goals
        go_wp2
        go_roundw
        case rel => exact ⟨k + 1, by omega, by go_num, by rw [HT.out]; exact ho', HB.out.trans (((Below.refl _ _).alloc HSZ.out _).drew.trans hb')⟩
        case measure => simp [intOf]; omega
    · obtain rfl : k = pl := by omega
      have HE : Hid ((wipR xs ps j).take k = wipR xs ps j) := by show _ = _; rw [List.take_of_length_le]; rw [HWL.out]; exact Nat.le_refl _
      have ho := HO.out
      rw [HE.out] at ho
      obtain ⟨av, cv, rfl, sv⟩ := ho.any
      have HSV := Lib.hid sv; clear sv ho HE HO
      rw [HWL.out]
      go_wp2_with fail
      have hcall := primitive_any av (wipR xs ps j) cv wr (by rw [HWL.out]; exact hl) HX.out HSV.out
      rw [HWL.out] at hcall
      refine hcall.mono ?_
      rintro e w9 ⟨v9, rfl, ho9, hb9⟩
      go_wp2
      go_ret
      exact ⟨_, rfl, ho9.mono HB.out.size, HB.out.trans (hb9.mono HB.out.size)⟩
end Go.Proofs.YtfnomiingelfaaaGreat
/- Reduced of the answers: the reduction under way and its steps. -/
namespace Go.Proofs.YtfnomiingelfaaaGreat
open Go.RowKit

structure RInv (base : Nat) (lv dv pv : Value) (lads dads : List (Option Addr × Nat)) (s : Rs) (w : World) : Prop where
  l : HR base lv lads s.left w
  d : HR base dv dads s.done w
  p : OwnI w base pv s.piv
  ld : ∀ b, lv.ownBlock = some b → dv.ownBlock ≠ some b
  lp : ∀ b, lv.ownBlock = some b → pv.ownBlock ≠ some b
  dp : ∀ b, dv.ownBlock = some b → pv.ownBlock ≠ some b
  lD : ∀ b, lv.ownBlock = some b → ∀ (i : Nat) (x : Option Addr × Nat), dads[i]? = some x → ∀ ad, x.1 = some ad → ad.block ≠ b
  dL : ∀ b, dv.ownBlock = some b → ∀ (i : Nat) (x : Option Addr × Nat), lads[i]? = some x → ∀ ad, x.1 = some ad → ad.block ≠ b
  pL : ∀ b, pv.ownBlock = some b → ∀ (i : Nat) (x : Option Addr × Nat), lads[i]? = some x → ∀ ad, x.1 = some ad → ad.block ≠ b
  pD : ∀ b, pv.ownBlock = some b → ∀ (i : Nat) (x : Option Addr × Nat), dads[i]? = some x → ∀ ad, x.1 = some ad → ad.block ≠ b
theorem HR.ms {base : Nat} {rv : Value} {ads : List (Option Addr × Nat)} {M : List (List Int)} {w : World} (h : HR base rv ads M w) : ∃ a cap, rv = .slice a M.length cap ∧ Ms w a M := by
  rcases h.shape with ⟨e, h0⟩ | ⟨g, cap, e, _, _⟩
  · subst h0; exact ⟨none, 0, e, fun i hi => by simp at hi⟩
  · subst e
    refine ⟨some ⟨g, 0, none⟩, cap, rfl, fun i hi => ?_⟩
    obtain ⟨a, c, _, h1, _, h2, _⟩ := h.at hi
    exact ⟨g, 0, a, c, rfl, by rw [Nat.zero_add]; exact h1, h2⟩
theorem redR_rows {M : List (List Int)} {N : Nat} (h : ∀ q ∈ M, q.length = N) : ∀ D, (∀ q ∈ (redR M D).left, q.length = N) ∧ ∀ q ∈ (redR M D).done, q.length = N
  | 0 => ⟨fun q hq => by obtain ⟨r, hr, rfl⟩ := List.mem_map.mp hq; rw [primR_len]; exact h r hr, fun q hq => by simp [redR, stepsR] at hq⟩
  | D + 1 => by
    obtain ⟨h1, h2⟩ := redR_rows h D
    show (∀ q ∈ (stepR D (redR M D)).left, q.length = N) ∧ ∀ q ∈ (stepR D (redR M D)).done, q.length = N
    unfold stepR
    split
    · exact ⟨h1, h2⟩
    · rename_i i hi
      have hi := (lastR_some hi).1
      refine ⟨fun q hq => ?_, fun q hq => ?_⟩
      · obtain ⟨r, hr, rfl⟩ := List.mem_map.mp hq; rw [withoutR_len]; exact h1 r (List.mem_of_mem_eraseIdx hr)
      · rcases List.mem_append.mp hq with hq | hq
        · obtain ⟨r, hr, rfl⟩ := List.mem_map.mp hq; rw [withoutR_len]; exact h2 r hr
        · rw [List.mem_singleton] at hq; rw [hq, ownR_len]; exact h1 _ (rowL_mem hi)
def atZ (L : List (List Int)) (j n : Nat) : Int := match lastR L j n with | none => -1 | some i => (i : Int)
theorem atZ_succ (L : List (List Int)) (j n : Nat) : atZ L j (n + 1) = if gt (rowL L n) j ≠ 0 then (n : Int) else atZ L j n := by
  unfold atZ
  by_cases e : gt (rowL L n) j ≠ 0
  · have h : lastR L j (n + 1) = some n := by show (if gt (rowL L n) j ≠ 0 then some n else lastR L j n) = _; rw [if_pos e]
    rw [h, if_pos e]
  · have h : lastR L j (n + 1) = lastR L j n := by show (if gt (rowL L n) j ≠ 0 then some n else lastR L j n) = _; rw [if_neg e]
    rw [h, if_neg e]
theorem redR_left (M : List (List Int)) : ∀ D, (redR M D).left.length ≤ M.length
  | 0 => by simp [redR, stepsR]
  | D + 1 => by
    have h1 := redR_left M D
    show (stepR D (redR M D)).left.length ≤ _
    unfold stepR
    split
    · exact h1
    · show List.length (List.map _ _) ≤ _
      rw [List.length_map]
      exact Nat.le_trans (List.length_eraseIdx_le _ _) h1
theorem own_none {b : Nat} (e : (Value.slice none 0 0).ownBlock = some b) : False := by simp [Value.ownBlock] at e
theorem RInv.start {base : Nat} {lv : Value} {lads : List (Option Addr × Nat)} {L : List (List Int)} {w : World} (h : HR base lv lads L w) : RInv base lv (.slice none 0 0) (.slice none 0 0) lads [] { done := [], left := L, piv := [] } w where
  l := h
  d := HR.nil _ _
  p := OwnI.nil _ _
  ld := fun _ _ e => own_none e
  lp := fun _ _ e => own_none e
  dp := fun _ _ e => own_none e
  lD := fun _ _ i x e => by simp at e
  dL := fun _ e => (own_none e).elim
  pL := fun _ e => (own_none e).elim
  pD := fun _ e => (own_none e).elim
theorem redR_stop {M : List (List Int)} {D : Nat} (h : (redR M D).left = []) : ∀ n, redR M (D + n) = redR M D
  | 0 => rfl
  | n + 1 => by
    rw [show D + (n + 1) = D + n + 1 by omega]
    show stepR (D + n) (redR M (D + n)) = _
    rw [redR_stop h n]
    unfold stepR
    rw [h]; rfl
theorem RInv.below {base : Nat} {lv dv pv : Value} {lads dads : List (Option Addr × Nat)} {s : Rs} {w w' : World} (h : RInv base lv dv pv lads dads s w) (hb : Below w.heap.size w w') : RInv base lv dv pv lads dads s w' :=
  ⟨h.l.below hb, h.d.below hb, OwnI.below h.p hb, h.ld, h.lp, h.dp, h.lD, h.dL, h.pL, h.pD⟩
structure RDone (base S : Nat) (rv dv pv : Value) (rads dads : List (Option Addr × Nat)) (rest D : List (List Int)) (piv : List Int) (pa : Option Addr) (P : List Int) (w : World) : Prop where
  d : HR base dv dads D w
  r : HR S rv rads rest w
  p : OwnI w base pv piv
  P : Sl w pa P
  rS : ∀ (i : Nat) (x : Option Addr × Nat), rads[i]? = some x → ∀ ad, x.1 = some ad → S ≤ ad.block
  dvS : ∀ b, dv.ownBlock = some b → b < S
  pvS : ∀ b, pv.ownBlock = some b → b < S
  dp : ∀ b, dv.ownBlock = some b → pv.ownBlock ≠ some b
  PO : ∀ ad, pa = some ad → ad.block < S ∧ dv.ownBlock ≠ some ad.block ∧ pv.ownBlock ≠ some ad.block
  dR : ∀ (i : Nat) (x : Option Addr × Nat), dads[i]? = some x → ∀ ad, x.1 = some ad → rv.ownBlock ≠ some ad.block ∧ pv.ownBlock ≠ some ad.block
  sz : S ≤ w.heap.size
theorem RDone.below {base S : Nat} {rv dv pv : Value} {rads dads : List (Option Addr × Nat)} {rest D : List (List Int)} {piv : List Int} {pa : Option Addr} {P : List Int} {w w' : World} (h : RDone base S rv dv pv rads dads rest D piv pa P w) (hb : Below w.heap.size w w') : RDone base S rv dv pv rads dads rest D piv pa P w' :=
  ⟨h.d.below hb, h.r.below hb, OwnI.below h.p hb, h.P.below hb, h.rS, h.dvS, h.pvS, h.dp, h.PO, h.dR, Nat.le_trans h.sz hb.size⟩
theorem HR.own_lt {base : Nat} {rv : Value} {ads : List (Option Addr × Nat)} {M : List (List Int)} {w : World} (h : HR base rv ads M w) (b : Nat) (e : rv.ownBlock = some b) : base ≤ b ∧ b < w.heap.size := World.ownsRow.lt h.own b e
theorem RDone.start {base S : Nat} {rv lv dv pv : Value} {rads lads dads : List (Option Addr × Nat)} {rest : List (List Int)} {s : Rs} {pa : Option Addr} {P : List Int} {w w' : World} (h : RInv base lv dv pv lads dads s w) (hS : w.heap.size = S) (hb : Below S w w') (hP : Sl w pa P) (hr : HR S rv rads rest w') (hrS : ∀ (i : Nat) (x : Option Addr × Nat), rads[i]? = some x → ∀ ad, x.1 = some ad → S ≤ ad.block)
    (hPO : ∀ ad, pa = some ad → ad.block < S ∧ dv.ownBlock ≠ some ad.block ∧ pv.ownBlock ≠ some ad.block) : RDone base S rv dv pv rads dads rest s.done s.piv pa P w' := by
  subst hS
  refine ⟨h.d.below hb, hr, OwnI.below h.p hb, hP.below hb, hrS, fun b e => (h.d.own_lt b e).2, fun b e => (World.ownsRow.lt h.p b e).2, h.dp, hPO, fun i x e ad ea => ⟨fun e2 => ?_, fun e2 => h.pD _ e2 i x e ad ea rfl⟩, hb.size⟩
  have h1 := (hr.own_lt _ e2).1
  have h2 := (h.d.out i x e ad ea).1
  omega
theorem RDone.stored {base S g n cap : Nat} {rv pv : Value} {rads dads : List (Option Addr × Nat)} {rest D : List (List Int)} {piv : List Int} {pa : Option Addr} {P : List Int} {w : World} (h : RDone base S rv (.slice (some ⟨g, 0, none⟩) n cap) pv rads dads rest D piv pa P w) {i : Nat} (hi : i < D.length) {a : Option Addr} {c : Nat} {r : List Int} (hs : Sl w a r) (ha : ∀ ad, a = some ad → ad.block < w.heap.size ∧ S ≤ ad.block ∧ rv.ownBlock ≠ some ad.block) :
    RDone base S rv (.slice (some ⟨g, 0, none⟩) n cap) pv rads (dads.set i (a, c)) rest (D.set i r) piv pa P (w.setCell ⟨g, i, none⟩ (.slice a r.length c)) := by
  have hg : g < S := h.dvS g rfl
  refine ⟨h.d.stored hi hs (fun ad ea => ⟨(ha ad ea).1, by have := (ha ad ea).2.1; omega⟩), h.r.far (p := ⟨g, i, none⟩) (fun e => by have := (h.r.own_lt _ e).1; simp at this; omega) (fun j x e ad ea => by have := h.rS j x e ad ea; show _ ≠ g; omega) _, row_same h.p fun b e => Below.heap_setCell w _ _ b (by rintro rfl; exact h.dp _ rfl e), sl_apart h.P (fun ad ea => by have := (h.PO ad ea).2.1; intro e; exact this (by rw [e]; rfl)) _, h.rS, h.dvS, h.pvS, h.dp, h.PO, fun j x e ad ea => ?_, by rw [World.size_setCell]; exact h.sz⟩
  by_cases e1 : j = i
  · subst e1
    have hj : j < dads.length := by rw [h.d.len]; exact hi
    rw [List.getElem?_set_self hj] at e
    cases e
    exact ⟨(ha ad ea).2.2, fun e2 => by have := h.pvS _ e2; have := (ha ad ea).2.1; omega⟩
  · rw [List.getElem?_set_ne (Ne.symm e1)] at e
    exact h.dR j x e ad ea
theorem RDone.pushd {base S g cap pc n : Nat} {rv dv pv : Value} {rads dads : List (Option Addr × Nat)} {rest D : List (List Int)} {piv : List Int} {pa : Option Addr} {P : List Int} {w w' : World} {o : Obj} (h : RDone base S rv dv pv rads dads rest D piv pa P w) (hbS : base ≤ S)
    (h1 : HR base (.slice (some ⟨g, 0, none⟩) n cap) (dads ++ [(pa, pc)]) (D ++ [P]) w') (h2 : dv.ownBlock = some g ∨ w.heap.size ≤ g) (h3 : (w.alloc o).grownBy w' dv.ownBlock) :
    RInv base rv (.slice (some ⟨g, 0, none⟩) n cap) pv rads (dads ++ [(pa, pc)]) { done := D ++ [P], left := rest, piv := piv } w' := by
  have hb1 : Below w.heap.size w (w.alloc o) := (Below.refl _ _).alloc (Nat.le_refl _) _
  have hsz := h.sz
  have hsa : (w.alloc o).heap.size = w.heap.size + 1 := World.size_alloc _ _
  have rlt : ∀ b, rv.ownBlock = some b → S ≤ b ∧ b < w.heap.size := h.r.own_lt
  have hg : ∀ b, S ≤ b → b < w.heap.size → g ≠ b := by
    intro b hb1 hb2 e
    rcases h2 with e2 | e2
    · have := h.dvS _ e2; omega
    · omega
  have plt : ∀ b, pv.ownBlock = some b → b < w.heap.size := fun b e => (World.ownsRow.lt h.p b e).2
  have hgp : pv.ownBlock ≠ some g := by
    intro e
    rcases h2 with e2 | e2
    · exact h.dp _ e2 e
    · have := plt _ e; omega
  have e0 : ∀ b, (Value.slice (some ⟨g, 0, none⟩) n cap).ownBlock = some b → b = g := fun b e => by simpa [Value.ownBlock] using e.symm
  refine ⟨((h.r.below hb1).grown h3 (fun b e e2 => by have := h.dvS _ e2; have := (rlt _ e).1; omega) (fun i x e ad ea e2 => by have := h.dvS _ e2; have := h.rS i x e ad ea; omega)).mono hbS, h1, row_same (OwnI.below h.p hb1) fun b e => h3.block b (by rw [hsa]; have := plt b e; omega) (fun e2 => h.dp b e2.symm e), ?_, ?_, ?_, ?_, ?_, ?_, ?_⟩
  · intro b e e2
    have := e0 _ e2
    exact hg b (rlt b e).1 (rlt b e).2 this.symm
  · intro b e e2
    have := h.pvS _ e2; have := (rlt _ e).1; omega
  · intro b e e2
    rw [e0 _ e] at e2; exact hgp e2
  · intro b e i x ex ad ea e2
    rcases get_snoc ex with ex | ⟨_, rfl⟩
    · exact (h.dR i x ex ad ea).1 (by rw [e2]; exact e)
    · have := (h.PO ad ea).1; have := (rlt _ e).1; omega
  · intro b e i x ex ad ea e2
    rw [e0 _ e] at e2
    exact hg ad.block (h.rS i x ex ad ea) (h.r.out i x ex ad ea).1 e2.symm
  · intro b e i x ex ad ea e2
    have := h.pvS _ e; have := h.rS i x ex ad ea; omega
  · intro b e i x ex ad ea e2
    rcases get_snoc ex with ex | ⟨_, rfl⟩
    · exact (h.dR i x ex ad ea).2 (by rw [e2]; exact e)
    · exact (h.PO ad ea).2.2 (by rw [e2]; exact e)
theorem RInv.pushp {base g cap n : Nat} {lv dv pv : Value} {lads dads : List (Option Addr × Nat)} {L D : List (List Int)} {piv : List Int} {y : Int} {w w' : World} {o : Obj} (h : RInv base lv dv pv lads dads { done := D, left := L, piv := piv } w)
    (h1 : OwnI w' base (.slice (some ⟨g, 0, none⟩) n cap) (piv ++ [y])) (h2 : pv.ownBlock = some g ∨ w.heap.size ≤ g) (h3 : (w.alloc o).grownBy w' pv.ownBlock) :
    RInv base lv dv (.slice (some ⟨g, 0, none⟩) n cap) lads dads { done := D, left := L, piv := piv ++ [y] } w' := by
  have hb1 : Below w.heap.size w (w.alloc o) := (Below.refl _ _).alloc (Nat.le_refl _) _
  have e0 : ∀ b, (Value.slice (some ⟨g, 0, none⟩) n cap).ownBlock = some b → b = g := fun b e => by simpa [Value.ownBlock] using e.symm
  refine ⟨(h.l.below hb1).grown h3 (fun b e => h.lp b e) (fun i x e ad ea e2 => h.pL _ e2 i x e ad ea rfl), (h.d.below hb1).grown h3 (fun b e => h.dp b e) (fun i x e ad ea e2 => h.pD _ e2 i x e ad ea rfl), h1, h.ld, ?_, ?_, h.lD, h.dL, ?_, ?_⟩
  · intro b e e2
    have e3 := e0 _ e2; subst e3
    rcases h2 with e3 | e3
    · exact h.lp _ e e3
    · have := (h.l.own_lt _ e).2; omega
  · intro b e e2
    have e3 := e0 _ e2; subst e3
    rcases h2 with e3 | e3
    · exact h.dp _ e e3
    · have := (h.d.own_lt _ e).2; omega
  · intro b e i x ex ad ea e2
    have e3 := e0 _ e; subst e3
    rcases h2 with e3 | e3
    · exact h.pL _ e3 i x ex ad ea e2
    · have := (h.l.out i x ex ad ea).1; omega
  · intro b e i x ex ad ea e2
    have e3 := e0 _ e; subst e3
    rcases h2 with e3 | e3
    · exact h.pD _ e3 i x ex ad ea e2
    · have := (h.d.out i x ex ad ea).1; omega
theorem redR_lens (M : List (List Int)) : ∀ D, (redR M D).done.length ≤ D ∧ (redR M D).piv.length ≤ D
  | 0 => by simp [redR, stepsR]
  | D + 1 => by
    have h1 := redR_lens M D
    show (stepR D (redR M D)).done.length ≤ _ ∧ (stepR D (redR M D)).piv.length ≤ _
    unfold stepR
    split
    · omega
    · simp
      omega
def restTo (L : List (List Int)) (P : List Int) (D at_ k : Nat) : List (List Int) := ((L.take k).eraseIdx at_).map fun q => withoutR q P D
theorem restTo_succ {L : List (List Int)} {P : List Int} {D at_ k : Nat} (hk : k < L.length) : restTo L P D at_ (k + 1) = if k = at_ then restTo L P D at_ k else restTo L P D at_ k ++ [withoutR (rowL L k) P D] := by
  have e : L.take (k + 1) = L.take k ++ [rowL L k] := by
    rw [List.take_add_one]; unfold rowL; simp [hk]
  have hl : (L.take k).length = k := by rw [List.length_take]; omega
  unfold restTo
  rw [e]
  split
  · rename_i h
    subst h
    have e3 : (L.take k).eraseIdx k = L.take k := List.eraseIdx_of_length_le (by omega)
    rw [List.eraseIdx_append_of_length_le (by omega), hl, Nat.sub_self, e3]
    simp
  · rename_i h
    by_cases h2 : at_ < k
    · rw [List.eraseIdx_append_of_lt_length (by omega)]; simp
    · rw [List.eraseIdx_of_length_le (by simp; omega), List.eraseIdx_of_length_le (by omega)]; simp
theorem restTo_len (L : List (List Int)) (P : List Int) (D at_ k : Nat) : (restTo L P D at_ k).length ≤ L.length := by
  unfold restTo
  rw [List.length_map]
  exact Nat.le_trans (List.length_eraseIdx_le _ _) (by rw [List.length_take]; omega)
theorem restTo_all (L : List (List Int)) (P : List Int) (D at_ : Nat) : restTo L P D at_ L.length = (L.eraseIdx at_).map fun q => withoutR q P D := by
  unfold restTo; rw [List.take_length]
def doneTo (L : List (List Int)) (P : List Int) (D k : Nat) : List (List Int) := ((L.take k).map fun q => withoutR q P D) ++ L.drop k
theorem doneTo_len (L : List (List Int)) (P : List Int) (D k : Nat) : (doneTo L P D k).length = L.length := by
  unfold doneTo; simp; omega
theorem doneTo_row {L : List (List Int)} {P : List Int} {D k : Nat} (hk : k < L.length) : rowL (doneTo L P D k) k = rowL L k := by
  unfold doneTo rowL
  rw [List.getElem?_append_right (by simp; omega)]
  simp [Nat.min_eq_left (Nat.le_of_lt hk)]
theorem doneTo_set {L : List (List Int)} {P : List Int} {D k : Nat} (hk : k < L.length) : (doneTo L P D k).set k (withoutR (rowL L k) P D) = doneTo L P D (k + 1) := by
  have e : L.take (k + 1) = L.take k ++ [rowL L k] := by
    rw [List.take_add_one]; unfold rowL; simp [hk]
  have e2 : L.drop k = rowL L k :: L.drop (k + 1) := by
    rw [List.drop_eq_getElem_cons hk]; unfold rowL; simp [hk]
  unfold doneTo
  have hl : (List.map (fun q => withoutR q P D) (L.take k)).length = k := by rw [List.length_map, List.length_take]; omega
  rw [e, e2, List.set_append, if_neg (by omega), hl, Nat.sub_self]
  simp
theorem doneTo_zero (L : List (List Int)) (P : List Int) (D : Nat) : doneTo L P D 0 = L := by simp [doneTo]
theorem doneTo_all (L : List (List Int)) (P : List Int) (D : Nat) : doneTo L P D L.length = L.map fun q => withoutR q P D := by simp [doneTo]
def Small7 (N : Nat) (q : List Int) : Prop := ∀ c, c < N → -720000000 ≤ gt q c ∧ gt q c ≤ 720000000
theorem small_own {N D : Nat} {q : List Int} (h : Small7 N q) : Small7 N (ownR q D) := by
  unfold ownR
  split
  · intro c hc
    have e : gt (negL q) c = IntKind.i64.wrap (- gt q c) := by
      unfold gt negL
      rw [List.getElem?_map]
      cases q[c]? <;> rfl
    have := h c hc
    rw [e, wrap_id (by omega) (by omega)]; omega
  · exact h
theorem wip_mid {N D : Nat} {q P : List Int} (hq : q.length = N) (hD : D < N) (h1 : Small7 N q) (h2 : Small7 N P) : ∀ x ∈ wipR q P D, Mid x := by
  intro x hx
  obtain ⟨c, hc, rfl⟩ := List.getElem_of_mem hx
  rw [wipR_len, hq] at hc
  have e := gt_wipR (q := q) (P := P) (D := D) (c := c) (by omega) (h1 c hc) (h2 D hD) (h2 c hc) (h1 D hD)
  have e2 : gt (wipR q P D) c = (wipR q P D)[c]'(by rw [wipR_len]; omega) := by unfold gt; simp [wipR_len, hq, hc]
  rw [← e2, e]
  have b : ∀ {x y : Int}, (-720000000 ≤ x ∧ x ≤ 720000000) → (-720000000 ≤ y ∧ y ≤ 720000000) → -518400000000000000 ≤ x * y ∧ x * y ≤ 518400000000000000 := by
    intro x y hx hy
    have h : (x * y).natAbs ≤ 720000000 * 720000000 := by rw [Int.natAbs_mul]; exact Nat.mul_le_mul (by omega) (by omega)
    omega
  have b1 := b (h1 c hc) (h2 D hD)
  have b2 := b (h2 c hc) (h1 D hD)
  unfold Mid
  omega
end Go.Proofs.YtfnomiingelfaaaGreat
/- What the answers' kernel needs of their reduction. Plain words. Speaks of no program. -/
namespace Go.Proofs.YtfnomiingelfaaaGreat
open Go.RowKit

theorem mem_gt_at {q : List Int} {x : Int} (h : x ∈ q) : ∃ c, c < q.length ∧ gt q c = x := by
  obtain ⟨c, hc, e⟩ := List.getElem_of_mem h
  exact ⟨c, hc, by unfold gt; simp [hc, e]⟩
theorem rowL_of_mem {L : List (List Int)} {q : List Int} (h : q ∈ L) : ∃ t, t < L.length ∧ rowL L t = q := by
  obtain ⟨t, ht, e⟩ := List.getElem_of_mem h
  exact ⟨t, ht, by unfold rowL; simp [ht, e]⟩
theorem red_pre {R N cols : Nat} {M : List (List Int)} (h1 : M.length = R) (h2 : ∀ q ∈ M, q.length = N) (hR : R ≤ 6) (hN : N ≤ cols + 1) (hb1 : ∀ i, i < R → ∀ c, c < cols → -1 ≤ a0 M i c ∧ a0 M i c ≤ 1) (hb2 : ∀ i, i < R → ∀ c, c < N → -1000000 ≤ a0 M i c ∧ a0 M i c ≤ 1000000) :
    (∀ q ∈ M, ∀ x ∈ q, Mid x) ∧ ∀ D, D < N → ∀ q, (q ∈ (redR M D).left ∨ q ∈ (redR M D).done) → Small7 N q := by
  constructor
  · intro q hq x hx
    obtain ⟨t, ht, e⟩ := rowL_of_mem hq
    obtain ⟨c, hc, ec⟩ := mem_gt_at hx
    have := hb2 t (by omega) c (by rw [← h2 q hq]; exact hc)
    unfold a0 at this
    rw [e, ec] at this
    unfold Mid; omega
  · intro D hD q hq
    obtain ⟨A, p, h⟩ := rbar_all h1 h2 hR hb1 hb2 D (by omega) (by omega)
    obtain ⟨k1, k2⟩ := rbar_bd h hR (by omega) hb1 hb2
    rcases hq with hq | hq
    · obtain ⟨t, ht, e⟩ := rowL_of_mem hq
      rw [← e]; exact k2 t ht
    · obtain ⟨t, ht, e⟩ := rowL_of_mem hq
      rw [← e]; exact k1 t (by rw [← h.ld]; exact ht)
structure KF (N : Nat) (s : Rs) : Prop where
  dl : s.done.length = s.piv.length
  rl : ∀ t, t < s.piv.length → (rowL s.done t).length = N
  pk : ∀ t, t < s.piv.length → ∃ p : Nat, gt s.piv t = (p : Int) ∧ p < N
  lc : ∀ t, t ≤ s.piv.length → 1 ≤ lcTo s t ∧ lcTo s t ≤ 720
  pv : ∀ t, t < s.piv.length → 1 ≤ pvR s t ∧ pvR s t ≤ 720000000
  bd : ∀ t, t < s.piv.length → Small7 N (rowL s.done t)
  kl : s.piv.length ≤ 6
theorem kf_of {R N : Nat} {A0 A : Nat → Nat → Int} {p : Nat → Nat} {s : Rs} (g : RBar R N N A0 A p s) (hR : R ≤ 6) (hb : ∀ i, i < R → ∀ c, c < N → -1 ≤ A0 i c ∧ A0 i c ≤ 1) : KF N s := by
  have bd := (rbar_bd (cols := N) g hR (Nat.le_refl N) hb (fun i hi c hc => by have := hb i hi c hc; omega)).1
  have hll := g.ll
  refine ⟨g.ld, fun t ht => g.rd _ (rowL_mem (by rw [g.ld]; exact ht)), fun t ht => ⟨p t, g.pe t ht, g.pz t ht⟩, fun t ht => ?_, fun t ht => ?_, bd, by omega⟩
  · obtain ⟨L, e, h1, h2, _⟩ := g.lc hR hb t ht
    omega
  · rw [g.pv ht]
    have h1 := g.pos t ht
    have h2 := bd t ht (p t) (g.pz t ht)
    omega
theorem KF.q {N : Nat} {s : Rs} (h : KF N s) {t : Nat} (ht : t < s.piv.length) {L : Int} (h1 : 1 ≤ L ∧ L ≤ 720) : 0 ≤ L.tdiv (pvR s t) ∧ L.tdiv (pvR s t) ≤ 720 := by
  have hp := h.pv t ht
  obtain ⟨P, hP⟩ : ∃ P : Nat, pvR s t = (P : Int) := ⟨(pvR s t).natAbs, by omega⟩
  obtain ⟨K, hK⟩ : ∃ K : Nat, L = (K : Int) := ⟨L.natAbs, by omega⟩
  have e : (K : Int).tdiv (P : Int) = ((K / P : Nat) : Int) := by rw [Int.ofNat_tdiv]
  rw [hP, hK, e]
  have := Nat.div_le_self K P
  generalize K / P = z at *
  omega
theorem KF.v {N : Nat} {s : Rs} (h : KF N s) {t f : Nat} (hf : f < N) (ht : t < s.piv.length) {L : Int} (h1 : 1 ≤ L ∧ L ≤ 720) : IntKind.i64.wrap (-gt (rowL s.done t) f) = -gt (rowL s.done t) f ∧ (-518400000000 ≤ rkV s L f t ∧ rkV s L f t ≤ 518400000000) ∧ rkV s L f t = -gt (rowL s.done t) f * L.tdiv (pvR s t) := by
  have b := h.bd t ht f hf
  obtain ⟨q, hq⟩ : ∃ q, L.tdiv (pvR s t) = q := ⟨_, rfl⟩
  have bq := h.q ht h1
  rw [hq] at bq
  have w1 : IntKind.i64.wrap (-gt (rowL s.done t) f) = -gt (rowL s.done t) f := wrap_id (by omega) (by omega)
  have bm : -518400000000 ≤ -gt (rowL s.done t) f * q ∧ -gt (rowL s.done t) f * q ≤ 518400000000 := by
    have h1 : (-gt (rowL s.done t) f * q).natAbs ≤ 720000000 * 720 := by rw [Int.natAbs_mul]; exact Nat.mul_le_mul (by omega) (by omega)
    omega
  have e : rkV s L f t = -gt (rowL s.done t) f * q := by
    unfold rkV; rw [w1, hq, wrap_id (by omega) (by omega)]
  exact ⟨w1, by rw [e]; exact bm, by rw [e, hq]⟩
theorem KF.mid {N : Nat} {s : Rs} (h : KF N s) {f : Nat} (hf : f < N) {L : Int} (h1 : 1 ≤ L ∧ L ≤ 720) : ∀ t, t ≤ s.piv.length → ∀ x ∈ rkTo N s L f t, Mid x
  | 0, _, x, hx => by
    rcases List.mem_or_eq_of_mem_set hx with e | e
    · have := List.eq_of_mem_replicate e; unfold Mid; omega
    · unfold Mid; omega
  | t + 1, ht, x, hx => by
    rcases List.mem_or_eq_of_mem_set hx with e | e
    · exact KF.mid h hf h1 t (by omega) x e
    · have := (h.v hf (t := t) (by omega) h1).2.1
      unfold Mid; omega
def frB (s : Rs) (f t : Nat) : Bool := decide (∀ i, i < t → gt s.piv i ≠ (f : Int))
theorem frB_succ (s : Rs) (f t : Nat) : frB s f (t + 1) = (frB s f t && decide (gt s.piv t ≠ (f : Int))) := by
  unfold frB
  rw [Bool.eq_iff_iff]
  simp only [Bool.and_eq_true, decide_eq_true_eq]
  constructor
  · exact fun h => ⟨fun i hi => h i (by omega), h t (by omega)⟩
  · intro h i hi
    by_cases e : i = t
    · rw [e]; exact h.2
    · exact h.1 i (by omega)
def kerR (s : Rs) (N : Nat) : Nat → List (List Int)
  | 0 => []
  | f + 1 => if frB s f s.piv.length = true then kerR s N f ++ [primR (rkTo N s (lcTo s s.piv.length) f s.piv.length)] else kerR s N f
theorem kerR_len (s : Rs) (N : Nat) : ∀ f, (kerR s N f).length ≤ f
  | 0 => Nat.le_refl _
  | f + 1 => by
    have := kerR_len s N f
    unfold kerR
    split
    · rw [List.length_append]; simp; exact this
    · omega
end Go.Proofs.YtfnomiingelfaaaGreat
/- The answers' basis of a kernel is the program's, and what it is. Plain words. Speaks of no program. -/
namespace Go.Proofs.YtfnomiingelfaaaGreat
open Go.RowKit

theorem gt_upTo {n c : Nat} (h : c < n) : gt (upTo n) c = (c : Int) := by unfold upTo gt; simp [h]
theorem pix_all {m : List (List Int)} (hr : ∀ q ∈ m, q.length = colsM m) : pixM (upTo (colsM m)) m = m := by
  unfold pixM
  conv => rhs; rw [← List.map_id m]
  refine List.map_congr_left fun q hq => ?_
  refine list_gt (by show _ = q.length; unfold pixR; rw [List.length_map, upTo_len, hr q hq]) fun t ht => ?_
  have ht : t < colsM m := by rw [pixR_len, upTo_len] at ht; exact ht
  rw [gt_pixR (by rw [upTo_len]; exact ht), gt_upTo ht]
  rfl
theorem freeTo_succ (pz : List Int) (k : Nat) : freeTo pz (k + 1) = if (k : Int) ∈ pz then freeTo pz k else freeTo pz k ++ [(k : Int)] := rfl
theorem frB_mem (s : Rs) (f : Nat) : frB s f s.piv.length = decide ((f : Int) ∉ s.piv) := by
  unfold frB
  rw [decide_eq_decide]
  constructor
  · intro h hm
    obtain ⟨t, ht, e⟩ := mem_gt.mp hm
    exact h t ht e
  · intro h i hi e
    exact h (mem_gt.mpr ⟨i, hi, e⟩)
theorem ker_same {M : List (List Int)} {N : Nat} {r : Rd} (hM : M.length ≤ 6) (h2 : ∀ q ∈ M, q.length = N) (hb : ∀ i, i < M.length → ∀ c, c < N → -1 ≤ a0 M i c ∧ a0 M i c ≤ 1) (h : RFin M.length N N (a0 M) r) :
    (redR M N).piv = r.piv ∧ ∀ f, f ≤ N → kerR (redR M N) N f = (freeTo r.piv f).map fun c => shortL (kvec r N c.toNat) := by
  obtain ⟨A, p, g⟩ := rbar_all (cols := N) rfl h2 hM hb (fun i hi c hc => by have := hb i hi c hc; omega) N (Nat.le_refl _) (by omega)
  obtain ⟨e1, _, _⟩ := red_agree h (Nat.le_refl N) g h.low
  refine ⟨e1, fun f => ?_⟩
  induction f with
  | zero => intro _; rfl
  | succ f ih =>
    intro hf
    have ih := ih (by omega)
    rw [kerR, freeTo_succ, frB_mem, e1]
    by_cases hm : (f : Int) ∈ r.piv
    · simp only [hm, not_true_eq_false, decide_false, Bool.false_eq_true, if_false, if_true]; exact ih
    · have k := ker_agree h g hM hb (f := f) (by omega) hm
      rw [e1] at k
      simp only [hm, not_false_eq_true, decide_true, if_true, if_false]
      rw [ih, k, List.map_append]
      rfl
theorem basis_fin {m : List (List Int)} (hv : validM m = true) : RFin m.length (colsM m) (colsM m) (a0 m) (redN m (upTo (colsM m))) := by
  have h := redN_fin hv (px := upTo (colsM m)) (fun j hj => upTo_in hj)
  rw [upTo_len, pix_all (fun q hq => ((validM_of hv).2.2.2.2 q hq).1)] at h
  exact h
theorem free_count {R N cols : Nat} {A0 : Nat → Nat → Int} {r : Rd} (h : RFin R N cols A0 r) : ∀ k, k ≤ cols → ∃ j, j ≤ r.piv.length ∧ (freeTo r.piv k).length + j = k ∧ (∀ t, t < j → pivN r t < k) ∧ ∀ t, j ≤ t → t < r.piv.length → k ≤ pivN r t
  | 0, _ => ⟨0, Nat.zero_le _, rfl, fun t ht => absurd ht (by omega), fun t _ _ => Nat.zero_le _⟩
  | k + 1, hk => by
    obtain ⟨j, h1, h2, h3, h4⟩ := free_count h k (by omega)
    rw [freeTo_succ]
    by_cases hm : (k : Int) ∈ r.piv
    · obtain ⟨t, ht, e⟩ := h.mem.mp hm
      have hj : j = t := by
        by_cases h5 : t < j
        · have := h3 t h5; omega
        · by_cases h6 : j = t
          · exact h6
          · have := h.asc j t (by omega) ht
            have := h4 j (Nat.le_refl _) (by omega)
            omega
      subst hj
      refine ⟨j + 1, by omega, by rw [if_pos hm]; omega, fun t ht => ?_, fun t h5 h6 => ?_⟩
      · by_cases e2 : t = j
        · subst e2; omega
        · have := h3 t (by omega); omega
      · have := h.asc j t (by omega) h6; omega
    · refine ⟨j, h1, by rw [if_neg hm, List.length_append, List.length_singleton]; omega, fun t ht => by have := h3 t ht; omega, fun t h5 h6 => ?_⟩
      have h7 := h4 t h5 h6
      by_cases e : pivN r t = k
      · exact absurd (h.mem.mpr ⟨t, h6, e⟩) hm
      · omega
theorem RFin.count {R N cols : Nat} {A0 : Nat → Nat → Int} {r : Rd} (h : RFin R N cols A0 r) : r.piv.length + (freeTo r.piv cols).length = cols := by
  obtain ⟨j, h1, h2, _, h4⟩ := free_count h cols (Nat.le_refl _)
  by_cases e : j < r.piv.length
  · have := h4 j (Nat.le_refl _) e
    have := h.pivN_lt e
    omega
  · omega
theorem RFin.kvec_ker {R N : Nat} {A0 : Nat → Nat → Int} {r : Rd} (h : RFin R N N A0 r) (hR : R ≤ 6) {f : Nat} (hf : f < N) (hn : (f : Int) ∉ r.piv) : ∀ i, i < R → sumTo (fun c => A0 i c * gt (kvec r N f) c) N = 0 := by
  refine (h.ker' h.low fun c => gt (kvec r N f) c).mpr fun t ht => ?_
  have hp := h.pivN_lt ht
  have hne : f ≠ pivN r t := fun e => hn (h.mem.mpr ⟨t, ht, e.symm⟩)
  have e0 : ∀ c, c < N → c ≠ f → c ≠ pivN r t → gt (rowL r.rows t) c * gt (kvec r N f) c = 0 := fun c hc e1 e2 => by
    by_cases hm : (c : Int) ∈ r.piv
    · obtain ⟨s, hs, e⟩ := h.mem.mp hm
      have := h.self s t hs ht
      rw [e, if_neg (fun e3 => e2 (by rw [e3]; exact e.symm))] at this
      rw [this, Int.zero_mul]
    · rw [h.kvec_else hR (Nat.le_refl _) hf hn hc e1 hm, Int.mul_zero]
  have hs := h.self t t ht ht
  rw [if_pos rfl] at hs
  have goal : gt (rowL r.rows t) f * gt (kvec r N f) f + gt (rowL r.rows t) (pivN r t) * gt (kvec r N f) (pivN r t) = 0 := by
    rw [hs, h.kvec_free hR (Nat.le_refl _) hf hn, h.kvec_piv hR (Nat.le_refl _) hf hn ht]; grind
  rcases Nat.lt_or_ge f (pivN r t) with h1 | h1
  · rw [sumPair h1 N (by omega) fun c hc a b => e0 c hc a b]; exact goal
  · rw [sumPair (s := pivN r t) (t := f) (by omega) N (by omega) fun c hc a b => e0 c hc b a]; omega
theorem gt_short {v : List Int} {c : Nat} (hc : c < v.length) : gt v c = ((gcdL v : Nat) : Int) * gt (shortL v) c := by
  by_cases h : gcdL v = 0
  · rw [gcdTo_zero _ h c hc, h]; simp
  · have := gt_primR hc
    rw [primR_short h, show max (gcdL v) 1 = gcdL v by omega] at this
    exact this
theorem short_len (v : List Int) : (shortL v).length = v.length := by simp [shortL]
end Go.Proofs.YtfnomiingelfaaaGreat
/- Reduced of the answers: the contract. -/
namespace Go.Proofs.YtfnomiingelfaaaGreat
open Go.RowKit

set_option maxRecDepth 1000000 in
set_option maxHeartbeats 4000000 in
theorem reduced_any (a : Option Addr) (M : List (List Int)) (cap N : Nat) (w : World) (hl : M.length ≤ 100) (hN : N ≤ 1000) (hr : ∀ q ∈ M, q.length = N) (hx : ∀ q ∈ M, ∀ x ∈ q, Mid x) (hbd : ∀ D, D < N → ∀ q, (q ∈ (redR M D).left ∨ q ∈ (redR M D).done) → Small7 N q) (hs : Ms w a M) :
    Calls Tryz.prog 134 #[.slice a M.length cap] w fun e w' => ∃ ad c pa pc, e = .returned (.tuple #[.slice ad (redR M N).done.length c, .slice pa (redR M N).piv.length pc]) ∧ Ms w' ad (redR M N).done ∧ Sl w' pa (redR M N).piv ∧ Below w.heap.size w w' := by
  have HS := Lib.hid hs; clear hs
  have HBD := Lib.hid hbd; clear hbd
  have HX := Lib.hid hx; clear hx
  have HR0 := Lib.hid hr; clear hr
  obtain ⟨n, hn⟩ : ∃ n, M.length = n := ⟨_, rfl⟩
  have HN := Lib.hid hn
  rw [hn] at hl ⊢
  clear hn
  go_enter Tryz.func134, Tryz.ntmps134
  go_wp2
  go_loopw [4, 21] (fun v i wr => ∃ (k : Nat) (ads : List (Option Addr × Nat)), k ≤ n ∧ i = .int .i64 k ∧ HR w.heap.size v ads ((M.map primR).take k) wr ∧ Below w.heap.size w wr) (fun _ i _ => n - (intOf i).toNat)
  case atStart => exact ⟨0, [], Nat.zero_le _, rfl, HR.nil _ _, Below.refl _ _⟩
  case round =>
    obtain ⟨k, ads, hk, rfl, hO, hB⟩ := hrel
    have HO := Lib.hid hO; clear hO
    have HB := Lib.hid hB; clear hB
    by_cases hlt : k < n
    · have hkM : k < M.length := by rw [HN.out]; exact hlt
      obtain ⟨b, off, ai, ci, rfl, hcell, hsl⟩ := HS.out k hkM
      have e2 : M[k]? = some M[k] := by simp [hkM]
      rw [e2] at hcell hsl
      obtain ⟨q, hq⟩ : ∃ q, M[k] = q := ⟨_, rfl⟩
      have hqM : q ∈ M := by rw [← hq]; exact List.getElem_mem hkM
      have HQN : Hid (q.length = N) := HR0.out q hqM
      have HQX := Lib.hid (HX.out q hqM)
      have HT : Hid ((M.map primR).take (k + 1) = (M.map primR).take k ++ [primR q]) := by
        show _ = _
        rw [List.take_add_one]
        congr 1
        simp [hkM, hq]
      rw [hq] at hcell hsl e2
      have HSL : Hid (Sl wr ai q) := hsl.below HB.out
      have hc2 : wr.cell? ⟨b, off + k, none⟩ = some (.slice ai q.length ci) := (HB.out.cell (p := ⟨b, off + k, none⟩) (cell_lt hcell)).trans hcell
      clear hcell hsl hq e2
      go_wp2_with fail
      refine (primitive_any ai q ci wr (by rw [HQN.out]; exact hN) HQX.out HSL.out).mono ?_
      rintro e w9 ⟨v9, rfl, ho9, hb9⟩
      obtain ⟨a9, c9, rfl, s9, l9⟩ := ho9.parts
      have HO9 := Lib.hid (HO.out.below hb9)
      have HB9 : Hid (Below w.heap.size w w9) := HB.out.trans (hb9.mono HB.out.size)
      have HS9 := Lib.hid s9; clear s9
      have HA9 : Hid (∀ ad, a9 = some ad → ad.block < w9.heap.size ∧ u4.ownBlock ≠ some ad.block) := fun ad e => ⟨(l9 ad e).1, fun e2 => by have := World.ownsRow.lt HO.out.own _ e2; have := (l9 ad e).2; omega⟩
      obtain ⟨L, hLL⟩ : ∃ L, (M.map primR).take k = L := ⟨_, rfl⟩
      rw [hLL] at HO9 HT
      have HL : Hid (L.length ≤ 100000) := by show _ ≤ _; rw [← hLL, List.length_take]; omega
      clear ho9 hb9 l9 hLL
      go_wp2_with (at_builtin; go_must (refine wpList_pushHR rfl (.tmp 25) (.tmp 28) rfl w.heap.size _ ads L (primR q) _ rfl a9 c9 _ _ _ rfl rfl rfl HO9.out HS9.out HA9.out HL.out HB9.out.size ?_); intro g cap' w10 ho' _ hb' _)
      go_roundw
      case rel => exact ⟨k + 1, _, by omega, by go_num, by rw [HT.out]; exact ho', HB9.out.trans hb'⟩
      case measure => simp [intOf]; omega
    · obtain rfl : k = n := by omega
      have HE : Hid ((M.map primR).take k = M.map primR) := by show _ = _; rw [List.take_of_length_le]; simp; exact Nat.le_of_eq HN.out
      have HO1 : Hid (RInv w.heap.size u4 (.slice none 0 0) (.slice none 0 0) ads [] (redR M 0) wr) := by have := HO.out; rw [HE.out] at this; exact RInv.start this
      clear HO HE
      go_wp2
      go_loopw [4, 5, 8, 9] (fun lv dv pv i wr => ∃ (D : Nat) (lads dads : List (Option Addr × Nat)), D ≤ N ∧ i = .int .i64 D ∧ RInv w.heap.size lv dv pv lads dads (redR M D) wr ∧ Below w.heap.size w wr) (fun _ _ _ i _ => N - (intOf i).toNat)
      case atStart => exact ⟨0, ads, [], Nat.zero_le _, rfl, HO1.out, HB.out⟩
      case round =>
        clear HO1 HB
        obtain ⟨D, lads, dads, hD, rfl, hI, hB⟩ := hrel
        have HI := Lib.hid hI; clear hI
        have HB := Lib.hid hB; clear hB
        have fin : Hid (∀ dv pv, HR w.heap.size dv dads (redR M N).done wr → OwnI wr w.heap.size pv (redR M N).piv → ∃ ad c pa pc, Ending.returned (.tuple #[dv, pv]) = Ending.returned (.tuple #[.slice ad (redR M N).done.length c, .slice pa (redR M N).piv.length pc]) ∧ Ms wr ad (redR M N).done ∧ Sl wr pa (redR M N).piv ∧ Below w.heap.size w wr) := by
          intro dv pv h1 h2
          obtain ⟨ad, c, rfl, hm⟩ := h1.ms
          obtain ⟨pa, pc, rfl, hp⟩ := h2.any
          exact ⟨ad, c, pa, pc, rfl, hm, hp, HB.out⟩
        rcases HI.out.l.shape with ⟨rfl, hL0⟩ | ⟨g, lcap, rfl, hg1, hg2⟩
        · have HE : Hid (redR M N = redR M D) := by
            show _ = _
            have := redR_stop hL0 (N - D)
            rw [show D + (N - D) = N by omega] at this; exact this
          clear hL0
          go_wp2
          go_ret2
          exact fin.out _ _ (by rw [HE.out]; exact HI.out.d) (by rw [HE.out]; exact HI.out.p)
        · have HRL : Hid (∀ q ∈ (redR M D).left, q.length = N) := (redR_rows HR0.out D).1
          obtain ⟨ln, hln⟩ : ∃ ln, (redR M D).left.length = ln := ⟨_, rfl⟩
          have HLN := Lib.hid hln
          have hln100 : ln ≤ 100 := by have := redR_left M D; rw [HN.out] at this; omega
          rw [hln] at HI ⊢
          clear hln
          by_cases h0 : ln = 0
          · subst h0
            have HE : Hid (redR M N = redR M D) := by
              show _ = _
              have := redR_stop (List.eq_nil_of_length_eq_zero HLN.out) (N - D)
              rw [show D + (N - D) = N by omega] at this; exact this
            go_wp2
            go_ret2
            exact fin.out _ _ (by rw [HE.out]; exact HI.out.d) (by rw [HE.out]; exact HI.out.p)
          · have hln0 : (0 : Int) < (ln : Int) := by omega
            obtain ⟨a0, c0, _, hc0, _, _, _⟩ := HI.out.l.at (i := 0) (by rw [HLN.out]; omega)
            rw [HRL.out _ (rowL_mem (by rw [HLN.out]; omega))] at hc0
            by_cases hDN : D < N
            · have hDN0 : (D : Int) < (N : Int) := by omega
              go_wp2
              go_loopw [10, 46] (fun c i wr2 => ∃ k : Nat, k ≤ ln ∧ i = .int .i64 k ∧ c = .int .i64 (atZ (redR M D).left D k) ∧ wr2 = wr) (fun _ i _ => ln - (intOf i).toNat)
              case atStart => exact ⟨0, Nat.zero_le _, rfl, rfl, rfl⟩
              case round =>
                obtain ⟨k2, hk2, rfl, rfl, rfl⟩ := hrel
                by_cases hlt2 : k2 < ln
                · have hkL : k2 < (redR M D).left.length := by rw [HLN.out]; exact hlt2
                  have hrn := HRL.out _ (rowL_mem hkL)
                  obtain ⟨ak, ck, _, hck, _, hsk, _⟩ := HI.out.l.at hkL
                  obtain ⟨b, off, x, rfl, hcell, hx⟩ := hsk.at (k := D) (by rw [hrn]; exact hDN)
                  have HZ := Lib.hid (atZ_succ (redR M D).left D k2)
                  have hg := gt_some' hx.out
                  rw [hg] at HZ
                  rw [hrn] at hck
                  clear hsk hx hg hrn hkL
                  obtain ⟨z, hz⟩ : ∃ z, atZ (redR M D).left D k2 = z := ⟨_, rfl⟩
                  rw [hz] at HZ ⊢
                  clear hz
                  by_cases hx0 : x = 0
                  · subst hx0
                    have HZ1 : Hid (atZ (redR M D).left D (k2 + 1) = z) := by show _ = _; rw [HZ.out]; simp
                    clear HZ
                    go_wp2
                    go_roundw
                    case rel => exact ⟨k2 + 1, by omega, by go_num, by rw [HZ1.out], trivial⟩
                    case measure => simp [intOf]; omega
                  · have HZ1 : Hid (atZ (redR M D).left D (k2 + 1) = (k2 : Int)) := by show _ = _; rw [HZ.out, if_pos hx0]
                    have y0 : (x == 0) = false := by simpa using hx0
                    have y1 : (x != 0) = true := by simpa using hx0
                    clear HZ
                    go_wp2
                    go_roundw
                    case rel => exact ⟨k2 + 1, by omega, by go_num, by rw [HZ1.out], trivial⟩
                    case measure => simp [intOf]; omega
                · obtain rfl : k2 = ln := by omega
                  cases hlast : lastR (redR M D).left D k2 with
                  | none =>
                    have hz : atZ (redR M D).left D k2 = -1 := by unfold atZ; rw [hlast]
                    have HS1 : Hid (redR M (D + 1) = redR M D) := by
                      show stepR D (redR M D) = _
                      unfold stepR
                      rw [HLN.out, hlast]
                    clear hlast
                    rw [hz]
                    clear hz
                    go_wp2
                    go_roundw
                    case rel => exact ⟨D + 1, lads, dads, by omega, by go_num, by rw [HS1.out]; exact HI.out, HB.out⟩
                    case measure => simp [intOf]; omega
                  | some at_ =>
                    have hz : atZ (redR M D).left D k2 = (at_ : Int) := by unfold atZ; rw [hlast]
                    have hat1 : at_ < k2 := (lastR_some hlast).1
                    have hat2 : gt (rowL (redR M D).left at_) D ≠ 0 := (lastR_some hlast).2
                    have HS1 : Hid (redR M (D + 1) = { done := ((redR M D).done.map fun q => withoutR q (ownR (rowL (redR M D).left at_) D) D) ++ [ownR (rowL (redR M D).left at_) D], left := ((redR M D).left.eraseIdx at_).map fun q => withoutR q (ownR (rowL (redR M D).left at_) D) D, piv := (redR M D).piv ++ [(D : Int)] }) := by
                      show stepR D (redR M D) = _
                      unfold stepR
                      rw [HLN.out, hlast]
                    have hatL : at_ < (redR M D).left.length := by rw [HLN.out]; exact hat1
                    have hrn := HRL.out _ (rowL_mem hatL)
                    obtain ⟨aA, cA, hadA, hcA, _, hsA, hfA⟩ := HI.out.l.at hatL
                    have HADA := Lib.hid hadA
                    rw [hrn] at hcA
                    obtain ⟨P0, hP0⟩ : ∃ P0, rowL (redR M D).left at_ = P0 := ⟨_, rfl⟩
                    rw [hP0] at HS1 hat2 hsA hrn
                    obtain ⟨bA, oA, x, rfl, hcell, hxx⟩ := hsA.at (k := D) (by rw [hrn]; exact hDN)
                    have hgx := gt_some' hxx.out
                    rw [hgx] at hat2
                    have HRN := Lib.hid hrn
                    have HSA := Lib.hid hsA
                    have HFA := Lib.hid hfA
                    have HGX := Lib.hid hgx
                    have HP0 := Lib.hid hP0
                    rw [hz]
                    clear hz hlast hatL hrn hsA hfA hgx hP0 hxx hadA
                    have hat0 : (at_ : Int) < (k2 : Int) := by omega
                    have HRD : Hid (∀ q ∈ (redR M D).done, q.length = N) := (redR_rows HR0.out D).2
                    have HSM := Lib.hid (HBD.out D hDN)
                    have HPN : Hid ((ownR P0 D).length = N) := by show _ = _; rw [ownR_len]; exact HRN.out
                    have HPS7 : Hid (Small7 N (ownR P0 D)) := small_own (HSM.out P0 (.inl (by rw [← HP0.out]; exact rowL_mem (by rw [HLN.out]; exact hat1))))
                    have HLM : Hid ((redR M D).left.length ≤ 100) := by show _ ≤ _; rw [HLN.out]; exact hln100
                    obtain ⟨da, dn, dcap, rfl, HDN, HDA⟩ : ∃ (da : Option Addr) (dn dcap : Nat), u5 = .slice da dn dcap ∧ Hid ((redR M D).done.length = dn) ∧ Hid (0 < dn → ∃ g2, da = some ⟨g2, 0, none⟩) := by
                      rcases HI.out.d.shape with ⟨e, h0⟩ | ⟨g2, c2, e, _, _⟩
                      · exact ⟨none, 0, 0, e, by show _ = _; rw [h0]; rfl, fun h => absurd h (Nat.lt_irrefl _)⟩
                      · exact ⟨_, _, _, e, rfl, fun _ => ⟨g2, rfl⟩⟩
                    have HDM : Hid ((redR M D).done.length ≤ 100000) := by show _ ≤ _; have := (redR_lens M D).1; omega
                    have hdn : dn ≤ 1000 := by rw [← HDN.out]; have := (redR_lens M D).1; omega
                    have HPM : Hid ((redR M D).piv.length ≤ 100000) := by show _ ≤ _; have := (redR_lens M D).2; omega
                    have HLT : Hid (∀ k, k < k2 → ∃ ak ck, wr.cell? ⟨g, k, none⟩ = some (.slice ak N ck) ∧ Sl wr ak (rowL (redR M D).left k)) := fun k hk => by
                      have hk2 : k < (redR M D).left.length := by rw [HLN.out]; exact hk
                      obtain ⟨ak, ck, _, h1, _, h2, _⟩ := HI.out.l.at hk2
                      rw [HRL.out _ (rowL_mem hk2)] at h1
                      exact ⟨ak, ck, h1, h2⟩
                    have HQL : Hid (∀ k, k < k2 → (rowL (redR M D).left k).length = N ∧ Small7 N (rowL (redR M D).left k)) := fun k hk => by
                      have hk2 : k < (redR M D).left.length := by rw [HLN.out]; exact hk
                      exact ⟨HRL.out _ (rowL_mem hk2), HSM.out _ (.inl (rowL_mem hk2))⟩
                    have HQD : Hid (∀ k, k < dn → (rowL (redR M D).done k).length = N ∧ Small7 N (rowL (redR M D).done k)) := fun k hk => by
                      have hk2 : k < (redR M D).done.length := by rw [HDN.out]; exact hk
                      exact ⟨HRD.out _ (rowL_mem hk2), HSM.out _ (.inr (rowL_mem hk2))⟩
                    have HPL0 : Hid (P0.length = N) := HRN
                    by_cases hneg : x < 0
                    case' pos =>
                      have HC1 : Hid (Calls Tryz.prog 118 #[.slice (some ⟨bA, oA, none⟩) N cA, .int .i64 (-1)] wr fun e w' => ∃ v, e = .returned v ∧ OwnI w' wr.heap.size v (ownR P0 D) ∧ Below wr.heap.size wr w') := by
                        have h := scaled_any (some ⟨bA, oA, none⟩) P0 cA wr (by rw [HPL0.out]; exact hN) HSA.out
                        have e : ownR P0 D = negL P0 := by unfold ownR; rw [HGX.out, if_pos hneg]
                        rw [HPL0.out] at h
                        rw [e]; exact h
                      go_wp2_with fail
                      refine HC1.out.mono ?_
                      rintro e w9 ⟨v9, rfl, ho9, hb9⟩
                      obtain ⟨pa, pc, rfl, s9, l9⟩ := ho9.parts
                      rw [HPN.out]
                      have HRI := Lib.hid (HI.out.below hb9)
                      have HPS := Lib.hid s9
                      have HPO : Hid (∀ ad, pa = some ad → ad.block < w9.heap.size ∧ (Value.slice da dn dcap).ownBlock ≠ some ad.block ∧ u8.ownBlock ≠ some ad.block) := fun ad e => ⟨(l9 ad e).1, fun e2 => by have := (HI.out.d.own_lt _ e2).2; have := (l9 ad e).2; omega, fun e2 => by have := (World.ownsRow.lt HI.out.p _ e2).2; have := (l9 ad e).2; omega⟩
                      have HBW : Hid (Below w.heap.size w w9) := HB.out.trans (hb9.mono HB.out.size)
                      have HLT9 : Hid (∀ k, k < k2 → ∃ ak ck, w9.cell? ⟨g, k, none⟩ = some (.slice ak N ck) ∧ Sl w9 ak (rowL (redR M D).left k)) := fun k hk => by
                        obtain ⟨ak, ck, h1, h2⟩ := HLT.out k hk
                        exact ⟨ak, ck, (hb9.cell (p := ⟨g, k, none⟩) (cell_lt h1)).trans h1, h2.below hb9⟩
                      clear ho9 hb9 s9 l9 HC1 HI HB HLT fin hcA hcell
                      go_wp2
                    case' neg =>
                      have hpn : ownR P0 D = P0 := by unfold ownR; rw [HGX.out, if_neg hneg]
                      have HPN2 := Lib.hid hpn; clear hpn
                      go_wp2_with fail
                      obtain ⟨w9, hw9⟩ : ∃ w9, w9 = wr := ⟨_, rfl⟩
                      subst hw9
                      obtain ⟨pa, hpa⟩ : ∃ pa, some (⟨bA, oA, none⟩ : Addr) = pa := ⟨_, rfl⟩
                      obtain ⟨pc, hpc⟩ : ∃ pc, cA = pc := ⟨_, rfl⟩
                      have HRI := HI
                      have HPS : Hid (Sl w9 pa (ownR P0 D)) := by show Sl _ _ _; rw [HPN2.out, ← hpa]; exact HSA.out
                      have HPO : Hid (∀ ad, pa = some ad → ad.block < w9.heap.size ∧ (Value.slice da dn dcap).ownBlock ≠ some ad.block ∧ u8.ownBlock ≠ some ad.block) := fun ad e => ⟨(HFA.out ad (hpa.trans e)).1, fun e2 => HI.out.dL _ e2 at_ _ HADA.out ad (hpa.trans e) rfl, fun e2 => HI.out.pL _ e2 at_ _ HADA.out ad (hpa.trans e) rfl⟩
                      have HBW := HB
                      have HLT9 := HLT
                      rw [hpa, hpc]
                      clear HI HB HLT fin hcA hcell hpa hpc HPN2
                    all_goals
                      obtain ⟨P, hP⟩ : ∃ P, ownR P0 D = P := ⟨_, rfl⟩
                      rw [hP] at HS1 HPN HPS7 HPS
                      clear hP
                      obtain ⟨S, hS⟩ : ∃ S, w9.heap.size = S := ⟨_, rfl⟩
                      have HSZ := Lib.hid hS; clear hS
                      have HBS0 : Hid (w.heap.size ≤ S) := by show _ ≤ _; rw [← HSZ.out]; exact HBW.out.size
                      have HGS : Hid (g < S) := by show _ < _; rw [← HSZ.out]; exact (HRI.out.l.own_lt g rfl).2
                      go_loopw [14, 73] (fun rv i wr2 => ∃ (k : Nat) (rads : List (Option Addr × Nat)), k ≤ k2 ∧ i = .int .i64 k ∧ HR S rv rads (restTo (redR M D).left P D at_ k) wr2 ∧ (∀ (i : Nat) (x : Option Addr × Nat), rads[i]? = some x → ∀ ad, x.1 = some ad → S ≤ ad.block) ∧ Below S w9 wr2) (fun _ i _ => k2 - (intOf i).toNat)
                      case atStart => exact ⟨0, [], Nat.zero_le _, rfl, HR.nil _ _, fun i x e => by simp at e, Below.refl _ _⟩
                      case round =>
                        obtain ⟨k, rads, hk, rfl, hO, hG, hB⟩ := hrel
                        have HO := Lib.hid hO; clear hO
                        have HG := Lib.hid hG; clear hG
                        have HB := Lib.hid hB; clear hB
                        by_cases hlt : k < k2
                        · obtain ⟨ak, ck, hck, hsk⟩ := HLT9.out k hlt
                          have hcell : wr.cell? ⟨g, k, none⟩ = some (.slice ak N ck) := (HB.out.cell (p := ⟨g, k, none⟩) HGS.out).trans hck
                          have HR1 := Lib.hid (restTo_succ (L := (redR M D).left) (P := P) (D := D) (at_ := at_) (k := k) (by rw [HLN.out]; exact hlt))
                          by_cases hka : k = at_
                          · have y0 : ((k : Int) == (at_ : Int)) = true := by simp [hka]
                            have y1 : ((k : Int) != (at_ : Int)) = false := by simp [hka]
                            have HR2 : Hid (restTo (redR M D).left P D at_ (k + 1) = restTo (redR M D).left P D at_ k) := by show _ = _; rw [HR1.out, if_pos hka]
                            clear HR1 hka
                            go_wp2
                            go_roundw
                            case rel => exact ⟨k + 1, rads, by omega, by go_num, by rw [HR2.out]; exact HO.out, HG.out, HB.out⟩
                            case measure => simp [intOf]; omega
                          · have y0 : ((k : Int) == (at_ : Int)) = false := by simpa using fun e : (k : Int) = (at_ : Int) => hka (by omega)
                            have y1 : ((k : Int) != (at_ : Int)) = true := by simpa using fun e : (k : Int) = (at_ : Int) => hka (by omega)
                            have HR2 : Hid (restTo (redR M D).left P D at_ (k + 1) = restTo (redR M D).left P D at_ k ++ [withoutR (rowL (redR M D).left k) P D]) := by show _ = _; rw [HR1.out, if_neg hka]
                            have HC2 : Hid (Calls Tryz.prog 151 #[.slice ak N ck, .slice pa N pc, .int .i64 (D : Int)] wr fun e w' => ∃ v, e = .returned v ∧ OwnI w' wr.heap.size v (withoutR (rowL (redR M D).left k) P D) ∧ Below wr.heap.size wr w') := by
                              obtain ⟨q1, q2⟩ := HQL.out k hlt
                              have h := without_any ak (rowL (redR M D).left k) ck pa P pc D wr (by omega) (by rw [HPN.out, q1]) (by omega) (wip_mid q1 hDN q2 HPS7.out) (hsk.below (by rw [HSZ.out]; exact HB.out)) (HPS.out.below (by rw [HSZ.out]; exact HB.out))
                              rw [q1, HPN.out] at h
                              exact h
                            clear HR1 hka hsk hck
                            go_wp2_with fail
                            refine HC2.out.mono ?_
                            rintro e w5 ⟨v5, rfl, ho5, hb5⟩
                            obtain ⟨a5, c5, rfl, s5, l5⟩ := ho5.parts
                            have HO5 := Lib.hid (HO.out.below hb5)
                            have HS5 := Lib.hid s5
                            have HA5 : Hid (∀ ad, a5 = some ad → ad.block < w5.heap.size ∧ u14.ownBlock ≠ some ad.block) := fun ad e => ⟨(l5 ad e).1, fun e2 => by have := (HO.out.own_lt _ e2).2; have := (l5 ad e).2; omega⟩
                            have HSW : Hid (S ≤ wr.heap.size) := by show _ ≤ _; rw [← HSZ.out]; exact HB.out.size
                            have HB5 : Hid (Below S w9 w5) := HB.out.trans (hb5.mono HSW.out)
                            have HG5 : Hid (∀ ad, a5 = some ad → S ≤ ad.block) := fun ad e => Nat.le_trans HSW.out (l5 ad e).2
                            have HLr : Hid ((restTo (redR M D).left P D at_ k).length ≤ 100000) := by show _ ≤ _; have := restTo_len (redR M D).left P D at_ k; have := HLM.out; omega
                            have HS5b : Hid (S ≤ w5.heap.size) := Nat.le_trans HSW.out hb5.size
                            clear ho5 hb5 s5 l5 HC2 hcell
                            go_wp2_with (at_builtin; go_must (refine wpList_pushHR rfl (.tmp 81) (.tmp 86) rfl S _ rads (restTo (redR M D).left P D at_ k) (withoutR (rowL (redR M D).left k) P D) _ rfl a5 c5 _ _ _ rfl rfl rfl HO5.out HS5.out HA5.out HLr.out HS5b.out ?_); intro g' cap' w10 ho' _ hb' _)
                            go_roundw
                            case rel => exact ⟨k + 1, _, by omega, by go_num, by rw [HR2.out]; exact ho', fun i x e ad ea => (get_snoc e).elim (fun e => HG.out i x e ad ea) (fun h => by obtain ⟨_, rfl⟩ := h; exact HG5.out ad ea), HB5.out.trans hb'⟩
                            case measure => simp [intOf]; omega
                        · obtain rfl : k2 = k := by omega
                          have HRA : Hid (restTo (redR M D).left P D at_ k2 = ((redR M D).left.eraseIdx at_).map fun q => withoutR q P D) := by show _ = _; rw [← restTo_all, HLN.out]
                          have HRE : Hid (RDone w.heap.size S u14 (.slice da dn dcap) u8 rads dads (restTo (redR M D).left P D at_ k2) (redR M D).done (redR M D).piv pa P wr) := RDone.start HRI.out HSZ.out HB.out HPS.out HO.out HG.out (fun ad e => ⟨by rw [← HSZ.out]; exact (HPO.out ad e).1, (HPO.out ad e).2⟩)
                          have HBW2 : Hid (Below w.heap.size w wr) := HBW.out.trans (HB.out.mono (by rw [← HSZ.out]; exact HBW.out.size))
                          clear HO HG HB HLT9 HRI HBW HPO HPS
                          go_wp2
                          go_loopw [91] (fun i wr3 => ∃ (k : Nat) (dads : List (Option Addr × Nat)), k ≤ dn ∧ i = .int .i64 k ∧ RDone w.heap.size S u14 (.slice da dn dcap) u8 rads dads (restTo (redR M D).left P D at_ k2) (doneTo (redR M D).done P D k) (redR M D).piv pa P wr3 ∧ Below w.heap.size w wr3) (fun i _ => dn - (intOf i).toNat)
                          case atStart => exact ⟨0, dads, Nat.zero_le _, rfl, by rw [doneTo_zero]; exact HRE.out, HBW2.out⟩
                          case round =>
                            clear HRE HBW2
                            obtain ⟨k, dads, hk, rfl, hD, hB⟩ := hrel
                            have HRE := Lib.hid hD; clear hD
                            have HB := Lib.hid hB; clear hB
                            by_cases hlt : k < dn
                            · obtain ⟨g2, rfl⟩ := HDA.out (by omega)
                              have hkD : k < (redR M D).done.length := by rw [HDN.out]; exact hlt
                              have hkD2 : k < (doneTo (redR M D).done P D k).length := by rw [doneTo_len]; exact hkD
                              obtain ⟨ak, ck, _, hck, hfk, hsk, _⟩ := HRE.out.d.at hkD2
                              rw [doneTo_row hkD] at hck hsk
                              obtain ⟨q1, q2⟩ := HQD.out k hlt
                              rw [q1] at hck
                              have HC2 : Hid (Calls Tryz.prog 151 #[.slice ak N ck, .slice pa N pc, .int .i64 (D : Int)] wr fun e w' => ∃ v, e = .returned v ∧ OwnI w' wr.heap.size v (withoutR (rowL (redR M D).done k) P D) ∧ Below wr.heap.size wr w') := by
                                have h := without_any ak (rowL (redR M D).done k) ck pa P pc D wr (by omega) (by rw [HPN.out, q1]) (by omega) (wip_mid q1 hDN q2 HPS7.out) hsk HRE.out.P
                                rw [q1, HPN.out] at h
                                exact h
                              have HST := Lib.hid (doneTo_set (L := (redR M D).done) (P := P) (D := D) (k := k) hkD)
                              have HK2 := Lib.hid hkD2
                              clear hkD hkD2 hsk q1 q2
                              have hg2 : g2 < wr.heap.size := cell_lt hck
                              go_wp2_with fail
                              refine HC2.out.mono ?_
                              rintro e w5 ⟨v5, rfl, ho5, hb5⟩
                              obtain ⟨a5, c5, rfl, s5, l5⟩ := ho5.parts
                              have HS5 := Lib.hid s5
                              have hc5 : w5.cell? ⟨g2, k, none⟩ = some (.slice ak N ck) := (hb5.cell (p := ⟨g2, k, none⟩) hg2).trans hck
                              have hf5 : w5.frozen? ⟨g2, k, none⟩ = false := (hb5.frozen (p := ⟨g2, k, none⟩) hg2).trans hfk
                              have HRE5 := Lib.hid (HRE.out.below hb5)
                              have HA5 : Hid (∀ ad, a5 = some ad → ad.block < w5.heap.size ∧ S ≤ ad.block ∧ u14.ownBlock ≠ some ad.block) := fun ad e => ⟨(l5 ad e).1, Nat.le_trans HRE.out.sz (l5 ad e).2, fun e2 => by have := (HRE.out.r.own_lt _ e2).2; have := (l5 ad e).2; omega⟩
                              have HB5 : Hid (Below w.heap.size w w5) := HB.out.trans (hb5.mono HB.out.size)
                              have HGB : Hid (w.heap.size ≤ g2) := (HRE.out.d.own_lt g2 rfl).1
                              clear ho5 hb5 s5 l5 HC2 hck hfk HRE HB
                              go_wp2
                              go_roundw
                              case rel => exact ⟨k + 1, _, by omega, by go_num, by rw [← HST.out]; exact HRE5.out.stored HK2.out HS5.out HA5.out, HB5.out.setCell (p := ⟨g2, k, none⟩) HGB.out _⟩
                              case measure => simp [intOf]; omega
                            · obtain rfl : dn = k := by omega
                              have HDE : Hid (doneTo (redR M D).done P D dn = (redR M D).done.map fun q => withoutR q P D) := by show _ = _; rw [← doneTo_all, HDN.out]
                              have HDL : Hid ((doneTo (redR M D).done P D dn).length = dn) := by show _ = _; rw [doneTo_len, HDN.out]
                              have HDM2 : Hid ((doneTo (redR M D).done P D dn).length ≤ 100000) := by show _ ≤ _; rw [HDL.out, ← HDN.out]; exact HDM.out
                              have HPO2 : Hid (∀ ad, pa = some ad → ad.block < wr.heap.size ∧ (Value.slice da dn dcap).ownBlock ≠ some ad.block) := fun ad e => ⟨Nat.lt_of_lt_of_le (HRE.out.PO ad e).1 HRE.out.sz, (HRE.out.PO ad e).2.1⟩
                              have HBS : Hid (w.heap.size ≤ S) := HBS0.out
                              go_wp2_with (first | (at_builtin; refine wpList_pushHR rfl (.tmp 105) (.tmp 107) rfl w.heap.size _ dads (doneTo (redR M D).done P D dn) P N HPN.out pa pc _ _ _ rfl rfl rfl HRE.out.d HRE.out.P HPO2.out HDM2.out HB.out.size ?_; intro g3 cap3 w6 ho6 hx6 hb6 hg6; have HI6 := Lib.hid (HRE.out.pushd HBS.out ho6 hx6 hg6); have HB6 : Hid (Below w.heap.size w w6) := HB.out.trans hb6; clear ho6 hx6 hb6 hg6) | (at_builtin; refine wpList_pushG rfl (.tmp 109) (.tmp 111) rfl w.heap.size u8 (redR M D).piv (D : Int) _ _ _ rfl rfl rfl HI6.out.p HPM.out HB6.out.size ?_; intro g4 cap4 w7 ho7 hx7 hb7 hg7; have HI7 := Lib.hid (HI6.out.pushp ho7 hx7 hg7); have HB7 : Hid (Below w.heap.size w w7) := HB6.out.trans hb7; clear ho7 hx7 hb7 hg7))
                              go_roundw
                              case rel => exact ⟨D + 1, rads, dads ++ [(pa, pc)], by omega, by go_num, by rw [HS1.out, ← HRA.out, ← HDE.out]; exact HI7.out, HB7.out⟩
                              case measure => simp [intOf]; omega
            · obtain rfl : D = N := by omega
              go_wp2
              go_ret2
              exact fin.out _ _ HI.out.d HI.out.p
end Go.Proofs.YtfnomiingelfaaaGreat
/- kernel of the answers: the contract. -/
namespace Go.Proofs.YtfnomiingelfaaaGreat
open Go.RowKit

set_option maxRecDepth 1000000 in
set_option maxHeartbeats 4000000 in
theorem rkernel_any (a : Option Addr) (M : List (List Int)) (cap N : Nat) (w : World) (hM1 : 0 < M.length) (hM6 : M.length ≤ 6) (hN : N ≤ 100) (hr : ∀ q ∈ M, q.length = N) (hb : ∀ i, i < M.length → ∀ c, c < N → -1 ≤ a0 M i c ∧ a0 M i c ≤ 1) (hs : Ms w a M) :
    Calls Tryz.prog 116 #[.slice a M.length cap] w fun e w' => ∃ ka kc, e = .returned (.slice ka (kerR (redR M N) N N).length kc) ∧ Ms w' ka (kerR (redR M N) N N) ∧ Below w.heap.size w w' := by
  obtain ⟨s, hs0⟩ : ∃ s, redR M N = s := ⟨_, rfl⟩
  have HKF : Hid (KF N s) := by
    obtain ⟨A, p, g⟩ := rbar_all (cols := N) rfl hr hM6 hb (fun i hi c hc => by have := hb i hi c hc; omega) N (Nat.le_refl _) (by omega)
    rw [hs0] at g
    exact kf_of g hM6 hb
  have HRD : Hid (Calls Tryz.prog 134 #[.slice a M.length cap] w fun e w' => ∃ ad c pa pc, e = .returned (.tuple #[.slice ad s.done.length c, .slice pa s.piv.length pc]) ∧ Ms w' ad s.done ∧ Sl w' pa s.piv ∧ Below w.heap.size w w') := by
    obtain ⟨p1, p2⟩ := red_pre (cols := N) rfl hr hM6 (by omega) hb (fun i hi c hc => by have := hb i hi c hc; omega)
    have h := reduced_any a M cap N w (by omega) (by omega) hr p1 p2 hs
    rw [hs0] at h
    exact h
  rw [hs0]
  clear hs0 hb
  obtain ⟨n, hn⟩ : ∃ n, M.length = n := ⟨_, rfl⟩
  obtain ⟨b, off, ai, ci, rfl, hcell, hsl⟩ := hs 0 hM1
  have hl0 : (M[0]?.getD []).length = N := hr _ (by simp [List.getElem?_eq_getElem hM1])
  rw [hl0, Nat.add_zero] at hcell
  have HCE := Lib.hid hcell
  have HM0 : Hid (∀ W, Below w.heap.size w W → W.cell? ⟨b, off, none⟩ = some (.slice ai N ci)) := fun W hW => (hW.cell (p := ⟨b, off, none⟩) (cell_lt HCE.out)).trans HCE.out
  rw [hn] at hM1 HRD ⊢
  clear hsl hl0 hcell hn hs hr hM6
  have HDL := Lib.hid HKF.out.dl
  obtain ⟨k, hk⟩ : ∃ k, s.piv.length = k := ⟨_, rfl⟩
  have HK := Lib.hid hk
  rw [HDL.out, hk] at HRD
  have hk6 : k ≤ 6 := by rw [← hk]; exact HKF.out.kl
  have HKL : Hid ((kerR s N N).length ≤ 100000) := by show _ ≤ _; have := kerR_len s N N; omega
  clear hk
  have hn0 : (0 : Int) < (n : Int) := by omega
  obtain ⟨i0, hi, hz0, hz1, hz2⟩ := info_parts Tryz.infoInt
  go_enter Tryz.func116, Tryz.ntmps116
  go_wp2_with fail
  refine HRD.out.mono ?_
  rintro e w1 ⟨ad, dc, pa, pc, rfl, hms, hsl, hbl⟩
  have HMS := Lib.hid hms; clear hms
  have HSL := Lib.hid hsl; clear hsl
  have HB1 := Lib.hid hbl; clear hbl
  have hm0 := HM0.out w1 HB1.out
  clear HRD
  go_wp2
  clear hm0
  go_loopw [5, 25] (fun v i wr => ∃ (f : Nat) (ads : List (Option Addr × Nat)), f ≤ N ∧ i = .int .i64 f ∧ HR w1.heap.size v ads (kerR s N f) wr ∧ Below w1.heap.size w1 wr) (fun _ i _ => N - (intOf i).toNat)
  case atStart => exact ⟨0, [], Nat.zero_le _, rfl, HR.nil _ _, Below.refl _ _⟩
  case round =>
    obtain ⟨f, ads, hf, rfl, hO, hB⟩ := hrel
    have HO := Lib.hid hO; clear hO
    have HB := Lib.hid hB; clear hB
    by_cases hlt : f < N
    · have HF : Hid (kerR s N (f + 1) = if frB s f k = true then kerR s N f ++ [primR (rkTo N s (lcTo s k) f k)] else kerR s N f) := by show kerR s N (f + 1) = _; rw [kerR, HK.out]
      go_wp2
      go_loopw [7, 30] (fun fv i wr2 => ∃ t : Nat, t ≤ k ∧ i = .int .i64 t ∧ fv = .bool (frB s f t) ∧ wr2 = wr) (fun _ i _ => k - (intOf i).toNat)
      case atStart => exact ⟨0, Nat.zero_le _, rfl, by simp [frB], rfl⟩
      case round =>
        obtain ⟨t, ht, rfl, rfl, rfl⟩ := hrel
        by_cases hlt2 : t < k
        · obtain ⟨pb, po, v, hpa, hcv, HV⟩ := (HSL.out.below HB.out).at (k := t) (by rw [HK.out]; exact hlt2)
          subst hpa
          have hgv := gt_some' HV.out
          have hfs := frB_succ s f t
          rw [hgv] at hfs
          have HFS := Lib.hid hfs
          clear hgv hfs
          obtain ⟨fb, hfb⟩ : ∃ fb, frB s f t = fb := ⟨_, rfl⟩
          rw [hfb] at HFS ⊢
          clear hfb
          cases fb with
          | false =>
            have HF1 : Hid (frB s f (t + 1) = false) := by show _ = _; rw [HFS.out]; rfl
            clear HFS
            go_wp2
            go_roundw
            case rel => exact ⟨t + 1, by omega, by go_num, by rw [HF1.out], trivial⟩
            case measure => simp [intOf]; omega
          | true =>
            by_cases hvf : v = (f : Int)
            · have HF1 : Hid (frB s f (t + 1) = false) := by show _ = _; rw [HFS.out, hvf]; simp
              have y0 : (v == (f : Int)) = true := by simp [hvf]
              have y1 : (v != (f : Int)) = false := by simp [hvf]
              clear HFS hvf
              go_wp2
              go_roundw
              case rel => exact ⟨t + 1, by omega, by go_num, by rw [HF1.out], trivial⟩
              case measure => simp [intOf]; omega
            · have HF1 : Hid (frB s f (t + 1) = true) := by show _ = _; rw [HFS.out]; simpa using hvf
              have y0 : (v == (f : Int)) = false := by simpa using hvf
              have y1 : (v != (f : Int)) = true := by simpa using hvf
              clear HFS hvf
              go_wp2
              go_roundw
              case rel => exact ⟨t + 1, by omega, by go_num, by rw [HF1.out], trivial⟩
              case measure => simp [intOf]; omega
        · obtain rfl : k = t := by omega
          obtain ⟨fb, hfb⟩ : ∃ fb, frB s f k = fb := ⟨_, rfl⟩
          rw [hfb] at HF ⊢
          clear hfb
          cases fb with
          | false =>
            have HF1 : Hid (kerR s N (f + 1) = kerR s N f) := by show _ = _; rw [HF.out]; rfl
            clear HF
            go_wp2
            go_roundw
            case rel => exact ⟨f + 1, ads, by omega, by go_num, by rw [HF1.out]; exact HO.out, HB.out⟩
            case measure => simp [intOf]; omega
          | true =>
            have HF1 : Hid (kerR s N (f + 1) = kerR s N f ++ [primR (rkTo N s (lcTo s k) f k)]) := by show _ = _; rw [HF.out]; rfl
            clear HF
            go_wp2
            obtain ⟨wq, hwq⟩ : ∃ wq, wq = wr := ⟨_, rfl⟩
            subst hwq
            go_loopw [10, 45] (fun al i wr2 => ∃ t : Nat, t ≤ k ∧ i = .int .i64 t ∧ al = .int .i64 (lcTo s t) ∧ Below wq.heap.size wq wr2) (fun _ i _ => k - (intOf i).toNat)
            case atStart => exact ⟨0, Nat.zero_le _, rfl, rfl, Below.refl _ _⟩
            case round =>
              obtain ⟨t, ht, rfl, rfl, hB2⟩ := hrel
              have HB2 : Hid (Below w1.heap.size w1 wr) := HB.out.trans (hB2.mono HB.out.size)
              have HBq := Lib.hid hB2; clear hB2
              by_cases hlt2 : t < k
              · obtain ⟨pb, po, v, hpa, hcv, HV⟩ := (HSL.out.below HB2.out).at (k := t) (by rw [HK.out]; exact hlt2)
                subst hpa
                have hgv := gt_some' HV.out
                obtain ⟨p, hp, hpN⟩ := HKF.out.pk t (by rw [HK.out]; exact hlt2)
                have hpv : pvR s t = gt (rowL s.done t) p := by unfold pvR; rw [hp]; rfl
                rw [hgv] at hp
                subst hp
                obtain ⟨db, do_, di, dci, hda, hcd, hsd⟩ := (HMS.out.below HB2.out) t (by rw [HDL.out, HK.out]; exact hlt2)
                subst hda
                have hrl := HKF.out.rl t (by rw [HK.out]; exact hlt2)
                have hcd : wr.cell? ⟨db, do_ + t, none⟩ = some (.slice di N dci) := by rw [← hrl]; exact hcd
                have hsd : Sl wr di (rowL s.done t) := hsd
                obtain ⟨rb, ro, x, hra, hcx, hx⟩ := hsd.at (k := p) (by rw [hrl]; exact hpN)
                subst hra
                have hgx := gt_some' hx.out
                rw [hgx] at hpv
                obtain ⟨L, hL⟩ : ∃ L, lcTo s t = L := ⟨_, rfl⟩
                have hLb := HKF.out.lc t (by rw [HK.out]; exact ht)
                have hxb := HKF.out.pv t (by rw [HK.out]; exact hlt2)
                rw [hL] at hLb
                rw [hpv] at hxb
                have hg1 : 0 < Nat.gcd L.natAbs x.natAbs := Nat.gcd_pos_of_pos_left _ (by omega)
                have HLC : Hid (lcTo s (t + 1) = IntKind.i64.wrap (L.tdiv ((Nat.gcd L.natAbs x.natAbs : Nat) : Int) * x)) := by
                  show IntKind.i64.wrap ((lcTo s t).tdiv ((Nat.gcd (lcTo s t).natAbs (pvR s t).natAbs : Nat) : Int) * pvR s t) = _
                  rw [hL, hpv]
                have HDV : Hid (∀ W, Calls Tryz.prog 115 #[.int .i64 L, .int .i64 x] W fun e w' => e = .returned (.int .i64 ((Nat.gcd L.natAbs x.natAbs : Nat) : Int)) ∧ ∃ nd, w' = W.drewN nd) := fun W => rdivisor_any L x W (by unfold Mid; omega) (by unfold Mid; omega)
                obtain ⟨G, hG⟩ : ∃ G : Int, ((Nat.gcd L.natAbs x.natAbs : Nat) : Int) = G := ⟨_, rfl⟩
                rw [hG] at HLC HDV
                have hG1 : 1 ≤ G := by omega
                obtain ⟨q, hq⟩ : ∃ q, L.tdiv G = q := ⟨_, rfl⟩
                have hqb : -720 ≤ q ∧ q ≤ 720 := by
                  have h1 := Int.natAbs_tdiv_le_natAbs L G
                  rw [hq] at h1; omega
                rw [hL]
                clear hL hG hg1 hpv hgx hx hgv HV hsd hrl
                have hp0 : (p : Int) < (N : Int) := by omega
                have ht0 : (t : Int) < (k : Int) := by omega
                obtain ⟨hL1, hL2⟩ := hLb
                obtain ⟨hx1, hx2⟩ := hxb
                obtain ⟨hq1, hq2⟩ := hqb
                have w1q : IntKind.i64.wrap q = q := wrap_id (by omega) (by omega)
                go_wp2
                go_region_held_law (fun w' => w'.cell? ⟨db, do_ + t, none⟩ = some (.slice (some ⟨rb, ro, none⟩) N dci) ∧ w'.cell? ⟨rb, ro + p, none⟩ = some (.int .i64 x)) (first | exact ⟨by assumption, by assumption⟩ | go_keep) (first | (go_at_call 115; refine (HDV.out _).mono ?_; rintro e w9 ⟨rfl, nd, rfl⟩))
                all_goals
                  go_wp2
                  go_roundw
                  case rel => exact ⟨t + 1, by omega, by go_num, by rw [HLC.out, hq], below_drewN HBq.out _⟩
                  case measure => simp [intOf]; omega
              · obtain rfl : k = t := by omega
                obtain ⟨wk, hwk⟩ : ∃ wk, wk = wr := ⟨_, rfl⟩
                subst hwk
                obtain ⟨L, hL⟩ : ∃ L, lcTo s k = L := ⟨_, rfl⟩
                have hLb := HKF.out.lc k (by rw [HK.out]; exact Nat.le_refl _)
                rw [hL] at HF1 hLb
                rw [hL]
                clear hL
                have HOk : Hid (HR w1.heap.size u5 ads (kerR s N f) wk) := HO.out.below HBq.out
                clear HBq HO HB
                have hm1 := HM0.out wk (HB1.out.trans (HB2.out.mono HB1.out.size))
                go_wp2_with (with_reducible refine wpList_make_full _ rfl (.tmp 73) (.tmp 73) 24 rfl wk.heap.size 3 i0 (.int .i64 0) 1 Tryz.underlying24 hi hz0 hz1 .i64 .i64 (N : Int) (N : Int) N rfl rfl rfl rfl (by rw [hz2]; omega) (by unfold maxLen; omega) (Nat.le_refl _) ?_)
                rotate_left
                intro w4 hown hgrow
                have hb4 : Below wk.heap.size wk w4 := (Below.refl _ _).grown hgrow (Nat.le_refl _) (fun k e => by cases e)
                have HO4 : Hid (OwnI w4 wk.heap.size (.slice (some ⟨wk.heap.size, 0, none⟩) N N) (List.replicate N 0)) := by
                  have z := zeros_are N
                  rw [Nat.mul_one] at z
                  show w4.ownsRow _ _ _ _ _ _
                  rw [List.length_replicate, ← z]; exact hown
                obtain ⟨cz, fz⟩ := HO4.out.cell (j := f) (by rw [List.length_replicate]; exact hlt)
                have HO5 := Lib.hid (HO4.out.stored f L)
                have HB5 : Hid (Below wk.heap.size wk (w4.setCell ⟨wk.heap.size, f, none⟩ (.int .i64 L))) := hb4.setCell (p := ⟨wk.heap.size, f, none⟩) (Nat.le_refl _) _
                clear hown hgrow hb4 hm1
                have hf0 : (f : Int) < (N : Int) := by omega
                go_wp2
                clear cz fz
                go_loopw [81] (fun i wr3 => ∃ t : Nat, t ≤ k ∧ i = .int .i64 t ∧ OwnI wr3 wk.heap.size (.slice (some ⟨wk.heap.size, 0, none⟩) N N) (rkTo N s L f t) ∧ Below wk.heap.size wk wr3) (fun i _ => k - (intOf i).toNat)
                case atStart => exact ⟨0, Nat.zero_le _, rfl, HO5.out, HB5.out⟩
                case round =>
                  clear HO5 HB5 HO4
                  obtain ⟨t, ht, rfl, hO3, hB3⟩ := hrel
                  have HO3 := Lib.hid hO3; clear hO3
                  have HB3 := Lib.hid hB3; clear hB3
                  have HB13 : Hid (Below w1.heap.size w1 wr) := HB2.out.trans (HB3.out.mono HB2.out.size)
                  by_cases hlt2 : t < k
                  · obtain ⟨pb, po, v, hpa, hcv, HV⟩ := (HSL.out.below HB13.out).at (k := t) (by rw [HK.out]; exact hlt2)
                    subst hpa
                    have hgv := gt_some' HV.out
                    obtain ⟨p, hp, hpN⟩ := HKF.out.pk t (by rw [HK.out]; exact hlt2)
                    have hpv : pvR s t = gt (rowL s.done t) p := by unfold pvR; rw [hp]; rfl
                    have HPT : Hid ((gt s.piv t).toNat = p) := by show _ = _; rw [hp]; rfl
                    rw [hgv] at hp
                    subst hp
                    obtain ⟨db, do_, di, dci, hda, hcd, hsd⟩ := HMS.out t (by rw [HDL.out, HK.out]; exact hlt2)
                    subst hda
                    have hrl := HKF.out.rl t (by rw [HK.out]; exact hlt2)
                    have hcd : w1.cell? ⟨db, do_ + t, none⟩ = some (.slice di N dci) := by rw [← hrl]; exact hcd
                    have hsd : Sl w1 di (rowL s.done t) := hsd
                    obtain ⟨rb, ro, x, hra, hcx, hx⟩ := hsd.at (k := p) (by rw [hrl]; exact hpN)
                    obtain ⟨rb2, ro2, y, hra2, hcy, hy⟩ := hsd.at (k := f) (by rw [hrl]; exact hlt)
                    have hra3 := hra.symm.trans hra2
                    subst hra
                    cases hra3
                    have hdb : db < w1.heap.size := cell_lt hcd
                    have hrb : rb < w1.heap.size := cell_lt hcx
                    have hne1 : db ≠ wk.heap.size := by have := HB2.out.size; omega
                    have hne2 : rb ≠ wk.heap.size := by have := HB2.out.size; omega
                    have hcd : wr.cell? ⟨db, do_ + t, none⟩ = some (.slice (some ⟨rb, ro, none⟩) N dci) := (HB13.out.cell (p := ⟨db, do_ + t, none⟩) hdb).trans hcd
                    have hcx : wr.cell? ⟨rb, ro + p, none⟩ = some (.int .i64 x) := (HB13.out.cell (p := ⟨rb, ro + p, none⟩) hrb).trans hcx
                    have hcy : wr.cell? ⟨rb, ro + f, none⟩ = some (.int .i64 y) := (HB13.out.cell (p := ⟨rb, ro + f, none⟩) hrb).trans hcy
                    have hgx := gt_some' hx.out
                    have hgy := gt_some' hy.out
                    rw [hgx] at hpv
                    have hxb := HKF.out.pv t (by rw [HK.out]; exact hlt2)
                    obtain ⟨v1, v2, v3⟩ := HKF.out.v hlt (t := t) (by rw [HK.out]; exact hlt2) hLb
                    have vq := HKF.out.q (t := t) (by rw [HK.out]; exact hlt2) hLb
                    rw [hpv] at hxb vq v3
                    rw [hgy] at v1 v3
                    obtain ⟨q, hq⟩ : ∃ q, L.tdiv x = q := ⟨_, rfl⟩
                    rw [hq] at vq v3
                    have HV3 := Lib.hid v3
                    rw [v3] at v2
                    have HWY : Hid (IntKind.i64.wrap (-y * q) = -y * q) := wrap_id (by omega) (by omega)
                    clear v2 v3
                    obtain ⟨cz, fz⟩ := HO3.out.cell (j := p) (by rw [rkTo_len]; exact hpN)
                    have HST := Lib.hid (HO3.out.stored p (-y * q))
                    have HRK : Hid ((rkTo N s L f t).set p (-y * q) = rkTo N s L f (t + 1)) := by
                      show _ = (rkTo N s L f t).set (gt s.piv t).toNat (rkV s L f t)
                      rw [HPT.out, HV3.out]
                    have HB4 : Hid (Below wk.heap.size wk (wr.setCell ⟨wk.heap.size, p, none⟩ (.int .i64 (-y * q)))) := HB3.out.setCell (p := ⟨wk.heap.size, p, none⟩) (Nat.le_refl _) _
                    clear hpv hgx hgy hx hy HV hsd hrl hgv
                    have hp0 : (p : Int) < (N : Int) := by omega
                    have ht0 : (t : Int) < (k : Int) := by omega
                    obtain ⟨hx1, hx2⟩ := hxb
                    obtain ⟨hq1, hq2⟩ := vq
                    have w1q : IntKind.i64.wrap q = q := wrap_id (by omega) (by omega)
                    go_wp2
                    go_region_held_law (fun w' => w'.cell? ⟨db, do_ + t, none⟩ = some (.slice (some ⟨rb, ro, none⟩) N dci) ∧ w'.cell? ⟨rb, ro + p, none⟩ = some (.int .i64 x) ∧ w'.cell? ⟨rb, ro + f, none⟩ = some (.int .i64 y)) (first | exact ⟨by assumption, by assumption, by assumption⟩ | exact ⟨(cell_other _ _ _ _ hne1).trans (by assumption), (cell_other _ _ _ _ hne2).trans (by assumption), (cell_other _ _ _ _ hne2).trans (by assumption)⟩ | go_keep) (fail)
                    all_goals
                      go_wp2
                      go_roundw
                      case rel =>
                        (try rw [wrap_is])
                        (try rw [HWY.out])
                        exact ⟨t + 1, by omega, by go_num, by rw [← HRK.out]; exact HST.out.drew, HB4.out.drew⟩
                      case measure => simp [intOf]; omega
                  · obtain rfl : k = t := by omega
                    have HPR : Hid (Calls Tryz.prog 143 #[.slice (some ⟨wk.heap.size, 0, none⟩) N N] wr fun e w' => ∃ v, e = .returned v ∧ OwnI w' wr.heap.size v (primR (rkTo N s L f k)) ∧ Below wr.heap.size wr w') := by
                      have sv := HO3.out.sl
                      have h := primitive_any (some ⟨wk.heap.size, 0, none⟩) (rkTo N s L f k) N wr (by rw [rkTo_len]; omega) (HKF.out.mid hlt hLb k (by rw [HK.out]; exact Nat.le_refl _)) sv
                      rw [rkTo_len] at h
                      exact h
                    have HO7 := Lib.hid (HOk.out.below HB3.out)
                    clear HOk HB3 HO3
                    go_wp2_with fail
                    refine HPR.out.mono ?_
                    rintro e w9 ⟨v9, rfl, ho9, hb9⟩
                    obtain ⟨a9, c9, rfl, s9, l9⟩ := ho9.parts
                    have HO9 := Lib.hid (HO7.out.below hb9)
                    have HS9 := Lib.hid s9
                    have HA9 : Hid (∀ ad, a9 = some ad → ad.block < w9.heap.size ∧ u5.ownBlock ≠ some ad.block) := fun ad e => ⟨(l9 ad e).1, fun e2 => by have := (HO7.out.own_lt _ e2).2; have := (l9 ad e).2; omega⟩
                    have HB9 : Hid (Below w1.heap.size w1 w9) := HB13.out.trans (hb9.mono HB13.out.size)
                    have HLr : Hid ((kerR s N f).length ≤ 100000) := by show _ ≤ _; have := kerR_len s N f; omega
                    clear ho9 hb9 s9 l9 HPR HO7 HB13 HB2
                    go_wp2_with (at_builtin; go_must (refine wpList_pushHR rfl (.tmp 108) (.tmp 111) rfl w1.heap.size _ ads (kerR s N f) (primR (rkTo N s L f k)) _ rfl a9 c9 _ _ _ rfl rfl rfl HO9.out HS9.out HA9.out HLr.out HB9.out.size ?_); intro g' cap' w10 ho' _ hb' _)
                    go_roundw
                    case rel => exact ⟨f + 1, _, by omega, by go_num, by rw [HF1.out]; exact ho', HB9.out.trans hb'⟩
                    case measure => simp [intOf]; omega
    · obtain rfl : N = f := by omega
      obtain ⟨oa, oc, hov, hom⟩ := HO.out.ms
      subst hov
      have HOM := Lib.hid hom
      clear hom
      go_wp2
      go_ret
      exact ⟨_, _, rfl, HOM.out, HB1.out.trans (HB.out.mono HB1.out.size)⟩
end Go.Proofs.YtfnomiingelfaaaGreat
/- SameInts of the answers of layer 1: a contract. -/
namespace Go.Proofs.YtfnomiingelfaaaGreat
open Go.RowKit

theorem sameInts_any (a : Option Addr) (xs : List Int) (ca : Nat) (b : Option Addr) (ys : List Int) (cb : Nat) (w : World) (hx : xs.length ≤ 140737488351232) (hy : ys.length ≤ 140737488351232) (ha : Sl w a xs) (hb : Sl w b ys) :
    Calls Tryz.prog 54 #[.slice a xs.length ca, .slice b ys.length cb] w fun e w' => e = .returned (.bool (decide (xs = ys))) ∧ ∃ n, w' = w.drewN n := by
  have HA := Lib.hid ha; clear ha
  have HB := Lib.hid hb; clear hb
  by_cases hl : xs.length = ys.length
  · have hb : ((xs.length : Int) == (ys.length : Int)) = true := by simp [hl]
    have hb' : ((xs.length : Int) != (ys.length : Int)) = false := by simp [hl]
    have HL := Lib.hid hl; clear hl
    go_enter Tryz.func54, Tryz.ntmps54
    go_wp2
    go_loopw [13] (fun i wr => ∃ k nd : Nat, k ≤ xs.length ∧ i = .int .i64 k ∧ wr = w.drewN nd ∧ ∀ j, j < k → xs[j]?.getD 0 = ys[j]?.getD 0) (fun i _ => xs.length - (intOf i).toNat)
    case atStart => exact ⟨0, 0, Nat.zero_le _, rfl, rfl, fun j h => by omega⟩
    case round =>
      obtain ⟨k, nd, hk, rfl, rfl, hno⟩ := hrel
      have HN := Lib.hid hno; clear hno
      by_cases hlt : k < xs.length
      · have hly : k < ys.length := by rw [← HL.out]; exact hlt
        obtain ⟨b1, o1, x, rfl, hc1, HX⟩ := HA.out.at hlt
        obtain ⟨b2, o2, y, rfl, hc2, HY⟩ := HB.out.at hly
        by_cases he : x = y
        · subst he
          go_wp2
          go_quiet (fail)
          go_wp2
          go_roundw
          case rel => exact ⟨k + 1, _, by omega, by go_num, rfl, fun j hj => by
              by_cases hj' : j = k
              · subst hj'; rw [HX.out, HY.out]
              · exact HN.out j (by omega)⟩
          case measure => simp [intOf]; omega
        · have hne : (x == y) = false := by simpa using he
          have hne' : (x != y) = true := by simpa using he
          have HE : Hid (decide (xs = ys) = false) := by
            show decide (xs = ys) = false
            rw [decide_eq_false_iff_not]
            rintro rfl
            have h1 := HX.out
            have h2 := HY.out
            rw [h1] at h2
            exact he (by simpa using h2)
          clear he
          go_wp2
          go_quiet (fail)
          go_wp2
          go_ret
          exact ⟨ret_bool HE.out.symm, _, World.drewN_drewN _ _ _⟩
      · have HE : Hid (decide (xs = ys) = true) := by
          show decide (xs = ys) = true
          rw [decide_eq_true_iff]
          refine List.ext_getElem HL.out (fun j h1 h2 => ?_)
          have := HN.out j (by omega)
          simpa [h1, h2] using this
        go_wp2
        go_ret
        exact ⟨ret_bool HE.out.symm, _, rfl⟩
  · have hb : ((xs.length : Int) == (ys.length : Int)) = false := by simp; omega
    have hb' : ((xs.length : Int) != (ys.length : Int)) = true := by simp; omega
    have HX : Hid (decide (xs = ys) = false) := by
      show decide (xs = ys) = false
      rw [decide_eq_false_iff_not]; rintro rfl; exact hl rfl
    clear hl
    go_enter Tryz.func54, Tryz.ntmps54
    go_wp2
    go_ret
    exact ⟨ret_bool HX.out.symm, 0, rfl⟩

end Go.Proofs.YtfnomiingelfaaaGreat
/- Primitive and IsKernel of both sides, Rank, Kernel of the answers: contracts. -/
namespace Go.Proofs.YtfnomiingelfaaaGreat
open Go.RowKit

def ixN (xs : List Int) : Int := if allZ xs = true then -1 else (xs.findIdx (fun x => x != 0) : Int)
theorem find_at {xs : List Int} {k : Nat} {x : Int} (h : ∀ j, j < k → xs[j]?.getD 0 = 0) (hx : xs[k]? = some x) (h0 : x ≠ 0) : xs.findIdx (fun x => x != 0) = k := by
  obtain ⟨hk, e⟩ := List.getElem?_eq_some_iff.1 hx
  rw [List.findIdx_eq hk]
  refine ⟨by rw [e]; simpa using h0, fun j hj => ?_⟩
  have := h j hj
  rw [List.getElem?_eq_getElem (by omega)] at this
  have e2 : xs[j] = 0 := by simpa using this
  rw [e2]; rfl
theorem ixN_hit {xs : List Int} {k : Nat} {x : Int} (h : ∀ j, j < k → xs[j]?.getD 0 = 0) (hx : xs[k]? = some x) (h0 : x ≠ 0) : ixN xs = k := by
  unfold ixN; rw [allZ_no hx h0, if_neg (by decide), find_at h hx h0]
theorem nonzero_any (n : Int) (w : World) : Calls Tryz.prog 131 #[.int .i64 n] w fun e w' => e = .returned (.bool (n != 0)) ∧ w = w' := by
  go_enter Tryz.func131, Tryz.ntmps131
  go_wp2
  go_ret
  exact ⟨rfl, rfl⟩
set_option maxRecDepth 100000 in
theorem indexNZ_any (a : Option Addr) (xs : List Int) (cap : Nat) (w : World) (hl : xs.length ≤ 140737488351232) (hs : Sl w a xs) :
    Calls Tryz.prog 149 #[.slice a xs.length cap, .func (.func 131) #[] #[]] w fun e w' => e = .returned (.int .i64 (ixN xs)) ∧ w = w' := by
  have HS := Lib.hid hs; clear hs
  go_enter Tryz.func149, Tryz.ntmps149
  go_wp2
  go_loop [8] (fun i => ∃ k : Nat, k ≤ xs.length ∧ i = .int .i64 k ∧ ∀ j, j < k → xs[j]?.getD 0 = 0) (fun i => xs.length - (intOf i).toNat)
  case atStart => exact ⟨0, Nat.zero_le _, rfl, fun j h => by omega⟩
  case round =>
    obtain ⟨k, hk, rfl, hno⟩ := hrel
    have HN := Lib.hid hno; clear hno
    by_cases hlt : k < xs.length
    · obtain ⟨b, off, x, rfl, hcell, HX⟩ := HS.out.at hlt
      obtain ⟨bb, hbb⟩ : ∃ bb, (x != 0) = bb := ⟨_, rfl⟩
      have HNZ : Hid (∀ W, Calls Tryz.prog 131 #[.int .i64 x] W fun e w' => e = .returned (.bool bb) ∧ W = w') := fun W => by rw [← hbb]; exact nonzero_any x W
      have HBB := Lib.hid hbb; clear hbb
      cases bb with
      | false =>
        go_wp2_with (go_at_call 131; refine (HNZ.out _).mono ?_; rintro e w' ⟨rfl, rfl⟩)
        go_round
        case rel => exact ⟨k + 1, by omega, by go_num, fun j hj => by
            by_cases hj' : j = k
            · subst hj'; rw [HX.out]; simpa using HBB.out
            · exact HN.out j (by omega)⟩
        case measure => simp [intOf]; omega
      | true =>
        go_wp2_with (go_at_call 131; refine (HNZ.out _).mono ?_; rintro e w' ⟨rfl, rfl⟩)
        go_ret
        exact ⟨ret_i64 (ixN_hit HN.out HX.out (by simpa using HBB.out)).symm, rfl⟩
    · have HE : Hid (ixN xs = -1) := by show _ = _; unfold ixN; rw [allZ_yes fun j hj => HN.out j (by omega)]; rfl
      go_wp2
      go_ret
      exact ⟨ret_i64 HE.out.symm, rfl⟩
theorem containsNZ_any (a : Option Addr) (xs : List Int) (cap : Nat) (w : World) (hl : xs.length ≤ 140737488351232) (hs : Sl w a xs) :
    Calls Tryz.prog 129 #[.slice a xs.length cap, .func (.func 131) #[] #[]] w fun e w' => e = .returned (.bool (!allZ xs)) ∧ w = w' := by
  have HI := Lib.hid (indexNZ_any a xs cap w hl hs); clear hs
  have HE : Hid (decide (0 ≤ ixN xs) = !allZ xs) := by
    show _ = _
    unfold ixN
    cases allZ xs
    · simp
    · simp
  go_enter Tryz.func129, Tryz.ntmps129
  go_wp2_with (go_at_call 149; refine HI.out.mono ?_; rintro e w' ⟨rfl, rfl⟩)
  go_ret
  exact ⟨ret_bool (by rw [← HE.out]), rfl⟩
end Go.Proofs.YtfnomiingelfaaaGreat
/- Primitive of the answers, IsKernel of both sides, Rank, Kernel of the answers, long: contracts. -/
namespace Go.Proofs.YtfnomiingelfaaaGreat
open Go.RowKit

def rankV (m : List (List Int)) : Int × Int := if validM m = true then (((redN m (upTo (colsM m))).piv.length : Int), 0) else (0, 1)
set_option maxRecDepth 100000 in
set_option maxHeartbeats 800000 in
theorem lrank_any (a : Option Addr) (m : List (List Int)) (cap : Nat) (w : World) (hm : MOk m) (hs : Ms w a m) : Calls Tryz.prog 68 #[.slice a m.length cap] w fun e w' => e = .returned (.tuple #[.int .i64 (rankV m).1, .int .i64 (rankV m).2]) ∧ Below w.heap.size w w' := by
  have HVA : Hid (Calls Tryz.prog 45 #[.slice a m.length cap] w fun e w' => e = .returned (.bool (validM m)) ∧ Below w.heap.size w w') := mvalid_any a m cap w hm hs
  have HS := Lib.hid hs
  clear hm hs
  cases hv : validM m
  case false =>
    rw [hv] at HVA
    have HK : Hid (rankV m = (0, 1)) := by show _ = _; simp [rankV, hv]
    clear hv
    go_enter Tryz.func68, Tryz.ntmps68
    go_wp2_with (go_at_call 45; refine HVA.out.mono ?_; rintro e w1 ⟨rfl, hb⟩; have HB := Lib.hid hb; clear hb)
    go_ret2
    rw [HK.out]
    exact ⟨rfl, HB.out⟩
  case true =>
    rw [hv] at HVA
    obtain ⟨hm1, hm6, hc1, hc10, hrows⟩ := validM_of hv
    have h64 : Hid (All64 m) := fun q hq x hx => by
      obtain ⟨c, hc, rfl⟩ := mem_gt.1 hx
      have := gt_in (hrows q hq).2 hc
      unfold In64; omega
    have HRA : Hid (∀ w1 : World, Below w.heap.size w w1 → Calls Tryz.prog 99 #[.slice a m.length cap, .func (.func 91) #[] #[]] w1 (RdPost (redN m (upTo (colsM m))) w1)) := fun w1 hb => reduceAll_any (Lib.hid hm6) (Lib.hid hm1) (Lib.hid ⟨hc1, hc10⟩) (Lib.hid fun r hr => (hrows r hr).1) h64 (Lib.hid (HS.out.below hb))
    obtain ⟨rd, hrd⟩ : ∃ rd, redN m (upTo (colsM m)) = rd := ⟨_, rfl⟩
    have HK : Hid (rankV m = ((rd.piv.length : Int), 0)) := by show _ = _; simp [rankV, hv, hrd]
    rw [hrd] at HRA
    clear hv hm1 hm6 hc1 hc10 hrows hrd h64
    obtain ⟨cols, rows, piv, dv⟩ := rd
    dsimp only at HK
    go_enter Tryz.func68, Tryz.ntmps68
    go_wp2_with (first | (go_at_call 45; refine HVA.out.mono ?_; rintro e w1 ⟨rfl, hb⟩; have HB := Lib.hid hb; clear hb) | (go_at_call 99; refine (HRA.out w1 HB.out).mono ?_; rintro e w2 ⟨hb2, g, cp, ads, pa2, pc2, rfl, hgg, si, pi⟩; unfold rdV; dsimp only; have HB2 := Lib.hid (HB.out.trans (hb2.mono HB.out.size)); clear si pi hgg hb2) | (go_at_call 92; refine (rank_any cols g rows.length cp pa2 piv pc2 dv _).mono ?_; rintro e w3 ⟨rfl, hb3⟩; have HB3 := Lib.hid (HB2.out.trans (hb3.mono HB2.out.size)); clear hb3))
    go_ret2
    rw [HK.out]
    exact ⟨rfl, HB3.out⟩
end Go.Proofs.YtfnomiingelfaaaGreat
