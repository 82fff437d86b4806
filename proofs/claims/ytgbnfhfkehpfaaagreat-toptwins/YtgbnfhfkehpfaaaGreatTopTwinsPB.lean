/- Parts of the proof of TopTwins: plain words, walks and contracts, each under its own heading. -/
import Derived.Test.YtgbnfhfkehpfaaaGreatTopTwinsPA
import Derived.Deep.RegionLaw
import Derived.RangeFuncFrom
import Derived.RangeFuncBox
import Derived.RangeFuncLeaves
import Derived.RangeFuncNested
import Derived.RangeFuncBound
import Derived.RangeFuncCalls
import Derived.Shelf.Abstract
import Derived.Shelf.RegionOpen
import Derived.OwnWalkIn
import Derived.TacticsInMore
import Derived.LoopNIn
import Derived.LoopIn
/- The rows of a reduction laid: the first loop of reduce. -/
namespace Go.Proofs.YtgbnfhfkehpfaaaGreat
open Go.RowKit

def pixR (px : List Int) (r : List Int) : List Int := px.map fun j => gt r j.toNat
def pixM (px : List Int) (m : List (List Int)) : List (List Int) := m.map (pixR px)
theorem pixR_len (px r : List Int) : (pixR px r).length = px.length := by simp [pixR]
theorem pixR_succ {px r : List Int} {j : Nat} {p : Int} (h : px[j]? = some p) : (pixR px r).take (j + 1) = (pixR px r).take j ++ [gt r p.toNat] := by
  have hj := (List.getElem?_eq_some_iff.1 h).1
  rw [List.take_succ_eq_append_getElem (by rw [pixR_len]; exact hj)]
  have e := (List.getElem?_eq_some_iff.1 h).2
  simp [pixR, e]
def redM (m : List (List Int)) (px : List Int) : Rd := { cols := px.length, rows := pixM px m, piv := [], dv := 1 }
def redN (m : List (List Int)) (px : List Int) : Rd := clearN (redM m px) px.length
theorem redM_ok {m : List (List Int)} {px : List Int} (hm : m.length ≤ 6) (hp : px.length ≤ 10) (h64 : All64 m) : RdOk px.length (redM m px) ∧ All64 (redM m px).rows := by
  refine ⟨⟨?_, ?_, by omega, ?_, by simp [redM]⟩, ?_⟩
  · show (pixM px m).length ≤ 100; rw [pixM, List.length_map]; omega
  · intro q hq; obtain ⟨r, _, rfl⟩ := List.mem_map.1 hq; exact pixR_len _ _
  · exact Nat.zero_le _
  · intro q hq x hx
    obtain ⟨r, hr, rfl⟩ := List.mem_map.1 hq
    obtain ⟨j, _, rfl⟩ := List.mem_map.1 hx
    exact gt_in64 (h64 r hr) _
set_option maxRecDepth 100000 in
set_option maxHeartbeats 1600000 in
theorem reduce_t2 {base B T : Nat} {ma : Option Addr} {m : List (List Int)} {mc : Nat} {pxa : Option Addr} {px : List Int} {pxc : Nat} {w w0 : World} (hbB : base ≤ B) (hm : Hid (m.length ≤ 6)) (hpx : Hid (px.length ≤ 10)) (hin : Hid (∀ j ∈ px, 0 ≤ j ∧ j < colsM m)) (hrl : Hid (∀ r ∈ m, r.length = colsM m))
    (hms : Hid (∀ {W : World}, Below base w0 W → Ms W ma m)) (hps : Hid (∀ {W : World}, Below base w0 W → Sl W pxa px)) (hB : B < w.heap.size)
    (hbx : Hid (RB B (px.length : Int) (.slice none 0 0) w)) (hb0 : Hid (Below base w0 w)) (hm1 : Hid (1 ≤ m.length)) (h64 : Hid (All64 m)) (hT : T < base) (hTw : T < w0.heap.size) (hTx : Hid (∀ k, k < 4 → (∃ u, w0.cell? ⟨T, k, none⟩ = some u) ∧ w0.frozen? ⟨T, k, none⟩ = false)) (u3 u4 u5 u8 u9 u10 u11 u12 u13 u14 u15 u16 u17 u18 u19 u20 u21 u22 u23 u24 u25 u26 u27 u28 u29 u30 u31 u32 u33 u34 u35 u36 u37 u38 u39 u40 u41 u42 u43 u44 u45 u46 u47 u48 u49 u50 u51 u52 u53 u54 u55 u56 u57 u58 : Value) (R : Ending → World → Prop)
    (hR : Hid (∀ (g cap : Nat) (ads' : List (Nat × Nat)) (pa : Option Addr) (pc : Nat) (W : World), RdW base B g cap ads' (.slice pa (redN m px).piv.length pc) (redN m px) W → Below base w0 W → R (.returned (rdV g cap pa pc (redN m px))) (rdBox T g cap pa pc (redN m px) W))) :
    Code.wp Tryz.prog (seqTail 2 ((Tryz.f72.body).getD .skip)) (bodyPost Tryz.prog Tryz.f72 R) { tmps := #[.slice ma m.length mc, .slice pxa px.length pxc, .func (.func 45) #[] #[], u3, u4, u5, .pointer (some ⟨T, 0, none⟩), .pointer (some ⟨B, 0, none⟩), u8, u9, u10, u11, u12, u13, u14, u15, u16, u17, u18, u19, u20, u21, u22, u23, u24, u25, u26, u27, u28, u29, u30, u31, u32, u33, u34, u35, u36, u37, u38, u39, u40, u41, u42, u43, u44, u45, u46, u47, u48, u49, u50, u51, u52, u53, u54, u55, u56, u57, u58], defers := [] } w := by
  conv => arg 2; whnf
  refine wp_seq_k (fun K hK => ?_)
  have HK := Lib.hid hK; clear hK
  obtain ⟨i0, hi, hz0, hz1, hz2⟩ := info_parts Tryz.infoInt
  go_wp2
  go_loopw [19] (fun i wr => ∃ (k : Nat) (rv : Value) (ads : List (Nat × Nat)), k ≤ m.length ∧ i = .int .i64 k ∧ Hid (RS base rv ads ((pixM px m).take k) wr) ∧ Hid (RB B (px.length : Int) rv wr) ∧ Hid (rv.ownBlock ≠ some B ∧ ∀ (i : Nat) (x : Nat × Nat), ads[i]? = some x → x.1 ≠ B) ∧ Below base w0 wr ∧ B < wr.heap.size) (fun i _ => m.length - (intOf i).toNat)
  case atStart => exact ⟨0, _, [], Nat.zero_le _, rfl, ⟨rfl, World.ownsRow_nil _ _ _ _, fun i x r h => by simp at h, fun i j x y h => by simp at h, fun i x h => by simp at h⟩, hbx, ⟨by simp [Value.ownBlock], fun i x h => by simp at h⟩, hb0.out, hB⟩
  case round =>
    obtain ⟨k, rv, ads, hk, rfl, HRS, HBX, HNE, hbl, hBl⟩ := hrel
    have HBL := Lib.hid hbl; clear hbl
    by_cases hlt : k < m.length
    · obtain ⟨b1, o1, ai, r, ci, rfl, hcell, hsl, HR⟩ := (hms.out HBL.out).at hlt
      have HSL := Lib.hid hsl; clear hsl
      have hbw : base ≤ wr.heap.size := by omega
      go_wp2_with (with_reducible refine wpList_make_own _ rfl (.const (.int .i64 0)) (.const (.int .i64 20)) 22 rfl wr.heap.size 3 i0 (.int .i64 0) 1 Tryz.underlying22 hi hz0 hz1 .i64 .i64 20 20 rfl rfl rfl (by rw [hz2]; omega) (by unfold maxLen; omega) (Nat.le_refl _) ?_)
      rotate_left
      intro w4 hown hgrow
      have HO4 : Hid (OwnI w4 wr.heap.size (.slice (some ⟨wr.heap.size, 0, none⟩) 0 20) []) := hown
      have HB4 : Hid (Below wr.heap.size wr w4) := (Below.refl _ _).grown hgrow (Nat.le_refl _) (fun k e => by cases e)
      clear hown hgrow
      obtain ⟨G, hG⟩ : ∃ G, wr.heap.size = G := ⟨_, rfl⟩
      rw [hG] at HO4 HB4
      have HGB : Hid (∀ {W : World}, Below G wr W → Below wr.heap.size wr W) := fun h => by rw [hG]; exact h
      rw [hG]
      have HGS : Hid (∀ {W : World}, Below G wr W → G ≤ W.heap.size) := fun h => by have := h.size; omega
      have hGb : base ≤ G := by omega
      have HGE := Lib.hid hG
      clear hG
      have hpx10 : px.length ≤ 10 := hpx.out
      go_wp2
      go_loopw [10, 27] (fun v i wq => ∃ j : Nat, j ≤ px.length ∧ i = .int .i64 j ∧ OwnI wq G v ((pixR px r).take j) ∧ Below G wr wq ∧ ∃ b c, v = .slice (some ⟨b, 0, none⟩) j c) (fun _ i _ => px.length - (intOf i).toNat)
      case atStart => exact ⟨0, Nat.zero_le _, rfl, HO4.out, HB4.out, _, _, rfl⟩
      case round =>
        clear HO4 HB4
        obtain ⟨j, hj, rfl, hO, hB, nb, nc, hvv⟩ := hrel
        subst hvv
        have HO := Lib.hid hO; clear hO
        have HB := Lib.hid hB; clear hB
        have HBq : Hid (Below base w0 wr) := HBL.out.trans (HB.out.mono hGb)
        by_cases hlj : j < px.length
        · obtain ⟨pb, po, v, rfl, hcv, HV⟩ := (hps.out HBq.out).at hlj
          have hvr := hin.out v (List.mem_of_getElem? HV.out)
          have HRC : Hid (r.length = colsM m) := hrl.out r (List.mem_of_getElem? HR.out)
          obtain ⟨q, rfl⟩ := Int.eq_ofNat_of_zero_le hvr.1
          have hq : q < r.length := by have := HRC.out; omega
          obtain ⟨rb, ro, x, rfl, hcx, HX⟩ := (HSL.out.below (HGB.out HB.out)).at hq
          have HT : Hid ((pixR px r).take (j + 1) = (pixR px r).take j ++ [x]) := by show _ = _; rw [pixR_succ HV.out, Int.toNat_natCast, gt_some' HX.out]
          have HTL : Hid (((pixR px r).take j).length = j) := by show _ = _; rw [List.length_take, pixR_len]; omega
          obtain ⟨TT, hTT⟩ : ∃ TT, (pixR px r).take j = TT := ⟨_, rfl⟩
          rw [hTT] at HO HT HTL
          clear hvr hTT
          go_wp2_with (at_builtin; go_must (refine wpList_pushG0 rfl (.tmp 31) (.tmp 36) rfl G _ TT _ _ _ _ rfl rfl rfl HO.out (by rw [HTL.out]; omega) (HGS.out HB.out) ?_); intro g7 c7 w9 ho' _ hb' _)
          go_roundw
          case rel => exact ⟨j + 1, by omega, by go_num, by rw [HT.out]; exact ho', HB.out.trans hb', g7, c7, by rw [HTL.out]⟩
          case measure => simp [intOf]; omega
        · obtain rfl : j = px.length := by omega
          rw [List.take_of_length_le (by rw [pixR_len]; exact Nat.le_refl _)] at HO
          have HPXL : Hid (px.length = (pixR px r).length) := (pixR_len px r).symm
          rw [HPXL.out] at HO
          rw [show Value.slice (some ⟨nb, 0, none⟩) px.length nc = Value.slice (some ⟨nb, 0, none⟩) (pixR px r).length nc by rw [pixR_len]]
          have hBG : B < G := by have := HGE.out; omega
          have cB : wr.cell? ⟨B, 1, none⟩ = some rv := (HB.out.cell (p := ⟨B, 1, none⟩) hBG).trans HBX.out.c1
          have fB : wr.frozen? ⟨B, 1, none⟩ = false := (HB.out.frozen (p := ⟨B, 1, none⟩) hBG).trans HBX.out.f1
          have HBX2 : Hid (RB B (px.length : Int) rv wr) := HBX.out.kept (HB.out.block B hBG)
          have HNBL : Hid (nb < wr.heap.size) := (OwnI.lt HO.out).1
          have HRS2 : Hid (RS base rv ads ((pixM px m).take k) wr) := HRS.out.below (HGB.out HB.out)
          have HK2 : Hid (((pixM px m).take k).length = k) := by show _ = _; rw [List.length_take, pixM, List.length_map]; omega
          obtain ⟨Mk, hMk⟩ : ∃ Mk, (pixM px m).take k = Mk := ⟨_, rfl⟩
          rw [hMk] at HRS2 HK2
          have HMT : Hid (Mk ++ [pixR px r] = (pixM px m).take (k + 1)) := by
            show _ = _
            have e := (List.getElem?_eq_some_iff.1 HR.out)
            rw [← hMk, List.take_succ_eq_append_getElem (by rw [pixM, List.length_map]; exact e.1)]
            simp [pixM, e.2]
          have HMK := Lib.hid hMk
          clear hMk
          have lBq : B < wr.heap.size := by have := HGS.out HB.out; omega
          have hbq : base ≤ wr.heap.size := by omega
          have HNCL : (pixR px r).length ≤ nc := OwnI.cap_le HO.out
          have HBQ : Hid (Below base w0 wr) := HBL.out.trans (HB.out.mono hGb)
          have HRW : Hid (OwnI wr base (.slice (some ⟨nb, 0, none⟩) (pixR px r).length nc) (pixR px r)) := HO.out.mono hGb
          have HAPP : Hid ((∀ (i : Nat) (x : Nat × Nat), ads[i]? = some x → x.1 ≠ nb) ∧ rv.ownBlock ≠ some nb) := by
            have e1 := HGE.out
            have e2 := (OwnI.lt HO.out).2
            refine ⟨fun i x e => ?_, fun e => ?_⟩
            · have := (HRS.out.out i x e).2.1; omega
            · have := (World.ownsRow.lt HRS.out.own nb e).2; omega
          have HBN : Hid (B < nb) := by have e2 := (OwnI.lt HO.out).2; show B < nb; omega
          go_wp2
          go_region_law (first | (go_simp; go_at_call 45; refine (nothing_any _ _).mono ?_; rintro e wz ⟨rfl, rfl⟩) | (refine step_pushRow rfl (.tmp 40) (.tmp 46) rfl base rv ads Mk (pixR px r) nb nc _ _ (by rfl) (by rfl) (by go_simp) ((HRS2.out.below ((Below.refl _ _).alloc (Nat.le_refl _) _).drew)) (HRW.out.below ((Below.refl _ _).alloc (Nat.le_refl _) _).drew) HAPP.out.1 HAPP.out.2 (by rw [HK2.out]; have := hm.out; omega) (by simp; omega) ?_; intro G2 cp2 w9 ho9 hg9 hat9; have hk9 := (hg9.block B (by simp; omega) (fun e => HNE.out.1 e.symm)).trans (((Below.refl wr.heap.size wr).alloc (Nat.le_refl _) _).drew.block B lBq); have c9 := (cell_of_block hk9 1).trans cB; have f9 := (frozen_of_block' hk9 1).trans fB; have HB9 := Lib.hid (HBX2.out.kept hk9)))
          all_goals
            have key := rs_pushed HBQ.out hbB lBq HRS2.out HNE.out HBN.out ho9 hg9 hat9 HB9.out
            have KEY := Lib.hid key
            clear key ho9 hg9 hat9 hk9 c9 f9
            have hk6 : m.length ≤ 6 := hm.out
            go_wp2
            go_roundw
            case rel => exact ⟨k + 1, _, ads ++ [(nb, nc)], hlt, by go_num, HMT.out ▸ KEY.out.1, KEY.out.2.1, KEY.out.2.2.1, KEY.out.2.2.2.1, KEY.out.2.2.2.2⟩
            case measure => simp [intOf]; omega
    · obtain rfl : k = m.length := by omega
      have HOK := Lib.hid (redM_ok hm.out hpx.out h64.out)
      have hRS := HRS.out
      rw [List.take_of_length_le (by rw [pixM, List.length_map]; exact Nat.le_refl _)] at hRS
      obtain ⟨g, cap, rfl, hgc, hW⟩ := hRS.reduction (by rw [pixM, List.length_map]; exact hm1.out) hbB HNE.out HBX.out
      have HWW : Hid (RdW base B g cap ads (.slice none 0 0) (redM m px) wr) := hW
      have HGC := Lib.hid hgc
      clear hW hRS hgc
      go_wp2
      refine HK.out _ _ ?_
      refine reduce_t3 (N := px.length) (r := redM m px) hT hTw HOK.out.1 HOK.out.2 (Nat.le_refl _) (by have := hpx.out; omega) HGC.out hTx HWW HBL _ _ _ _ _ _ _ _ _ _ _ _ _ _ _ _ _ _ _ _ _ _ _ _ _ _ _ _ _ _ _ _ _ _ _ _ _ _ _ _ _ _ _ _ _ _ _ _ _ _ _ _ _ _ _ _ R (hR.out g cap)
end Go.Proofs.YtgbnfhfkehpfaaaGreat
/- Rows with more numbers behind them: words and laws for reduce. -/
namespace Go.Proofs.YtgbnfhfkehpfaaaGreat
open Go.RowKit

def pixB (px : List Int) (m : List (List Int)) (bh : Nat → List Int) : List (List Int) := (List.range m.length).map fun i => pixR px (rowL m i) ++ bh i
theorem pixB_len (px : List Int) (m : List (List Int)) (bh : Nat → List Int) : (pixB px m bh).length = m.length := by simp [pixB]
theorem pixB_succ (px : List Int) {m : List (List Int)} (bh : Nat → List Int) {k : Nat} {r : List Int} (hr : m[k]? = some r) : (pixB px m bh).take k ++ [pixR px r ++ bh k] = (pixB px m bh).take (k + 1) := by
  have hk := (List.getElem?_eq_some_iff.1 hr).1
  rw [List.take_succ_eq_append_getElem (by rw [pixB_len]; exact hk)]
  congr 1
  unfold pixB rowL
  simp [hr]
def redBM (m : List (List Int)) (px : List Int) (bh : Nat → List Int) : Rd := { cols := px.length, rows := pixB px m bh, piv := [], dv := 1 }
def redB (m : List (List Int)) (px : List Int) (bh : Nat → List Int) : Rd := clearN (redBM m px bh) px.length
theorem redBM_ok {m : List (List Int)} {px : List Int} {bh : Nat → List Int} {bn : Nat} (hm : m.length ≤ 6) (hp : px.length ≤ 10) (hn : bn ≤ 6) (h64 : All64 m) (hb : ∀ i, i < m.length → (bh i).length = bn ∧ ∀ x ∈ bh i, In64 x) : RdOk (px.length + bn) (redBM m px bh) ∧ All64 (redBM m px bh).rows := by
  refine ⟨⟨?_, ?_, by omega, ?_, by simp [redBM]⟩, ?_⟩
  · show (pixB px m bh).length ≤ 100; rw [pixB_len]; omega
  · intro q hq
    obtain ⟨i, hi, rfl⟩ := List.mem_map.1 hq
    rw [List.length_append, pixR_len, (hb i (List.mem_range.1 hi)).1]
  · exact Nat.zero_le _
  · intro q hq x hx
    obtain ⟨i, hi, rfl⟩ := List.mem_map.1 hq
    have hi := List.mem_range.1 hi
    rcases List.mem_append.1 hx with hx | hx
    · obtain ⟨j, _, rfl⟩ := List.mem_map.1 hx
      exact gt_in64 (h64 _ (rowL_mem hi)) _
    · exact (hb i hi).2 x hx
def BehF (f : Nat) (cap : Value) (bh : Nat → List Int) (bn n base : Nat) (w0 : World) : Prop := ∀ (W : World) (k : Nat), Below base w0 W → k < n → Calls Tryz.prog f #[.int .i64 (k : Int), cap] W fun e w' => ∃ bb bo bc, e = .returned (.slice (some ⟨bb, bo, none⟩) bn bc) ∧ Sl w' (some ⟨bb, bo, none⟩) (bh k) ∧ Below W.heap.size W w'
theorem step_pushL {ops : Array Oper} {o : Oper} {a : Act} {K : Act → World → Prop} {Q : Exit → Act → World → Prop} {E : Prop} (hgd : o.guard = none) (s x : Operand)
    (ho : o.op = .call { callee := .builtin .append, args := #[s, x], argTypes := #[22, 22] }) (base : Nat) (v : Value) (zs ys : List Int) (W : World) (bb bo bn bc : Nat)
    (hs : a.eval s = v) (hx : a.eval x = .slice (some ⟨bb, bo, none⟩) bn bc) (hbn : ys.length = bn) (hpos : 1 ≤ bn ∧ bn ≤ 100) (hnew : Sl W (some ⟨bb, bo, none⟩) ys) (hown : OwnI W base v zs) (hl : zs.length ≤ 100000) (hbase : base ≤ W.heap.size)
    (h : ∀ g cap w', OwnI w' base (.slice (some ⟨g, 0, none⟩) (zs.length + bn) cap) (zs ++ ys) → W.grownBy w' v.ownBlock → (v.ownBlock = some g ∨ g = W.heap.size) → K (a.put o.dst (.slice (some ⟨g, 0, none⟩) (zs.length + bn) cap)) w') : if Region.wanted o (yielded ops a.tmps) = true then Oper.wp Tryz.prog o a W K Q else E := by
  obtain ⟨i0, hi, hz0, hz1, hz2⟩ := info_parts Tryz.infoInt
  refine step_append_lies W hgd s x 22 ho base 3 i0 (.int .i64 0) 1 8 Tryz.underlying22 hi hz0 hz1 hz2 rfl (by decide) v zs.length (zs.map (Value.int .i64)) hs hown ⟨bb, bo, none⟩ bn bc (ys.map (Value.int .i64)) hx (by simp [hbn]) ?_ ?_ (by omega) (by unfold maxLen; omega) (by omega) hbase W.heap.size rfl ?_
  · exact hnew.news
  · intro u hu; obtain ⟨y, _, rfl⟩ := List.mem_map.1 hu; rfl
  · intro g cap w' h1 h2 h3 _
    refine h g cap w' ?_ h2 h3
    show w'.ownsRow _ _ _ _ _ _
    rw [List.length_append, List.map_append, hbn]; exact h1
theorem grown_drew {V w' : World} {ob : Option Nat} (h : V.grownBy w' ob) : V.drew.grownBy w' ob := ⟨h.os, h.tape, h.output, h.size, h.block⟩
end Go.Proofs.YtgbnfhfkehpfaaaGreat
/- The rows of a reduction laid, with more numbers behind them: the first loop of reduce. -/
namespace Go.Proofs.YtgbnfhfkehpfaaaGreat
open Go.RowKit

set_option maxRecDepth 100000 in
set_option maxHeartbeats 4000000 in
theorem reduce_t2One {bh : Nat → List Int} {bn Cb : Nat} {base B T : Nat} {ma : Option Addr} {m : List (List Int)} {mc : Nat} {pxa : Option Addr} {px : List Int} {pxc : Nat} {w w0 : World} (HBH : Hid (BehF 73 (.pointer (some ⟨Cb, 0, none⟩)) bh bn m.length base w0)) (hbn : 1 ≤ bn ∧ bn ≤ 6) (HBV : Hid (∀ i, i < m.length → (bh i).length = bn ∧ ∀ x ∈ bh i, In64 x)) (hbB : base ≤ B) (hm : Hid (m.length ≤ 6)) (hpx : Hid (px.length ≤ 10)) (hin : Hid (∀ j ∈ px, 0 ≤ j ∧ j < colsM m)) (hrl : Hid (∀ r ∈ m, r.length = colsM m))
    (hms : Hid (∀ {W : World}, Below base w0 W → Ms W ma m)) (hps : Hid (∀ {W : World}, Below base w0 W → Sl W pxa px)) (hB : B < w.heap.size)
    (hbx : Hid (RB B (px.length : Int) (.slice none 0 0) w)) (hb0 : Hid (Below base w0 w)) (hm1 : Hid (1 ≤ m.length)) (h64 : Hid (All64 m)) (hT : T < base) (hTw : T < w0.heap.size) (hTx : Hid (∀ k, k < 4 → (∃ u, w0.cell? ⟨T, k, none⟩ = some u) ∧ w0.frozen? ⟨T, k, none⟩ = false)) (u3 u4 u5 u8 u9 u10 u11 u12 u13 u14 u15 u16 u17 u18 u19 u20 u21 u22 u23 u24 u25 u26 u27 u28 u29 u30 u31 u32 u33 u34 u35 u36 u37 u38 u39 u40 u41 u42 u43 u44 u45 u46 u47 u48 u49 u50 u51 u52 u53 u54 u55 u56 u57 u58 : Value) (R : Ending → World → Prop)
    (hR : Hid (∀ (g cap : Nat) (ads' : List (Nat × Nat)) (pa : Option Addr) (pc : Nat) (W : World), RdW base B g cap ads' (.slice pa (redB m px bh).piv.length pc) (redB m px bh) W → Below base w0 W → R (.returned (rdV g cap pa pc (redB m px bh))) (rdBox T g cap pa pc (redB m px bh) W))) :
    Code.wp Tryz.prog (seqTail 2 ((Tryz.f72.body).getD .skip)) (bodyPost Tryz.prog Tryz.f72 R) { tmps := #[.slice ma m.length mc, .slice pxa px.length pxc, .func (.func 73) #[] #[.pointer (some ⟨Cb, 0, none⟩)], u3, u4, u5, .pointer (some ⟨T, 0, none⟩), .pointer (some ⟨B, 0, none⟩), u8, u9, u10, u11, u12, u13, u14, u15, u16, u17, u18, u19, u20, u21, u22, u23, u24, u25, u26, u27, u28, u29, u30, u31, u32, u33, u34, u35, u36, u37, u38, u39, u40, u41, u42, u43, u44, u45, u46, u47, u48, u49, u50, u51, u52, u53, u54, u55, u56, u57, u58], defers := [] } w := by
  conv => arg 2; whnf
  refine wp_seq_k (fun K hK => ?_)
  have HK := Lib.hid hK; clear hK
  obtain ⟨i0, hi, hz0, hz1, hz2⟩ := info_parts Tryz.infoInt
  go_wp2
  go_loopw [19] (fun i wr => ∃ (k : Nat) (rv : Value) (ads : List (Nat × Nat)), k ≤ m.length ∧ i = .int .i64 k ∧ Hid (RS base rv ads ((pixB px m bh).take k) wr) ∧ Hid (RB B (px.length : Int) rv wr) ∧ Hid (rv.ownBlock ≠ some B ∧ ∀ (i : Nat) (x : Nat × Nat), ads[i]? = some x → x.1 ≠ B) ∧ Below base w0 wr ∧ B < wr.heap.size) (fun i _ => m.length - (intOf i).toNat)
  case atStart => exact ⟨0, _, [], Nat.zero_le _, rfl, ⟨rfl, World.ownsRow_nil _ _ _ _, fun i x r h => by simp at h, fun i j x y h => by simp at h, fun i x h => by simp at h⟩, hbx, ⟨by simp [Value.ownBlock], fun i x h => by simp at h⟩, hb0.out, hB⟩
  case round =>
    obtain ⟨k, rv, ads, hk, rfl, HRS, HBX, HNE, hbl, hBl⟩ := hrel
    have HBL := Lib.hid hbl; clear hbl
    by_cases hlt : k < m.length
    · obtain ⟨b1, o1, ai, r, ci, rfl, hcell, hsl, HR⟩ := (hms.out HBL.out).at hlt
      have HSL := Lib.hid hsl; clear hsl
      have hbw : base ≤ wr.heap.size := by omega
      go_wp2_with (with_reducible refine wpList_make_own _ rfl (.const (.int .i64 0)) (.const (.int .i64 20)) 22 rfl wr.heap.size 3 i0 (.int .i64 0) 1 Tryz.underlying22 hi hz0 hz1 .i64 .i64 20 20 rfl rfl rfl (by rw [hz2]; omega) (by unfold maxLen; omega) (Nat.le_refl _) ?_)
      rotate_left
      intro w4 hown hgrow
      have HO4 : Hid (OwnI w4 wr.heap.size (.slice (some ⟨wr.heap.size, 0, none⟩) 0 20) []) := hown
      have HB4 : Hid (Below wr.heap.size wr w4) := (Below.refl _ _).grown hgrow (Nat.le_refl _) (fun k e => by cases e)
      clear hown hgrow
      obtain ⟨G, hG⟩ : ∃ G, wr.heap.size = G := ⟨_, rfl⟩
      rw [hG] at HO4 HB4
      have HGB : Hid (∀ {W : World}, Below G wr W → Below wr.heap.size wr W) := fun h => by rw [hG]; exact h
      rw [hG]
      have HGS : Hid (∀ {W : World}, Below G wr W → G ≤ W.heap.size) := fun h => by have := h.size; omega
      have hGb : base ≤ G := by omega
      have HGE := Lib.hid hG
      clear hG
      have hpx10 : px.length ≤ 10 := hpx.out
      go_wp2
      obtain ⟨wo, hwo⟩ : ∃ wo, wo = wr := ⟨_, rfl⟩
      subst hwo
      go_loopw [10, 27] (fun v i wq => ∃ j : Nat, j ≤ px.length ∧ i = .int .i64 j ∧ OwnI wq G v ((pixR px r).take j) ∧ Below G wo wq ∧ ∃ b c, v = .slice (some ⟨b, 0, none⟩) j c) (fun _ i _ => px.length - (intOf i).toNat)
      case atStart => exact ⟨0, Nat.zero_le _, rfl, HO4.out, HB4.out, _, _, rfl⟩
      case round =>
        clear HO4 HB4
        obtain ⟨j, hj, rfl, hO, hB, nb, nc, hvv⟩ := hrel
        subst hvv
        have HO := Lib.hid hO; clear hO
        have HB := Lib.hid hB; clear hB
        have HBq : Hid (Below base w0 wr) := HBL.out.trans (HB.out.mono hGb)
        by_cases hlj : j < px.length
        · obtain ⟨pb, po, v, rfl, hcv, HV⟩ := (hps.out HBq.out).at hlj
          have hvr := hin.out v (List.mem_of_getElem? HV.out)
          have HRC : Hid (r.length = colsM m) := hrl.out r (List.mem_of_getElem? HR.out)
          obtain ⟨q, rfl⟩ := Int.eq_ofNat_of_zero_le hvr.1
          have hq : q < r.length := by have := HRC.out; omega
          obtain ⟨rb, ro, x, rfl, hcx, HX⟩ := (HSL.out.below (HGB.out HB.out)).at hq
          have HT : Hid ((pixR px r).take (j + 1) = (pixR px r).take j ++ [x]) := by show _ = _; rw [pixR_succ HV.out, Int.toNat_natCast, gt_some' HX.out]
          have HTL : Hid (((pixR px r).take j).length = j) := by show _ = _; rw [List.length_take, pixR_len]; omega
          obtain ⟨TT, hTT⟩ : ∃ TT, (pixR px r).take j = TT := ⟨_, rfl⟩
          rw [hTT] at HO HT HTL
          clear hvr hTT
          go_wp2_with (at_builtin; go_must (refine wpList_pushG0 rfl (.tmp 31) (.tmp 36) rfl G _ TT _ _ _ _ rfl rfl rfl HO.out (by rw [HTL.out]; omega) (HGS.out HB.out) ?_); intro g7 c7 w9 ho' _ hb' _)
          go_roundw
          case rel => exact ⟨j + 1, by omega, by go_num, by rw [HT.out]; exact ho', HB.out.trans hb', g7, c7, by rw [HTL.out]⟩
          case measure => simp [intOf]; omega
        · obtain rfl : j = px.length := by omega
          rw [List.take_of_length_le (by rw [pixR_len]; exact Nat.le_refl _)] at HO
          have HPXL : Hid (px.length = (pixR px r).length) := (pixR_len px r).symm
          rw [HPXL.out] at HO
          rw [show Value.slice (some ⟨nb, 0, none⟩) px.length nc = Value.slice (some ⟨nb, 0, none⟩) (pixR px r).length nc by rw [pixR_len]]
          have hBG : B < G := by have := HGE.out; omega
          have HCB : Hid (∀ {W : World}, Below G wo W → W.cell? ⟨B, 1, none⟩ = some rv ∧ W.frozen? ⟨B, 1, none⟩ = false ∧ RB B (px.length : Int) rv W ∧ RS base rv ads ((pixB px m bh).take k) W ∧ B < W.heap.size) := fun h => ⟨(h.cell (p := ⟨B, 1, none⟩) hBG).trans HBX.out.c1, (h.frozen (p := ⟨B, 1, none⟩) hBG).trans HBX.out.f1, HBX.out.kept (h.block B hBG), HRS.out.below (HGB.out h), Nat.lt_of_lt_of_le hBG (HGS.out h)⟩
          have HKK : Hid (((pixB px m bh).take k).length = k) := by show _ = _; rw [List.length_take, pixB_len]; omega
          obtain ⟨Mk, hMk⟩ : ∃ Mk, (pixB px m bh).take k = Mk := ⟨_, rfl⟩
          have HMT : Hid (Mk ++ [pixR px r ++ bh k] = (pixB px m bh).take (k + 1)) := by show _ = _; rw [← hMk]; exact pixB_succ px bh HR.out
          rw [hMk] at HCB HKK
          have HMK := Lib.hid hMk
          clear hMk
          have cB := (HCB.out HB.out).1
          have fB := (HCB.out HB.out).2.1
          have HBQ : Hid (Below base w0 wr) := HBL.out.trans (HB.out.mono hGb)
          have HBR := Lib.hid (HBV.out k hlt)
          have HCA : Hid (∀ W, Below base w0 W → Calls Tryz.prog 73 #[.int .i64 (k : Int), .pointer (some ⟨Cb, 0, none⟩)] W fun e w' => ∃ bb bo bc, e = .returned (.slice (some ⟨bb, bo, none⟩) bn bc) ∧ Sl w' (some ⟨bb, bo, none⟩) (bh k) ∧ Below W.heap.size W w') := fun W hW => HBH.out W k hW hlt
          go_wp2
          have hk6 : m.length ≤ 6 := hm.out
          have hMk : Mk.length ≤ 1000 := by rw [HKK.out]; omega
          have hp10 : (pixR px r).length ≤ 100000 := by rw [pixR_len]; omega
          have HLE : Hid ((pixR px r ++ bh k).length = (pixR px r).length + bn) := by show _ = _; rw [List.length_append, HBR.out.1]
          have HFAR : Hid (∀ g2, G ≤ g2 → (∀ (i : Nat) (x : Nat × Nat), ads[i]? = some x → x.1 ≠ g2) ∧ rv.ownBlock ≠ some g2 ∧ B < g2) := fun g2 hg2 => by
            have e1 := HGE.out
            refine ⟨fun i x e => ?_, fun e => ?_, by omega⟩
            · have := (HRS.out.out i x e).2.1; omega
            · have := (World.ownsRow.lt HRS.out.own g2 e).2; omega
          go_region_law (first | (go_simp; go_at_call 73; refine (HCA.out _ HBQ.out.drew).mono ?_; rintro e wz ⟨bb, bo, bc, rfl, hsz, hbz⟩; have HBZ : Hid (Below G wo wz) := HB.out.drew.trans (hbz.mono (HGS.out HB.out.drew)); have HSZ := Lib.hid hsz; have HOZ := Lib.hid (OwnI.below (OwnI.drew HO.out) hbz); have cz := (HCB.out HBZ.out).1; have fz := (HCB.out HBZ.out).2.1; clear hsz hbz) | (refine step_pushL rfl (.tmp 41) (.tmp 44) rfl G (.slice (some ⟨nb, 0, none⟩) (pixR px r).length nc) (pixR px r) (bh k) wz bb bo bn bc (by rfl) (by rfl) HBR.out.1 (by omega) HSZ.out HOZ.out hp10 (HGS.out HBZ.out) ?_; intro g2 cp2 w8 ho8 hg8 hat8; have HG2 : Hid (G ≤ g2) := (OwnI.lt ho8).2; have HB8 : Hid (Below G wo w8) := HBZ.out.grown hg8 (HGS.out HBZ.out) (fun k e => (World.ownsRow.lt HOZ.out k e).1); have HR8 : Hid (OwnI w8 base (.slice (some ⟨g2, 0, none⟩) (pixR px r ++ bh k).length cp2) (pixR px r ++ bh k)) := HLE.out.symm ▸ ho8.mono hGb; have c8 := (HCB.out HB8.out).1; have f8 := (HCB.out HB8.out).2.1; have ca8 : ∀ o, (w8.alloc o).cell? ⟨B, 1, none⟩ = some rv := fun o => (HCB.out (HB8.out.alloc (HGS.out HB8.out) o)).1; clear ho8 hg8 hat8) | (refine step_pushRow rfl (.tmp 40) (.tmp 46) rfl base rv ads Mk (pixR px r ++ bh k) g2 cp2 _ _ (by rfl) (by rfl) (by rw [HLE.out]; go_simp) ((HCB.out HB8.out).2.2.2.1.below ((Below.refl _ _).alloc (Nat.le_refl _) _)) (HR8.out.below ((Below.refl _ _).alloc (Nat.le_refl _) _)) (HFAR.out g2 HG2.out).1 (HFAR.out g2 HG2.out).2.1 hMk (by simp; have := HGS.out HB8.out; omega) ?_; intro G2 cp3 w9 ho9 hg9 hat9; have hk9 := (hg9.block B (by simp; have := (HCB.out HB8.out).2.2.2.2; omega) (fun e => HNE.out.1 e.symm)).trans (((Below.refl w8.heap.size w8).alloc (Nat.le_refl _) _).block B (HCB.out HB8.out).2.2.2.2); have c9 := (cell_of_block hk9 1).trans c8; have f9 := (frozen_of_block' hk9 1).trans f8; have HB9 := Lib.hid ((HCB.out HB8.out).2.2.1.kept hk9)))
          all_goals
            have hgd := grown_drew hg9
            have key := rs_pushed (HBL.out.trans (HB8.out.mono hGb)) hbB (HCB.out HB8.out).2.2.2.2 (HCB.out HB8.out).2.2.2.1 HNE.out (HFAR.out g2 HG2.out).2.2 ho9 hgd hat9 HB9.out
            have KEY := Lib.hid key
            clear key ho9 hg9 hat9 hk9 c9 f9 hgd ca8 c8 f8 cz fz cB fB
            go_wp2
            go_roundw
            case rel => exact ⟨k + 1, _, ads ++ [(g2, cp2)], hlt, by go_num, HMT.out ▸ KEY.out.1, KEY.out.2.1, KEY.out.2.2.1, KEY.out.2.2.2.1, KEY.out.2.2.2.2⟩
            case measure => simp [intOf]; omega
    · obtain rfl : k = m.length := by omega
      have HOK := Lib.hid (redBM_ok hm.out hpx.out hbn.2 h64.out HBV.out)
      have hRS := HRS.out
      rw [List.take_of_length_le (by rw [pixB_len]; exact Nat.le_refl _)] at hRS
      obtain ⟨g, cap, rfl, hgc, hW⟩ := hRS.reduction (by rw [pixB_len]; exact hm1.out) hbB HNE.out HBX.out
      have HWW : Hid (RdW base B g cap ads (.slice none 0 0) (redBM m px bh) wr) := hW
      have HGC := Lib.hid hgc
      clear hW hRS hgc
      go_wp2
      refine HK.out _ _ ?_
      refine reduce_t3 (N := px.length + bn) (r := redBM m px bh) hT hTw HOK.out.1 HOK.out.2 (Nat.le_add_right _ _) (by have := hpx.out; omega) HGC.out hTx HWW HBL _ _ _ _ _ _ _ _ _ _ _ _ _ _ _ _ _ _ _ _ _ _ _ _ _ _ _ _ _ _ _ _ _ _ _ _ _ _ _ _ _ _ _ _ _ _ _ _ _ _ _ _ _ _ _ _ R (hR.out g cap)
end Go.Proofs.YtgbnfhfkehpfaaaGreat
/- reduce: a contract. -/
namespace Go.Proofs.YtgbnfhfkehpfaaaGreat
open Go.RowKit

def RdPost (r : Rd) (w : World) (e : Ending) (w' : World) : Prop := Below w.heap.size w w' ∧ ∃ (g cap : Nat) (ads : List (Nat × Nat)) (pa : Option Addr) (pc : Nat), e = .returned (rdV g cap pa pc r) ∧ w.heap.size ≤ g ∧ SI w' w.heap.size g ads r.rows ∧ OwnI w' w.heap.size (.slice pa r.piv.length pc) r.piv
theorem SI.lower {w : World} {base base' g : Nat} {ads : List (Nat × Nat)} {M : List (List Int)} (h : SI w base g ads M) (hb : base' ≤ base) : SI w base' g ads M :=
  ⟨h.len, fun i x r e1 e2 => ⟨(h.row i x r e1 e2).1, (h.row i x r e1 e2).2.mono hb⟩, h.apart, fun i x e => ⟨(h.out i x e).1, Nat.le_trans hb (h.out i x e).2⟩⟩
theorem rdBox_heap (T g cap : Nat) (pa : Option Addr) (pc : Nat) (r : Rd) (W : World) {b : Nat} (hb : b ≠ T) : (rdBox T g cap pa pc r W).heap[b]? = W.heap[b]? :=
  (Below.heap_setCell _ ⟨T, 3, none⟩ _ b hb).trans ((Below.heap_setCell _ ⟨T, 2, none⟩ _ b hb).trans ((Below.heap_setCell _ ⟨T, 1, none⟩ _ b hb).trans (Below.heap_setCell W ⟨T, 0, none⟩ _ b hb)))
theorem rdPost_of {B g cap pc : Nat} {pa : Option Addr} {ads : List (Nat × Nat)} {r : Rd} {w w0 W : World} (hT : Below w.heap.size w w0) (h : RdW (w.heap.size + 1) B g cap ads (.slice pa r.piv.length pc) r W) (hb : Below (w.heap.size + 1) w0 W) : RdPost r w (.returned (rdV g cap pa pc r)) (rdBox w.heap.size g cap pa pc r W) := by
  refine ⟨?_, g, cap, ads, pa, pc, rfl, Nat.le_trans (Nat.le_succ _) h.bg, (h.si.same (rdBox_heap _ _ _ _ _ _ _ (by have := h.bg; omega)) fun i x e => rdBox_heap _ _ _ _ _ _ _ (by have := (h.si.out i x e).2; omega)).lower (Nat.le_succ _), ?_⟩
  · have h1 := hT.trans (hb.mono (Nat.le_succ _))
    exact (((h1.setCell (p := ⟨w.heap.size, 0, none⟩) (Nat.le_refl _) _).setCell (p := ⟨w.heap.size, 1, none⟩) (Nat.le_refl _) _).setCell (p := ⟨w.heap.size, 2, none⟩) (Nat.le_refl _) _).setCell (p := ⟨w.heap.size, 3, none⟩) (Nat.le_refl _) _
  · have hp : OwnI (rdBox w.heap.size g cap pa pc r W) (w.heap.size + 1) (.slice pa r.piv.length pc) r.piv := row_same h.pi fun b e => rdBox_heap _ _ _ _ _ _ _ (by have := (World.ownsRow.lt h.pi b e).1; omega)
    exact hp.mono (Nat.le_succ _)
theorem rb_new (w : World) (o : Obj) (cols : Int) (t : TypeId) : RB (w.heap.size + 1) cols (.slice none 0 0) ((w.alloc o).alloc (.cells #[.int .i64 cols, .slice none 0 0, .slice none 0 0, .int .i64 1] t)) := by
  have h : (w.alloc o).heap.size = w.heap.size + 1 := World.size_alloc _ _
  rw [← h]
  exact ⟨alloc_cell _ _ _ _ _ rfl, alloc_cell _ _ _ _ _ rfl, alloc_cell _ _ _ _ _ rfl, alloc_cell _ _ _ _ _ rfl, by simp, by simp, by simp⟩
theorem rt_new (w : World) (a b c d : Value) (t : TypeId) (o : Obj) : ∀ k, k < 4 → (∃ u, ((w.alloc (.cells #[a, b, c, d] t)).alloc o).cell? ⟨w.heap.size, k, none⟩ = some u) ∧ ((w.alloc (.cells #[a, b, c, d] t)).alloc o).frozen? ⟨w.heap.size, k, none⟩ = false := by
  have h : (w.alloc (.cells #[a, b, c, d] t)).heap.size = w.heap.size + 1 := World.size_alloc _ _
  intro k hk
  refine ⟨?_, by simp⟩
  match k, hk with
  | 0, _ => exact ⟨a, (alloc_old _ _ _ _ (by omega)).trans (alloc_cell _ _ _ _ _ rfl)⟩
  | 1, _ => exact ⟨b, (alloc_old _ _ _ _ (by omega)).trans (alloc_cell _ _ _ _ _ rfl)⟩
  | 2, _ => exact ⟨c, (alloc_old _ _ _ _ (by omega)).trans (alloc_cell _ _ _ _ _ rfl)⟩
  | 3, _ => exact ⟨d, (alloc_old _ _ _ _ (by omega)).trans (alloc_cell _ _ _ _ _ rfl)⟩
theorem two_new (w : World) (o o' : Obj) : Below w.heap.size w ((w.alloc o).alloc o') := ((Below.refl _ _).alloc (Nat.le_refl _) _).alloc (by rw [World.size_alloc]; omega) _
set_option maxRecDepth 100000 in
theorem reduce_any0 {ma : Option Addr} {m : List (List Int)} {mc : Nat} {pxa : Option Addr} {px : List Int} {pxc : Nat} {w : World} (hm : Hid (m.length ≤ 6)) (hm1 : Hid (1 ≤ m.length)) (hpx : Hid (px.length ≤ 10)) (hin : Hid (∀ j ∈ px, 0 ≤ j ∧ j < colsM m)) (hrl : Hid (∀ r ∈ m, r.length = colsM m)) (h64 : Hid (All64 m))
    (hms : Hid (Ms w ma m)) (hps : Hid (Sl w pxa px)) :
    Calls Tryz.prog 72 #[.slice ma m.length mc, .slice pxa px.length pxc, .func (.func 45) #[] #[]] w (RdPost (redN m px) w) := by
  go_enter Tryz.func72, Tryz.ntmps72
  refine wp_seq_k (fun K hK => ?_)
  have HK := Lib.hid hK; clear hK
  go_wp2
  refine HK.out _ _ ?_
  clear HK
  refine wp_seq_k (fun K hK => ?_)
  have HK := Lib.hid hK; clear hK
  go_wp2
  refine HK.out _ _ ?_
  clear HK
  refine reduce_t2 (base := w.heap.size + 1) (T := w.heap.size) (Nat.le_refl _) hm hpx hin hrl ?_ ?_ ?_ ?_ (Below.refl _ _) hm1 h64 (Nat.lt_succ_self _) ?_ ?_ _ _ _ _ _ _ _ _ _ _ _ _ _ _ _ _ _ _ _ _ _ _ _ _ _ _ _ _ _ _ _ _ _ _ _ _ _ _ _ _ _ _ _ _ _ _ _ _ _ _ _ _ _ _ _ ?_
  · exact fun hb => hms.out.below ((two_new w _ _).trans (hb.mono (Nat.le_succ _)))
  · exact fun hb => hps.out.below ((two_new w _ _).trans (hb.mono (Nat.le_succ _)))
  · rw [World.size_alloc, World.size_alloc]; omega
  · exact rb_new w _ _ _
  · rw [World.size_alloc, World.size_alloc]; omega
  · exact rt_new w _ _ _ _ _ _
  · exact fun g cap ads pa pc W h hb => rdPost_of (two_new w _ _) h hb
theorem reduce_any {ma : Option Addr} {m : List (List Int)} {mc : Nat} {pxa : Option Addr} {px : List Int} {pxc : Nat} {w : World} (hm : Hid (m.length ≤ 6)) (hm1 : Hid (1 ≤ m.length)) (hpx : Hid (1 ≤ px.length ∧ px.length ≤ 10)) (hin : Hid (∀ j ∈ px, 0 ≤ j ∧ j < colsM m)) (hrl : Hid (∀ r ∈ m, r.length = colsM m)) (h64 : Hid (All64 m))
    (hms : Hid (Ms w ma m)) (hps : Hid (Sl w pxa px)) :
    Calls Tryz.prog 72 #[.slice ma m.length mc, .slice pxa px.length pxc, .func (.func 45) #[] #[]] w (RdPost (redN m px) w) := reduce_any0 hm hm1 (Lib.hid hpx.out.2) hin hrl h64 hms hps
end Go.Proofs.YtgbnfhfkehpfaaaGreat
/- reduceAll: a contract. -/
namespace Go.Proofs.YtgbnfhfkehpfaaaGreat
open Go.RowKit

def upTo (n : Nat) : List Int := (List.range n).map Int.ofNat
theorem upTo_len (n : Nat) : (upTo n).length = n := by simp [upTo]
theorem upTo_succ (n : Nat) : upTo (n + 1) = upTo n ++ [(n : Int)] := by unfold upTo; rw [List.range_succ, List.map_append]; rfl
theorem rdPost_box {T g cap pc : Nat} {pa : Option Addr} {ads : List (Nat × Nat)} {r : Rd} {w wr W : World} (hT : T = w.heap.size) (hwr : w.heap.size < wr.heap.size) (hb0 : Below w.heap.size w wr) (hb : Below wr.heap.size wr W) (hg : wr.heap.size ≤ g) (hs : SI W wr.heap.size g ads r.rows) (hp : OwnI W wr.heap.size (.slice pa r.piv.length pc) r.piv) : RdPost r w (.returned (rdV g cap pa pc r)) (rdBox T g cap pa pc r W) := by
  subst hT
  refine ⟨?_, g, cap, ads, pa, pc, rfl, by omega, (hs.same (rdBox_heap _ _ _ _ _ _ _ (by omega)) fun i x e => rdBox_heap _ _ _ _ _ _ _ (by have := (hs.out i x e).2; omega)).lower (by omega), ?_⟩
  · have h1 := hb0.trans (hb.mono (Nat.le_of_lt hwr))
    exact (((h1.setCell (p := ⟨w.heap.size, 0, none⟩) (Nat.le_refl _) _).setCell (p := ⟨w.heap.size, 1, none⟩) (Nat.le_refl _) _).setCell (p := ⟨w.heap.size, 2, none⟩) (Nat.le_refl _) _).setCell (p := ⟨w.heap.size, 3, none⟩) (Nat.le_refl _) _
  · have hp : OwnI (rdBox w.heap.size g cap pa pc r W) wr.heap.size (.slice pa r.piv.length pc) r.piv := row_same hp fun b e => rdBox_heap _ _ _ _ _ _ _ (by have := (World.ownsRow.lt hp b e).1; omega)
    exact hp.mono (Nat.le_of_lt hwr)
theorem upTo_in {n : Nat} {q : Int} (h : q ∈ upTo n) : 0 ≤ q ∧ q < (n : Int) := by
  obtain ⟨j, hj, rfl⟩ := List.mem_map.1 h
  have := List.mem_range.1 hj
  exact ⟨Int.natCast_nonneg _, by show (j : Int) < n; omega⟩
set_option maxRecDepth 100000 in
theorem reduceAll_any {ma : Option Addr} {m : List (List Int)} {mc : Nat} {w : World} (hm : Hid (m.length ≤ 6)) (hm1 : Hid (1 ≤ m.length)) (hc : Hid (1 ≤ colsM m ∧ colsM m ≤ 10)) (hrl : Hid (∀ r ∈ m, r.length = colsM m)) (h64 : Hid (All64 m)) (hms : Hid (Ms w ma m)) :
    Calls Tryz.prog 39 #[.slice ma m.length mc, .func (.func 45) #[] #[]] w (RdPost (redN m (upTo (colsM m))) w) := by
  obtain ⟨n, hn⟩ : ∃ n, colsM m = n := ⟨_, rfl⟩
  have HN := Lib.hid hn
  rw [hn] at hc hrl
  clear hn
  go_enter Tryz.func39, Tryz.ntmps39
  have HB0 : Hid (∀ o, Below (w.heap.size + 1) (w.alloc o) (w.alloc o)) := fun o => Below.refl _ _
  have HBA : Hid (∀ o, Below w.heap.size w (w.alloc o)) := fun o => (Below.refl _ _).alloc (Nat.le_refl _) _
  have h0 : 0 < m.length := hm1.out
  obtain ⟨b1, o1, ai, r, ci, rfl, hcell, hsl, HR⟩ := hms.out.at h0
  have hcell' : ∀ o, (w.alloc o).cell? ⟨b1, o1, none⟩ = some (.slice ai r.length ci) := fun o => ((HBA.out o).cell (p := ⟨b1, o1, none⟩) (cell_lt hcell)).trans hcell
  have hrn : r.length = n := hrl.out r (List.mem_of_getElem? HR.out)
  rw [hrn] at hcell'
  clear hcell
  have hn10 := hc.out.2
  go_wp2
  go_loopw [5, 11] (fun v i wr => ∃ j : Nat, j ≤ n ∧ i = .int .i64 j ∧ OwnI wr (w.heap.size + 1) v (upTo j) ∧ Below (w.heap.size + 1) (w.alloc (.cells #[.int .i64 0, .slice none 0 0, .slice none 0 0, .int .i64 0] 61)) wr) (fun _ i _ => n - (intOf i).toNat)
  case atStart => exact ⟨0, Nat.zero_le _, rfl, OwnI.nil _ _, Below.refl _ _⟩
  case round =>
    obtain ⟨j, hj, rfl, hO, hB⟩ := hrel
    have HO := Lib.hid hO; clear hO
    have HB := Lib.hid hB; clear hB
    have hsz : (w.alloc (.cells #[.int .i64 0, .slice none 0 0, .slice none 0 0, .int .i64 0] 61)).heap.size = w.heap.size + 1 := World.size_alloc _ _
    have HSZ : Hid (w.heap.size + 1 ≤ wr.heap.size) := by have := HB.out.size; show _ ≤ _; omega
    clear hsz hcell'
    by_cases hlt : j < n
    · go_wp2_with (at_builtin; go_must (refine wpList_push rfl (.tmp 14) (.tmp 16) rfl (w.heap.size + 1) _ (upTo j) _ _ _ _ rfl rfl rfl HO.out (by rw [upTo_len]; omega) HSZ.out ?_); intro v' w9 ho' hb')
      go_roundw
      case rel => exact ⟨j + 1, by omega, by go_num, by rw [upTo_succ]; exact ho', HB.out.trans hb'⟩
      case measure => simp [intOf]; omega
    · obtain rfl : j = n := by omega
      have HBW : Hid (Below w.heap.size w wr) := (HBA.out _).trans (HB.out.mono (Nat.le_succ _))
      obtain ⟨pa, pc, rfl, hps⟩ := HO.out.any
      have HPS := Lib.hid hps; clear hps
      have HMS : Hid (Ms wr (some ⟨b1, o1, none⟩) m) := hms.out.below HBW.out
      have HT0 : Hid (wr.cell? ⟨w.heap.size, 0, none⟩ = some (.int .i64 0) ∧ wr.frozen? ⟨w.heap.size, 0, none⟩ = false) := ⟨(HB.out.cell (p := ⟨w.heap.size, 0, none⟩) (Nat.lt_succ_self _)).trans (alloc_cell w _ _ _ _ rfl), (HB.out.frozen (p := ⟨w.heap.size, 0, none⟩) (Nat.lt_succ_self _)).trans (by simp)⟩
      have HT1 : Hid (wr.cell? ⟨w.heap.size, 1, none⟩ = some (.slice none 0 0) ∧ wr.frozen? ⟨w.heap.size, 1, none⟩ = false) := ⟨(HB.out.cell (p := ⟨w.heap.size, 1, none⟩) (Nat.lt_succ_self _)).trans (alloc_cell w _ _ _ _ rfl), (HB.out.frozen (p := ⟨w.heap.size, 1, none⟩) (Nat.lt_succ_self _)).trans (by simp)⟩
      have HT2 : Hid (wr.cell? ⟨w.heap.size, 2, none⟩ = some (.slice none 0 0) ∧ wr.frozen? ⟨w.heap.size, 2, none⟩ = false) := ⟨(HB.out.cell (p := ⟨w.heap.size, 2, none⟩) (Nat.lt_succ_self _)).trans (alloc_cell w _ _ _ _ rfl), (HB.out.frozen (p := ⟨w.heap.size, 2, none⟩) (Nat.lt_succ_self _)).trans (by simp)⟩
      have HT3 : Hid (wr.cell? ⟨w.heap.size, 3, none⟩ = some (.int .i64 0) ∧ wr.frozen? ⟨w.heap.size, 3, none⟩ = false) := ⟨(HB.out.cell (p := ⟨w.heap.size, 3, none⟩) (Nat.lt_succ_self _)).trans (alloc_cell w _ _ _ _ rfl), (HB.out.frozen (p := ⟨w.heap.size, 3, none⟩) (Nat.lt_succ_self _)).trans (by simp)⟩
      have hlw : Hid (w.heap.size < wr.heap.size) := HSZ.out
      have HPX : Hid (1 ≤ (upTo j).length ∧ (upTo j).length ≤ 10) := by rw [upTo_len]; exact hc.out
      have HIN : Hid (∀ q ∈ upTo j, 0 ≤ q ∧ q < colsM m) := fun q hq => by rw [HN.out]; exact upTo_in hq
      have HRL : Hid (∀ r ∈ m, r.length = colsM m) := fun r hr => by rw [HN.out]; exact hrl.out r hr
      go_wp2_with (go_at_call 72; refine (reduce_any hm hm1 HPX HIN HRL h64 HMS HPS).mono ?_; rintro e w2 ⟨hb2, g, cap, ads, pa2, pc2, rfl, hgg, si, pi⟩; unfold rdV; have t0 := (hb2.cell (p := ⟨w.heap.size, 0, none⟩) hlw.out).trans HT0.out.1; have z0 := (hb2.frozen (p := ⟨w.heap.size, 0, none⟩) hlw.out).trans HT0.out.2; have t1 := (hb2.cell (p := ⟨w.heap.size, 1, none⟩) hlw.out).trans HT1.out.1; have z1 := (hb2.frozen (p := ⟨w.heap.size, 1, none⟩) hlw.out).trans HT1.out.2; have t2 := (hb2.cell (p := ⟨w.heap.size, 2, none⟩) hlw.out).trans HT2.out.1; have z2 := (hb2.frozen (p := ⟨w.heap.size, 2, none⟩) hlw.out).trans HT2.out.2; have t3 := (hb2.cell (p := ⟨w.heap.size, 3, none⟩) hlw.out).trans HT3.out.1; have z3 := (hb2.frozen (p := ⟨w.heap.size, 3, none⟩) hlw.out).trans HT3.out.2)
      refine bodyPost_ret_by (v := rdV g cap pa2 pc2 (redN m (upTo j))) ?_ rfl (by rw [HN.out]; exact rdPost_box rfl hlw.out HBW.out hb2 hgg si pi)
      rw [results_cell_one' rfl]
      unfold rdV
      go_simp
end Go.Proofs.YtgbnfhfkehpfaaaGreat
/- reduce and reduceAll with more numbers behind the rows: contracts. -/
namespace Go.Proofs.YtgbnfhfkehpfaaaGreat
open Go.RowKit

set_option maxRecDepth 100000 in
theorem reduce_any0One {bh : Nat → List Int} {bn Cb : Nat} {ma : Option Addr} {m : List (List Int)} {mc : Nat} {pxa : Option Addr} {px : List Int} {pxc : Nat} {w : World} (HBH : Hid (BehF 73 (.pointer (some ⟨Cb, 0, none⟩)) bh bn m.length w.heap.size w)) (hbn : 1 ≤ bn ∧ bn ≤ 6) (HBV : Hid (∀ i, i < m.length → (bh i).length = bn ∧ ∀ x ∈ bh i, In64 x)) (hm : Hid (m.length ≤ 6)) (hm1 : Hid (1 ≤ m.length)) (hpx : Hid (px.length ≤ 10)) (hin : Hid (∀ j ∈ px, 0 ≤ j ∧ j < colsM m)) (hrl : Hid (∀ r ∈ m, r.length = colsM m)) (h64 : Hid (All64 m))
    (hms : Hid (Ms w ma m)) (hps : Hid (Sl w pxa px)) :
    Calls Tryz.prog 72 #[.slice ma m.length mc, .slice pxa px.length pxc, .func (.func 73) #[] #[.pointer (some ⟨Cb, 0, none⟩)]] w (RdPost (redB m px bh) w) := by
  go_enter Tryz.func72, Tryz.ntmps72
  refine wp_seq_k (fun K hK => ?_)
  have HK := Lib.hid hK; clear hK
  go_wp2
  refine HK.out _ _ ?_
  clear HK
  refine wp_seq_k (fun K hK => ?_)
  have HK := Lib.hid hK; clear hK
  go_wp2
  refine HK.out _ _ ?_
  clear HK
  refine reduce_t2One (bh := bh) (bn := bn) (base := w.heap.size + 1) (T := w.heap.size) ?_ hbn HBV (Nat.le_refl _) hm hpx hin hrl ?_ ?_ ?_ ?_ (Below.refl _ _) hm1 h64 (Nat.lt_succ_self _) ?_ ?_ _ _ _ _ _ _ _ _ _ _ _ _ _ _ _ _ _ _ _ _ _ _ _ _ _ _ _ _ _ _ _ _ _ _ _ _ _ _ _ _ _ _ _ _ _ _ _ _ _ _ _ _ _ _ _ ?_
  · exact fun W k hb hk => HBH.out W k ((two_new w _ _).trans (hb.mono (Nat.le_succ _))) hk
  · exact fun hb => hms.out.below ((two_new w _ _).trans (hb.mono (Nat.le_succ _)))
  · exact fun hb => hps.out.below ((two_new w _ _).trans (hb.mono (Nat.le_succ _)))
  · rw [World.size_alloc, World.size_alloc]; omega
  · exact rb_new w _ _ _
  · rw [World.size_alloc, World.size_alloc]; omega
  · exact rt_new w _ _ _ _ _ _
  · exact fun g cap ads pa pc W h hb => rdPost_of (two_new w _ _) h hb
set_option maxRecDepth 100000 in
theorem reduceAll_anyOne {bh : Nat → List Int} {bn Cb : Nat} {ma : Option Addr} {m : List (List Int)} {mc : Nat} {w : World} (HBH : Hid (BehF 73 (.pointer (some ⟨Cb, 0, none⟩)) bh bn m.length w.heap.size w)) (hbn : 1 ≤ bn ∧ bn ≤ 6) (HBV : Hid (∀ i, i < m.length → (bh i).length = bn ∧ ∀ x ∈ bh i, In64 x)) (hm : Hid (m.length ≤ 6)) (hm1 : Hid (1 ≤ m.length)) (hc : Hid (1 ≤ colsM m ∧ colsM m ≤ 10)) (hrl : Hid (∀ r ∈ m, r.length = colsM m)) (h64 : Hid (All64 m)) (hms : Hid (Ms w ma m)) :
    Calls Tryz.prog 39 #[.slice ma m.length mc, .func (.func 73) #[] #[.pointer (some ⟨Cb, 0, none⟩)]] w (RdPost (redB m (upTo (colsM m)) bh) w) := by
  obtain ⟨n, hn⟩ : ∃ n, colsM m = n := ⟨_, rfl⟩
  have HN := Lib.hid hn
  rw [hn] at hc hrl
  clear hn
  go_enter Tryz.func39, Tryz.ntmps39
  have HB0 : Hid (∀ o, Below (w.heap.size + 1) (w.alloc o) (w.alloc o)) := fun o => Below.refl _ _
  have HBA : Hid (∀ o, Below w.heap.size w (w.alloc o)) := fun o => (Below.refl _ _).alloc (Nat.le_refl _) _
  have h0 : 0 < m.length := hm1.out
  obtain ⟨b1, o1, ai, r, ci, rfl, hcell, hsl, HR⟩ := hms.out.at h0
  have hcell' : ∀ o, (w.alloc o).cell? ⟨b1, o1, none⟩ = some (.slice ai r.length ci) := fun o => ((HBA.out o).cell (p := ⟨b1, o1, none⟩) (cell_lt hcell)).trans hcell
  have hrn : r.length = n := hrl.out r (List.mem_of_getElem? HR.out)
  rw [hrn] at hcell'
  clear hcell
  have hn10 := hc.out.2
  go_wp2
  go_loopw [5, 11] (fun v i wr => ∃ j : Nat, j ≤ n ∧ i = .int .i64 j ∧ OwnI wr (w.heap.size + 1) v (upTo j) ∧ Below (w.heap.size + 1) (w.alloc (.cells #[.int .i64 0, .slice none 0 0, .slice none 0 0, .int .i64 0] 61)) wr) (fun _ i _ => n - (intOf i).toNat)
  case atStart => exact ⟨0, Nat.zero_le _, rfl, OwnI.nil _ _, Below.refl _ _⟩
  case round =>
    obtain ⟨j, hj, rfl, hO, hB⟩ := hrel
    have HO := Lib.hid hO; clear hO
    have HB := Lib.hid hB; clear hB
    have hsz : (w.alloc (.cells #[.int .i64 0, .slice none 0 0, .slice none 0 0, .int .i64 0] 61)).heap.size = w.heap.size + 1 := World.size_alloc _ _
    have HSZ : Hid (w.heap.size + 1 ≤ wr.heap.size) := by have := HB.out.size; show _ ≤ _; omega
    clear hsz hcell'
    by_cases hlt : j < n
    · go_wp2_with (at_builtin; go_must (refine wpList_push rfl (.tmp 14) (.tmp 16) rfl (w.heap.size + 1) _ (upTo j) _ _ _ _ rfl rfl rfl HO.out (by rw [upTo_len]; omega) HSZ.out ?_); intro v' w9 ho' hb')
      go_roundw
      case rel => exact ⟨j + 1, by omega, by go_num, by rw [upTo_succ]; exact ho', HB.out.trans hb'⟩
      case measure => simp [intOf]; omega
    · obtain rfl : j = n := by omega
      have HBW : Hid (Below w.heap.size w wr) := (HBA.out _).trans (HB.out.mono (Nat.le_succ _))
      obtain ⟨pa, pc, rfl, hps⟩ := HO.out.any
      have HPS := Lib.hid hps; clear hps
      have HMS : Hid (Ms wr (some ⟨b1, o1, none⟩) m) := hms.out.below HBW.out
      have HT0 : Hid (wr.cell? ⟨w.heap.size, 0, none⟩ = some (.int .i64 0) ∧ wr.frozen? ⟨w.heap.size, 0, none⟩ = false) := ⟨(HB.out.cell (p := ⟨w.heap.size, 0, none⟩) (Nat.lt_succ_self _)).trans (alloc_cell w _ _ _ _ rfl), (HB.out.frozen (p := ⟨w.heap.size, 0, none⟩) (Nat.lt_succ_self _)).trans (by simp)⟩
      have HT1 : Hid (wr.cell? ⟨w.heap.size, 1, none⟩ = some (.slice none 0 0) ∧ wr.frozen? ⟨w.heap.size, 1, none⟩ = false) := ⟨(HB.out.cell (p := ⟨w.heap.size, 1, none⟩) (Nat.lt_succ_self _)).trans (alloc_cell w _ _ _ _ rfl), (HB.out.frozen (p := ⟨w.heap.size, 1, none⟩) (Nat.lt_succ_self _)).trans (by simp)⟩
      have HT2 : Hid (wr.cell? ⟨w.heap.size, 2, none⟩ = some (.slice none 0 0) ∧ wr.frozen? ⟨w.heap.size, 2, none⟩ = false) := ⟨(HB.out.cell (p := ⟨w.heap.size, 2, none⟩) (Nat.lt_succ_self _)).trans (alloc_cell w _ _ _ _ rfl), (HB.out.frozen (p := ⟨w.heap.size, 2, none⟩) (Nat.lt_succ_self _)).trans (by simp)⟩
      have HT3 : Hid (wr.cell? ⟨w.heap.size, 3, none⟩ = some (.int .i64 0) ∧ wr.frozen? ⟨w.heap.size, 3, none⟩ = false) := ⟨(HB.out.cell (p := ⟨w.heap.size, 3, none⟩) (Nat.lt_succ_self _)).trans (alloc_cell w _ _ _ _ rfl), (HB.out.frozen (p := ⟨w.heap.size, 3, none⟩) (Nat.lt_succ_self _)).trans (by simp)⟩
      have hlw : Hid (w.heap.size < wr.heap.size) := HSZ.out
      have HBC : Hid (BehF 73 (.pointer (some ⟨Cb, 0, none⟩)) bh bn m.length wr.heap.size wr) := fun W k hb hk => HBH.out W k (HBW.out.trans (hb.mono HBW.out.size)) hk
      have HPX : Hid (1 ≤ (upTo j).length ∧ (upTo j).length ≤ 10) := by rw [upTo_len]; exact hc.out
      have HIN : Hid (∀ q ∈ upTo j, 0 ≤ q ∧ q < colsM m) := fun q hq => by rw [HN.out]; exact upTo_in hq
      have HRL : Hid (∀ r ∈ m, r.length = colsM m) := fun r hr => by rw [HN.out]; exact hrl.out r hr
      go_wp2_with (go_at_call 72; refine (reduce_any0One HBC hbn HBV hm hm1 (Lib.hid HPX.out.2) HIN HRL h64 HMS HPS).mono ?_; rintro e w2 ⟨hb2, g, cap, ads, pa2, pc2, rfl, hgg, si, pi⟩; unfold rdV; have t0 := (hb2.cell (p := ⟨w.heap.size, 0, none⟩) hlw.out).trans HT0.out.1; have z0 := (hb2.frozen (p := ⟨w.heap.size, 0, none⟩) hlw.out).trans HT0.out.2; have t1 := (hb2.cell (p := ⟨w.heap.size, 1, none⟩) hlw.out).trans HT1.out.1; have z1 := (hb2.frozen (p := ⟨w.heap.size, 1, none⟩) hlw.out).trans HT1.out.2; have t2 := (hb2.cell (p := ⟨w.heap.size, 2, none⟩) hlw.out).trans HT2.out.1; have z2 := (hb2.frozen (p := ⟨w.heap.size, 2, none⟩) hlw.out).trans HT2.out.2; have t3 := (hb2.cell (p := ⟨w.heap.size, 3, none⟩) hlw.out).trans HT3.out.1; have z3 := (hb2.frozen (p := ⟨w.heap.size, 3, none⟩) hlw.out).trans HT3.out.2)
      refine bodyPost_ret_by (v := rdV g cap pa2 pc2 (redB m (upTo j) bh)) ?_ rfl (by rw [HN.out]; exact rdPost_box rfl hlw.out HBW.out hb2 hgg si pi)
      rw [results_cell_one' rfl]
      unfold rdV
      go_simp
end Go.Proofs.YtgbnfhfkehpfaaaGreat
/- oneOf, and reduceAll with it: contracts. -/
namespace Go.Proofs.YtgbnfhfkehpfaaaGreat
open Go.RowKit

def oneB (y : List Int) (i : Nat) : List Int := [gt y i]
theorem oneB_ok {y : List Int} {n : Nat} (h64 : ∀ x ∈ y, In64 x) : ∀ i, i < n → (oneB y i).length = 1 ∧ ∀ x ∈ oneB y i, In64 x := by
  intro i _
  refine ⟨rfl, fun x hx => ?_⟩
  rw [List.mem_singleton.1 hx]
  exact gt_in64 h64 i
theorem oneOf_any (ya : Option Addr) (n yc : Nat) (w : World) :
    Calls Tryz.prog 40 #[.slice ya n yc] w fun e w' => e = .returned (.func (.func 73) #[] #[.pointer (some ⟨w.heap.size, 0, none⟩)]) ∧ w' = w.alloc (.cells #[.slice ya n yc] 22) := by
  go_enter Tryz.func40, Tryz.ntmps40
  go_wp2
  go_ret
  exact ⟨rfl, rfl⟩
theorem oneOf1_any (Cb : Nat) (ya : Option Addr) (y : List Int) (yc k : Nat) (w : World) (hk : k < y.length) (_hl : y.length ≤ 1000) (hc : w.cell? ⟨Cb, 0, none⟩ = some (.slice ya y.length yc)) (hs : Sl w ya y) :
    Calls Tryz.prog 73 #[.int .i64 (k : Int), .pointer (some ⟨Cb, 0, none⟩)] w fun e w' => ∃ bb bo bc, e = .returned (.slice (some ⟨bb, bo, none⟩) 1 bc) ∧ Sl w' (some ⟨bb, bo, none⟩) (oneB y k) ∧ Below w.heap.size w w' := by
  obtain ⟨b, o, x, rfl, hcx, hx⟩ := hs.at hk
  have HG := Lib.hid (gt_some' hx.out)
  have hk0 : (k : Int) < (y.length : Int) := by omega
  go_enter Tryz.func73, Tryz.ntmps73
  go_wp2
  go_ret
  refine ⟨_, _, _, rfl, fun j hj => ?_, (Below.refl _ _).alloc (Nat.le_refl _) _⟩
  obtain rfl : j = 0 := by simp [oneB] at hj; omega
  refine ⟨w.heap.size, 0, rfl, ?_⟩
  rw [show (oneB y k)[0]?.getD 0 = x from HG.out]
  exact alloc_cell _ _ _ _ _ rfl
theorem one_beh {Cb : Nat} {ya : Option Addr} {y : List Int} {yc n : Nat} {w : World} (hn : n ≤ y.length) (hl : y.length ≤ 1000) (hc : w.cell? ⟨Cb, 0, none⟩ = some (.slice ya y.length yc)) (hs : Sl w ya y) :
    BehF 73 (.pointer (some ⟨Cb, 0, none⟩)) (oneB y) 1 n w.heap.size w := fun W k hb hk =>
  oneOf1_any Cb ya y yc k W (by omega) hl ((hb.cell (p := ⟨Cb, 0, none⟩) (cell_lt hc)).trans hc) (hs.below hb)
end Go.Proofs.YtgbnfhfkehpfaaaGreat
/- Determinants of columns by the last row, and Cramer's rule: plain words. Speaks of no program. -/
namespace Go.Proofs.YtgbnfhfkehpfaaaGreat
open Go.RowKit

theorem sumZ {f : Nat → Int} : ∀ n, (∀ i, i < n → f i = 0) → sumTo f n = 0
  | 0, _ => rfl
  | n + 1, h => by simp only [sumTo, sumZ n (fun i hi => h i (by omega)), h n (by omega)]; rfl
theorem sumOne {f : Nat → Int} {s : Nat} : ∀ n, s < n → (∀ i, i < n → i ≠ s → f i = 0) → sumTo f n = f s
  | 0, h, _ => absurd h (by omega)
  | n + 1, h, h0 => by
    simp only [sumTo]
    by_cases e : s = n
    · subst e; rw [sumZ s fun i hi => h0 i (by omega) (by omega)]; omega
    · rw [sumOne n (by omega) fun i hi hs => h0 i (by omega) hs, h0 n (by omega) (by omega)]; omega
theorem sumPair {f : Nat → Int} {s t : Nat} (hst : s < t) : ∀ n, t < n → (∀ i, i < n → i ≠ s → i ≠ t → f i = 0) → sumTo f n = f s + f t
  | 0, h, _ => absurd h (by omega)
  | n + 1, h, h0 => by
    simp only [sumTo]
    by_cases e : t = n
    · subst e; rw [sumOne t hst fun i hi hs => h0 i (by omega) hs (by omega)]
    · rw [sumPair hst n (by omega) fun i hi hs ht => h0 i (by omega) hs ht, h0 n (by omega) (by omega) (by omega)]; omega
theorem sumSwap (f : Nat → Nat → Int) (n : Nat) : ∀ m, sumTo (fun i => sumTo (f i) n) m = sumTo (fun j => sumTo (fun i => f i j) m) n
  | 0 => by simp only [sumTo]; exact (sumZ n fun _ _ => rfl).symm
  | m + 1 => by simp only [sumTo]; rw [sumSwap f n m, sumTo_add]
theorem sumSub (f g : Nat → Int) : ∀ n, sumTo (fun i => f i - g i) n = sumTo f n - sumTo g n
  | 0 => rfl
  | n + 1 => by simp only [sumTo, sumSub f g n]; omega
theorem sumNeg (f : Nat → Int) : ∀ n, sumTo (fun i => -f i) n = -sumTo f n
  | 0 => rfl
  | n + 1 => by simp only [sumTo, sumNeg f n]; omega
theorem sumMulR (c : Int) (f : Nat → Int) (n : Nat) : sumTo (fun i => f i * c) n = sumTo f n * c := by
  rw [Int.mul_comm, ← sumTo_mul]; exact sumTo_congr n fun i _ => Int.mul_comm _ _
def updC (b : Nat → Nat → Int) (t : Nat) (v : Nat → Int) : Nat → Nat → Int := fun s => if s = t then v else b s
theorem updC_at (b : Nat → Nat → Int) (t : Nat) (v : Nat → Int) : updC b t v t = v := by simp [updC]
theorem updC_ne (b : Nat → Nat → Int) {t s : Nat} (v : Nat → Int) (h : s ≠ t) : updC b t v s = b s := by simp [updC, h]
def detC : Nat → (Nat → Nat → Int) → Int
  | 0, _ => 1
  | n + 1, b => b n n * detC n b - sumTo (fun t => b t n * detC n (updC b t (b n))) n
theorem detC_congr : ∀ (n : Nat) {b c : Nat → Nat → Int}, (∀ s, s < n → ∀ i, i < n → b s i = c s i) → detC n b = detC n c
  | 0, _, _, _ => rfl
  | n + 1, b, c, h => by
    simp only [detC]
    rw [h n (by omega) n (by omega), detC_congr n fun s hs i hi => h s (by omega) i (by omega)]
    congr 1
    refine sumTo_congr n fun t ht => ?_
    rw [h t (by omega) n (by omega)]
    congr 1
    refine detC_congr n fun s hs i hi => ?_
    unfold updC
    split
    · exact h n (by omega) i (by omega)
    · exact h s (by omega) i (by omega)
theorem detC_cols (n : Nat) {b c : Nat → Nat → Int} (h : ∀ s, s < n → b s = c s) : detC n b = detC n c := detC_congr n fun s hs i _ => by rw [h s hs]
def swapC (b : Nat → Nat → Int) (s t : Nat) : Nat → Nat → Int := fun r => if r = s then b t else if r = t then b s else b r
theorem detC_swap : ∀ (n : Nat) (b : Nat → Nat → Int) {s t : Nat}, s < t → t < n → detC n (swapC b s t) = -detC n b
  | 0, _, _, _, _, h => absurd h (by omega)
  | n + 1, b, s, t, hst, ht => by
    by_cases e : t = n
    · subst e
      have hn : swapC b s t t = b s := by unfold swapC; rw [if_neg (by omega), if_pos rfl]
      have h0 : detC t (swapC b s t) = detC t (updC b s (b t)) := detC_cols t fun r hr => by
        unfold swapC updC
        split
        · rfl
        · rw [if_neg (by omega)]
      simp only [detC]
      rw [hn, h0]
      have key : sumTo (fun r => swapC b s t r t * detC t (updC (swapC b s t) r (b s)) + b r t * detC t (updC b r (b t))) t = b t t * detC t b + b s t * detC t (updC b s (b t)) := by
        rw [sumOne (s := s) t hst]
        · congr 1
          have e1 : swapC b s t s = b t := by unfold swapC; rw [if_pos rfl]
          rw [e1]; congr 1
          refine detC_cols t fun r hr => ?_
          unfold updC swapC
          split
          · subst_vars; rfl
          · rw [if_neg (by omega)]
        · intro r hr hrs
          have e1 : swapC b s t r = b r := by unfold swapC; rw [if_neg hrs, if_neg (by omega)]
          have e2 : detC t (updC (swapC b s t) r (b s)) = -detC t (updC b r (b t)) := by
            rcases Nat.lt_or_ge s r with h | h
            · rw [← detC_swap t (updC b r (b t)) h hr]
              refine detC_cols t fun q hq => ?_
              unfold updC swapC
              by_cases q1 : q = r
              · subst q1; simp [hrs, Ne.symm hrs]
              · by_cases q2 : q = s
                · subst q2; simp [q1]
                · simp [q1, q2]; omega
            · rw [← detC_swap t (updC b r (b t)) (show r < s by omega) hst]
              refine detC_cols t fun q hq => ?_
              unfold updC swapC
              by_cases q1 : q = r
              · subst q1; simp [Ne.symm hrs]
              · by_cases q2 : q = s
                · subst q2; simp [q1]
                · simp [q1, q2]; omega
          rw [e1, e2, Int.mul_neg]; omega
      rw [sumTo_add] at key
      omega
    · have ht' : t < n := by omega
      have hn : swapC b s t n = b n := by unfold swapC; rw [if_neg (by omega), if_neg (by omega)]
      simp only [detC]
      rw [hn, detC_swap n b hst ht']
      have key : sumTo (fun r => swapC b s t r n * detC n (updC (swapC b s t) r (b n)) + b r n * detC n (updC b r (b n))) n = 0 := by
        have es : swapC b s t s = b t := by unfold swapC; rw [if_pos rfl]
        have et : swapC b s t t = b s := by unfold swapC; rw [if_neg (by omega), if_pos rfl]
        have e1 : detC n (updC (swapC b s t) s (b n)) = -detC n (updC b t (b n)) := by
          rw [← detC_swap n (updC b t (b n)) hst ht']
          refine detC_cols n fun q hq => ?_
          unfold updC swapC
          by_cases q1 : q = s
          · subst q1; simp
          · by_cases q2 : q = t
            · subst q2; simp [q1, show s ≠ q by omega]
            · simp [q1, q2]
        have e2 : detC n (updC (swapC b s t) t (b n)) = -detC n (updC b s (b n)) := by
          rw [← detC_swap n (updC b s (b n)) hst ht']
          refine detC_cols n fun q hq => ?_
          unfold updC swapC
          by_cases q1 : q = s
          · subst q1; simp [show ¬ q = t by omega, show ¬ t = q by omega]
          · by_cases q2 : q = t
            · subst q2; simp [q1]
            · simp [q1, q2]
        rw [sumPair hst n ht']
        · rw [es, et, e1, e2]; grind
        · intro r hr h1 h2
          have er : swapC b s t r = b r := by unfold swapC; rw [if_neg h1, if_neg h2]
          have e3 : detC n (updC (swapC b s t) r (b n)) = -detC n (updC b r (b n)) := by
            rw [← detC_swap n (updC b r (b n)) hst ht']
            refine detC_cols n fun q hq => ?_
            unfold updC swapC
            by_cases q1 : q = s
            · subst q1; simp [Ne.symm h1, Ne.symm h2]
            · by_cases q2 : q = t
              · subst q2; simp [q1, Ne.symm h1, Ne.symm h2]
              · simp [q1, q2]
          rw [er, e3, Int.mul_neg]; omega
      rw [sumTo_add] at key
      grind
theorem sumAnti {H : Nat → Nat → Int} (n : Nat) (h : ∀ t s, t < n → s < n → H t s = -H s t) : sumTo (fun t => sumTo (H t) n) n = 0 := by
  have e : sumTo (fun t => sumTo (H t) n) n = -sumTo (fun t => sumTo (H t) n) n := by
    conv => lhs; rw [sumSwap]
    rw [← sumNeg]
    refine sumTo_congr n fun t ht => ?_
    rw [← sumNeg]
    exact sumTo_congr n fun s hs => h s t hs ht
  omega
theorem upd_swap (n : Nat) (b : Nat → Nat → Int) {s t : Nat} (x y : Nat → Int) (hs : s < n) (ht : t < n) (hst : s ≠ t) : detC n (updC (updC b t x) s y) = -detC n (updC (updC b s x) t y) := by
  have go : ∀ (s t : Nat) (x y : Nat → Int), s < t → t < n → detC n (updC (updC b t x) s y) = -detC n (updC (updC b s x) t y) := by
    intro s t x y h ht
    rw [← detC_swap n _ h ht]
    refine detC_cols n fun q hq => ?_
    unfold updC swapC
    by_cases q1 : q = s
    · subst q1; simp
    · by_cases q2 : q = t
      · subst q2; simp [q1, show s ≠ q by omega]
      · simp [q1, q2]
  rcases Nat.lt_or_ge s t with h | h
  · exact go s t x y h ht
  · have := go t s x y (by omega) hs
    omega
theorem cramer : ∀ (n : Nat) (b : Nat → Nat → Int) (x : Nat → Int) (i : Nat), i < n → sumTo (fun t => detC n (updC b t x) * b t i) n = detC n b * x i
  | 0, _, _, _, h => absurd h (by omega)
  | n + 1, b, x, i, hi => by
    have IH := cramer n
    have hlast : detC (n + 1) (updC b n x) = x n * detC n b - sumTo (fun s => b s n * detC n (updC b s x)) n := by
      simp only [detC]
      rw [updC_at, detC_cols n (fun s hs => updC_ne b x (show s ≠ n by omega))]
      congr 1
      refine sumTo_congr n fun s hs => ?_
      rw [updC_ne b x (show s ≠ n by omega)]
      congr 1
      refine detC_cols n fun q hq => ?_
      unfold updC
      split
      · rfl
      · rw [if_neg (by omega)]
    have ht : ∀ t, t < n → detC (n + 1) (updC b t x) = b n n * detC n (updC b t x) - sumTo (fun s => if s = t then x n * detC n (updC b t (b n)) else b s n * detC n (updC (updC b t x) s (b n))) n := by
      intro t htn
      simp only [detC]
      rw [updC_ne b x (show n ≠ t by omega)]
      congr 1
      refine sumTo_congr n fun s hs => ?_
      by_cases e : s = t
      · subst e
        rw [if_pos rfl, updC_at]; congr 1
        refine detC_cols n fun q hq => ?_
        unfold updC
        split <;> rfl
      · rw [if_neg e, updC_ne b x e]
    simp only [sumTo]
    rw [hlast]
    have e1 : sumTo (fun t => detC (n + 1) (updC b t x) * b t i) n = b n n * sumTo (fun t => detC n (updC b t x) * b t i) n - sumTo (fun t => sumTo (fun s => (if s = t then x n * detC n (updC b t (b n)) else b s n * detC n (updC (updC b t x) s (b n))) * b t i) n) n := by
      rw [← sumTo_mul, ← sumSub]
      refine sumTo_congr n fun t htn => ?_
      rw [ht t htn, sumMulR]; grind
    rw [e1]
    by_cases hin : i < n
    · rw [IH b x i hin, sumSwap]
      have inner : ∀ s, s < n → sumTo (fun t => (if s = t then x n * detC n (updC b t (b n)) else b s n * detC n (updC (updC b t x) s (b n))) * b t i) n = x n * (detC n (updC b s (b n)) * b s i) + (x i * (b s n * detC n (updC b s (b n))) - b n i * (b s n * detC n (updC b s x))) := by
        intro s hs
        have h1 := IH (updC b s (b n)) x i hin
        have h2 : sumTo (fun t => (if s = t then x n * detC n (updC b t (b n)) else b s n * detC n (updC (updC b t x) s (b n))) * b t i - b s n * (detC n (updC (updC b s (b n)) t x) * updC b s (b n) t i)) n = x n * detC n (updC b s (b n)) * b s i - b s n * (detC n (updC b s x) * b n i) := by
          rw [sumOne (s := s) n hs]
          · rw [if_pos rfl, updC_at]; congr 2; congr 1
            refine detC_cols n fun q hq => ?_
            unfold updC
            split <;> rfl
          · intro t htn hts
            rw [if_neg (Ne.symm hts), updC_ne b (b n) hts]
            have : detC n (updC (updC b t x) s (b n)) = detC n (updC (updC b s (b n)) t x) := by
              refine detC_cols n fun q hq => ?_
              unfold updC
              by_cases q1 : q = s
              · subst q1; simp [Ne.symm hts]
              · by_cases q2 : q = t
                · subst q2; simp [q1]
                · simp [q1, q2]
            rw [this]; grind
        rw [sumSub, sumTo_mul, h1] at h2
        grind
      rw [sumTo_congr n inner, sumTo_add, sumSub, sumTo_mul, sumTo_mul, sumTo_mul, IH b (b n) i hin]
      simp only [detC]
      grind
    · obtain rfl : i = n := by omega
      have off : sumTo (fun t => sumTo (fun s => (if s = t then x i * detC i (updC b t (b i)) else b s i * detC i (updC (updC b t x) s (b i))) * b t i - (if s = t then x i * (b t i * detC i (updC b t (b i))) else 0)) i) i = 0 := by
        refine sumAnti i fun t s ht hs => ?_
        by_cases e : s = t
        · subst e; simp only; grind
        · rw [if_neg e, if_neg e, if_neg (Ne.symm e), if_neg (Ne.symm e), upd_swap i b x (b i) hs ht e]; grind
      have diag : sumTo (fun t => sumTo (fun s => if s = t then x i * (b t i * detC i (updC b t (b i))) else 0) i) i = x i * sumTo (fun t => b t i * detC i (updC b t (b i))) i := by
        rw [← sumTo_mul]
        refine sumTo_congr i fun t ht => ?_
        rw [sumOne (s := t) i ht]
        · rw [if_pos rfl]
        · intro s _ hne; rw [if_neg hne]
      have e2 : sumTo (fun t => sumTo (fun s => (if s = t then x i * detC i (updC b t (b i)) else b s i * detC i (updC (updC b t x) s (b i))) * b t i - (if s = t then x i * (b t i * detC i (updC b t (b i))) else 0)) i) i = sumTo (fun t => sumTo (fun s => (if s = t then x i * detC i (updC b t (b i)) else b s i * detC i (updC (updC b t x) s (b i))) * b t i) i) i - sumTo (fun t => sumTo (fun s => if s = t then x i * (b t i * detC i (updC b t (b i))) else 0) i) i := by
        rw [← sumSub]; exact sumTo_congr i fun t _ => sumSub _ _ i
      rw [off, diag] at e2
      have e3 : sumTo (fun t => detC i (updC b t x) * b t i) i = sumTo (fun s => b s i * detC i (updC b s x)) i := sumTo_congr i fun t _ => Int.mul_comm _ _
      simp only [detC]
      rw [e3]
      grind
end Go.Proofs.YtgbnfhfkehpfaaaGreat
/- A reduction by exact quotients holds determinants: plain words. Speaks of no program. -/
namespace Go.Proofs.YtgbnfhfkehpfaaaGreat
open Go.RowKit

def colF (A : Nat → Nat → Int) (p : Nat → Nat) : Nat → Nat → Int := fun t i => A i (p t)
def dt (A : Nat → Nat → Int) (p : Nat → Nat) (k : Nat) : Int := detC k (colF A p)
def mk (A : Nat → Nat → Int) (p : Nat → Nat) (k x c : Nat) : Int :=
  if x < k then detC k (updC (colF A p) x fun i => A i c) else dt A p k * A x c - sumTo (fun t => A x (p t) * detC k (updC (colF A p) t fun i => A i c)) k
def Uniq (A : Nat → Nat → Int) (p : Nat → Nat) (k : Nat) : Prop := ∀ z : Nat → Int, (∀ i, i < k → sumTo (fun t => z t * A i (p t)) k = 0) → ∀ t, t < k → z t = 0
section
variable {A : Nat → Nat → Int} {p : Nat → Nat} {k : Nat}
theorem mk_up {x c : Nat} (h : x < k) : mk A p k x c = detC k (updC (colF A p) x fun i => A i c) := by unfold mk; rw [if_pos h]
theorem mk_low {x c : Nat} (h : k ≤ x) : mk A p k x c = dt A p k * A x c - sumTo (fun t => A x (p t) * mk A p k t c) k := by
  unfold mk
  rw [if_neg (by omega)]
  congr 1
  refine sumTo_congr k fun t ht => ?_
  rw [if_pos ht]
theorem mk_cramer {i : Nat} (h : i < k) (c : Nat) : sumTo (fun t => mk A p k t c * A i (p t)) k = dt A p k * A i c := by
  have := cramer k (colF A p) (fun i => A i c) i h
  rw [← show detC k (colF A p) * A i c = dt A p k * A i c from rfl, ← this]
  refine sumTo_congr k fun t ht => ?_
  rw [mk_up ht]; rfl
theorem mk_row {x : Nat} (c : Nat) : dt A p k * A x c = sumTo (fun t => A x (p t) * mk A p k t c) k + (if x < k then 0 else mk A p k x c) := by
  by_cases h : x < k
  · rw [if_pos h, ← mk_cramer h c, Int.add_zero]
    exact sumTo_congr k fun t _ => Int.mul_comm _ _
  · rw [if_neg h, mk_low (by omega)]; omega
theorem dt_succ : dt A p (k + 1) = mk A p k k (p k) := by
  unfold mk
  rw [if_neg (by omega)]
  unfold dt
  simp only [detC]
  show colF A p k k * _ - _ = _
  rw [show colF A p k k = A k (p k) from rfl, Int.mul_comm]
  rfl
theorem mk_succ_own {c : Nat} : mk A p (k + 1) k c = mk A p k k c := by
  rw [mk_up (by omega)]
  unfold mk
  rw [if_neg (by omega)]
  simp only [detC]
  rw [updC_at, detC_cols k (fun s hs => updC_ne (colF A p) _ (show s ≠ k by omega)), Int.mul_comm]
  congr 1
  refine sumTo_congr k fun t ht => ?_
  rw [updC_ne _ _ (show t ≠ k by omega)]
  congr 1
  refine detC_cols k fun q hq => ?_
  unfold updC
  split
  · rfl
  · rw [if_neg (by omega)]
theorem uniq_zero : Uniq A p 0 := fun _ _ t h => absurd h (by omega)
theorem uniq_succ (hu : Uniq A p k) (h0 : dt A p k ≠ 0) (h1 : dt A p (k + 1) ≠ 0) : Uniq A p (k + 1) := by
  intro z hz
  have hz' : ∀ i, i < k + 1 → sumTo (fun t => z t * A i (p t)) k + z k * A i (p k) = 0 := hz
  have key : ∀ t, t < k → dt A p k * z t + z k * mk A p k t (p k) = 0 := by
    refine hu (fun t => dt A p k * z t + z k * mk A p k t (p k)) fun i hi => ?_
    have e1 : sumTo (fun t => (dt A p k * z t + z k * mk A p k t (p k)) * A i (p t)) k = dt A p k * sumTo (fun t => z t * A i (p t)) k + z k * sumTo (fun t => mk A p k t (p k) * A i (p t)) k := by
      rw [← sumTo_mul, ← sumTo_mul, ← sumTo_add]
      exact sumTo_congr k fun t _ => by grind
    rw [e1, mk_cramer hi]
    have := hz' i (by omega)
    grind
  have hk : z k = 0 := by
    have e2 : dt A p k * sumTo (fun t => z t * A k (p t)) k = -(z k * sumTo (fun t => A k (p t) * mk A p k t (p k)) k) := by
      rw [← sumTo_mul, ← sumTo_mul, ← sumNeg]
      exact sumTo_congr k fun t ht => by have := key t ht; grind
    have e3 := hz' k (by omega)
    have e4 : z k * dt A p (k + 1) = 0 := by
      rw [dt_succ, mk_low (Nat.le_refl _)]
      grind
    rcases Int.mul_eq_zero.1 e4 with h | h
    · exact h
    · exact absurd h h1
  intro t ht
  by_cases e : t = k
  · subst e; exact hk
  · have := key t (by omega)
    rw [hk, Int.zero_mul, Int.add_zero] at this
    rcases Int.mul_eq_zero.1 this with h | h
    · exact absurd h h0
    · exact h
theorem mk_step (hu : Uniq A p (k + 1)) {x : Nat} (hx : x ≠ k) (c : Nat) : dt A p k * mk A p (k + 1) x c = dt A p (k + 1) * mk A p k x c - mk A p k x (p k) * mk A p k k c := by
  have up : ∀ t, t < k → dt A p k * mk A p (k + 1) t c = dt A p (k + 1) * mk A p k t c - mk A p k t (p k) * mk A p k k c := by
    have hz := hu (fun t => dt A p k * mk A p (k + 1) t c - (if t < k then dt A p (k + 1) * mk A p k t c - mk A p k t (p k) * mk A p k k c else dt A p k * mk A p k k c)) (fun i hi => ?_)
    · intro t ht
      have := hz t (by omega)
      simp only [if_pos ht] at this
      omega
    · have e1 : sumTo (fun t => (dt A p k * mk A p (k + 1) t c - (if t < k then dt A p (k + 1) * mk A p k t c - mk A p k t (p k) * mk A p k k c else dt A p k * mk A p k k c)) * A i (p t)) (k + 1)
          = dt A p k * sumTo (fun t => mk A p (k + 1) t c * A i (p t)) (k + 1) - (dt A p (k + 1) * sumTo (fun t => mk A p k t c * A i (p t)) k - mk A p k k c * sumTo (fun t => mk A p k t (p k) * A i (p t)) k + dt A p k * mk A p k k c * A i (p k)) := by
        simp only [sumTo]
        rw [if_neg (Nat.lt_irrefl k), Int.mul_add, ← sumTo_mul, ← sumTo_mul, ← sumTo_mul, ← sumSub]
        have : sumTo (fun t => (dt A p k * mk A p (k + 1) t c - (if t < k then dt A p (k + 1) * mk A p k t c - mk A p k t (p k) * mk A p k k c else dt A p k * mk A p k k c)) * A i (p t)) k
            = sumTo (fun t => dt A p k * (mk A p (k + 1) t c * A i (p t))) k - sumTo (fun t => dt A p (k + 1) * (mk A p k t c * A i (p t)) - mk A p k k c * (mk A p k t (p k) * A i (p t))) k := by
          rw [← sumSub]
          refine sumTo_congr k fun t ht => ?_
          rw [if_pos ht]; grind
        rw [this]; grind
      rw [e1, mk_cramer hi]
      by_cases h : i < k
      · rw [mk_cramer h, mk_cramer h]; grind
      · obtain rfl : i = k := by omega
        have f1 : sumTo (fun t => mk A p i t c * A i (p t)) i = dt A p i * A i c - mk A p i i c := by
          rw [mk_low (x := i) (Nat.le_refl _)]
          have : sumTo (fun t => A i (p t) * mk A p i t c) i = sumTo (fun t => mk A p i t c * A i (p t)) i := sumTo_congr i fun t _ => Int.mul_comm _ _
          omega
        have f2 : sumTo (fun t => mk A p i t (p i) * A i (p t)) i = dt A p i * A i (p i) - dt A p (i + 1) := by
          rw [dt_succ, mk_low (x := i) (Nat.le_refl _)]
          have : sumTo (fun t => A i (p t) * mk A p i t (p i)) i = sumTo (fun t => mk A p i t (p i) * A i (p t)) i := sumTo_congr i fun t _ => Int.mul_comm _ _
          omega
        rw [f1, f2]; grind
  by_cases h : x < k
  · exact up x h
  · rw [mk_low (x := x) (k := k + 1) (by omega), mk_low (x := x) (k := k) (by omega), mk_low (x := x) (k := k) (c := p k) (by omega)]
    simp only [sumTo]
    rw [mk_succ_own]
    have e : dt A p k * sumTo (fun t => A x (p t) * mk A p (k + 1) t c) k = dt A p (k + 1) * sumTo (fun t => A x (p t) * mk A p k t c) k - mk A p k k c * sumTo (fun t => A x (p t) * mk A p k t (p k)) k := by
      rw [← sumTo_mul, ← sumTo_mul, ← sumTo_mul, ← sumSub]
      exact sumTo_congr k fun t ht => by have := up t ht; grind
    grind
theorem mk_self (hu : Uniq A p k) {s t : Nat} (hs : s < k) (ht : t < k) : mk A p k t (p s) = if t = s then dt A p k else 0 := by
  have h := hu (fun t => mk A p k t (p s) - if t = s then dt A p k else 0) (fun i hi => ?_) t ht
  · exact Int.sub_eq_zero.1 h
  · have e : sumTo (fun t => (mk A p k t (p s) - if t = s then dt A p k else 0) * A i (p t)) k = sumTo (fun t => mk A p k t (p s) * A i (p t)) k - sumTo (fun t => (if t = s then dt A p k else 0) * A i (p t)) k := by
      rw [← sumSub]; exact sumTo_congr k fun t _ => Int.sub_mul _ _ _
    rw [e, mk_cramer hi, sumOne (s := s) k hs fun i _ hne => by rw [if_neg hne, Int.zero_mul], if_pos rfl]
    omega
theorem mk_ker (hu : Uniq A p k) (h0 : dt A p k ≠ 0) (R N : Nat) (hk : k ≤ R) (w : Nat → Int) : (∀ i, i < R → sumTo (fun c => A i c * w c) N = 0) ↔ (∀ x, x < R → sumTo (fun c => mk A p k x c * w c) N = 0) := by
  have rows : ∀ x, dt A p k * sumTo (fun c => A x c * w c) N = sumTo (fun t => A x (p t) * sumTo (fun c => mk A p k t c * w c) N) k + (if x < k then 0 else sumTo (fun c => mk A p k x c * w c) N) := by
    intro x
    have e1 : dt A p k * sumTo (fun c => A x c * w c) N = sumTo (fun c => sumTo (fun t => A x (p t) * (mk A p k t c * w c)) k + (if x < k then 0 else mk A p k x c * w c)) N := by
      rw [← sumTo_mul]
      refine sumTo_congr N fun c _ => ?_
      have e2 : sumTo (fun t => A x (p t) * (mk A p k t c * w c)) k = sumTo (fun t => A x (p t) * mk A p k t c) k * w c := by
        rw [← sumMulR]; exact sumTo_congr k fun t _ => (Int.mul_assoc _ _ _).symm
      have := mk_row (A := A) (p := p) (k := k) (x := x) c
      rw [e2]
      split at this <;> split <;> grind
    rw [e1, sumTo_add, sumSwap]
    congr 1
    · refine sumTo_congr k fun t _ => ?_
      rw [← sumTo_mul]
    · split
      · exact sumZ N fun _ _ => rfl
      · rfl
  constructor
  · intro h
    have hz := hu (fun t => sumTo (fun c => mk A p k t c * w c) N) (fun i hi => by
      have := rows i
      rw [h i (by omega), if_pos hi, Int.mul_zero] at this
      rw [sumTo_congr k fun t _ => Int.mul_comm _ _]; omega)
    intro x hx
    by_cases hxk : x < k
    · exact hz x hxk
    · have := rows x
      rw [h x hx, if_neg hxk, sumZ k fun t ht => by rw [hz t ht, Int.mul_zero]] at this
      omega
  · intro h x hx
    have := rows x
    rw [sumZ k fun t ht => by rw [h t (by omega), Int.mul_zero]] at this
    have h2 : dt A p k * sumTo (fun c => A x c * w c) N = 0 := by
      rw [this]; split
      · rfl
      · rw [h x hx]; rfl
    rcases Int.mul_eq_zero.1 h2 with h | h
    · exact absurd h h0
    · exact h
end
theorem mk_congr {A B : Nat → Nat → Int} {p q : Nat → Nat} {k x c : Nat} (hp : ∀ t, t < k → p t = q t) (hA : ∀ i, i < k → A i = B i) (hx : A x = B x) : mk A p k x c = mk B q k x c := by
  have hc : ∀ t, t < k → ∀ i, i < k → colF A p t i = colF B q t i := fun t ht i hi => by unfold colF; rw [hp t ht, hA i hi]
  have hu : ∀ t, detC k (updC (colF A p) t fun i => A i c) = detC k (updC (colF B q) t fun i => B i c) := fun t => detC_congr k fun s hs i hi => by
    unfold updC; split
    · show A i c = B i c; rw [hA i hi]
    · exact hc s hs i hi
  unfold mk dt
  rw [detC_congr k hc, hu, hx]
  split
  · rfl
  · congr 1
    refine sumTo_congr k fun t ht => ?_
    rw [hp t ht, hu]
theorem mk_scale {A : Nat → Nat → Int} {p : Nat → Nat} {k x c : Nat} {v : Nat → Int} {s : Int} (hx : k ≤ x) (hv : ∀ c, A x c = s * v c) : mk A p k x c = s * (dt A p k * v c - sumTo (fun t => v (p t) * mk A p k t c) k) := by
  rw [mk_low hx, hv, sumTo_congr k fun t _ => show A x (p t) * mk A p k t c = s * (v (p t) * mk A p k t c) by rw [hv, Int.mul_assoc], sumTo_mul]; grind
end Go.Proofs.YtgbnfhfkehpfaaaGreat
/- How great the numbers of a reduction get, and that layer 3's reduction is one: plain words. Speaks of no program. -/
namespace Go.Proofs.YtgbnfhfkehpfaaaGreat
open Go.RowKit

def fc : Nat → Int
  | 0 => 1
  | n + 1 => ((n : Int) + 1) * fc n
def pr (w : Nat → Int) : Nat → Int
  | 0 => 1
  | n + 1 => pr w n * w n
theorem fc_pos : ∀ n, 1 ≤ fc n
  | 0 => by decide
  | n + 1 => by have := fc_pos n; have h2 : fc (n + 1) = (n : Int) * fc n + fc n := by rw [fc, Int.add_mul, Int.one_mul]
                have : 0 ≤ (n : Int) * fc n := Int.mul_nonneg (Int.natCast_nonneg n) (by omega)
                omega
theorem fc_mono {m n : Nat} (h : m ≤ n) : fc m ≤ fc n := by
  induction n with
  | zero => obtain rfl : m = 0 := by omega
            exact Int.le_refl _
  | succ n ih =>
    by_cases e : m = n + 1
    · subst e; exact Int.le_refl _
    · have h1 := ih (by omega)
      have h2 : fc (n + 1) = (n : Int) * fc n + fc n := by rw [fc]; rw [Int.add_mul, Int.one_mul]
      have : 0 ≤ (n : Int) * fc n := Int.mul_nonneg (Int.natCast_nonneg n) (by have := fc_pos n; omega)
      omega
theorem pr_congr {w v : Nat → Int} : ∀ n, (∀ s, s < n → w s = v s) → pr w n = pr v n
  | 0, _ => rfl
  | n + 1, h => by simp only [pr, pr_congr n fun s hs => h s (by omega), h n (by omega)]
theorem pr_nonneg {w : Nat → Int} : ∀ n, (∀ s, s < n → 0 ≤ w s) → 0 ≤ pr w n
  | 0, _ => by show (0 : Int) ≤ 1; decide
  | n + 1, h => Int.mul_nonneg (pr_nonneg n fun s hs => h s (by omega)) (h n (by omega))
def updW (w : Nat → Int) (t : Nat) (v : Int) : Nat → Int := fun s => if s = t then v else w s
theorem pr_upd (w : Nat → Int) (v : Int) {t : Nat} : ∀ n, t < n → pr (updW w t v) n * w t = pr w n * v
  | 0, h => absurd h (by omega)
  | n + 1, h => by
    simp only [pr]
    by_cases e : t = n
    · subst e
      rw [pr_congr t fun s hs => show updW w t v s = w s by unfold updW; rw [if_neg (by omega)]]
      rw [show updW w t v t = v by unfold updW; rw [if_pos rfl]]; grind
    · have ih := pr_upd w v n (show t < n by omega)
      rw [show updW w t v n = w n by unfold updW; rw [if_neg (by omega)]]; grind
theorem detC_bd : ∀ (n : Nat) (b : Nat → Nat → Int) (w : Nat → Int), (∀ s, s < n → 0 ≤ w s) → (∀ s, s < n → ∀ i, i < n → -w s ≤ b s i ∧ b s i ≤ w s) → -(fc n * pr w n) ≤ detC n b ∧ detC n b ≤ fc n * pr w n
  | 0, _, _, _, _ => by simp [detC, fc, pr]
  | n + 1, b, w, h0, h => by
    have hP : 0 ≤ fc n * pr w n := Int.mul_nonneg (by have := fc_pos n; omega) (pr_nonneg n fun s hs => h0 s (by omega))
    have h1 := mul_le (h n (by omega) n (by omega)) (detC_bd n b w (fun s hs => h0 s (by omega)) fun s hs i hi => h s (by omega) i (by omega))
    have e1 : w n * (fc n * pr w n) = fc n * pr w (n + 1) := by simp only [pr]; grind
    rw [e1] at h1
    have h2 := sumTo_bd (f := fun t => b t n * detC n (updC b t (b n))) (M := fc n * pr w (n + 1)) n fun t ht => by
      have h3 := detC_bd n (updC b t (b n)) (updW w t (w n)) (fun s hs => by unfold updW; split; exact h0 n (by omega); exact h0 s (by omega)) (fun s hs i hi => by
        unfold updW updC
        split
        · exact h n (by omega) i (by omega)
        · exact h s (by omega) i (by omega))
      have h4 := mul_le (h t (by omega) n (by omega)) h3
      have e2 : w t * (fc n * pr (updW w t (w n)) n) = fc n * pr w (n + 1) := by
        have := pr_upd w (w n) n ht
        simp only [pr]; grind
      rw [e2] at h4
      exact h4
    have e3 : fc (n + 1) * pr w (n + 1) = n * (fc n * pr w (n + 1)) + fc n * pr w (n + 1) := by rw [fc]; grind
    rw [e3]
    simp only [detC]
    omega
theorem mk_bd {A : Nat → Nat → Int} {p : Nat → Nat} {k x c : Nat} {Y : Int} (hY : 0 ≤ Y) (h1 : ∀ i, (i < k ∨ i = x) → ∀ t, t < k → -1 ≤ A i (p t) ∧ A i (p t) ≤ 1) (h2 : ∀ i, (i < k ∨ i = x) → -Y ≤ A i c ∧ A i c ≤ Y) :
    -(fc (if x < k then k else k + 1) * Y) ≤ mk A p k x c ∧ mk A p k x c ≤ fc (if x < k then k else k + 1) * Y := by
  have one : pr (fun _ => 1) k = 1 := by
    induction k with
    | zero => rfl
    | succ k ih => simp only [pr]; rw [ih (fun i hi t ht => h1 i (by omega) t (by omega)) (fun i hi => h2 i (by omega))]; rfl
  have up : ∀ t, t < k → -(fc k * Y) ≤ detC k (updC (colF A p) t fun i => A i c) ∧ detC k (updC (colF A p) t fun i => A i c) ≤ fc k * Y := by
    intro t ht
    have h := detC_bd k (updC (colF A p) t fun i => A i c) (updW (fun _ => 1) t Y) (fun s _ => by unfold updW; split; exact hY; exact Int.one_nonneg) (fun s hs i hi => by
      unfold updW updC
      split
      · exact h2 i (.inl hi)
      · exact h1 i (.inl hi) s hs)
    have e := pr_upd (fun _ => 1) Y k ht
    rw [one, Int.mul_one, Int.one_mul] at e
    rw [e] at h
    exact h
  unfold mk
  split
  · rename_i h; exact up x h
  · have hd := detC_bd k (colF A p) (fun _ => 1) (fun _ _ => by decide) (fun s hs i hi => h1 i (.inl hi) s hs)
    rw [one, Int.mul_one] at hd
    have m1 := mul_le hd (h2 x (.inr rfl))
    have m2 := sumTo_bd (f := fun t => A x (p t) * detC k (updC (colF A p) t fun i => A i c)) (M := fc k * Y) k fun t ht => by
      have := mul_le (h1 x (.inr rfl) t ht) (up t ht)
      rw [Int.one_mul] at this
      exact this
    have e3 : fc (k + 1) * Y = k * (fc k * Y) + fc k * Y := by rw [fc]; grind
    rw [e3]
    unfold dt
    omega
theorem mk_bd6 {A : Nat → Nat → Int} {p : Nat → Nat} {R k x c : Nat} {Y : Int} (hY : 0 ≤ Y) (hk : k ≤ R) (hR : R ≤ 6) (hx : x < R) (h1 : ∀ i, i < R → ∀ t, t < k → -1 ≤ A i (p t) ∧ A i (p t) ≤ 1) (h2 : ∀ i, i < R → -Y ≤ A i c ∧ A i c ≤ Y) : -(720 * Y) ≤ mk A p k x c ∧ mk A p k x c ≤ 720 * Y := by
  have h := mk_bd (A := A) (p := p) (k := k) (x := x) (c := c) hY (fun i hi t ht => h1 i (by omega) t ht) (fun i hi => h2 i (by omega))
  have hf : fc (if x < k then k else k + 1) ≤ 720 := by
    have : fc (if x < k then k else k + 1) ≤ fc 6 := fc_mono (by split <;> omega)
    exact Int.le_trans this (by decide)
  have := Int.mul_le_mul_of_nonneg_right hf hY
  omega
theorem wrap_id {n : Int} (h1 : -9223372036854775808 ≤ n) (h2 : n ≤ 9223372036854775807) : IntKind.i64.wrap n = n := by rw [← wrap_is]; unfold wrap64; omega
theorem combI_exact {d e next times n o : Int} (hd : d ≠ 0) (h : d * e = next * n - times * o) (hn : -720 ≤ next ∧ next ≤ 720) (hN : -720000000 ≤ n ∧ n ≤ 720000000) (ht : -720 ≤ times ∧ times ≤ 720) (ho : -720000000 ≤ o ∧ o ≤ 720000000) (he : -720000000 ≤ e ∧ e ≤ 720000000) : combI next times d n o = e := by
  have m1 := mul_le hn hN
  have m2 := mul_le ht ho
  unfold combI
  rw [wrap_id (n := next * n) (by omega) (by omega), wrap_id (n := times * o) (by omega) (by omega), wrap_id (n := next * n - times * o) (by omega) (by omega), ← h, Int.mul_tdiv_cancel_left _ hd]
  exact wrap_id (by omega) (by omega)
def pivN (r : Rd) (t : Nat) : Nat := (gt r.piv t).toNat
def a0 (M : List (List Int)) (i c : Nat) : Int := gt (rowL M i) c
structure Bar (R N D : Nat) (A0 A : Nat → Nat → Int) (r : Rd) : Prop where
  len : r.rows.length = R
  row : ∀ q ∈ r.rows, q.length = N
  pl : r.piv.length ≤ R
  pz : ∀ t, t < r.piv.length → 0 ≤ gt r.piv t ∧ gt r.piv t < D
  asc : ∀ s t, s < t → t < r.piv.length → pivN r s < pivN r t
  val : ∀ x, x < R → ∀ c, c < N → gt (rowL r.rows x) c = mk A (pivN r) r.piv.length x c
  dv : r.dv = dt A (pivN r) r.piv.length
  pos : 0 < r.dv
  uq : Uniq A (pivN r) r.piv.length
  low : ∀ x, r.piv.length ≤ x → x < R → ∀ c, c < D → mk A (pivN r) r.piv.length x c = 0
  ech : ∀ t, t < r.piv.length → ∀ c, c < pivN r t → mk A (pivN r) r.piv.length t c = 0
  arr : ∀ x, x < R → ∃ i s, i < R ∧ (s = 1 ∨ s = -1) ∧ ∀ c, A x c = s * A0 i c
  ker : ∀ w : Nat → Int, (∀ i, i < R → sumTo (fun c => A0 i c * w c) N = 0) ↔ (∀ i, i < R → sumTo (fun c => A i c * w c) N = 0)
theorem arr_bd {R : Nat} {A0 A : Nat → Nat → Int} (arr : ∀ x, x < R → ∃ i s, i < R ∧ (s = 1 ∨ s = -1) ∧ ∀ c, A x c = s * A0 i c) {c : Nat} {Y : Int} (h : ∀ i, i < R → -Y ≤ A0 i c ∧ A0 i c ≤ Y) : ∀ x, x < R → -Y ≤ A x c ∧ A x c ≤ Y := by
  intro x hx
  obtain ⟨i, s, hi, hs, e⟩ := arr x hx
  have := h i hi
  rw [e]
  rcases hs with rfl | rfl <;> omega
theorem pivRow_none {M : List (List Int)} {c : Nat} : ∀ {n i : Nat}, pivRow M c n i = none → ∀ j, i ≤ j → j < i + n → gt (rowL M j) c = 0
  | 0, _, _, _, _, _ => by omega
  | n + 1, i, h, j, h1, h2 => by
    unfold pivRow at h
    split at h
    · cases h
    · rename_i h0
      by_cases e : j = i
      · subst e; simpa using h0
      · exact pivRow_none h j (by omega) (by omega)
theorem bar_start {R N cols : Nat} {M : List (List Int)} (h1 : M.length = R) (h2 : ∀ q ∈ M, q.length = N) : Bar R N 0 (a0 M) (a0 M) { cols := cols, rows := M, piv := [], dv := 1 } where
  len := h1
  row := h2
  pl := Nat.zero_le _
  pz := fun t h => absurd h (by simp)
  asc := fun s t _ h => absurd h (by simp)
  val := fun x _ c _ => by simp [mk, dt, detC, sumTo, a0]
  dv := rfl
  pos := by show (0 : Int) < 1; decide
  uq := uniq_zero
  low := fun _ _ _ _ h => absurd h (by omega)
  ech := fun t h => absurd h (by simp)
  arr := fun x hx => ⟨x, 1, hx, .inl rfl, fun c => by omega⟩
  ker := fun _ => Iff.rfl
end Go.Proofs.YtgbnfhfkehpfaaaGreat
/- One column more: clear keeps a reduction one of determinants. Plain words. Speaks of no program. -/
namespace Go.Proofs.YtgbnfhfkehpfaaaGreat
open Go.RowKit

theorem bar_skip {R N D : Nat} {A0 A : Nat → Nat → Int} {r : Rd} (h : Bar R N D A0 A r) (hD : D < N) (hp : pivRow r.rows D (r.rows.length - r.piv.length) r.piv.length = none) : Bar R N (D + 1) A0 A r where
  len := h.len
  row := h.row
  pl := h.pl
  pz := fun t ht => ⟨(h.pz t ht).1, by have := (h.pz t ht).2; omega⟩
  asc := h.asc
  val := h.val
  dv := h.dv
  pos := h.pos
  uq := h.uq
  low := fun x h1 h2 c hc => by
    by_cases e : c = D
    · subst e
      rw [← h.val x h2 c hD]
      exact pivRow_none hp x h1 (by have := h.len; have := h.pl; omega)
    · exact h.low x h1 h2 c (by omega)
  ech := h.ech
  arr := h.arr
  ker := h.ker
theorem rowL_swapR_at {M : List (List Int)} {k i x : Nat} (hk : k < M.length) (hi : i < M.length) : rowL (swapR M k i) x = if x = k then rowL M i else if x = i then rowL M k else rowL M x := by
  by_cases e : x = k
  · subst e; rw [if_pos rfl]; exact rowL_swapR hk hi
  · rw [if_neg e]
    unfold swapR
    by_cases e2 : x = i
    · subst e2; rw [if_pos rfl]; apply rowL_some; rw [List.getElem?_set_self (by simpa using hi)]
    · rw [if_neg e2]; unfold rowL; rw [List.getElem?_set_ne (Ne.symm e2), List.getElem?_set_ne (Ne.symm e)]
theorem gt_ownR {q : List Int} {D c : Nat} (h : ∀ c, c < q.length → -720000000 ≤ gt q c ∧ gt q c ≤ 720000000) (hc : c < q.length) : gt (ownR q D) c = (if gt q D < 0 then -1 else 1) * gt q c := by
  unfold ownR
  split
  · have e : gt (negL q) c = IntKind.i64.wrap (-gt q c) := by unfold gt negL; simp [hc]
    have := h c hc
    rw [e, wrap_id (by omega) (by omega)]; omega
  · omega
theorem gt_combL {next times dv : Int} {own row : List Int} {c : Nat} (hc : c < row.length) : gt (combL next times dv own row) c = combI next times dv (gt row c) (gt own c) := by
  unfold combL combTo; rw [gt_map_range _ hc, if_pos hc]
theorem gt_snoc (xs : List Int) (v : Int) (t : Nat) : gt (xs ++ [v]) t = if t < xs.length then gt xs t else if t = xs.length then v else 0 := by
  unfold gt
  by_cases h : t < xs.length
  · rw [if_pos h, List.getElem?_append_left h]
  · rw [if_neg h, List.getElem?_append_right (by omega)]
    by_cases e : t = xs.length
    · subst e; simp
    · rw [if_neg e, List.getElem?_eq_none (by simp; omega)]; rfl
theorem bar_step {R N D cols : Nat} {A0 A : Nat → Nat → Int} {r : Rd} (h : Bar R N D A0 A r) (hR : R ≤ 6) (hD : D < cols) (hN : cols ≤ N) (hb1 : ∀ i, i < R → ∀ c, c < cols → -1 ≤ A0 i c ∧ A0 i c ≤ 1) (hb2 : ∀ i, i < R → ∀ c, c < N → -1000000 ≤ A0 i c ∧ A0 i c ≤ 1000000)
    {i : Nat} (hp : pivRow r.rows D (r.rows.length - r.piv.length) r.piv.length = some i) : ∃ A', Bar R N (D + 1) A0 A' (clearR D r) := by
  obtain ⟨h1, h2, h3⟩ := pivRow_some hp
  obtain ⟨rcols, rows, piv, rdv⟩ := r
  obtain ⟨len, row, pl, pz, asc, val, dv, pos, uq, low, ech, arr, ker⟩ := h
  dsimp only at len row pl pz asc val dv pos uq low ech arr ker h1 h2 h3 hp
  obtain ⟨k, hk⟩ : ∃ k, piv.length = k := ⟨_, rfl⟩
  obtain ⟨p, hpp⟩ : ∃ p, pivN { cols := rcols, rows := rows, piv := piv, dv := rdv } = p := ⟨_, rfl⟩
  rw [hpp] at asc val dv uq low ech
  rw [hk] at pl pz asc val dv uq low ech h1 h2
  have hiR : i < R := by omega
  have hkR : k < R := by omega
  have hpt : ∀ t, t < k → p t < D := by
    intro t ht
    rw [← hpp]
    have := pz t ht
    show (gt piv t).toNat < D
    omega
  -- the rows' numbers are small
  have hA1 : ∀ x, x < R → ∀ c, c < cols → -1 ≤ A x c ∧ A x c ≤ 1 := fun x hx c hc => arr_bd arr (fun i hi => hb1 i hi c hc) x hx
  have hA2 : ∀ x, x < R → ∀ c, c < N → -1000000 ≤ A x c ∧ A x c ≤ 1000000 := fun x hx c hc => arr_bd arr (fun i hi => hb2 i hi c hc) x hx
  have bigN : ∀ x, x < R → ∀ c, c < N → -720000000 ≤ mk A p k x c ∧ mk A p k x c ≤ 720000000 := fun x hx c hc => mk_bd6 (Y := 1000000) (by decide) pl hR hx (fun i hi t ht => hA1 i hi _ (by have := hpt t ht; omega)) (fun i hi => hA2 i hi c hc)
  have bigC : ∀ x, x < R → ∀ c, c < cols → -720 ≤ mk A p k x c ∧ mk A p k x c ≤ 720 := fun x hx c hc => mk_bd6 (Y := 1) (by decide) pl hR hx (fun i hi t ht => hA1 i hi _ (by have := hpt t ht; omega)) (fun i hi => hA1 i hi c hc)
  -- the new order
  obtain ⟨s, hs⟩ : ∃ s : Int, (if gt (rowL rows i) D < 0 then -1 else 1) = s := ⟨_, rfl⟩
  have hs1 : s = 1 ∨ s = -1 := by rw [← hs]; split <;> simp
  obtain ⟨A', hA'⟩ : ∃ A' : Nat → Nat → Int, (fun x c => if x = k then s * A i c else if x = i then A k c else A x c) = A' := ⟨_, rfl⟩
  have a'k : ∀ c, A' k c = s * A i c := fun c => by rw [← hA']; simp
  have a'i : i ≠ k → A' i = A k := fun e => by rw [← hA']; funext c; simp [e]
  have a'x : ∀ x, x ≠ k → x ≠ i → A' x = A x := fun x e1 e2 => by rw [← hA']; funext c; simp [e1, e2]
  have a'u : ∀ x, x < k → A' x = A x := fun x hx => a'x x (by omega) (by omega)
  have mu : ∀ t, t < k → ∀ c, mk A' p k t c = mk A p k t c := fun t ht c => mk_congr (fun _ _ => rfl) a'u (a'u t ht)
  have dte : dt A' p k = dt A p k := detC_congr k fun t _ x hx => by unfold colF; rw [a'u x hx]
  have mkk : ∀ c, mk A' p k k c = s * mk A p k i c := fun c => by
    rw [mk_scale (v := A i) (s := s) (Nat.le_refl k) a'k, mk_low (x := i) h1, dte]
    congr 2
    exact sumTo_congr k fun t ht => by rw [mu t ht]
  have mki : i ≠ k → ∀ c, mk A' p k i c = mk A p k k c := fun e c => by
    rw [mk_low h1, mk_low (x := k) (Nat.le_refl k), dte, a'i e]
    congr 1
    exact sumTo_congr k fun t ht => by rw [mu t ht]
  have mkx : ∀ x, x ≠ k → x ≠ i → ∀ c, mk A' p k x c = mk A p k x c := fun x e1 e2 c => mk_congr (fun _ _ => rfl) a'u (a'x x e1 e2)
  -- the rows behind the swap
  have rl : ∀ x, x < R → (rowL rows x).length = N := fun x hx => row _ (rowL_mem (by omega))
  have own_at : ∀ c, c < N → gt (ownR (rowL rows i) D) c = mk A' p k k c := fun c hc => by
    rw [gt_ownR (fun c hc => by rw [rl i hiR] at hc; rw [val i hiR c hc]; exact bigN i hiR c hc) (by rw [rl i hiR]; exact hc), hs, mkk, val i hiR c hc]
  have sw : ∀ x, rowL (swapR rows k i) x = if x = k then rowL rows i else if x = i then rowL rows k else rowL rows x := fun x => rowL_swapR_at (by omega) (by omega)
  have swl : (swapR rows k i).length = R := by rw [swapR_len]; exact len
  have sw_at : ∀ x, x < R → x ≠ k → ∀ c, c < N → gt (rowL (swapR rows k i) x) c = mk A' p k x c := by
    intro x hx e c hc
    rw [sw, if_neg e]
    by_cases e2 : x = i
    · subst e2; rw [if_pos rfl, val k hkR c hc, mki e]
    · rw [if_neg e2, val x hx c hc, mkx x e e2]
  have swll : ∀ x, x < R → (rowL (swapR rows k i) x).length = N := by
    intro x hx
    rw [sw]; split
    · exact rl i hiR
    · split
      · exact rl k hkR
      · exact rl x hx
  have arr' : ∀ x, x < R → ∃ j s, j < R ∧ (s = 1 ∨ s = -1) ∧ ∀ c, A' x c = s * A0 j c := by
    intro x hx
    by_cases e : x = k
    · subst e
      obtain ⟨j, s2, hj, hs2, e2⟩ := arr i hiR
      refine ⟨j, s * s2, hj, by rcases hs1 with rfl | rfl <;> rcases hs2 with rfl | rfl <;> simp, fun c => by rw [a'k, e2, Int.mul_assoc]⟩
    · by_cases e2 : x = i
      · subst e2; rw [a'i e]; exact arr k hkR
      · rw [a'x x e e2]; exact arr x hx
  have hB1 : ∀ x, x < R → ∀ c, c < cols → -1 ≤ A' x c ∧ A' x c ≤ 1 := fun x hx c hc => arr_bd arr' (fun i hi => hb1 i hi c hc) x hx
  have hB2 : ∀ x, x < R → ∀ c, c < N → -1000000 ≤ A' x c ∧ A' x c ≤ 1000000 := fun x hx c hc => arr_bd arr' (fun i hi => hb2 i hi c hc) x hx
  -- the new pivots
  obtain ⟨p', hp'⟩ : ∃ p', (fun t => (gt (piv ++ [(D : Int)]) t).toNat) = p' := ⟨_, rfl⟩
  have pu : ∀ t, t < k → p' t = p t := fun t ht => by rw [← hp', ← hpp]; show (gt (piv ++ [(D : Int)]) t).toNat = (gt piv t).toNat; rw [gt_snoc, if_pos (by omega)]
  have pk : p' k = D := by rw [← hp']; show (gt (piv ++ [(D : Int)]) k).toNat = D; rw [gt_snoc, if_neg (by omega), if_pos (by omega)]; rfl
  have mp : ∀ x c, mk A' p' k x c = mk A' p k x c := fun x c => mk_congr pu (fun _ _ => rfl) rfl
  have dtp : dt A' p' k = dt A p k := by rw [← dte]; exact detC_congr k fun t ht x _ => by unfold colF; rw [pu t ht]
  have d' : dt A' p' (k + 1) = mk A' p k k D := by rw [dt_succ, pk, mp]
  have d'pos : 0 < dt A' p' (k + 1) := by
    rw [d', mkk, ← hs, ← val i hiR D (by omega)]
    split <;> omega
  have uqk : Uniq A' p' k := by
    intro z hz
    refine uq z fun x hx => ?_
    rw [← hz x hx]
    exact sumTo_congr k fun t ht => by rw [a'u x hx, pu t ht]
  have d0 : dt A p k ≠ 0 := by omega
  have uq' : Uniq A' p' (k + 1) := uniq_succ uqk (by rw [dtp]; exact d0) (by omega)
  have stepx : ∀ x, x ≠ k → ∀ c, dt A p k * mk A' p' (k + 1) x c = dt A' p' (k + 1) * mk A' p k x c - mk A' p k x D * mk A' p k k c := by
    intro x hx c
    have := mk_step uq' hx c
    rw [dtp, mp, mp, mp, pk] at this
    exact this
  have ownk : ∀ c, mk A' p' (k + 1) k c = mk A' p k k c := fun c => by rw [mk_succ_own, mp]
  have pt' : ∀ t, t < k + 1 → p' t < cols := fun t ht => by
    by_cases e : t = k
    · subst e; rw [pk]; exact hD
    · rw [pu t (by omega)]; have := hpt t (by omega); omega
  have bigN' : ∀ x, x < R → ∀ c, c < N → -720000000 ≤ mk A' p' (k + 1) x c ∧ mk A' p' (k + 1) x c ≤ 720000000 := fun x hx c hc => mk_bd6 (Y := 1000000) (by decide) hkR hR hx (fun i hi t ht => hB1 i hi _ (pt' t ht)) (fun i hi => hB2 i hi c hc)
  have bK : ∀ x, x < R → ∀ c, c < N → -720000000 ≤ mk A' p k x c ∧ mk A' p k x c ≤ 720000000 := fun x hx c hc => mk_bd6 (Y := 1000000) (by decide) pl hR hx (fun i hi t ht => hB1 i hi _ (by have := hpt t ht; omega)) (fun i hi => hB2 i hi c hc)
  have bC : ∀ x, x < R → ∀ c, c < cols → -720 ≤ mk A' p k x c ∧ mk A' p k x c ≤ 720 := fun x hx c hc => mk_bd6 (Y := 1) (by decide) pl hR hx (fun i hi t ht => hB1 i hi _ (by have := hpt t ht; omega)) (fun i hi => hB1 i hi c hc)
  have zl : ∀ x, k ≤ x → x < R → ∀ c, c < D → mk A' p k x c = 0 := by
    intro x hx hxR c hc
    by_cases e : x = k
    · subst e; rw [mkk, low i h1 hiR c hc, Int.mul_zero]
    · by_cases e2 : x = i
      · subst e2; rw [mki e]; exact low k (Nat.le_refl k) hkR c hc
      · rw [mkx x e e2]; exact low x hx hxR c hc
  have eqr : clearR D { cols := rcols, rows := rows, piv := piv, dv := rdv } = { cols := rcols, rows := clearTo (swapR rows k i) (ownR (rowL rows i) D) k D rdv R, piv := piv ++ [(D : Int)], dv := gt (ownR (rowL rows i) D) D } := by
    unfold clearR
    simp only [hk] at hp ⊢
    rw [hp]
    simp only [rowL_swapR (M := rows) (i := k) (j := i) (by omega) (by omega), swl]
  rw [eqr]
  have hpn : pivN { cols := rcols, rows := clearTo (swapR rows k i) (ownR (rowL rows i) D) k D rdv R, piv := piv ++ [(D : Int)], dv := gt (ownR (rowL rows i) D) D } = p' := by rw [← hp']; rfl
  have hpl : (piv ++ [(D : Int)]).length = k + 1 := by simp [hk]
  have hrow : ∀ x, x < R → rowL (clearTo (swapR rows k i) (ownR (rowL rows i) D) k D rdv R) x = if x = k then ownR (rowL rows i) D else combL (gt (ownR (rowL rows i) D) D) (gt (rowL (swapR rows k i) x) D) rdv (ownR (rowL rows i) D) (rowL (swapR rows k i) x) := by
    intro x hx
    apply rowL_some
    rw [clearTo_get (by omega), if_pos hx]
  refine ⟨A', ?_⟩
  constructor <;> (try dsimp only)
  case len => rw [clearTo_len]; exact swl
  case row =>
    intro q hq
    obtain ⟨x, hx, rfl⟩ := List.mem_map.1 hq
    have hx := List.mem_range.1 hx
    rw [swl] at hx
    split
    · rw [ownR_len]; exact rl i hiR
    · first
      | (rw [combL_len]; exact swll x hx)
      | (rw [if_pos hx, combL_len]; exact swll x hx)
  case pl => rw [hpl]; exact hkR
  case pz =>
    intro t ht
    rw [hpl] at ht
    rw [gt_snoc, hk]
    split
    · rename_i q; have := pz t q; omega
    · rw [if_pos (by omega)]; omega
  case asc =>
    intro a b hab hb
    rw [hpl] at hb
    rw [hpn]
    by_cases e : b = k
    · subst e; rw [pk, pu a hab]; exact hpt a hab
    · rw [pu a (by omega), pu b (by omega)]; exact asc a b hab (by omega)
  case val =>
    intro x hx c hc
    rw [hpn, hpl, hrow x hx]
    split
    · rename_i e; subst e; rw [own_at c hc, ownk]
    · rename_i e
      rw [gt_combL (by rw [swll x hx]; exact hc), sw_at x hx e c hc, sw_at x hx e D (by omega), own_at c hc, own_at D (by omega), ← d', dv]
      refine combI_exact d0 (stepx x e c) ?_ (bK x hx c hc) (bC x hx D hD) (bK k hkR c hc) (bigN' x hx c hc)
      rw [d']; exact bC k hkR D hD
  case dv => rw [hpn, hpl, own_at D (by omega), d']
  case pos => rw [own_at D (by omega), ← d']; exact d'pos
  case uq => rw [hpn, hpl]; exact uq'
  case low =>
    intro x h4 h5 c hc
    rw [hpl] at h4
    rw [hpn, hpl]
    have hst := stepx x (by omega) c
    by_cases e : c = D
    · subst e
      rw [d', Int.mul_comm (mk A' p k k c), Int.sub_self] at hst
      exact (Int.mul_eq_zero.1 hst).resolve_left d0
    · rw [zl x (by omega) h5 c (by omega), zl k (Nat.le_refl k) hkR c (by omega)] at hst
      simp only [Int.mul_zero, Int.sub_self] at hst
      exact (Int.mul_eq_zero.1 hst).resolve_left d0
  case ech =>
    intro t ht c hc
    rw [hpl] at ht
    rw [hpn] at hc ⊢
    rw [hpl]
    by_cases e : t = k
    · subst e
      rw [pk] at hc
      rw [ownk]; exact zl t (Nat.le_refl _) hkR c hc
    · rw [pu t (by omega)] at hc
      have hst := stepx t e c
      rw [mu t (by omega), ech t (by omega) c hc, zl k (Nat.le_refl k) hkR c (by have := hpt t (by omega); omega)] at hst
      simp only [Int.mul_zero, Int.sub_self] at hst
      exact (Int.mul_eq_zero.1 hst).resolve_left d0
  case arr => exact arr'
  case ker =>
    intro w
    rw [ker w]
    have sc : sumTo (fun c => A' k c * w c) N = s * sumTo (fun c => A i c * w c) N := by
      rw [← sumTo_mul]; exact sumTo_congr N fun c _ => by rw [a'k, Int.mul_assoc]
    constructor
    · intro hz x hx
      by_cases e : x = k
      · subst e; rw [sc, hz i hiR, Int.mul_zero]
      · by_cases e2 : x = i
        · subst e2; rw [a'i e]; exact hz k hkR
        · rw [a'x x e e2]; exact hz x hx
    · intro hz x hx
      have hi0 : sumTo (fun c => A i c * w c) N = 0 := by
        have := hz k hkR
        rw [sc] at this
        rcases Int.mul_eq_zero.1 this with q | q
        · rcases hs1 with rfl | rfl <;> cases q
        · exact q
      by_cases e2 : x = i
      · subst e2; exact hi0
      · by_cases e : x = k
        · subst e; have := hz i hiR; rw [a'i (by omega)] at this; exact this
        · have := hz x hx; rw [a'x x e e2] at this; exact this
end Go.Proofs.YtgbnfhfkehpfaaaGreat
/- What a whole reduction is: pivots, free columns, and the same vectors read as 0. Plain words. Speaks of no program. -/
namespace Go.Proofs.YtgbnfhfkehpfaaaGreat
open Go.RowKit

structure RFin (R N cols : Nat) (A0 : Nat → Nat → Int) (r : Rd) : Prop where
  len : r.rows.length = R
  row : ∀ q ∈ r.rows, q.length = N
  pl : r.piv.length ≤ R
  pz : ∀ t, t < r.piv.length → 0 ≤ gt r.piv t ∧ gt r.piv t < cols
  asc : ∀ s t, s < t → t < r.piv.length → pivN r s < pivN r t
  pos : 0 < r.dv ∧ r.dv ≤ 720
  self : ∀ s t, s < r.piv.length → t < r.piv.length → gt (rowL r.rows t) (pivN r s) = if t = s then r.dv else 0
  low : ∀ x, r.piv.length ≤ x → x < R → ∀ c, c < cols → gt (rowL r.rows x) c = 0
  ech : ∀ t, t < r.piv.length → ∀ c, c < pivN r t → gt (rowL r.rows t) c = 0
  bd : ∀ x, x < R → ∀ c, c < cols → -720 ≤ gt (rowL r.rows x) c ∧ gt (rowL r.rows x) c ≤ 720
  bdN : ∀ x, x < R → ∀ c, c < N → -720000000 ≤ gt (rowL r.rows x) c ∧ gt (rowL r.rows x) c ≤ 720000000
  ker : ∀ w : Nat → Int, (∀ i, i < R → sumTo (fun c => A0 i c * w c) N = 0) ↔ (∀ x, x < R → sumTo (fun c => gt (rowL r.rows x) c * w c) N = 0)
theorem clearR_cols (c : Nat) (r : Rd) : (clearR c r).cols = r.cols := by unfold clearR; split <;> rfl
theorem clearN_cols (r : Rd) : ∀ k, (clearN r k).cols = r.cols
  | 0 => rfl
  | k + 1 => by rw [clearN_succ, clearR_cols, clearN_cols r k]
theorem bar_all {R N cols : Nat} {M : List (List Int)} (h1 : M.length = R) (h2 : ∀ q ∈ M, q.length = N) (hR : R ≤ 6) (hN : cols ≤ N) (hb1 : ∀ i, i < R → ∀ c, c < cols → -1 ≤ a0 M i c ∧ a0 M i c ≤ 1) (hb2 : ∀ i, i < R → ∀ c, c < N → -1000000 ≤ a0 M i c ∧ a0 M i c ≤ 1000000) :
    ∀ D, D ≤ cols → ∃ A, Bar R N D (a0 M) A (clearN { cols := cols, rows := M, piv := [], dv := 1 } D)
  | 0, _ => ⟨_, bar_start h1 h2⟩
  | D + 1, hD => by
    obtain ⟨A, hA⟩ := bar_all h1 h2 hR hN hb1 hb2 D (by omega)
    rw [clearN_succ]
    obtain ⟨r, hr⟩ : ∃ r, clearN { cols := cols, rows := M, piv := [], dv := 1 } D = r := ⟨_, rfl⟩
    rw [hr] at hA ⊢
    cases hp : pivRow r.rows D (r.rows.length - r.piv.length) r.piv.length with
    | none =>
      have e : clearR D r = r := by unfold clearR; rw [hp]
      rw [e]
      exact ⟨A, bar_skip hA (by omega) hp⟩
    | some i => exact bar_step hA hR (by omega) hN hb1 hb2 hp
theorem rd_fin {R N cols : Nat} {M : List (List Int)} (h1 : M.length = R) (h2 : ∀ q ∈ M, q.length = N) (hR : R ≤ 6) (hN : cols ≤ N) (hb1 : ∀ i, i < R → ∀ c, c < cols → -1 ≤ a0 M i c ∧ a0 M i c ≤ 1) (hb2 : ∀ i, i < R → ∀ c, c < N → -1000000 ≤ a0 M i c ∧ a0 M i c ≤ 1000000) :
    RFin R N cols (a0 M) (clearN { cols := cols, rows := M, piv := [], dv := 1 } cols) := by
  obtain ⟨A, h⟩ := bar_all h1 h2 hR hN hb1 hb2 cols (Nat.le_refl _)
  obtain ⟨r, hr⟩ : ∃ r, clearN { cols := cols, rows := M, piv := [], dv := 1 } cols = r := ⟨_, rfl⟩
  rw [hr] at h ⊢
  have hpt : ∀ t, t < r.piv.length → pivN r t < cols := fun t ht => by have := h.pz t ht; unfold pivN; omega
  have hA1 : ∀ x, x < R → ∀ c, c < cols → -1 ≤ A x c ∧ A x c ≤ 1 := fun x hx c hc => arr_bd h.arr (fun i hi => hb1 i hi c hc) x hx
  have hA2 : ∀ x, x < R → ∀ c, c < N → -1000000 ≤ A x c ∧ A x c ≤ 1000000 := fun x hx c hc => arr_bd h.arr (fun i hi => hb2 i hi c hc) x hx
  refine ⟨h.len, h.row, h.pl, h.pz, h.asc, ⟨h.pos, ?_⟩, ?_, ?_, ?_, ?_, ?_, ?_⟩
  · rw [h.dv]
    unfold dt
    have one : ∀ k, pr (fun _ => 1) k = 1 := fun k => by
      induction k with
      | zero => rfl
      | succ k ih => simp only [pr]; rw [ih]; rfl
    have hd := detC_bd r.piv.length (colF A (pivN r)) (fun _ => 1) (fun _ _ => Int.one_nonneg) (fun s hs i hi => hA1 i (by have := h.pl; omega) _ (hpt s hs))
    rw [one, Int.mul_one] at hd
    have : fc r.piv.length ≤ fc 6 := fc_mono (by have := h.pl; omega)
    exact Int.le_trans (Int.le_trans hd.2 this) (by decide)
  · intro s t hs ht
    rw [h.val t (by have := h.pl; omega) _ (by have := hpt s hs; omega), mk_self h.uq hs ht, h.dv]
  · intro x h3 h4 c hc
    rw [h.val x h4 c (by omega)]; exact h.low x h3 h4 c hc
  · intro t ht c hc
    rw [h.val t (by have := h.pl; omega) c (by have := hpt t ht; omega)]; exact h.ech t ht c hc
  · intro x hx c hc
    rw [h.val x hx c (by omega)]
    exact mk_bd6 (Y := 1) (by decide) h.pl hR hx (fun i hi t ht => hA1 i hi _ (hpt t ht)) (fun i hi => hA1 i hi c hc)
  · intro x hx c hc
    rw [h.val x hx c hc]
    exact mk_bd6 (Y := 1000000) (by decide) h.pl hR hx (fun i hi t ht => hA1 i hi _ (hpt t ht)) (fun i hi => hA2 i hi c hc)
  · intro w
    rw [h.ker w, mk_ker h.uq (by have := h.pos; rw [h.dv] at this; omega) R N h.pl w]
    constructor <;> intro hz x hx <;> rw [← hz x hx] <;> refine sumTo_congr N fun c hc => ?_ <;> rw [h.val x hx c hc]
def pxOk (m : List (List Int)) (px : List Int) : Prop := ∀ j ∈ px, 0 ≤ j ∧ j < colsM m
theorem gt_pixR {px r : List Int} {c : Nat} (h : c < px.length) : gt (pixR px r) c = gt r (gt px c).toNat := by
  unfold pixR gt; simp [h]
theorem rowL_pixM {m : List (List Int)} {px : List Int} {i : Nat} (h : i < m.length) : rowL (pixM px m) i = pixR px (rowL m i) := by
  unfold pixM rowL; simp [h]
theorem redN_cols (m : List (List Int)) (px : List Int) : (redN m px).cols = px.length := clearN_cols _ _
theorem redN_fin {m : List (List Int)} (hv : validM m = true) {px : List Int} (hpx : pxOk m px) : RFin m.length px.length px.length (a0 (pixM px m)) (redN m px) := by
  obtain ⟨hm1, hm6, hc1, hc10, hrows⟩ := validM_of hv
  have hb : ∀ i, i < m.length → ∀ c, c < px.length → -1 ≤ a0 (pixM px m) i c ∧ a0 (pixM px m) i c ≤ 1 := by
    intro i hi c hc
    unfold a0
    rw [rowL_pixM hi, gt_pixR hc]
    have hr := hrows _ (rowL_mem hi)
    have hj : gt px c ∈ px := by unfold gt; simp [hc]
    have := hpx _ hj
    exact gt_in hr.2 (by rw [hr.1]; omega)
  refine rd_fin (by simp [pixM]) ?_ hm6 (Nat.le_refl _) hb (fun i hi c hc => by have := hb i hi c hc; omega)
  intro q hq
  obtain ⟨r, _, rfl⟩ := List.mem_map.1 hq
  exact pixR_len _ _
end Go.Proofs.YtgbnfhfkehpfaaaGreat
/- The kernel vector at a free column: its numbers. Plain words. -/
namespace Go.Proofs.YtgbnfhfkehpfaaaGreat
open Go.RowKit

theorem freeTo_mem (pz : List Int) : ∀ k c, c ∈ freeTo pz k ↔ ∃ j : Nat, j < k ∧ c = (j : Int) ∧ (j : Int) ∉ pz
  | 0, c => by simp [freeTo]
  | k + 1, c => by
    unfold freeTo
    have ih := freeTo_mem pz k c
    split
    · rename_i h
      rw [ih]
      constructor
      · rintro ⟨j, h1, h2, h3⟩; exact ⟨j, by omega, h2, h3⟩
      · rintro ⟨j, h1, h2, h3⟩
        by_cases e : j = k
        · subst e; exact absurd h h3
        · exact ⟨j, by omega, h2, h3⟩
    · rename_i h
      rw [List.mem_append, ih, List.mem_singleton]
      constructor
      · rintro (⟨j, h1, h2, h3⟩ | rfl)
        · exact ⟨j, by omega, h2, h3⟩
        · exact ⟨k, by omega, rfl, h⟩
      · rintro ⟨j, h1, h2, h3⟩
        by_cases e : j = k
        · subst e; exact .inr h2
        · exact .inl ⟨j, by omega, h2, h3⟩
theorem mem_gt {xs : List Int} {v : Int} : v ∈ xs ↔ ∃ t, t < xs.length ∧ gt xs t = v := by
  rw [List.mem_iff_getElem]
  constructor
  · rintro ⟨t, h, e⟩; exact ⟨t, h, by unfold gt; simp [h, e]⟩
  · rintro ⟨t, h, e⟩; exact ⟨t, h, by unfold gt at e; simpa [h] using e⟩
section
variable {R N cols : Nat} {A0 : Nat → Nat → Int} {r : Rd}
theorem RFin.pivN_lt (h : RFin R N cols A0 r) {t : Nat} (ht : t < r.piv.length) : pivN r t < cols := by have := h.pz t ht; unfold pivN; omega
theorem RFin.pivN_eq (h : RFin R N cols A0 r) {t : Nat} (ht : t < r.piv.length) : gt r.piv t = (pivN r t : Int) := by have := h.pz t ht; unfold pivN; omega
theorem RFin.inj (h : RFin R N cols A0 r) {s t : Nat} (hs : s < r.piv.length) (ht : t < r.piv.length) (e : pivN r s = pivN r t) : s = t := by
  rcases Nat.lt_trichotomy s t with q | q | q
  · have := h.asc s t q ht; omega
  · exact q
  · have := h.asc t s q hs; omega
theorem RFin.mem (h : RFin R N cols A0 r) {c : Nat} : (c : Int) ∈ r.piv ↔ ∃ t, t < r.piv.length ∧ pivN r t = c := by
  rw [mem_gt]
  constructor
  · rintro ⟨t, ht, e⟩; exact ⟨t, ht, by rw [h.pivN_eq ht] at e; omega⟩
  · rintro ⟨t, ht, e⟩; exact ⟨t, ht, by rw [h.pivN_eq ht, e]⟩
theorem RFin.ker_at (h : RFin R N cols A0 r) (hR : R ≤ 6) (hN : cols ≤ N) {fr : Nat} (hf : fr < cols) (hn : (fr : Int) ∉ r.piv) : ∀ k, k ≤ r.piv.length → ∀ c, c < cols →
    gt (kerTo cols r.rows r.piv r.dv fr k) c = if c = fr then r.dv else if (∃ t, t < k ∧ pivN r t = c) then -gt (rowL r.rows ((List.range k).findIdx fun t => pivN r t == c)) fr else 0
  | 0, _, c, hc => by
    unfold kerTo
    rw [gt_set (by simpa using hf)]
    split
    · rfl
    · rw [if_neg (by rintro ⟨t, ht, _⟩; omega)]; unfold gt; simp [hc]
  | k + 1, hk, c, hc => by
    have ih := h.ker_at hR hN hf hn k (by omega) c hc
    unfold kerTo
    rw [gt_set (by rw [kerTo_len]; exact h.pivN_lt (by omega))]
    have hfr : pivN r k ≠ fr := fun e => hn (h.mem.2 ⟨k, by omega, e⟩)
    have hfind : ∀ t, t ≤ k → pivN r t = c → (List.range (k + 1)).findIdx (fun t => pivN r t == c) = t := by
      intro t ht e
      rw [List.findIdx_eq (by simp; omega)]
      refine ⟨by simpa using e, fun j hj => ?_⟩
      have : pivN r j ≠ c := fun e2 => by have := h.inj (s := j) (t := t) (by omega) (by omega) (by omega); omega
      simpa using this
    have hfind' : ∀ t, t < k → pivN r t = c → (List.range k).findIdx (fun t => pivN r t == c) = t := by
      intro t ht e
      rw [List.findIdx_eq (by simp; omega)]
      refine ⟨by simpa using e, fun j hj => ?_⟩
      have : pivN r j ≠ c := fun e2 => by have := h.inj (s := j) (t := t) (by omega) (by omega) (by omega); omega
      simpa using this
    by_cases e : c = (gt r.piv k).toNat
    · rw [if_pos e, if_neg (by intro e2; apply hfr; show (gt r.piv k).toNat = fr; omega), if_pos ⟨k, by omega, e.symm⟩, hfind k (Nat.le_refl k) e.symm]
      have := h.bd k (by have := h.pl; omega) fr hf
      exact wrap_id (by omega) (by omega)
    · rw [if_neg e, ih]
      by_cases e1 : c = fr
      · rw [if_pos e1, if_pos e1]
      · rw [if_neg e1, if_neg e1]
        by_cases e2 : ∃ t, t < k ∧ pivN r t = c
        · obtain ⟨t, ht, e3⟩ := e2
          rw [if_pos ⟨t, ht, e3⟩, if_pos ⟨t, by omega, e3⟩, hfind t (by omega) e3, hfind' t ht e3]
        · rw [if_neg e2, if_neg]
          rintro ⟨t, ht, e3⟩
          by_cases e4 : t = k
          · subst e4; exact e e3.symm
          · exact e2 ⟨t, by omega, e3⟩
def kvec (r : Rd) (cols fr : Nat) : List Int := kerTo cols r.rows r.piv r.dv fr r.piv.length
theorem RFin.kvec_free (h : RFin R N cols A0 r) (hR : R ≤ 6) (hN : cols ≤ N) {fr : Nat} (hf : fr < cols) (hn : (fr : Int) ∉ r.piv) : gt (kvec r cols fr) fr = r.dv := by
  unfold kvec; rw [h.ker_at hR hN hf hn _ (Nat.le_refl _) fr hf, if_pos rfl]
theorem RFin.kvec_piv (h : RFin R N cols A0 r) (hR : R ≤ 6) (hN : cols ≤ N) {fr : Nat} (hf : fr < cols) (hn : (fr : Int) ∉ r.piv) {t : Nat} (ht : t < r.piv.length) : gt (kvec r cols fr) (pivN r t) = -gt (rowL r.rows t) fr := by
  unfold kvec
  rw [h.ker_at hR hN hf hn _ (Nat.le_refl _) _ (h.pivN_lt ht), if_neg (fun e => hn (h.mem.2 ⟨t, ht, e⟩)), if_pos ⟨t, ht, rfl⟩]
  congr 3
  rw [List.findIdx_eq (by simpa using ht)]
  refine ⟨by simp, fun j hj => ?_⟩
  have : pivN r j ≠ pivN r t := fun e2 => by have := h.inj (s := j) (t := t) (by omega) ht e2; omega
  simpa using this
theorem RFin.kvec_else (h : RFin R N cols A0 r) (hR : R ≤ 6) (hN : cols ≤ N) {fr : Nat} (hf : fr < cols) (hn : (fr : Int) ∉ r.piv) {c : Nat} (hc : c < cols) (h1 : c ≠ fr) (h2 : (c : Int) ∉ r.piv) : gt (kvec r cols fr) c = 0 := by
  unfold kvec
  rw [h.ker_at hR hN hf hn _ (Nat.le_refl _) c hc, if_neg h1, if_neg fun e => h2 (h.mem.2 e)]
theorem RFin.kvec_bd (h : RFin R N cols A0 r) (hR : R ≤ 6) (hN : cols ≤ N) {fr : Nat} (hf : fr < cols) (hn : (fr : Int) ∉ r.piv) {c : Nat} (hc : c < cols) : -720 ≤ gt (kvec r cols fr) c ∧ gt (kvec r cols fr) c ≤ 720 := by
  have hp := h.pos
  by_cases e : c = fr
  · subst e; rw [h.kvec_free hR hN hf hn]; omega
  · by_cases e2 : (c : Int) ∈ r.piv
    · obtain ⟨t, ht, rfl⟩ := h.mem.1 e2
      rw [h.kvec_piv hR hN hf hn ht]
      have := h.bd t (by have := h.pl; omega) fr hf
      omega
    · rw [h.kvec_else hR hN hf hn hc e e2]; omega
theorem kvec_len (r : Rd) (cols fr : Nat) : (kvec r cols fr).length = cols := kerTo_len _ _ _ _ _ _
theorem gcdTo_zero {xs : List Int} : ∀ k, gcdTo xs k = 0 → ∀ j, j < k → gt xs j = 0
  | 0, _, _, h => absurd h (by omega)
  | k + 1, h, j, hj => by
    unfold gcdTo at h
    have h1 : gcdTo xs k = 0 := Nat.eq_zero_of_gcd_eq_zero_left h
    have h2 : (gt xs k).natAbs = 0 := Nat.eq_zero_of_gcd_eq_zero_right h
    by_cases e : j = k
    · subst e; omega
    · exact gcdTo_zero k h1 j (by omega)
theorem RFin.kvec_gcd (h : RFin R N cols A0 r) (hR : R ≤ 6) (hN : cols ≤ N) {fr : Nat} (hf : fr < cols) (hn : (fr : Int) ∉ r.piv) : gcdL (kvec r cols fr) ≠ 0 := by
  intro e
  have := gcdTo_zero _ e fr (by rw [kvec_len]; exact hf)
  rw [h.kvec_free hR hN hf hn] at this
  have := h.pos; omega
theorem RFin.kvec_mid (h : RFin R N cols A0 r) (hR : R ≤ 6) (hN : cols ≤ N) {fr : Nat} (hf : fr < cols) (hn : (fr : Int) ∉ r.piv) : ∀ x ∈ kvec r cols fr, Mid x := by
  intro x hx
  obtain ⟨c, hc, rfl⟩ := mem_gt.1 hx
  have := h.kvec_bd hR hN hf hn (c := c) (by rw [kvec_len] at hc; exact hc)
  unfold Mid; omega
end
end Go.Proofs.YtgbnfhfkehpfaaaGreat
/- The answers' reduction as plain words: primitive rows, which are multiples of determinants. Speaks of no program. -/
namespace Go.Proofs.YtgbnfhfkehpfaaaGreat
open Go.RowKit

def primR (q : List Int) : List Int := q.map fun n => n.tdiv ((max (gcdL q) 1 : Nat) : Int)
theorem gcdTo_dvd (q : List Int) : ∀ n j, j < n → ((gcdTo q n : Nat) : Int) ∣ gt q j
  | 0, _, h => absurd h (by omega)
  | n + 1, j, h => by
    have h1 : gcdTo q (n + 1) ∣ gcdTo q n := Nat.gcd_dvd_left _ _
    have h2 : gcdTo q (n + 1) ∣ (gt q n).natAbs := Nat.gcd_dvd_right _ _
    by_cases e : j = n
    · subst e; exact Int.ofNat_dvd_left.mpr h2
    · exact Int.dvd_trans (Int.natCast_dvd_natCast.mpr h1) (gcdTo_dvd q n j (by omega))
theorem dvd_gcdTo (q : List Int) (d K : Int) : ∀ n, (∀ c, c < n → d ∣ K * gt q c) → d ∣ K * ((gcdTo q n : Nat) : Int)
  | 0, _ => by simp [gcdTo]
  | n + 1, h => by
    have h1 := dvd_gcdTo q d K n fun c hc => h c (by omega)
    have h2 := h n (by omega)
    rw [← Int.natAbs_dvd_natAbs] at h1 h2 ⊢
    rw [Int.natAbs_mul] at h1 h2 ⊢
    rw [Int.natAbs_natCast] at h1 ⊢
    show d.natAbs ∣ K.natAbs * Nat.gcd (gcdTo q n) (gt q n).natAbs
    rw [← Nat.gcd_mul_left]
    exact Nat.dvd_gcd h1 h2
theorem gt_primR {q : List Int} {c : Nat} (hc : c < q.length) : gt q c = ((max (gcdL q) 1 : Nat) : Int) * gt (primR q) c := by
  have e : gt (primR q) c = (gt q c).tdiv ((max (gcdL q) 1 : Nat) : Int) := by unfold gt primR; simp [hc]
  rw [e]
  symm
  apply Int.mul_tdiv_cancel'
  by_cases h : gcdL q = 0
  · rw [h]; exact Int.one_dvd _
  · rw [show max (gcdL q) 1 = gcdL q by omega]
    exact gcdTo_dvd q _ c hc
structure Rs where
  done : List (List Int)
  left : List (List Int)
  piv : List Int
structure RBar (R N D : Nat) (A0 A : Nat → Nat → Int) (p : Nat → Nat) (s : Rs) : Prop where
  pe : ∀ t, t < s.piv.length → gt s.piv t = (p t : Int)
  ld : s.done.length = s.piv.length
  ll : s.piv.length + s.left.length = R
  rd : ∀ q ∈ s.done, q.length = N
  rl : ∀ q ∈ s.left, q.length = N
  pz : ∀ t, t < s.piv.length → p t < D
  asc : ∀ a b, a < b → b < s.piv.length → p a < p b
  vd : ∀ t, t < s.piv.length → ∃ g, g ≠ 0 ∧ ∀ c, c < N → mk A p s.piv.length t c = g * gt (rowL s.done t) c
  vl : ∀ x, x < s.left.length → ∃ g, g ≠ 0 ∧ ∀ c, c < N → mk A p s.piv.length (s.piv.length + x) c = g * gt (rowL s.left x) c
  dn : dt A p s.piv.length ≠ 0
  uq : Uniq A p s.piv.length
  low : ∀ x, x < s.left.length → ∀ c, c < D → gt (rowL s.left x) c = 0
  ech : ∀ t, t < s.piv.length → ∀ c, c < p t → gt (rowL s.done t) c = 0
  pos : ∀ t, t < s.piv.length → 0 < gt (rowL s.done t) (p t)
  arr : ∀ x, x < R → ∃ i s, i < R ∧ (s = 1 ∨ s = -1) ∧ ∀ c, A x c = s * A0 i c
  ker : ∀ w : Nat → Int, (∀ i, i < R → sumTo (fun c => A0 i c * w c) N = 0) ↔ (∀ i, i < R → sumTo (fun c => A i c * w c) N = 0)
end Go.Proofs.YtgbnfhfkehpfaaaGreat
/- One column more of the answers' reduction. Plain words. Speaks of no program. -/
namespace Go.Proofs.YtgbnfhfkehpfaaaGreat
open Go.RowKit

theorem mul_small {g v B : Int} (hg : g ≠ 0) (h : -B ≤ g * v ∧ g * v ≤ B) : -B ≤ v ∧ v ≤ B := by
  have h1 : v.natAbs ≤ (g * v).natAbs := by rw [Int.natAbs_mul]; exact Nat.le_mul_of_pos_left _ (by omega)
  omega
end Go.Proofs.YtgbnfhfkehpfaaaGreat
/- Two reduced echelon forms with the same vectors read as 0: the same pivots, rows that are multiples. Plain words. Speaks of no program. -/
namespace Go.Proofs.YtgbnfhfkehpfaaaGreat
open Go.RowKit

structure Ech (N n k : Nat) (p : Nat → Nat) (B : Nat → Nat → Int) : Prop where
  nN : n ≤ N
  pz : ∀ t, t < k → p t < n
  asc : ∀ a b, a < b → b < k → p a < p b
  nz : ∀ t, t < k → B t (p t) ≠ 0
  self : ∀ a b, a < k → b < k → a ≠ b → B b (p a) = 0
  ech : ∀ t, t < k → ∀ c, c < p t → B t c = 0
variable {N n k : Nat} {p : Nat → Nat} {B : Nat → Nat → Int}
theorem Ech.inj (h : Ech N n k p B) {a b : Nat} (ha : a < k) (hb : b < k) (e : p a = p b) : a = b := by
  rcases Nat.lt_trichotomy a b with h1 | h1 | h1
  · have := h.asc a b h1 hb; omega
  · exact h1
  · have := h.asc b a h1 ha; omega
theorem Ech.stop (h : Ech N n k p B) {t : Nat} (ht : t < k) {w : Nat → Int} (hw : sumTo (fun c => B t c * w c) N = 0) (hz : ∀ c, p t < c → c < N → w c = 0) : w (p t) = 0 := by
  have hp := h.pz t ht
  have hN := h.nN
  rw [sumOne (s := p t) N (by omega) fun c hc e => by
    rcases Nat.lt_or_ge c (p t) with h1 | h1
    · rw [h.ech t ht c h1, Int.zero_mul]
    · rw [hz c (by omega) hc, Int.mul_zero]] at hw
  rcases Int.mul_eq_zero.mp hw with e | e
  · exact absurd e (h.nz t ht)
  · exact e
end Go.Proofs.YtgbnfhfkehpfaaaGreat
/- The answers' reduction and the program's agree. Plain words. Speaks of no program. -/
namespace Go.Proofs.YtgbnfhfkehpfaaaGreat
open Go.RowKit

theorem sumG {f u : Nat → Int} {g : Int} {N : Nat} (w : Nat → Int) (h : ∀ c, c < N → f c = g * u c) : sumTo (fun c => f c * w c) N = g * sumTo (fun c => u c * w c) N := by
  rw [← sumTo_mul]
  exact sumTo_congr N fun c hc => by rw [h c hc, Int.mul_assoc]
theorem RBar.ker' {R N : Nat} {A0 A : Nat → Nat → Int} {p : Nat → Nat} {s : Rs} (h : RBar R N N A0 A p s) (w : Nat → Int) : (∀ i, i < R → sumTo (fun c => A0 i c * w c) N = 0) ↔ (∀ t, t < s.piv.length → sumTo (fun c => gt (rowL s.done t) c * w c) N = 0) := by
  have hl := h.ll
  rw [h.ker w, mk_ker h.uq h.dn R N (by omega) w]
  constructor
  · intro hw t ht
    obtain ⟨g, hg, hm⟩ := h.vd t ht
    have h1 := hw t (by omega)
    rw [sumG w hm] at h1
    rcases Int.mul_eq_zero.mp h1 with e | e
    · exact absurd e hg
    · exact e
  · intro hw x hx
    by_cases e : x < s.piv.length
    · obtain ⟨g, hg, hm⟩ := h.vd x e
      rw [sumG w hm, hw x e, Int.mul_zero]
    · have hx2 : x - s.piv.length < s.left.length := by omega
      obtain ⟨g, hg, hm⟩ := h.vl _ hx2
      rw [show s.piv.length + (x - s.piv.length) = x by omega] at hm
      exact sumZ N fun c hc => by rw [hm c hc, h.low _ hx2 c hc]; simp
theorem RFin.ker' {R N cols : Nat} {A0 : Nat → Nat → Int} {r : Rd} (h : RFin R N cols A0 r) (hz : ∀ x, r.piv.length ≤ x → x < R → ∀ c, c < N → gt (rowL r.rows x) c = 0) (w : Nat → Int) : (∀ i, i < R → sumTo (fun c => A0 i c * w c) N = 0) ↔ (∀ t, t < r.piv.length → sumTo (fun c => gt (rowL r.rows t) c * w c) N = 0) := by
  have hl := h.pl
  rw [h.ker w]
  constructor
  · intro hw t ht; exact hw t (by omega)
  · intro hw x hx
    by_cases e : x < r.piv.length
    · exact hw x e
    · exact sumZ N fun c hc => by rw [hz x (by omega) hx c hc, Int.zero_mul]
theorem list_gt {xs ys : List Int} (h1 : xs.length = ys.length) (h2 : ∀ t, t < xs.length → gt xs t = gt ys t) : xs = ys := by
  apply List.ext_getElem h1
  intro t ha hb
  have := h2 t ha
  unfold gt at this
  simpa [ha, hb] using this
end Go.Proofs.YtgbnfhfkehpfaaaGreat
/- The answers' kernel vectors are the program's. Plain words. Speaks of no program. -/
namespace Go.Proofs.YtgbnfhfkehpfaaaGreat
open Go.RowKit

theorem primR_short {v : List Int} (h : gcdL v ≠ 0) : primR v = shortL v := by
  unfold primR shortL
  rw [show max (gcdL v) 1 = gcdL v by omega]
def pvR (s : Rs) (t : Nat) : Int := gt (rowL s.done t) (gt s.piv t).toNat
def lcTo (s : Rs) : Nat → Int
  | 0 => 1
  | t + 1 => IntKind.i64.wrap ((lcTo s t).tdiv ((Nat.gcd (lcTo s t).natAbs (pvR s t).natAbs : Nat) : Int) * pvR s t)
def rkV (s : Rs) (all : Int) (f t : Nat) : Int := IntKind.i64.wrap (IntKind.i64.wrap (-gt (rowL s.done t) f) * all.tdiv (pvR s t))
theorem lc_step {L d D : Nat} (hL : 0 < L) (hd : 0 < d) (h1 : L ∣ D) (h2 : d ∣ D) (hD : 0 < D ∧ D ≤ 720) : IntKind.i64.wrap ((L : Int).tdiv ((Nat.gcd L d : Nat) : Int) * (d : Int)) = ((Nat.lcm L d : Nat) : Int) ∧ 0 < Nat.lcm L d ∧ Nat.lcm L d ∣ D := by
  have h3 : Nat.lcm L d ∣ D := Nat.lcm_dvd h1 h2
  have h4 : 0 < Nat.lcm L d := Nat.lcm_pos hL hd
  have h5 := Nat.le_of_dvd hD.1 h3
  have e : (L : Int).tdiv ((Nat.gcd L d : Nat) : Int) * (d : Int) = ((Nat.lcm L d : Nat) : Int) := by
    have e1 : (L : Int).tdiv ((Nat.gcd L d : Nat) : Int) = ((L / Nat.gcd L d : Nat) : Int) := by rw [Int.ofNat_tdiv]
    rw [e1, ← Int.natCast_mul]
    congr 1
    unfold Nat.lcm
    exact (Nat.div_mul_right_comm (Nat.gcd_dvd_left L d) d).symm |> fun x => by omega
  exact ⟨by rw [e, wrap_id (by omega) (by omega)], h4, h3⟩
theorem RBar.pv {R N D : Nat} {A0 A : Nat → Nat → Int} {p : Nat → Nat} {s : Rs} (h : RBar R N D A0 A p s) {t : Nat} (ht : t < s.piv.length) : pvR s t = gt (rowL s.done t) (p t) := by unfold pvR; rw [h.pe t ht]; rfl
theorem RBar.dt_bd {R N : Nat} {A0 A : Nat → Nat → Int} {p : Nat → Nat} {s : Rs} (h : RBar R N N A0 A p s) (hR : R ≤ 6) (hb : ∀ i, i < R → ∀ c, c < N → -1 ≤ A0 i c ∧ A0 i c ≤ 1) (hk : 0 < s.piv.length) : (dt A p s.piv.length).natAbs ≤ 720 ∧ ∀ t, t < s.piv.length → pvR s t ∣ dt A p s.piv.length := by
  have hl := h.ll
  have hA : ∀ x, x < R → ∀ c, c < N → -1 ≤ A x c ∧ A x c ≤ 1 := fun x hx c hc => arr_bd h.arr (fun i hi => hb i hi c hc) x hx
  constructor
  · have := mk_bd6 (A := A) (p := p) (k := s.piv.length) (x := 0) (c := p 0) (R := R) (Y := 1) (by decide) (by omega) hR (by omega) (fun i hi t ht => hA i hi _ (h.pz t ht)) (fun i hi => hA i hi _ (h.pz 0 hk))
    rw [mk_self h.uq hk hk, if_pos rfl] at this
    omega
  · intro t ht
    obtain ⟨g, hg, hm⟩ := h.vd t ht
    have := hm (p t) (h.pz t ht)
    rw [mk_self h.uq ht ht, if_pos rfl] at this
    rw [h.pv ht]
    exact ⟨g, by rw [this, Int.mul_comm]⟩
theorem RBar.lc {R N : Nat} {A0 A : Nat → Nat → Int} {p : Nat → Nat} {s : Rs} (h : RBar R N N A0 A p s) (hR : R ≤ 6) (hb : ∀ i, i < R → ∀ c, c < N → -1 ≤ A0 i c ∧ A0 i c ≤ 1) : ∀ t, t ≤ s.piv.length → ∃ L : Nat, lcTo s t = (L : Int) ∧ 0 < L ∧ L ≤ 720 ∧ (0 < s.piv.length → L ∣ (dt A p s.piv.length).natAbs) ∧ ∀ i, i < t → pvR s i ∣ lcTo s t
  | 0, _ => ⟨1, rfl, by decide, by decide, fun _ => Nat.one_dvd _, fun i hi => absurd hi (by omega)⟩
  | t + 1, ht => by
    obtain ⟨L, e, h1, h2, h3, h4⟩ := RBar.lc h hR hb t (by omega)
    obtain ⟨b1, b2⟩ := h.dt_bd hR hb (by omega)
    have hpos := h.pos t (by omega)
    rw [← h.pv (by omega)] at hpos
    obtain ⟨d, hd⟩ : ∃ d : Nat, pvR s t = (d : Int) := ⟨(pvR s t).natAbs, by omega⟩
    have b3 := b2 t (by omega)
    rw [hd] at b3 hpos
    have b4 : d ∣ (dt A p s.piv.length).natAbs := Int.ofNat_dvd_left.mp b3
    have hD : 0 < (dt A p s.piv.length).natAbs := by have := h.dn; omega
    obtain ⟨c1, c2, c3⟩ := lc_step h1 (by omega) (h3 (by omega)) b4 ⟨hD, b1⟩
    have ee : lcTo s (t + 1) = ((Nat.lcm L d : Nat) : Int) := by
      rw [← c1]
      show IntKind.i64.wrap ((lcTo s t).tdiv ((Nat.gcd (lcTo s t).natAbs (pvR s t).natAbs : Nat) : Int) * pvR s t) = _
      rw [e, hd, Int.natAbs_natCast, Int.natAbs_natCast]
    refine ⟨Nat.lcm L d, ee, c2, by have := Nat.le_of_dvd hD c3; omega, fun _ => c3, fun i hi => ?_⟩
    rw [ee]
    by_cases e2 : i = t
    · rw [e2, hd]; exact Int.natCast_dvd_natCast.mpr (Nat.dvd_lcm_right _ _)
    · have := h4 i (by omega)
      rw [e] at this
      exact Int.dvd_trans this (Int.natCast_dvd_natCast.mpr (Nat.dvd_lcm_left _ _))
end Go.Proofs.YtgbnfhfkehpfaaaGreat
/- The answers' kernel vector of a column is the program's. Plain words. Speaks of no program. -/
namespace Go.Proofs.YtgbnfhfkehpfaaaGreat
open Go.RowKit

end Go.Proofs.YtgbnfhfkehpfaaaGreat
/- circuitOn of layer 3: a contract. -/
namespace Go.Proofs.YtgbnfhfkehpfaaaGreat
open Go.RowKit

def putTo (n : Nat) (px : List Int) (part : List Int) : Nat → List Int
  | 0 => List.replicate n 0
  | k + 1 => (putTo n px part k).set (gt px k).toNat (gt part k)
theorem putTo_len (n : Nat) (px part : List Int) : ∀ k, (putTo n px part k).length = n
  | 0 => by simp [putTo]
  | k + 1 => by unfold putTo; rw [List.length_set]; exact putTo_len n px part k
def partC (m : List (List Int)) (px : List Int) : List Int := shortL (kvec (redN m px) px.length (gt (freeTo (redN m px).piv px.length) 0).toNat)
def signC (xs : List Int) : List Int := if gt xs 0 < 0 then negL xs else xs
def circB (m : List (List Int)) (px : List Int) : Bool := decide ((freeTo (redN m px).piv px.length).length = 1) && !decide ((0 : Int) ∈ partC m px)
def circH (m : List (List Int)) (px : List Int) : List Int := putTo (colsM m) px (signC (partC m px)) px.length
def CPost (m : List (List Int)) (px : List Int) (w : World) (e : Ending) (w' : World) : Prop :=
  Below w.heap.size w w' ∧ ((circB m px = false ∧ e = .returned (.tuple #[.slice none 0 0, .bool false])) ∨ (circB m px = true ∧ ∃ b, e = .returned (.tuple #[.slice (some ⟨b, 0, none⟩) (colsM m) (colsM m), .bool true]) ∧ OwnI w' w.heap.size (.slice (some ⟨b, 0, none⟩) (colsM m) (colsM m)) (circH m px)))
set_option maxRecDepth 100000 in
set_option maxHeartbeats 2000000 in
theorem circuitOn_any {ma : Option Addr} {m : List (List Int)} {mc : Nat} {pxa : Option Addr} {px : List Int} {pxc : Nat} {w : World} (hv : validM m = true) (hpx : 1 ≤ px.length ∧ px.length ≤ 10) (hin : pxOk m px) (hms : Ms w ma m) (hps : Sl w pxa px) :
    Calls Tryz.prog 83 #[.slice ma m.length mc, .slice pxa px.length pxc] w (CPost m px w) := by
  have HF := Lib.hid (redN_fin hv hin)
  obtain ⟨hm1, hm6, hc1, hc10, hrows⟩ := validM_of hv
  have h64 : Hid (All64 m) := fun q hq x hx => by
    obtain ⟨c, hc, rfl⟩ := mem_gt.1 hx
    have := gt_in (hrows q hq).2 hc
    unfold In64; omega
  have HRL : Hid (∀ r ∈ m, r.length = colsM m) := fun r hr => (hrows r hr).1
  have HMS := Lib.hid hms
  have HPS := Lib.hid hps
  have HPX := Lib.hid hpx
  have HIN : Hid (∀ j ∈ px, 0 ≤ j ∧ j < colsM m) := hin
  have HM6 := Lib.hid hm6
  have HM1 := Lib.hid hm1
  have HC10 := Lib.hid hc10
  have HC1 := Lib.hid hc1
  clear hv hin hms hps hrows hm1 hm6 hc1 hc10
  obtain ⟨r, hr⟩ : ∃ r, redN m px = r := ⟨_, rfl⟩
  have HRE := Lib.hid hr
  have hcols : r.cols = px.length := by rw [← hr]; exact redN_cols m px
  obtain ⟨cols, rows, piv, dv⟩ := r
  dsimp only at hcols
  subst hcols
  have HF1 : Hid (RFin m.length px.length px.length (a0 (pixM px m)) { cols := px.length, rows := rows, piv := piv, dv := dv }) := by rw [← hr]; exact HF.out
  have HRA : Hid (Calls Tryz.prog 72 #[.slice ma m.length mc, .slice pxa px.length pxc, .func (.func 45) #[] #[]] w (RdPost { cols := px.length, rows := rows, piv := piv, dv := dv } w)) := by rw [← hr]; exact reduce_any HM6 HM1 HPX HIN HRL h64 HMS HPS
  have HRLEN : Hid (rows.length = m.length) := HF1.out.len
  obtain ⟨fz, hfz⟩ : ∃ fz, freeTo piv px.length = fz := ⟨_, rfl⟩
  have HFZ := Lib.hid hfz
  have HFL : Hid (fz.length ≤ 10) := by have h1 := freeTo_len piv px.length; rw [hfz] at h1; have := HPX.out.2; show _ ≤ _; omega
  have HFM : Hid (∀ c, c ∈ fz ↔ ∃ j : Nat, j < px.length ∧ c = (j : Int) ∧ (j : Int) ∉ piv) := fun c => by rw [← hfz]; exact freeTo_mem piv px.length c
  have HPL : Hid (piv.length ≤ m.length) := HF1.out.pl
  clear hr hfz HF
  by_cases hone : fz.length = 1
  case neg =>
    have hne : ¬ ((fz.length : Int) = 1) := by omega
    have HB : Hid (circB m px = false) := by show _ = _; unfold circB; rw [HRE.out]; dsimp only; rw [HFZ.out]; simp [hone]
    clear hone
    go_enter Tryz.func83, Tryz.ntmps83
    go_wp2_with (first | (go_at_call 72; refine HRA.out.mono ?_; rintro e w2 ⟨hb2, g, cap, ads, pa2, pc2, rfl, hgg, si, pi⟩; dsimp only at hgg si pi; unfold rdV; dsimp only; have HB2 := Lib.hid hb2; have HSI := Lib.hid si; have HPI := Lib.hid (OwnI.sl pi); clear si pi hgg hb2) | (go_at_call 46; refine (free_any px.length g rows.length cap pa2 piv pc2 dv _ (by have := HPX.out.2; omega) (by have := HPL.out; have := HM6.out; omega) (HPI.out.below ((Below.refl _ _).alloc (Nat.le_refl _) _))).mono ?_; rintro e w3 ⟨hb3, fa, fk, rfl, hsf⟩; rw [HFZ.out] at hsf ⊢; have HB3 := Lib.hid hb3; have HSF := Lib.hid hsf; clear hb3 hsf))
    go_ret2
    exact ⟨(HB2.out.alloc HB2.out.size _).trans (HB3.out.mono (by rw [World.size_alloc]; have := HB2.out.size; omega)), .inl ⟨HB.out, rfl⟩⟩
  case pos =>
  obtain ⟨f, hf⟩ : ∃ f, fz = [f] := by
    match fz, hone with
    | [f], _ => exact ⟨f, rfl⟩
  subst hf
  obtain ⟨fr, hfr, hff, hfn⟩ := (HFM.out f).1 (by simp)
  subst hff
  have HFR := Lib.hid hfr
  have HFN := Lib.hid hfn
  have HK : Hid (∀ (w' : World) (g' cap' pc' : Nat) (ads' : List (Nat × Nat)) (pa' : Option Addr), Sl w' pa' piv → SI w' w.heap.size g' ads' rows → Calls Tryz.prog 47 #[.agg #[.int .i64 (px.length : Int), .slice (some ⟨g', 0, none⟩) rows.length cap', .slice pa' piv.length pc', .int .i64 dv], .int .i64 (fr : Int)] w' fun e w2 => Below w'.heap.size w' w2 ∧ ∃ b k, e = .returned (.slice (some ⟨b, 0, none⟩) px.length k) ∧ OwnI w2 w'.heap.size (.slice (some ⟨b, 0, none⟩) px.length k) (partC m px)) := by
    intro w' g' cap' pc' ads' pa' h1 h2
    have e : partC m px = kerL px.length rows piv dv fr := by unfold partC; rw [HRE.out]; dsimp only; rw [HFZ.out]; rfl
    rw [e]
    exact kernel_any w.heap.size px.length g' cap' ads' rows pa' piv pc' dv fr w' (by have := HPX.out.2; omega) hfr (by have h3 := HRLEN.out; have h4 := HPL.out; omega) (by have h3 := HRLEN.out; have h4 := HM6.out; omega) (fun k hk => by have := HF1.out.pz k hk; dsimp only at this; exact this)
      (fun r hr => by have := HF1.out.row r hr; omega) (HF1.out.kvec_mid HM6.out (Nat.le_refl _) hfr hfn) (HF1.out.kvec_gcd HM6.out (Nat.le_refl _) hfr hfn) h1 h2
  clear hone hfr hfn hpx
  go_enter Tryz.func83, Tryz.ntmps83
  go_wp2_with (first | (go_at_call 72; refine HRA.out.mono ?_; rintro e w2 ⟨hb2, g, cap, ads, pa2, pc2, rfl, hgg, si, pi⟩; dsimp only at hgg si pi; unfold rdV; dsimp only; have HB2 := Lib.hid hb2; have HSI := Lib.hid si; have HPI := Lib.hid (OwnI.sl pi); clear si pi hgg hb2) | (go_at_call 46; refine (free_any px.length g rows.length cap pa2 piv pc2 dv _ (by have := HPX.out.2; omega) (by have := HPL.out; have := HM6.out; omega) (HPI.out.below ((Below.refl _ _).alloc (Nat.le_refl _) _))).mono ?_; rintro e w3 ⟨hb3, fa, fk, rfl, hsf⟩; rw [HFZ.out] at hsf ⊢; have HB3 := Lib.hid hb3; have HSF := Lib.hid hsf; obtain ⟨fb, fo, v, rfl, hcv, hvv⟩ := hsf.at (k := 0) Nat.zero_lt_one; have hv2 : (fr : Int) = v := Option.some.inj hvv; subst hv2; clear hb3 hsf hvv))
  have hsz : (w2.alloc (.cells #[.int .i64 (px.length : Int), .slice (some ⟨g, 0, none⟩) rows.length cap, .slice pa2 piv.length pc2, .int .i64 dv] 61)).heap.size = w2.heap.size + 1 := World.size_alloc _ _
  have HBX := (HB3.out.cell (p := ⟨w2.heap.size, 0, none⟩) (by rw [hsz]; exact Nat.lt_succ_self _)).trans (alloc_cell w2 _ _ _ _ rfl)
  have HBY := (HB3.out.cell (p := ⟨w2.heap.size, 1, none⟩) (by rw [hsz]; exact Nat.lt_succ_self _)).trans (alloc_cell w2 _ _ _ _ rfl)
  have HBZ := (HB3.out.cell (p := ⟨w2.heap.size, 2, none⟩) (by rw [hsz]; exact Nat.lt_succ_self _)).trans (alloc_cell w2 _ _ _ _ rfl)
  have HBW := (HB3.out.cell (p := ⟨w2.heap.size, 3, none⟩) (by rw [hsz]; exact Nat.lt_succ_self _)).trans (alloc_cell w2 _ _ _ _ rfl)
  have HB23 : Hid (Below w2.heap.size w2 w3) := ((Below.refl _ _).alloc (Nat.le_refl _) _).trans (HB3.out.mono (by rw [hsz]; exact Nat.le_succ _))
  have HPI3 : Hid (Sl w3.drew pa2 piv) := (HPI.out.below HB23.out).drew
  have HSI3 : Hid (SI w3.drew w.heap.size g ads rows) := (HSI.out.below HB23.out).below (Below.refl _ _).drew
  have HW3 : Hid (Below w.heap.size w w3) := HB2.out.trans (HB23.out.mono HB2.out.size)
  clear hsz
  rw [Nat.add_zero] at hcv
  have l2 : w2.heap.size < w3.drew.heap.size := by have h1 := HB3.out.size; rw [World.size_alloc] at h1; exact h1
  have lf : fb < w3.drew.heap.size := cell_lt hcv
  go_region_held_law (fun w' => w'.cell? ⟨w2.heap.size, 0, none⟩ = some (.int .i64 (px.length : Int)) ∧ w'.cell? ⟨w2.heap.size, 1, none⟩ = some (.slice (some ⟨g, 0, none⟩) rows.length cap) ∧ w'.cell? ⟨w2.heap.size, 2, none⟩ = some (.slice pa2 piv.length pc2) ∧ w'.cell? ⟨w2.heap.size, 3, none⟩ = some (.int .i64 dv) ∧ w'.cell? ⟨fb, fo, none⟩ = some (.int .i64 (fr : Int))) (first | exact ⟨by assumption, by assumption, by assumption, by assumption, by assumption⟩ | go_keep | exact ⟨(hb4.cell (p := ⟨w2.heap.size, 0, none⟩) l2).trans (by assumption), (hb4.cell (p := ⟨w2.heap.size, 1, none⟩) l2).trans (by assumption), (hb4.cell (p := ⟨w2.heap.size, 2, none⟩) l2).trans (by assumption), (hb4.cell (p := ⟨w2.heap.size, 3, none⟩) l2).trans (by assumption), (hb4.cell (p := ⟨fb, fo, none⟩) lf).trans (by assumption)⟩) (first | (go_at_call 47; refine (HK.out _ g cap pc2 ads pa2 HPI3.out HSI3.out).mono ?_; rintro e w4 ⟨hb4, kb, kk, rfl, ho4⟩))
  rename_i hsk
  clear hsk
  have HB4 := Lib.hid hb4
  have HO4 := Lib.hid ho4
  clear hb4 ho4 l2 lf
  obtain ⟨pt, hpt⟩ : ∃ pt, partC m px = pt := ⟨_, rfl⟩
  rw [hpt] at HO4
  have HPT := Lib.hid hpt
  have HFZ1 : Hid ((freeTo (redN m px).piv px.length).length = 1) := by show _ = _; rw [HRE.out]; dsimp only; rw [HFZ.out]; rfl
  have hptl : pt.length = px.length := by
    rw [← hpt]; unfold partC; rw [HRE.out]; dsimp only; rw [HFZ.out]
    show (shortL (kvec _ px.length fr)).length = _
    unfold shortL; rw [List.length_map, kvec_len]
  have HPTL := Lib.hid hptl
  have HB34 : Hid (Below w.heap.size w w4) := HW3.out.trans ((Below.refl _ _).drew.trans (HB4.out.mono HW3.out.size))
  have HSP := Lib.hid HO4.out.sl
  have HCN : Hid (Calls Tryz.prog 78 #[.slice (some ⟨kb, 0, none⟩) px.length kk, .int .i64 0] w4 fun e w' => e = .returned (.bool (decide ((0 : Int) ∈ pt))) ∧ w4 = w') := by
    have h := contains_any (some ⟨kb, 0, none⟩) pt kk 0 w4 (by have := HPX.out.2; omega) HSP.out
    rw [hptl] at h
    exact h
  clear hpt HBX HBY HBZ HBW hcv hptl
  by_cases hz : (0 : Int) ∈ pt
  case pos =>
    have HB : Hid (circB m px = false) := by show _ = _; unfold circB; rw [HPT.out]; simp [hz]
    have hd : decide ((0 : Int) ∈ pt) = true := by simpa using hz
    rw [hd] at HCN
    clear hz hd
    go_wp2_with (go_at_call 78; refine HCN.out.mono ?_; rintro e w5 ⟨rfl, rfl⟩)
    go_ret2
    exact ⟨HB34.out, .inl ⟨HB.out, rfl⟩⟩
  case neg =>
  have HB : Hid (circB m px = true) := by show _ = _; unfold circB; rw [HPT.out, HFZ1.out]; simp [hz]
  have hd : decide ((0 : Int) ∈ pt) = false := by simpa using hz
  rw [hd] at HCN
  clear hz hd
  obtain ⟨v0, hv0⟩ : ∃ v, gt pt 0 = v := ⟨_, rfl⟩
  have HV0 := Lib.hid hv0
  have hc0 : w4.cell? ⟨kb, 0, none⟩ = some (.int .i64 v0) := by rw [← hv0]; exact (OwnI.cell HO4.out (j := 0) (by have := HPTL.out; have := HPX.out.1; omega)).1
  clear hv0
  obtain ⟨b1, o1, ai, rr, ci, rfl, hcell, hsl, HR⟩ := HMS.out.at (show 0 < m.length from HM1.out)
  have hrn : rr.length = colsM m := HRL.out rr (List.mem_of_getElem? HR.out)
  rw [hrn] at hcell
  clear hrn hsl
  obtain ⟨i0, hi, hz0, hz1, hz2⟩ := info_parts Tryz.infoInt
  have hm1 := HM1.out
  have hp1 := HPX.out.1
  have hp10 := HPX.out.2
  by_cases hneg : v0 < 0
  case pos =>
    have HTN : Hid (Calls Tryz.prog 99 #[.slice (some ⟨kb, 0, none⟩) px.length kk] w4 fun e w' => e = .returned (.tuple #[]) ∧ OnlyB kb w4 w' ∧ Below w3.drew.heap.size w4 w' ∧ OwnI w' w3.drew.heap.size (.slice (some ⟨kb, 0, none⟩) px.length kk) (negL pt)) := by
      have h := turn_any w3.drew.heap.size kb kk pt w4 (by have h1 := HPTL.out; have := HPX.out.2; omega) (by rw [HPTL.out]; exact HO4.out)
      rw [HPTL.out] at h
      exact h
    obtain ⟨q, hq⟩ : ∃ q, signC pt = q := ⟨_, rfl⟩
    have HQ := Lib.hid hq
    have hqn : negL pt = q := by rw [← hq]; unfold signC; rw [if_pos (by rw [HV0.out]; exact hneg)]
    rw [hqn] at HTN
    clear hq hqn
    have hlb := cell_lt hcell
    have HQL : Hid (q.length = px.length) := by show _ = _; rw [← HQ.out]; unfold signC; split <;> simp [negL, HPTL.out]
    have HHQ : Hid (circH m px = putTo (colsM m) px q px.length) := by show _ = _; unfold circH; rw [HPT.out, HQ.out]
    have hn10 := HC10.out
    obtain ⟨n, hn⟩ : ∃ n, colsM m = n := ⟨_, rfl⟩
    rw [hn] at hcell HHQ hn10
    have HN := Lib.hid hn
    clear hn
    have HLB := Lib.hid hlb
    have HCELL := Lib.hid hcell
    clear hlb hcell
    go_wp2_with (first | (go_at_call 78; refine HCN.out.mono ?_; rintro e w5 ⟨rfl, rfl⟩) | (go_at_call 99; refine HTN.out.mono ?_; rintro e w5 ⟨rfl, -, hb5, ho5⟩; have HB5 := Lib.hid (HB34.out.trans (hb5.mono HW3.out.size)); have HSQ := Lib.hid ho5.sl; clear hb5 ho5; have hcell5 : w5.cell? ⟨b1, o1, none⟩ = some (.slice ai n ci) := (HB5.out.cell (p := ⟨b1, o1, none⟩) HLB.out).trans HCELL.out) | (with_reducible refine wpList_make_full _ rfl (.tmp 35) (.tmp 35) 22 rfl w5.heap.size 3 i0 (.int .i64 0) 1 Tryz.underlying22 hi hz0 hz1 .i64 .i64 (n : Int) (n : Int) n rfl rfl rfl rfl (by rw [hz2]; omega) (by unfold maxLen; omega) (Nat.le_refl _) ?_))
    clear hcell5
    rotate_left
    intro w6 hown hgrow
    have hb6 : Below w5.heap.size w5 w6 := (Below.refl _ _).grown hgrow (Nat.le_refl _) (fun k e => by cases e)
    have HB6 : Hid (Below w.heap.size w w6) := HB5.out.trans (hb6.mono HB5.out.size)
    have HO6 : Hid (OwnI w6 w.heap.size (.slice (some ⟨w5.heap.size, 0, none⟩) n n) (putTo n px q 0)) := by
      have z := zeros_are n
      rw [Nat.mul_one] at z
      refine OwnI.mono (base := w5.heap.size) ?_ HB5.out.size
      show w6.ownsRow _ _ _ _ _ _
      rw [putTo_len]
      show w6.ownsRow _ _ _ _ _ ((List.replicate n (0 : Int)).map (Value.int .i64))
      rw [← z]; exact hown
    have HWS : Hid (w.heap.size ≤ w5.heap.size) := HB5.out.size
    have HSQ6 : Hid (Sl w6 (some ⟨kb, 0, none⟩) q) := HSQ.out.below hb6
    have HPS6 : Hid (Sl w6 pxa px) := HPS.out.below HB6.out
    have HLQ : Hid (∀ c, c < q.length → ∃ v, w6.cell? ⟨kb, 0 + c, none⟩ = some v ∧ kb < w5.heap.size) := fun c hc => by
      obtain ⟨b', o', e, h2⟩ := HSQ.out c hc
      have h3 := HSQ6.out c hc
      obtain ⟨b'', o'', e2, h4⟩ := h3
      rw [e] at e2
      obtain ⟨rfl, rfl⟩ : kb = b' ∧ 0 = o' := by simpa using e
      obtain ⟨rfl, rfl⟩ : kb = b'' ∧ 0 = o'' := by simpa using e2
      exact ⟨_, h4, cell_lt h2⟩
    clear hown hgrow hb6
    go_wp2
    go_loopw [39] (fun i wr => ∃ k : Nat, k ≤ px.length ∧ i = .int .i64 k ∧ OwnI wr w.heap.size (.slice (some ⟨w5.heap.size, 0, none⟩) n n) (putTo n px q k) ∧ OnlyB w5.heap.size w6 wr ∧ Below w.heap.size w wr) (fun i _ => px.length - (intOf i).toNat)
    case atStart => exact ⟨0, Nat.zero_le _, rfl, HO6.out, OnlyB.refl _ _, HB6.out⟩
    case round =>
      clear HO6 HB6
      obtain ⟨k, hk, rfl, hO, hN, hB⟩ := hrel
      have HO := Lib.hid hO; clear hO
      have HON := Lib.hid hN; clear hN
      have HBB := Lib.hid hB; clear hB
      by_cases hlt : k < px.length
      · obtain ⟨pb, po, v, rfl, hcv, HV⟩ := (HPS.out.below HBB.out).at hlt
        have hgv := gt_some' HV.out
        have hvr := HIN.out v (List.mem_of_getElem? HV.out)
        obtain ⟨j, rfl⟩ := Int.eq_ofNat_of_zero_le hvr.1
        have hj : j < n := by have := HN.out; omega
        obtain ⟨y, hy⟩ : ∃ y, gt q k = y := ⟨_, rfl⟩
        have hqk : k < q.length := by rw [HQL.out]; exact hlt
        have hcq : wr.cell? ⟨kb, k, none⟩ = some (.int .i64 y) := by
          obtain ⟨_, _, l1⟩ := HLQ.out k hqk
          refine (HON.out.cell (by omega)).trans ?_
          obtain ⟨b', o', e, h2⟩ := HSQ6.out k hqk
          obtain ⟨rfl, rfl⟩ : kb = b' ∧ 0 = o' := by simpa using e
          rw [Nat.zero_add] at h2
          rw [h2, ← hy]; rfl
        obtain ⟨cz, fz⟩ := HO.out.cell (j := j) (by rw [putTo_len]; exact hj)
        have HKN : Hid ((putTo n px q k).set j y = putTo n px q (k + 1)) := by
          show _ = _
          conv => rhs; unfold putTo
          rw [hgv, Int.toNat_natCast, hy]
        have HST := Lib.hid (HO.out.stored j y)
        clear hgv hvr hy hqk
        go_wp2
        go_roundw
        case rel => exact ⟨k + 1, by omega, by go_num, by rw [← HKN.out]; exact HST.out, HON.out.setCell _ _, HBB.out.setCell (p := ⟨w5.heap.size, j, none⟩) HWS.out _⟩
        case measure => simp [intOf]; omega
      · obtain rfl : k = px.length := by omega
        go_wp2
        go_ret2
        refine ⟨HBB.out, .inr ⟨HB.out, w5.heap.size, by rw [HN.out]; rfl, ?_⟩⟩
        rw [HN.out, HHQ.out]; exact HO.out
  case neg =>
    obtain ⟨q, hq⟩ : ∃ q, signC pt = q := ⟨_, rfl⟩
    have HQ := Lib.hid hq
    have hqn : pt = q := by rw [← hq]; unfold signC; rw [if_neg (by rw [HV0.out]; exact hneg)]
    rw [hqn] at HSP
    have HB5 := HB34
    have HSQ := HSP
    clear hq hqn
    have hlb := cell_lt hcell
    have HQL : Hid (q.length = px.length) := by show _ = _; rw [← HQ.out]; unfold signC; split <;> simp [negL, HPTL.out]
    have HHQ : Hid (circH m px = putTo (colsM m) px q px.length) := by show _ = _; unfold circH; rw [HPT.out, HQ.out]
    have hn10 := HC10.out
    obtain ⟨n, hn⟩ : ∃ n, colsM m = n := ⟨_, rfl⟩
    rw [hn] at hcell HHQ hn10
    have HN := Lib.hid hn
    clear hn
    have HLB := Lib.hid hlb
    have HCELL := Lib.hid hcell
    clear hlb hcell
    have hcell5 : w4.cell? ⟨b1, o1, none⟩ = some (.slice ai n ci) := (HB5.out.cell (p := ⟨b1, o1, none⟩) HLB.out).trans HCELL.out
    go_wp2_with (first | (go_at_call 78; refine HCN.out.mono ?_; rintro e w5 ⟨rfl, rfl⟩) | (with_reducible refine wpList_make_full _ rfl (.tmp 35) (.tmp 35) 22 rfl w4.heap.size 3 i0 (.int .i64 0) 1 Tryz.underlying22 hi hz0 hz1 .i64 .i64 (n : Int) (n : Int) n rfl rfl rfl rfl (by rw [hz2]; omega) (by unfold maxLen; omega) (Nat.le_refl _) ?_))
    clear hcell5
    rotate_left
    intro w6 hown hgrow
    have hb6 : Below w4.heap.size w4 w6 := (Below.refl _ _).grown hgrow (Nat.le_refl _) (fun k e => by cases e)
    have HB6 : Hid (Below w.heap.size w w6) := HB5.out.trans (hb6.mono HB5.out.size)
    have HO6 : Hid (OwnI w6 w.heap.size (.slice (some ⟨w4.heap.size, 0, none⟩) n n) (putTo n px q 0)) := by
      have z := zeros_are n
      rw [Nat.mul_one] at z
      refine OwnI.mono (base := w4.heap.size) ?_ HB5.out.size
      show w6.ownsRow _ _ _ _ _ _
      rw [putTo_len]
      show w6.ownsRow _ _ _ _ _ ((List.replicate n (0 : Int)).map (Value.int .i64))
      rw [← z]; exact hown
    have HWS : Hid (w.heap.size ≤ w4.heap.size) := HB5.out.size
    have HSQ6 : Hid (Sl w6 (some ⟨kb, 0, none⟩) q) := HSQ.out.below hb6
    have HPS6 : Hid (Sl w6 pxa px) := HPS.out.below HB6.out
    have HLQ : Hid (∀ c, c < q.length → ∃ v, w6.cell? ⟨kb, 0 + c, none⟩ = some v ∧ kb < w4.heap.size) := fun c hc => by
      obtain ⟨b', o', e, h2⟩ := HSQ.out c hc
      have h3 := HSQ6.out c hc
      obtain ⟨b'', o'', e2, h4⟩ := h3
      rw [e] at e2
      obtain ⟨rfl, rfl⟩ : kb = b' ∧ 0 = o' := by simpa using e
      obtain ⟨rfl, rfl⟩ : kb = b'' ∧ 0 = o'' := by simpa using e2
      exact ⟨_, h4, cell_lt h2⟩
    clear hown hgrow hb6
    go_wp2
    go_loopw [39] (fun i wr => ∃ k : Nat, k ≤ px.length ∧ i = .int .i64 k ∧ OwnI wr w.heap.size (.slice (some ⟨w4.heap.size, 0, none⟩) n n) (putTo n px q k) ∧ OnlyB w4.heap.size w6 wr ∧ Below w.heap.size w wr) (fun i _ => px.length - (intOf i).toNat)
    case atStart => exact ⟨0, Nat.zero_le _, rfl, HO6.out, OnlyB.refl _ _, HB6.out⟩
    case round =>
      clear HO6 HB6
      obtain ⟨k, hk, rfl, hO, hN, hB⟩ := hrel
      have HO := Lib.hid hO; clear hO
      have HON := Lib.hid hN; clear hN
      have HBB := Lib.hid hB; clear hB
      by_cases hlt : k < px.length
      · obtain ⟨pb, po, v, rfl, hcv, HV⟩ := (HPS.out.below HBB.out).at hlt
        have hgv := gt_some' HV.out
        have hvr := HIN.out v (List.mem_of_getElem? HV.out)
        obtain ⟨j, rfl⟩ := Int.eq_ofNat_of_zero_le hvr.1
        have hj : j < n := by have := HN.out; omega
        obtain ⟨y, hy⟩ : ∃ y, gt q k = y := ⟨_, rfl⟩
        have hqk : k < q.length := by rw [HQL.out]; exact hlt
        have hcq : wr.cell? ⟨kb, k, none⟩ = some (.int .i64 y) := by
          obtain ⟨_, _, l1⟩ := HLQ.out k hqk
          refine (HON.out.cell (by omega)).trans ?_
          obtain ⟨b', o', e, h2⟩ := HSQ6.out k hqk
          obtain ⟨rfl, rfl⟩ : kb = b' ∧ 0 = o' := by simpa using e
          rw [Nat.zero_add] at h2
          rw [h2, ← hy]; rfl
        obtain ⟨cz, fz⟩ := HO.out.cell (j := j) (by rw [putTo_len]; exact hj)
        have HKN : Hid ((putTo n px q k).set j y = putTo n px q (k + 1)) := by
          show _ = _
          conv => rhs; unfold putTo
          rw [hgv, Int.toNat_natCast, hy]
        have HST := Lib.hid (HO.out.stored j y)
        clear hgv hvr hy hqk
        go_wp2
        go_roundw
        case rel => exact ⟨k + 1, by omega, by go_num, by rw [← HKN.out]; exact HST.out, HON.out.setCell _ _, HBB.out.setCell (p := ⟨w4.heap.size, j, none⟩) HWS.out _⟩
        case measure => simp [intOf]; omega
      · obtain rfl : k = px.length := by omega
        go_wp2
        go_ret2
        refine ⟨HBB.out, .inr ⟨HB.out, w4.heap.size, by rw [HN.out]; rfl, ?_⟩⟩
        rw [HN.out, HHQ.out]; exact HO.out
end Go.Proofs.YtgbnfhfkehpfaaaGreat
/- Ranges over functions whose values lie in memory: what an iterator owes its caller and what the caller owes it, told by the blocks that each of the two alone may write. Speaks of no function. -/
namespace Go.Proofs.YtgbnfhfkehpfaaaGreat
open Go.RowKit

theorem roundIn_n {P : Program} {n m l : Nat} {f : FuncId} {tmps : Array Value} {assign body : Code} {w : World} {R : Ending → World → Prop} (h : RoundIn Fence.wide n P l f tmps assign body w R) : RoundIn Fence.wide m P l f tmps assign body w R :=
  ⟨h.1, fun c cs _ => h.2 c cs (room_wide _)⟩
abbrev Blk := Nat → Prop
structure Turned (T : Blk) (W W' : World) : Prop where
  os : W'.os = W.os
  tape : W'.tape = W.tape
  output : W'.output = W.output
  size : W.heap.size ≤ W'.heap.size
  same : ∀ b, b < W.heap.size → ¬ T b → W'.heap[b]? = W.heap[b]?
theorem Turned.refl (T : Blk) (W : World) : Turned T W W := ⟨rfl, rfl, rfl, Nat.le_refl _, fun _ _ _ => rfl⟩
theorem Turned.trans {T T' : Blk} {A B C : World} (h : Turned T A B) (k : Turned T' B C) (hT : ∀ b, T' b → T b ∨ A.heap.size ≤ b) : Turned T A C :=
  ⟨k.os.trans h.os, k.tape.trans h.tape, k.output.trans h.output, Nat.le_trans h.size k.size, fun b hb hn => (k.same b (Nat.lt_of_lt_of_le hb h.size) (fun e => by rcases hT b e with q | q; exact hn q; omega)).trans (h.same b hb hn)⟩
theorem Turned.mono {T T' : Blk} {A B : World} (h : Turned T A B) (hT : ∀ b, b < A.heap.size → T b → T' b) : Turned T' A B := ⟨h.os, h.tape, h.output, h.size, fun b hb hn => h.same b hb fun e => hn (hT b hb e)⟩
theorem turned_of_below {T : Blk} {B : Nat} {W W' : World} (h : Below B W W') (hT : ∀ b, b < W.heap.size → B ≤ b → T b) : Turned T W W' := ⟨h.os, h.tape, h.output, h.size, fun b hb hn => h.block b (by rcases Nat.lt_or_ge b B with q | q; exact q; exact absurd (hT b hb q) hn)⟩
theorem turned_below {T : Blk} {W W' : World} (h : Below W.heap.size W W') : Turned T W W' := turned_of_below h fun b hb hB => by omega
theorem turned_alloc (T : Blk) (W : World) (o : Obj) : Turned T W (W.alloc o) := turned_below ((Below.refl _ _).alloc (Nat.le_refl _) o)
theorem turned_grown {T : Blk} {W W' : World} {row : Option Nat} (h : W.grownBy W' row) (hr : ∀ r, row = some r → T r) : Turned T W W' := ⟨h.os, h.tape, h.output, h.size, fun b hb hn => h.block b hb fun e => hn (hr b e.symm)⟩
theorem turned_set {T : Blk} (W : World) {a : Addr} (v : Value) (h : T a.block) : Turned T W (W.setCell a v) := ⟨rfl, rfl, rfl, by simp, fun b _ hn => Below.heap_setCell W a v b fun e => hn (e ▸ h)⟩
theorem turned_put {T : Blk} (W : World) {l : Nat} (o : Obj) (h : T l) : Turned T W (W.putObj l o) := turned_grown (grownBy_putObj' W l o) fun r e => by cases e; exact h
theorem Turned.cell {T : Blk} {W W' : World} (h : Turned T W W') {a : Addr} {v : Value} (hc : W.cell? a = some v) (hn : ¬ T a.block) : W'.cell? a = some v := by
  have hb : a.block < W.heap.size := by
    unfold World.cell? at hc
    rcases Nat.lt_or_ge a.block W.heap.size with hl | hl
    · exact hl
    · simp [Array.getElem?_eq_none hl] at hc
  exact (World.cell?_of_block (h.same _ hb hn)).trans hc
theorem Turned.frozen {T : Blk} {W W' : World} (h : Turned T W W') {a : Addr} (hb : a.block < W.heap.size) (hn : ¬ T a.block) : W'.frozen? a = W.frozen? a := World.frozen?_of_block (h.same _ hb hn)
theorem Turned.below {T : Blk} {W W' : World} {B : Nat} (h : Turned T W W') (hB : B ≤ W.heap.size) (hT : ∀ b, b < B → ¬ T b) : Below B W W' :=
  ⟨h.os, h.tape, h.output, h.size, fun b hb => h.same b (Nat.lt_of_lt_of_le hb hB) (hT b hb)⟩

section
variable {α β : Type}
structure Client (J : List α → Blk → Blk → World → Prop) : Prop where
  lt : ∀ {pre C T W}, J pre C T W → ∀ b, C b → b < W.heap.size ∧ ¬ T b
  keep : ∀ {pre C T T' W W'}, J pre C T W → Turned T W W' → (∀ b, T' b → T b ∨ W.heap.size ≤ b) → J pre C T' W'
def Went (J : List α → Blk → Blk → World → Prop) (own : α → Blk) (pre : List α) (x : α) (C T : Blk) (W W' : World) : Prop :=
  ∃ C' T', J (pre ++ [x]) C' T' W' ∧ (∀ b, T b → b < W.heap.size → ¬ own x b → T' b) ∧ (∀ b, C' b → C b ∨ own x b ∨ W.heap.size ≤ b) ∧ Turned (fun b => C b ∨ own x b) W W'
def SeqM (P : Program) (g : Nat) (lb : Array Value) (encs : α → Array Value) (Mem : α → World → Prop) (own : α → Blk) (key : α → β) (Z : List β) (need : Blk) (w : World) : Prop :=
  ∀ (l : Nat) (J Jx : List α → Blk → Blk → World → Prop) (C T : Blk) (W : World), Below w.heap.size w W → Client J → Client Jx → (∀ b, need b → ¬ C b) →
    (∀ pre x C T W1, J pre C T W1 → Mem x W1 → (∀ b, own x b → T b) → (∃ rest, Z = pre.map key ++ key x :: rest) → ∀ m, YieldAt Fence.wide m P l (encs x) W1 fun e W' =>
      (e = .returned (.bool true) ∧ Went J own pre x C T W1 W') ∨ (e = .returned (.bool false) ∧ Went Jx own pre x C T W1 W')) →
    J [] C T W →
    Calls P g (#[.func (.yield l) #[] #[]] ++ lb) W fun e W' => (∃ v, e = .returned v) ∧ ((∃ xs C T, xs.map key = Z ∧ J xs C T W') ∨ (∃ pre C T, Jx pre C T W'))
def wentPost (I : List α → Blk → Blk → World → Prop) (Ix : Code → List α → Blk → Blk → World → Prop) (own : α → Blk) (pre : List α) (x : α) (C T : Blk) (W : World) : Exit → Act → World → Prop
  | .normal, _, W' => Went I own pre x C T W W'
  | .ret, _, W' => Went (Ix .ret) own pre x C T W W'
  | .exit id, _, W' => Went (Ix (.exit id)) own pre x C T W W'
  | .goto t, _, W' => Went (Ix (.goto t)) own pre x C T W W'
  | .panic _, _, _ => False
  | .outgrown, _, _ => False
def Ring (I : List α → Blk → Blk → World → Prop) (l D : Nat) (r : Loop) (pre : List α) (C T : Blk) (W : World) : Prop :=
  ∃ C1 T1, I pre C1 T1 W ∧ (∀ b, C b ↔ C1 b ∨ b = l ∨ b = D) ∧ (∀ b, T b → T1 b) ∧ T1 l ∧ T1 D ∧ ¬ T l ∧ ¬ T D ∧ W.heap[l]? = some (.loop r) ∧ W.heap[D]? = some (.deferred (some []))
theorem Client.ring' {I : List α → Blk → Blk → World → Prop} (h : Client I) (l D : Nat) (r : Loop) : Client (Ring I l D r) where
  lt := by
    rintro pre C T W ⟨C1, T1, hI, hC, hT, q1, q2, tl, tD, hl, hD⟩ b hb
    rcases (hC b).1 hb with q | rfl | rfl
    · exact ⟨(h.lt hI b q).1, fun e => (h.lt hI b q).2 (hT b e)⟩
    · exact ⟨(Array.getElem?_eq_some_iff.1 hl).1, tl⟩
    · exact ⟨(Array.getElem?_eq_some_iff.1 hD).1, tD⟩
  keep := by
    rintro pre C T T' W W' ⟨C1, T1, hI, hC, hT, q1, q2, tl, tD, hl, hD⟩ ht hT'
    have ll := (Array.getElem?_eq_some_iff.1 hl).1
    have lD := (Array.getElem?_eq_some_iff.1 hD).1
    exact ⟨C1, fun b => T1 b ∨ W.heap.size ≤ b, h.keep hI (ht.mono fun b _ e => hT b e) (fun b e => e), hC, fun b e => (hT' b e).elim (fun e => .inl (hT b e)) .inr, .inl q1, .inl q2,
      (fun e => (hT' _ e).elim tl (by omega)), (fun e => (hT' _ e).elim tD (by omega)), (ht.same _ ll tl).trans hl, (ht.same _ lD tD).trans hD⟩
theorem wpIn_rangeFunc_M {P : Program} {n : Nat} {g : Operand} {ps : Array Tmp} {assign body : Code} {Q : Exit → Act → World → Prop} {a : Act} {w : World}
    (h1 : 1 ≤ n) {gf : Nat} {lb : Array Value} (hg : a.eval g = .func (.func gf) #[] lb) (eg : ∀ args w, (callFunc gf args).run P w = .ok (.enter gf args) w)
    {encs : α → Array Value} {Mem : α → World → Prop} {own : α → Blk} {key : α → β} {Z : List β} {need : Blk} {w0 : World} (hseq : SeqM P gf lb encs Mem own key Z need w0) (hb0 : Below w0.heap.size w0 w) (hps : ∀ x, (encs x).size = ps.size)
    (hMem : ∀ x W l r r', Mem x W → W.heap[l]? = some (.loop r) → Mem x (W.putObj l (.loop r'))) (I : List α → Blk → Blk → World → Prop) (Ix : Code → List α → Blk → Blk → World → Prop) (hI : Client I) (hIx : ∀ c, Client (Ix c)) (C T : Blk) (hneed : ∀ b, need b → ¬ C b ∧ b < w.heap.size) (hT : ∀ b, T b → b < w.heap.size) (h0 : I [] C T w) (a₁ : α → Act)
    (hassign : ∀ (l : Nat) (x : α) (W : World) (K : Act → World → Prop), K (a₁ x) W →
      assign.wpIn (Fence.wide.inRound l) (n - 1 - 1) P (Exit.then K (fun _ _ _ => False)) { tmps := (ps.zip (encs x)).foldl (fun t (p, v) => t.setIfInBounds p v) a.tmps, defers := [] } W)
    (hbody : ∀ (l : Nat) (pre : List α) (x : α) (C T : Blk) (W : World), I pre C T W → Mem x W → (∀ b, own x b → T b) → (∃ rest, Z = pre.map key ++ key x :: rest) → body.wpIn (Fence.wide.inRound l) (n - 1 - 1) P (wentPost I Ix own pre x C T W) (a₁ x) W)
    (hdone : ∀ (D : Nat) (xs : List α) (C T : Blk) (W : World), w.heap.size ≤ D → xs.map key = Z → I xs C T W → T D → W.heap[D]? = some (.deferred (some [])) → Q .normal { a with defers := { target := .collected D, args := #[] } :: a.defers } W)
    (hstop : ∀ (D : Nat) (c : Code) (pre : List α) (C T : Blk) (W : World), w.heap.size ≤ D → Ix c pre C T W → T D → W.heap[D]? = some (.deferred (some [])) → c.wpIn Fence.wide n P Q { a with defers := { target := .collected D, args := #[] } :: a.defers } W) :
    (Code.rangeFunc g ps assign body).wpIn Fence.wide n P Q a w := by
  refine wpIn_rangeFunc fun fn _ => ?_
  obtain ⟨rec, hrec⟩ : ∃ rec : LoopState → Option Code → Loop, rec = fun st pe => { state := st, pending := pe, fn, tmps := a.tmps, params := ps, assign, body, defers := w.heap.size } := ⟨_, rfl⟩
  obtain ⟨D, hD⟩ : ∃ D, w.heap.size = D := ⟨_, rfl⟩
  obtain ⟨W1, hW1⟩ : ∃ W1, (w.alloc (.deferred (some []))).alloc (.loop (rec .ready none)) = W1 := ⟨_, rfl⟩
  have sz : W1.heap.size = D + 2 := by rw [← hW1]; simp; omega
  have hL1 : W1.heap[D + 1]? = some (.loop (rec .ready none)) := by
    rw [← hW1]; have := World.alloc_heap_new (w.alloc (.deferred (some []))) (.loop (rec .ready none)); rw [World.size_alloc, hD] at this; exact this
  have hK1 : W1.heap[D]? = some (.deferred (some [])) := by
    rw [← hW1, ← hD]; exact (Below.heap_alloc _ _ _ (by simp)).trans (World.alloc_heap_new w _)
  have hbw : Below w.heap.size w W1 := by
    rw [← hW1]; exact ((Below.refl _ w).alloc (Nat.le_refl _) _).alloc (by simp) _
  have hI1 : I [] C T W1 := hI.keep h0 (turned_below hbw) fun b hb => .inl hb
  have hC1 : ∀ b, C b → b < D := fun b hb => by have := (hI.lt h0 b hb).1; omega
  refine ⟨D + 1, [{ target := .collected D, args := #[] }], W1, { target := .fn (.func gf) lb, args := #[.func (.yield (D + 1)) #[] #[]] }, W1, gf, #[.func (.yield (D + 1)) #[] #[]] ++ lb, W1, ?_, ?_, ?_, ?_, fun _ => by omega, ?_⟩
  · rw [← hW1, hrec, ← hD]; exact run_enterLoop_outer _ _ _ _ _
  · simp only [resolve, hg]
    simp [go_sem]
  · intro _ _; trivial
  · simp [invoke, go_sem, eg]
  refine (callsIn_wide.2 (hseq (D + 1) (Ring I (D + 1) D (rec .ready none)) (fun pre C T W => ∃ c, Ring (Ix c) (D + 1) D (rec .done (some c)) pre C T W) (fun b => C b ∨ b = D + 1 ∨ b = D) T W1 (hb0.trans (hbw.mono hb0.size)) (hI.ring' _ _ _) ?_ ?_ ?_ ?_)).mono ?_
  · exact { lt := fun ⟨c, h⟩ => ((hIx c).ring' _ _ _).lt h, keep := fun ⟨c, h⟩ ht hT => ⟨c, ((hIx c).ring' _ _ _).keep h ht hT⟩ }
  · rintro b hb (e | e | e)
    · exact (hneed b hb).1 e
    · have := (hneed b hb).2; omega
    · have := (hneed b hb).2; omega
  · rintro pre x C T W ⟨C1, T1, hi, hC, hTT, q1, q2, tl, tD, hl, hk⟩ hmem hown hrest m
    have hlt := (Array.getElem?_eq_some_iff.1 hl).1
    have hlk := (Array.getElem?_eq_some_iff.1 hk).1
    have hy := run_yield (P := P) (args := encs x) hl (by rw [hrec]; exact hps x)
    rw [hrec] at hy
    refine ⟨fn, _, assign, body, hy, roundIn_n (n := n - 1 - 1) <| roundIn_of_wpIn trivial (hassign _ x W _ ⟨_, run_beginRound hl (by rw [hrec]), ?_⟩)⟩
    clear hy
    obtain ⟨W2, hW2⟩ : ∃ W2, W.putObj (D + 1) (.loop { rec .ready none with state := .busy }) = W2 := ⟨_, rfl⟩
    rw [hW2]
    have hl2 : W2.heap[D + 1]? = some (.loop { rec .ready none with state := .busy }) := by rw [← hW2]; exact World.putObj_heap_same hlt
    have ht2 : Turned (fun b => b = D + 1) W W2 := by rw [← hW2]; exact turned_put W _ rfl
    have hk2 : W2.heap[D]? = some (.deferred (some [])) := (ht2.same D hlk (by show ¬ D = D + 1; omega)).trans hk
    have hi2 : I pre C1 T1 W2 := hI.keep hi (ht2.mono fun b _ e => by subst e; exact q1) fun b e => .inl e
    have hm2 : Mem x W2 := by rw [← hW2]; exact hMem x W _ _ _ hmem hl
    have fin : ∀ (K : List α → Blk → Blk → World → Prop) (jump : Option Code) (W3 : World), Client K → Went K own pre x C1 T1 W2 W3 →
        (Instr.endRound (D + 1) jump).run P W3 = .ok (.bool jump.isNone) (W3.putObj (D + 1) (.loop (rec (if jump.isNone then .ready else .done) jump))) ∧
        Went (Ring K (D + 1) D (rec (if jump.isNone then .ready else .done) jump)) own pre x C T W (W3.putObj (D + 1) (.loop (rec (if jump.isNone then .ready else .done) jump))) := by
      rintro K jump W3 hK ⟨C', T', hi3, hT3, hC3, ht3⟩
      have nl : ¬ (C1 (D + 1) ∨ own x (D + 1)) := fun e => e.elim (fun e => (hI.lt hi _ e).2 q1) fun e => tl (hown _ e)
      have nD : ¬ (C1 D ∨ own x D) := fun e => e.elim (fun e => (hI.lt hi _ e).2 q2) fun e => tD (hown _ e)
      have hl3 : W3.heap[D + 1]? = some (.loop { rec .ready none with state := .busy }) := (ht3.same _ (Array.getElem?_eq_some_iff.1 hl2).1 nl).trans hl2
      have hk3 : W3.heap[D]? = some (.deferred (some [])) := (ht3.same _ (Array.getElem?_eq_some_iff.1 hk2).1 nD).trans hk2
      have hr := run_endRound (P := P) jump hl3
      rw [hrec] at hr
      refine ⟨by rw [hrec]; exact hr, fun b => C' b ∨ b = D + 1 ∨ b = D, fun b => T' b ∧ b ≠ D + 1 ∧ b ≠ D, ⟨C', T', ?_, fun b => Iff.rfl, fun b e => e.1, hT3 _ q1 (Array.getElem?_eq_some_iff.1 hl2).1 (fun e => nl (.inr e)), hT3 _ q2 (Array.getElem?_eq_some_iff.1 hk2).1 (fun e => nD (.inr e)), fun e => e.2.1 rfl, fun e => e.2.2 rfl, World.putObj_heap_same (Array.getElem?_eq_some_iff.1 hl3).1, (World.putObj_heap_other (by omega)).trans hk3⟩, ?_, ?_, ?_⟩
      · exact hK.keep hi3 (turned_put W3 _ (hT3 _ q1 (Array.getElem?_eq_some_iff.1 hl2).1 fun e => nl (.inr e))) fun b e => .inl e
      · exact fun b hb hlt hn => ⟨hT3 b (hTT b hb) (Nat.lt_of_lt_of_le hlt ht2.size) hn, fun e => tl (e ▸ hb), fun e => tD (e ▸ hb)⟩
      · rintro b (e | e | e)
        · rcases hC3 b e with q | q | q
          · exact .inl ((hC b).2 (.inl q))
          · exact .inr (.inl q)
          · exact .inr (.inr (Nat.le_trans ht2.size q))
        · exact .inl ((hC b).2 (.inr (.inl e)))
        · exact .inl ((hC b).2 (.inr (.inr e)))
      · have a1 : Turned (fun b => C b ∨ own x b) W W2 := ht2.mono fun b _ e => .inl ((hC b).2 (.inr (.inl e)))
        have a2 : Turned (fun b => C b ∨ own x b) W2 W3 := ht3.mono fun b _ e => e.elim (fun e => .inl ((hC b).2 (.inl e))) .inr
        have a3 : Turned (fun b => C b ∨ own x b) W3 (W3.putObj (D + 1) (.loop (rec (if jump.isNone then .ready else .done) jump))) := turned_put W3 _ (.inl ((hC _).2 (.inr (.inl rfl))))
        exact (a1.trans a2 fun b e => .inl e).trans a3 fun b e => .inl e
    refine wpIn_mono (hbody _ pre x C1 T1 W2 hi2 hm2 (fun b e => hTT b (hown b e)) hrest) ?_
    rintro e a3 W3 hp
    cases e with
    | normal => obtain ⟨hr, hw⟩ := fin I none W3 hI hp; exact ⟨_, _, hr, .inl ⟨rfl, hw⟩⟩
    | ret => obtain ⟨hr, C', T', hw, q⟩ := fin _ (some .ret) W3 (hIx _) hp; exact ⟨_, _, hr, .inr ⟨rfl, C', T', ⟨_, hw⟩, q⟩⟩
    | exit id => obtain ⟨hr, C', T', hw, q⟩ := fin _ (some (.exit id)) W3 (hIx _) hp; exact ⟨_, _, hr, .inr ⟨rfl, C', T', ⟨_, hw⟩, q⟩⟩
    | goto t => obtain ⟨hr, C', T', hw, q⟩ := fin _ (some (.goto t)) W3 (hIx _) hp; exact ⟨_, _, hr, .inr ⟨rfl, C', T', ⟨_, hw⟩, q⟩⟩
    | panic ch => exact hp.elim
    | outgrown => exact hp.elim
  · refine ⟨C, fun b => T b ∨ w.heap.size ≤ b, hI.keep h0 (turned_below hbw) (fun b e => e), fun b => Iff.rfl, fun b e => .inl e, .inr (by omega), .inr (by omega), fun e => by have := hT _ e; omega, fun e => by have := hT _ e; omega, hL1, hK1⟩
  · rintro e W2 ⟨⟨v, rfl⟩, (⟨xs, C', T', hZ, C1, T1, hi, hC, hTT, q1, q2, tl, tD, hl, hk⟩ | ⟨pre, C', T', c, C1, T1, hi, hC, hTT, q1, q2, tl, tD, hl, hk⟩)⟩
    · refine ⟨none, _, by have := run_endLoop (P := P) hl (by rw [hrec]; simp); rw [hrec] at this; exact this, hdone D xs C1 T1 _ (by omega) hZ (hI.keep hi (turned_put W2 _ q1) fun b e => .inl e) q2 ((World.putObj_heap_other (by omega)).trans hk)⟩
    · refine ⟨some c, _, by have := run_endLoop (P := P) hl (by rw [hrec]; simp); rw [hrec] at this; exact this, hstop D c pre C1 T1 _ (by omega) ((hIx c).keep hi (turned_put W2 _ q1) fun b e => .inl e) q2 ((World.putObj_heap_other (by omega)).trans hk)⟩
end
end Go.Proofs.YtgbnfhfkehpfaaaGreat
/- sets of layer 3 (sets$1, sets$1$1: a closure that calls itself): a contract. -/
namespace Go.Proofs.YtgbnfhfkehpfaaaGreat
open Go.RowKit Go.Shelf
attribute [local go_sem] Oper.semAt_some

def compl (n : Nat) : Nat → Nat → List (List Int)
  | 0, _ => [[]]
  | r + 1, b => (List.range (n - r - b)).flatMap fun d => (compl n r (b + d + 1)).map fun s => ((b + d : Nat) : Int) :: s
def complTo (n r b d : Nat) : List (List Int) := (List.range d).flatMap fun d => (compl n r (b + d + 1)).map fun s => ((b + d : Nat) : Int) :: s
theorem complTo_succ (n r b d : Nat) : complTo n r b (d + 1) = complTo n r b d ++ (compl n r (b + d + 1)).map fun s => ((b + d : Nat) : Int) :: s := by
  unfold complTo; rw [List.range_succ, List.flatMap_append]; simp
theorem compl_succ (n r b : Nat) : compl n (r + 1) b = complTo n r b (n - r - b) := rfl
theorem complTo_split (n r b : Nat) : ∀ d e, d ≤ e → ∃ post, complTo n r b e = complTo n r b d ++ post
  | d, e, h => by
    obtain ⟨k, rfl⟩ : ∃ k, e = d + k := ⟨e - d, by omega⟩
    refine ⟨(List.range k).flatMap fun i => (compl n r (b + (d + i) + 1)).map fun s => ((b + (d + i) : Nat) : Int) :: s, ?_⟩
    unfold complTo
    rw [List.range_add, List.flatMap_append, List.flatMap_map]
theorem compl_mem {n : Nat} : ∀ {r b : Nat} {s : List Int}, s ∈ compl n r b → s.length = r ∧ ∀ j ∈ s, (b : Int) ≤ j ∧ j < n
  | 0, b, s, h => by
    have : s = [] := by simpa [compl] using h
    subst this; exact ⟨rfl, fun j hj => by cases hj⟩
  | r + 1, b, s, h => by
    unfold compl at h
    obtain ⟨d, hd, h2⟩ := List.mem_flatMap.1 h
    obtain ⟨t, ht, rfl⟩ := List.mem_map.1 h2
    have hd := List.mem_range.1 hd
    obtain ⟨h3, h4⟩ := compl_mem ht
    refine ⟨by simp [h3], fun j hj => ?_⟩
    rcases List.mem_cons.1 hj with rfl | hj
    · constructor <;> omega
    · have := h4 j hj; omega
abbrev SetV := Nat × List Int
abbrev encS (x : SetV) : Array Value := #[.slice (some ⟨x.1, 0, none⟩) x.2.length x.2.length]
def MemS (x : SetV) (W : World) : Prop := OwnI W 0 (.slice (some ⟨x.1, 0, none⟩) x.2.length x.2.length) x.2
structure SetsF (l S Y E N K SB n size : Nat) (xs : List Int) (W : World) : Prop where
  cs : W.cell? ⟨S, 0, none⟩ = some (.int .i64 size)
  cy : W.cell? ⟨Y, 0, none⟩ = some (.func (.yield l) #[] #[])
  ce : W.cell? ⟨E, 0, none⟩ = some (.slice (some ⟨SB, 0, none⟩) size size)
  cn : W.cell? ⟨N, 0, none⟩ = some (.int .i64 n)
  ck : W.cell? ⟨K, 0, none⟩ = some (.func (.func 98) #[] #[.pointer (some ⟨S, 0, none⟩), .pointer (some ⟨Y, 0, none⟩), .pointer (some ⟨E, 0, none⟩), .pointer (some ⟨N, 0, none⟩), .pointer (some ⟨K, 0, none⟩)])
  own : OwnI W 0 (.slice (some ⟨SB, 0, none⟩) size size) xs
  len : xs.length = size
  apart : SB ≠ S ∧ SB ≠ Y ∧ SB ≠ E ∧ SB ≠ N ∧ SB ≠ K
theorem memS_put (x : SetV) (W : World) (l : Nat) (r r' : Loop) (h : MemS x W) (hl : W.heap[l]? = some (.loop r)) : MemS x (W.putObj l (.loop r')) := by
  refine OwnI.sameBlock h (World.putObj_heap_other fun e => ?_)
  subst e
  obtain ⟨_, ⟨e, _⟩ | ⟨g, cap, cur, e, _, hh, _⟩⟩ := h
  · cases e
  · obtain ⟨rfl, _⟩ : x.1 = g ∧ _ := by simpa using e
    rw [hl] at hh; cases hh
theorem SetsF.stored {l S Y E N K SB n size : Nat} {xs : List Int} {W : World} (h : SetsF l S Y E N K SB n size xs W) (k : Nat) (j : Int) : SetsF l S Y E N K SB n size (xs.set k j) (W.setCell ⟨SB, k, none⟩ (.int .i64 j)) := by
  obtain ⟨cs, cy, ce, cn, ck, own, len, h1, h2, h3, h4, h5⟩ := h
  exact ⟨(cell_other _ _ _ _ (Ne.symm h1)).trans cs, (cell_other _ _ _ _ (Ne.symm h2)).trans cy, (cell_other _ _ _ _ (Ne.symm h3)).trans ce, (cell_other _ _ _ _ (Ne.symm h4)).trans cn, (cell_other _ _ _ _ (Ne.symm h5)).trans ck, own.stored k j, by rw [List.length_set]; exact len, h1, h2, h3, h4, h5⟩
def SetsA (S Y E N K SB : Nat) (C T : Blk) : Prop := T SB ∧ ∀ b, (b = S ∨ b = Y ∨ b = E ∨ b = N ∨ b = K ∨ b = SB) → ¬ C b
theorem SetsF.turned {l S Y E N K SB n size : Nat} {xs : List Int} {W W' : World} {C : Blk} (h : SetsF l S Y E N K SB n size xs W) (ht : Turned C W W') (ha : ∀ b, (b = S ∨ b = Y ∨ b = E ∨ b = N ∨ b = K ∨ b = SB) → ¬ C b) : SetsF l S Y E N K SB n size xs W' := by
  obtain ⟨cs, cy, ce, cn, ck, own, len, h1, h2, h3, h4, h5⟩ := h
  exact ⟨ht.cell cs (ha _ (by simp)), ht.cell cy (ha _ (by simp)), ht.cell ce (ha _ (by simp)), ht.cell cn (ha _ (by simp)), ht.cell ck (ha _ (by simp)), own.sameBlock (ht.same _ (OwnI.lt own).1 (ha _ (by simp))), len, h1, h2, h3, h4, h5⟩
theorem take_set {xs : List Int} {p : List Int} {k : Nat} {j : Int} (hp : xs.take k = p) (hk : k < xs.length) : (xs.set k j).take (k + 1) = p ++ [j] := by
  subst hp
  apply List.ext_getElem?
  intro i
  rw [List.getElem?_append, List.getElem?_take]
  have hl : (xs.take k).length = k := by rw [List.length_take]; omega
  rw [hl, List.getElem?_take, List.getElem?_set]
  by_cases h1 : i < k
  · rw [if_pos (by omega), if_neg (by omega), if_pos h1, if_pos h1]
  · by_cases h2 : i = k
    · subst h2; rw [if_pos (by omega), if_pos rfl, if_neg h1]; simp [hk]
    · rw [if_neg (by omega), if_neg h1, List.getElem?_eq_none (by simp; omega)]
theorem take_less {xs p : List Int} {k : Nat} {j : Int} (h : xs.take (k + 1) = p ++ [j]) (hp : p.length = k) : xs.take k = p := by
  have h2 : (xs.take (k + 1)).take k = (p ++ [j]).take k := by rw [h]
  rw [List.take_take, Nat.min_eq_left (by omega)] at h2
  rw [h2]; simp [← hp]
def ChPost (l S Y E N K SB n size : Nat) (J Jx : List SetV → Blk → Blk → World → Prop) (k : Nat) (p : List Int) (pre : List SetV) (L : List (List Int)) (e : Ending) (W' : World) : Prop :=
  (e = .returned (.bool true) ∧ ∃ ys C T xs', ys.map Prod.snd = L.map (p ++ ·) ∧ J (pre ++ ys) C T W' ∧ SetsF l S Y E N K SB n size xs' W' ∧ SetsA S Y E N K SB C T ∧ xs'.take k = p) ∨ (e = .returned (.bool false) ∧ ∃ pre' C T, Jx pre' C T W')
set_option maxRecDepth 100000 in
set_option maxHeartbeats 2000000 in
theorem choose_in (l S Y E N K SB n size : Nat) (hn : n ≤ 100) (hs : size ≤ 100) (J Jx : List SetV → Blk → Blk → World → Prop) (hJ : Client J) (Z : List (List Int))
    (hY : ∀ pre x C T W1, J pre C T W1 → MemS x W1 → (∀ b, False → T b) → (∃ rest, Z = pre.map Prod.snd ++ x.2 :: rest) → ∀ m, YieldAt Fence.wide m Tryz.prog l (encS x) W1 fun e W' =>
      (e = .returned (.bool true) ∧ Went J (fun _ _ => False) pre x C T W1 W') ∨ (e = .returned (.bool false) ∧ Went Jx (fun _ _ => False) pre x C T W1 W')) :
    ∀ (r k b : Nat) (p : List Int) (pre : List SetV) (C T : Blk) (xs : List Int) (W : World), k + r = size → p.length = k → b ≤ n → J pre C T W → SetsF l S Y E N K SB n size xs W → SetsA S Y E N K SB C T → xs.take k = p → (∃ post, Z = pre.map Prod.snd ++ (compl n r b).map (p ++ ·) ++ post) →
      CallsIn Fence.wide 50 Tryz.prog 98 #[.int .i64 k, .int .i64 b, .pointer (some ⟨S, 0, none⟩), .pointer (some ⟨Y, 0, none⟩), .pointer (some ⟨E, 0, none⟩), .pointer (some ⟨N, 0, none⟩), .pointer (some ⟨K, 0, none⟩)] W (ChPost l S Y E N K SB n size J Jx k p pre (compl n r b)) := by
  intro r
  induction r with
  | zero =>
    intro k b p pre C T xs W hk hp hb hj hF hA htake hZ
    obtain rfl : k = size := by omega
    have HF := Lib.hid hF
    have HA := Lib.hid hA
    have HZ := Lib.hid hZ
    have cs := hF.cs; have cy := hF.cy; have ce := hF.ce; have own := hF.own; have len := hF.len
    clear hF
    have hx : xs = p := by rw [← htake, List.take_of_length_le (by omega)]
    subst hx
    have LEN := Lib.hid len
    have HP : Hid (MemS (SB, xs) W) := by show OwnI _ _ _ _; dsimp only; rw [len]; exact own
    have HJ := Lib.hid hj
    have hy := hY pre (SB, xs) C T W hj HP.out (fun _ h => h.elim) (by obtain ⟨post, h⟩ := hZ; exact ⟨post, by rw [h]; simp [compl]⟩)
    obtain ⟨fn, tmps, assign, body, hy1, hR⟩ := hy 49
    dsimp only [encS] at hy1
    rw [len] at hy1
    clear hy hj hZ hA htake len own
    refine callsIn_of_wp Tryz.func98 rfl trivial ?_ rfl
    simp only [Tryz.ntmps98, List.size_toArray, List.length_cons, List.length_nil, Nat.reduceAdd, Nat.reduceSub, Array.replicate_succ, Array.replicate_zero, List.push_toArray, List.append_toArray, List.nil_append, List.cons_append]
    gi_wp2
    refine hR.mono ?_
    rintro e W3 (⟨rfl, hw⟩ | ⟨rfl, hw⟩)
    · have HW := Lib.hid hw; clear hw
      gi_wp2
      go_ret
      obtain ⟨C', T', hj', hT', hC', ht'⟩ := HW.out
      refine .inl ⟨rfl, [(SB, xs)], C', T', xs, by simp [compl], hj', HF.out.turned ht' (fun b hb e => e.elim (HA.out.2 b hb) id), ⟨hT' _ HA.out.1 (OwnI.lt HF.out.own).1 id, fun b hb e => ?_⟩, by rw [List.take_of_length_le (by have := LEN.out; omega)]⟩
      rcases hC' b e with q | q | q
      · exact HA.out.2 b hb q
      · exact q
      · have l1 := cell_lt cs; have l2 := cell_lt cy; have l3 := cell_lt ce; have l4 := cell_lt HF.out.cn; have l5 := cell_lt HF.out.ck; dsimp only at l1 l2 l3 l4 l5; have l6 := (OwnI.lt HF.out.own).1
        rcases hb with rfl | rfl | rfl | rfl | rfl | rfl <;> omega
    · have HW := Lib.hid hw; clear hw
      gi_wp2
      go_ret
      obtain ⟨C', T', hj', hT', hC', ht'⟩ := HW.out
      exact .inr ⟨rfl, _, C', T', hj'⟩
  | succ r ih =>
    intro k b p pre C T xs W hk hp hb hj hF hA htake hZ
    have hks : k < size := by omega
    have HF := Lib.hid hF
    have HA := Lib.hid hA
    have HZ := Lib.hid hZ
    have HJ := Lib.hid hj
    have HT := Lib.hid htake
    have HP := Lib.hid hp
    have HK := Lib.hid hk
    have cs := hF.cs
    clear hj hZ hA htake hp hk hF
    refine callsIn_of_wp Tryz.func98 rfl trivial ?_ rfl
    simp only [Tryz.ntmps98, List.size_toArray, List.length_cons, List.length_nil, Nat.reduceAdd, Nat.reduceSub, Array.replicate_succ, Array.replicate_zero, List.push_toArray, List.append_toArray, List.nil_append, List.cons_append]
    gi_wp2
    clear cs
    gi_loopw [10] (fun i wr => ∃ j : Nat, b ≤ j ∧ (j = b ∨ j ≤ n - r) ∧ i = .int .i64 (j : Int) ∧ ∃ ys C T xs', ys.map Prod.snd = (complTo n r b (j - b)).map (p ++ ·) ∧ J (pre ++ ys) C T wr ∧ SetsF l S Y E N K SB n size xs' wr ∧ SetsA S Y E N K SB C T ∧ xs'.take k = p) (fun i _ => n + 2 - (intOf i).toNat)
    case atStart => exact ⟨b, Nat.le_refl _, .inl rfl, rfl, [], C, T, xs, by rw [Nat.sub_self]; rfl, by simpa using HJ.out, HF.out, HA.out, HT.out⟩
    case round =>
      obtain ⟨j, hd1, hd2, rfl, ys, C', T', xs', hys, hj', hF', hA', ht'⟩ := hrel
      have HF' := Lib.hid hF'
      have HJ' := Lib.hid hj'
      have HA' := Lib.hid hA'
      have HT' := Lib.hid ht'
      have HYS := Lib.hid hys
      have cs := hF'.cs; have ce := hF'.ce; have cn := hF'.cn; have own := hF'.own; have len := hF'.len
      clear hj' hA' ht' hys hF'
      by_cases hlt : j < n - r
      · have hle : (j : Int) ≤ (n : Int) - size + k := by have := HK.out; omega
        obtain ⟨cz, fz⟩ := own.cell (j := k) (by omega)
        have LEN := Lib.hid len
        have HF2 := Lib.hid (HF'.out.stored k (j : Int))
        have ck2 := HF2.out.ck
        have HJ2 : Hid (J (pre ++ ys) C' T' (wr.setCell ⟨SB, k, none⟩ (.int .i64 (j : Int)))) := hJ.keep HJ'.out (turned_set wr _ HA'.out.1) fun b e => .inl e
        have HT2 : Hid ((xs'.set k (j : Int)).take (k + 1) = p ++ [(j : Int)]) := take_set HT'.out (by omega)
        have HS : Hid (complTo n r b (j - b + 1) = complTo n r b (j - b) ++ (compl n r (j + 1)).map fun s => (j : Int) :: s) := by
          show _ = _
          rw [complTo_succ, show b + (j - b) = j by omega]
        have HZ2 : Hid (∃ post, Z = (pre ++ ys).map Prod.snd ++ (compl n r (j + 1)).map ((p ++ [(j : Int)]) ++ ·) ++ post) := by
          obtain ⟨post, hz⟩ := HZ.out
          obtain ⟨post2, hz2⟩ := complTo_split n r b (j - b + 1) (n - r - b) (by omega)
          refine ⟨post2.map (p ++ ·) ++ post, ?_⟩
          rw [hz, compl_succ, hz2, HS.out]
          rw [List.map_append (l₁ := pre), HYS.out, List.map_append, List.map_append]
          simp [List.append_assoc]
        have HLT := Lib.hid hlt
        clear own len hlt
        have hk1 : Hid (k + 1 + r = size) := by have := HK.out; show _ = _; omega
        have hp1 : Hid ((p ++ [(j : Int)]).length = k + 1) := by have := HP.out; show _ = _; simp; omega
        have hb1 : Hid (j + 1 ≤ n) := by show _ ≤ _; omega
        gi_wp2_with (refine ⟨trivial, ?_⟩; gi_at_call 98; refine CallsIn.mono (callsIn_wide.2 (callsIn_wide.1 (ih (k + 1) (j + 1) (p ++ [(j : Int)]) (pre ++ ys) C' T' _ _ hk1.out hp1.out hb1.out HJ2.out HF2.out HA'.out HT2.out HZ2.out))) ?_; rintro e W3 (⟨rfl, hw⟩ | ⟨rfl, hw⟩) <;> have HW := Lib.hid hw <;> clear hw)
        · obtain ⟨zs, C3, T3, xs3, hzs, hj3, hF3, hA3, ht3⟩ := HW.out
          have hj3' : J (pre ++ (ys ++ zs)) C3 T3 W3 := by rw [← List.append_assoc]; exact hj3
          have R1 := Lib.hid hj3'; have R2 := Lib.hid hF3; have R3 := Lib.hid hA3; have R4 := Lib.hid (take_less ht3 HP.out); have R5 := Lib.hid hzs
          clear hj3 hj3' hF3 hA3 ht3 hzs ck2 cz fz cs
          gi_wp2
          go_roundw
          case rel =>
            have := hb1.out; have := HLT.out
            refine ⟨j + 1, by omega, .inr (by omega), by go_num, ys ++ zs, C3, T3, xs3, ?_, R1.out, R2.out, R3.out, R4.out⟩
            rw [List.map_append, HYS.out, R5.out, show j + 1 - b = j - b + 1 by omega, HS.out, List.map_append]
            simp
          case measure => have := hb1.out; simp [intOf]; omega
        · obtain ⟨pre', C3, T3, hx3⟩ := HW.out
          have R1 := Lib.hid hx3
          clear hx3 ck2 cz fz cs
          gi_wp2
          go_ret
          exact .inr ⟨rfl, _, _, _, R1.out⟩
      · have hle : ¬ ((j : Int) ≤ (n : Int) - size + k) := by have := HK.out; omega
        have HJE : Hid (complTo n r b (j - b) = compl n (r + 1) b) := by
          show _ = _
          rw [compl_succ]
          congr 1
          omega
        clear own len ce
        gi_wp2
        go_ret
        exact .inl ⟨rfl, ys, C', T', xs', by rw [← HJE.out]; exact HYS.out, HJ'.out, HF'.out, HA'.out, HT'.out⟩
end Go.Proofs.YtgbnfhfkehpfaaaGreat
/- sets of layer 3: the contract of what it hands back. -/
namespace Go.Proofs.YtgbnfhfkehpfaaaGreat
open Go.RowKit Go.Shelf

theorem sets_any (n size : Int) (w : World) : Calls Tryz.prog 82 #[.int .i64 n, .int .i64 size] w fun e w' =>
    e = .returned (.func (.func 97) #[] #[.pointer (some ⟨w.heap.size + 1, 0, none⟩), .pointer (some ⟨w.heap.size, 0, none⟩)]) ∧ w' = (w.alloc (.cells #[.int .i64 n] 3)).alloc (.cells #[.int .i64 size] 3) := by
  go_enter Tryz.func82, Tryz.ntmps82
  go_wp2
  go_ret
  exact ⟨rfl, rfl⟩
theorem two_last (w : World) (o : Obj) (v : Value) (t : TypeId) : ((w.alloc o).alloc (.cells #[v] t)).cell? ⟨w.heap.size + 1, 0, none⟩ = some v ∧ ((w.alloc o).alloc (.cells #[v] t)).frozen? ⟨w.heap.size + 1, 0, none⟩ = false := by
  have h : (w.alloc o).heap.size = w.heap.size + 1 := World.size_alloc _ _
  rw [← h]
  exact ⟨alloc_cell _ _ _ _ _ rfl, by simp⟩
theorem sets_boxes {w4 W V : World} {S N l n size : Nat} {t t' : TypeId} {u : Value} (h1 : V.heap.size = W.heap.size + 1) (h2 : V.heap.size < w4.heap.size) (hb : Below W.heap.size W w4) (hbV : Below V.heap.size V w4) (cS : W.cell? ⟨S, 0, none⟩ = some (.int .i64 size)) (cN : W.cell? ⟨N, 0, none⟩ = some (.int .i64 n))
    (cY : V.cell? ⟨W.heap.size, 0, none⟩ = some (.func (.yield l) #[] #[])) (ho : OwnI w4 0 (.slice (some ⟨V.heap.size, 0, none⟩) size size) (List.replicate size 0)) :
    let f : Value := .func (.func 98) #[] #[.pointer (some ⟨S, 0, none⟩), .pointer (some ⟨W.heap.size, 0, none⟩), .pointer (some ⟨w4.heap.size, 0, none⟩), .pointer (some ⟨N, 0, none⟩), .pointer (some ⟨w4.heap.size + 1, 0, none⟩)]
    let X := ((w4.alloc (.cells #[.slice (some ⟨V.heap.size, 0, none⟩) size size] t)).alloc (.cells #[u] t')).setCell ⟨w4.heap.size + 1, 0, none⟩ f
    SetsF l S W.heap.size w4.heap.size N (w4.heap.size + 1) V.heap.size n size (List.replicate size 0) X ∧ Below W.heap.size W X := by
  intro f X
  have LS : S < W.heap.size := cell_lt cS
  have LN : N < W.heap.size := cell_lt cN
  have e1 : (w4.alloc (.cells #[.slice (some ⟨V.heap.size, 0, none⟩) size size] t)).heap.size = w4.heap.size + 1 := World.size_alloc _ _
  have hX : Below w4.heap.size w4 X := ((((Below.refl _ _).alloc (Nat.le_refl _) _).alloc (by omega) _).setCell (p := ⟨w4.heap.size + 1, 0, none⟩) (by show _ ≤ w4.heap.size + 1; omega) _)
  have old : ∀ {b o : Nat} {v : Value}, w4.cell? ⟨b, o, none⟩ = some v → X.cell? ⟨b, o, none⟩ = some v := fun h => (hX.cell (p := ⟨_, _, none⟩) (cell_lt h)).trans h
  have hws : W.heap.size ≤ w4.heap.size := hb.size
  refine ⟨⟨old ((hb.cell (p := ⟨S, 0, none⟩) LS).trans cS), old ((hbV.cell (p := ⟨W.heap.size, 0, none⟩) (by show W.heap.size < _; omega)).trans cY), ?_, old ((hb.cell (p := ⟨N, 0, none⟩) LN).trans cN), World.cell?_setCell_same _ _ _ (two_last _ _ _ _).1, ho.below hX, by simp, by omega, by omega, by omega, by omega, by omega⟩, hb.trans (hX.mono hws)⟩
  refine (cell_other _ _ _ _ (by show w4.heap.size ≠ w4.heap.size + 1; omega)).trans ((alloc_old _ _ _ _ (by omega)).trans (alloc_cell _ _ _ _ _ rfl))
@[local go_sem] theorem run_store_func' (P : Program) (w : World) (a : Addr) (m : Mode) (f : Fn) (x y : Array Value) : (store a (.func f x y) m).run P w = stored P w a (.func f x y) m := run_store P w a _ m rfl
set_option maxRecDepth 100000 in
set_option maxHeartbeats 1000000 in
theorem sets1_seq (n size S N : Nat) (hn : n ≤ 100) (hs : 1 ≤ size ∧ size ≤ 100) (w : World) (hS : w.cell? ⟨S, 0, none⟩ = some (.int .i64 size)) (hN : w.cell? ⟨N, 0, none⟩ = some (.int .i64 n)) :
    SeqM Tryz.prog 97 #[.pointer (some ⟨S, 0, none⟩), .pointer (some ⟨N, 0, none⟩)] encS MemS (fun _ _ => False) Prod.snd (compl n size 0) (fun b => b = S ∨ b = N) w := by
  intro l J Jx C T W hW hJ hJx hneed hY h0
  obtain ⟨i0, hi, hz0, hz1, hz2⟩ := info_parts Tryz.infoInt
  have cS : W.cell? ⟨S, 0, none⟩ = some (.int .i64 size) := (hW.cell (p := ⟨S, 0, none⟩) (cell_lt hS)).trans hS
  have cN : W.cell? ⟨N, 0, none⟩ = some (.int .i64 n) := (hW.cell (p := ⟨N, 0, none⟩) (cell_lt hN)).trans hN
  have LS : S < W.heap.size := cell_lt cS
  have LN : N < W.heap.size := cell_lt cN
  have HY := Lib.hid hY
  have H0 := Lib.hid h0
  have HNEED := Lib.hid hneed
  have HSZ := Lib.hid hs
  obtain ⟨hs1, hs2⟩ := hs
  have CS := Lib.hid cS
  have CN := Lib.hid cN
  clear hY h0 hneed hS hN hW cN
  show Calls _ _ (#[.func (.yield l) #[] #[], .pointer (some ⟨S, 0, none⟩), .pointer (some ⟨N, 0, none⟩)]) _ _
  obtain ⟨V, hV⟩ : ∃ V, W.alloc (.cells #[.func (.yield l) #[] #[]] 23) = V := ⟨_, rfl⟩
  have HB0 : Hid (Below W.heap.size W V) := by rw [← hV]; exact (Below.refl _ _).alloc (Nat.le_refl _) _
  have cSV : V.cell? ⟨S, 0, none⟩ = some (.int .i64 size) := (HB0.out.cell (p := ⟨S, 0, none⟩) LS).trans cS
  have hVs : V.heap.size = W.heap.size + 1 := by rw [← hV]; exact World.size_alloc _ _
  have HCY : Hid (V.cell? ⟨W.heap.size, 0, none⟩ = some (.func (.yield l) #[] #[])) := by rw [← hV]; exact alloc_cell _ _ _ _ _ rfl
  go_enter Tryz.func97, Tryz.ntmps97
  have HVS := Lib.hid hVs
  clear cS hVs
  go_wp2_with (with_reducible refine wpList_make_full _ rfl (.tmp 6) (.tmp 6) 22 rfl V.heap.size 3 i0 (.int .i64 0) 1 Tryz.underlying22 hi hz0 hz1 .i64 .i64 (size : Int) (size : Int) size rfl rfl rfl rfl (by rw [hz2]; omega) (by unfold maxLen; omega) (Nat.le_refl _) ?_)
  rotate_left
  intro w4 hown hgrow
  have hb4 : Below V.heap.size V w4 := (Below.refl _ _).grown hgrow (Nat.le_refl _) (fun k e => by cases e)
  have hsz4 : V.heap.size ≤ w4.heap.size := hb4.size
  have HB4 : Hid (Below W.heap.size W w4) := HB0.out.trans (hb4.mono (by have := HVS.out; omega))
  have HSB : Hid (V.heap.size < w4.heap.size) := (OwnI.lt (xs := List.replicate size 0) (by
    have z := zeros_are size
    rw [Nat.mul_one] at z
    show w4.ownsRow V.heap.size _ _ _ _ _
    rw [List.length_replicate, ← z]; exact hown)).1
  have HO4 : Hid (OwnI w4 0 (.slice (some ⟨V.heap.size, 0, none⟩) size size) (List.replicate size 0)) := by
    have z := zeros_are size
    rw [Nat.mul_one] at z
    refine OwnI.mono (base := V.heap.size) ?_ (Nat.zero_le _)
    show w4.ownsRow _ _ _ _ _ _
    rw [List.length_replicate, ← z]; exact hown
  have HBV := Lib.hid hb4
  have HL := Lib.hid LS
  have HLN := Lib.hid LN
  clear hown hgrow hb4 cSV hsz4 LS LN
  obtain ⟨k1, k2⟩ := two_last w4 (.cells #[.slice (some ⟨V.heap.size, 0, none⟩) size size] 22) .nilFunc 110
  obtain ⟨q1, q2⟩ := sets_boxes (t := 22) (t' := 110) (u := .nilFunc) HVS.out HSB.out HB4.out HBV.out CS.out CN.out HCY.out HO4.out
  have Q1 := Lib.hid q1
  have Q2 := Lib.hid q2
  clear q1 q2
  obtain ⟨X0, hX0⟩ : ∃ X0, (w4.alloc (.cells #[.slice (some ⟨V.heap.size, 0, none⟩) size size] 22)).alloc (.cells #[.nilFunc] 110) = X0 := ⟨_, rfl⟩
  rw [hX0] at k1 k2 Q1 Q2
  go_wp2_with fail
  refine (callsIn_wide.1 (choose_in l S W.heap.size w4.heap.size N (w4.heap.size + 1) V.heap.size n size hn hs2 J Jx hJ (compl n size 0) HY.out size 0 0 [] [] C (fun b => T b ∨ W.heap.size ≤ b) (List.replicate size 0) _ (by omega) rfl (Nat.zero_le _) (hJ.keep H0.out (turned_below Q2.out) (fun b e => e)) Q1.out ⟨.inr (by have := HVS.out; omega), ?_⟩ rfl ⟨[], by simp⟩)).mono ?_
  · have hlt := fun b hb => (hJ.lt H0.out b hb).1
    have hW := HB4.out.size
    have hV := HVS.out
    rintro b (rfl | rfl | rfl | rfl | rfl | rfl) hb
    · exact HNEED.out _ (.inl rfl) hb
    · have := hlt _ hb; omega
    · have := hlt _ hb; omega
    · exact HNEED.out _ (.inr rfl) hb
    · have := hlt _ hb; omega
    · have := hlt _ hb; omega
  · rintro e W3 (⟨rfl, ys, C3, T3, xs3, hys, hj3, -⟩ | ⟨rfl, pre', C3, T3, hx3⟩)
    · have R1 := Lib.hid hj3
      have R2 := Lib.hid hys
      clear hj3 hys k1 k2
      go_wp2
      go_end0
      exact ⟨⟨_, rfl⟩, .inl ⟨ys, C3, T3, by have := R2.out; simpa using this, R1.out⟩⟩
    · have R1 := Lib.hid hx3
      clear hx3 k1 k2
      go_wp2
      go_end0
      exact ⟨⟨_, rfl⟩, .inr ⟨_, _, _, R1.out⟩⟩
end Go.Proofs.YtgbnfhfkehpfaaaGreat
/- The marks that ranges over functions leave behind, and what is owed at the return. -/
namespace Go.Proofs.YtgbnfhfkehpfaaaGreat
open Go.RowKit

def mark (D : Nat) : Deferred := { target := .collected D, args := #[] }
def Marks (B : Nat) (ms : List Nat) (W : World) : Prop := ms.Nodup ∧ ∀ D, D ∈ ms → B ≤ D ∧ W.heap[D]? = some (.deferred (some []))
theorem Marks.kept {B : Nat} {ms : List Nat} {W W' : World} (h : Marks B ms W) (k : ∀ D, D ∈ ms → W'.heap[D]? = W.heap[D]?) : Marks B ms W' := ⟨h.1, fun D hD => ⟨(h.2 D hD).1, (k D hD).trans (h.2 D hD).2⟩⟩
theorem Marks.lt {B : Nat} {ms : List Nat} {W : World} (h : Marks B ms W) {D : Nat} (hD : D ∈ ms) : D < W.heap.size := (Array.getElem?_eq_some_iff.1 (h.2 D hD).2).1
end Go.Proofs.YtgbnfhfkehpfaaaGreat
/- circuits of layer 3: the contract of what it hands back. -/
namespace Go.Proofs.YtgbnfhfkehpfaaaGreat
open Go.RowKit Go.Shelf
attribute [local go_sem] Oper.semAt_some

def circsTo (m : List (List Int)) (k : Nat) : List (List Int) := (List.range k).flatMap fun f => ((compl (colsM m) (f + 1) 0).filter (circB m)).map (circH m)
def rankM (m : List (List Int)) : Nat := (redN m (upTo (colsM m))).piv.length
def circsAll (m : List (List Int)) : List (List Int) := circsTo m (rankM m + 1)
theorem circsTo_succ (m : List (List Int)) (k : Nat) : circsTo m (k + 1) = circsTo m k ++ ((compl (colsM m) (k + 1) 0).filter (circB m)).map (circH m) := by
  unfold circsTo; rw [List.range_succ, List.flatMap_append]; simp
theorem circsTo_split (m : List (List Int)) (k n : Nat) (h : k ≤ n) : ∃ post, circsTo m n = circsTo m k ++ post := by
  obtain ⟨d, rfl⟩ : ∃ d, n = k + d := ⟨n - k, by omega⟩
  unfold circsTo
  rw [List.range_add, List.flatMap_append]
  exact ⟨_, rfl⟩
abbrev ownC (x : SetV) : Blk := fun b => b = x.1
structure CIn (w0 : World) (B Y l : Nat) (ma : Option Addr) (M mc : Nat) (ms : List Nat) (K : List SetV → Blk → Blk → World → Prop) (pre : List SetV) (C T : Blk) (W : World) : Prop where
  cl : ∃ T2, K pre C T2 W ∧ (∀ b, T b → T2 b) ∧ T2 Y ∧ ∀ D, D ∈ ms → T2 D
  nc : ∀ b, b < w0.heap.size ∨ b = B → ¬ C b
  nt : ∀ b, b < w0.heap.size ∨ b = B ∨ b = Y ∨ b ∈ ms → ¬ T b
  bw : Below w0.heap.size w0 W
  cB : W.cell? ⟨B, 0, none⟩ = some (.slice ma M mc)
  cY : W.cell? ⟨Y, 0, none⟩ = some (.func (.yield l) #[] #[])
  dm : ∀ D, D ∈ ms → W.heap[D]? = some (.deferred (some []))
theorem CIn.client {w0 : World} {B Y l : Nat} {ma : Option Addr} {M mc : Nat} {ms : List Nat} {K : List SetV → Blk → Blk → World → Prop} {β : Type} {q : List β → List SetV → Prop} (hK : Client K) : Client fun (s : List β) C T W => ∃ pre, q s pre ∧ CIn w0 B Y l ma M mc ms K pre C T W where
  lt := by
    rintro s C T W ⟨pre, _, h⟩ b hb
    obtain ⟨T2, hk, h1, _⟩ := h.cl
    exact ⟨(hK.lt hk b hb).1, fun e => (hK.lt hk b hb).2 (h1 b e)⟩
  keep := by
    rintro s C T T' W W' ⟨pre, hq, h⟩ ht hT
    obtain ⟨T2, hk, h1, h2, h3⟩ := h.cl
    have lB := cell_lt h.cB
    have lY := cell_lt h.cY
    have lD : ∀ D, D ∈ ms → D < W.heap.size := fun D hD => (Array.getElem?_eq_some_iff.1 (h.dm D hD)).1
    have hnt : ∀ b, b < w0.heap.size ∨ b = B ∨ b = Y ∨ b ∈ ms → ¬ T' b := by
      intro b hb e
      rcases hT b e with q | q
      · exact h.nt b hb q
      · have := h.bw.size
        rcases hb with hb | rfl | rfl | hb
        · omega
        · dsimp only at lB; omega
        · dsimp only at lY; omega
        · have := lD b hb; omega
    refine ⟨pre, hq, ⟨fun b => T2 b ∨ W.heap.size ≤ b, hK.keep hk (ht.mono fun b _ e => h1 b e) (fun b e => e), fun b e => (hT b e).elim (fun e => .inl (h1 b e)) .inr, .inl h2, fun D hD => .inl (h3 D hD)⟩, h.nc, hnt, h.bw.trans (ht.below h.bw.size fun b hb => h.nt b (.inl hb)), ht.cell h.cB (h.nt _ (by simp)), ht.cell h.cY (h.nt _ (by simp)), fun D hD => (ht.same D (lD D hD) (h.nt D (by simp [hD]))).trans (h.dm D hD)⟩
theorem cin_next {w0 V2 W5 W6 : World} {B Y l M mc bh : Nat} {ma : Option Addr} {ms : List Nat} {J K : List SetV → Blk → Blk → World → Prop} {pre' : List SetV} {h : List Int} {C3 T3 T2 : Blk} (hJ : Client J) (hI : CIn w0 B Y l ma M mc ms J pre' C3 T3 V2)
    (hk : J pre' C3 T2 V2) (h1 : ∀ b, T3 b → T2 b) (h2 : T2 Y) (h3 : ∀ D, D ∈ ms → T2 D) (hb5 : Below V2.heap.size V2 W5) (hbh : V2.heap.size ≤ bh) (hw : Went K ownC pre' (bh, h) C3 (fun b => T2 b ∨ V2.heap.size ≤ b) W5 W6) :
    ∃ C', CIn w0 B Y l ma M mc ms K (pre' ++ [(bh, h)]) C' (fun b => T3 b ∧ b < V2.heap.size) W6 ∧ (∀ b, C' b → C3 b ∨ V2.heap.size ≤ b) ∧ Turned C3 V2 W6 := by
  obtain ⟨C', T', hj6, hT', hC', ht'⟩ := hw
  have s5 := hb5.size
  have lB := cell_lt hI.cB
  have lY := cell_lt hI.cY
  dsimp only at lB lY
  have lD : ∀ D, D ∈ ms → D < V2.heap.size := fun D hD => (Array.getElem?_eq_some_iff.1 (hI.dm D hD)).1
  have lw := hI.bw.size
  have nC : ∀ b, T2 b → ¬ C3 b := fun b hb hc => (hJ.lt hk b hc).2 hb
  have no : ∀ b, b < V2.heap.size → ¬ C3 b → ¬ (C3 b ∨ ownC (bh, h) b) := fun b hb hn e => e.elim hn fun e => by have : b = bh := e; omega
  have t5 : Turned C3 V2 W5 := turned_below hb5
  have hc5 : ∀ {a : Addr} {v : Value}, a.block < V2.heap.size → V2.cell? a = some v → ¬ C3 a.block → W6.cell? a = some v := fun hl hc hn => ht'.cell ((hb5.cell hl).trans hc) (no _ hl hn)
  refine ⟨C', ⟨⟨T', hj6, fun b hb => hT' b (.inl (h1 b hb.1)) (by omega) (fun e => by have : b = bh := e; omega), hT' Y (.inl h2) (by omega) (fun e => by have : Y = bh := e; omega), fun D hD => hT' D (.inl (h3 D hD)) (by have := lD D hD; omega) (fun e => by have : D = bh := e; have := lD D hD; omega)⟩, ?_, fun b hb e => hI.nt b hb e.1, ?_, hc5 lB hI.cB (hI.nc B (.inr rfl)), hc5 lY hI.cY (nC Y h2), ?_⟩, ?_, ?_⟩
  · intro b hb e
    rcases hC' b e with q | q | q
    · exact hI.nc b hb q
    · have q : b = bh := q
      rcases hb with hb | hb <;> omega
    · rcases hb with hb | hb <;> omega
  · refine hI.bw.trans ((hb5.mono lw).trans (ht'.below (by omega) fun b hb => no b (by omega) (hI.nc b (.inl hb))))
  · intro D hD
    have := lD D hD
    exact (ht'.same D (by omega) (no D this (nC D (h3 D hD)))).trans ((hb5.block D this).trans (hI.dm D hD))
  · intro b hb
    rcases hC' b hb with q | q | q
    · exact .inl q
    · have q : b = bh := q
      exact .inr (by omega)
    · exact .inr (by omega)
  · exact t5.trans ht' fun b e => e.elim .inl fun e => .inr (by have : b = bh := e; omega)
theorem leaves_marks2 {F : Fence} {n : Nat} {P : Program} {fn : Func} {tmps : Array Value} {R : Ending → World → Prop} (p : World → Prop) (ms0 : List Nat)
    (hp : ∀ W D, D ∈ ms0 → p W → p (W.putObj D (.deferred none))) (hR : ∀ W, p W → LeavesIn F n P fn tmps R [] .returning W) :
    ∀ (ms : List Nat) (W : World), (∀ D, D ∈ ms → D ∈ ms0) → ms.Nodup → (∀ D, D ∈ ms → W.heap[D]? = some (.deferred (some []))) → p W → LeavesInM F n P fn tmps R (ms.map mark) .returning W := by
  intro ms
  induction ms with
  | nil => intro W _ _ _ h; exact hR W h
  | cons D ms ih =>
    intro W hs hn hd h
    have hn' := List.nodup_cons.1 hn
    refine ⟨by simp, .inl ⟨D, W.putObj D (.deferred none), rfl, run_takeDeferred (hd D (by simp)), ih _ (fun E hE => hs E (by simp [hE])) hn'.2 (fun E hE => ?_) (hp W D (hs D (by simp)) h)⟩⟩
    exact (World.putObj_heap_other (fun e => hn'.1 (by rw [← e]; exact hE))).trans (hd E (by simp [hE]))
theorem circ_leaves {fn : Func} {tmps : Array Value} {K J Jx : List SetV → Blk → Blk → World → Prop} {Z : List (List Int)} {pre : List SetV} {C T2 : Blk} {ms : List Nat} {V : World} (hf : fn.results = #[]) (hK : Client K) (hk : K pre C T2 V) (hT : ∀ D, D ∈ ms → T2 D) (hn : ms.Nodup) (hd : ∀ D, D ∈ ms → V.heap[D]? = some (.deferred (some [])))
    (hR : ∀ C T W, K pre C T W → (∃ xs C T, xs.map Prod.snd = Z ∧ J xs C T W) ∨ (∃ pre C T, Jx pre C T W)) :
    LeavesInM Fence.wide 50 Tryz.prog fn tmps (fun e W' => (∃ v, e = .returned v) ∧ ((∃ xs C T, xs.map Prod.snd = Z ∧ J xs C T W') ∨ (∃ pre C T, Jx pre C T W'))) (ms.map mark) .returning V := by
  refine leaves_marks2 (fun W => ∃ C T, K pre C T W ∧ ∀ D, D ∈ ms → T D) ms ?_ ?_ ms V (fun _ h => h) hn hd ⟨C, T2, hk, hT⟩
  · rintro W D hD ⟨C', T', h1, h2⟩
    exact ⟨C', T', hK.keep h1 (turned_put W _ (h2 D hD)) (fun b e => .inl e), h2⟩
  · rintro W ⟨C', T', h1, _⟩
    exact ⟨_, results_none hf _ _ _, ⟨_, rfl⟩, hR _ _ _ h1⟩
set_option maxRecDepth 100000 in
set_option maxHeartbeats 2000000 in
theorem circuits1_seq {ma : Option Addr} {m : List (List Int)} {mc B : Nat} {w0 w : World} (hv : validM m = true) (hms : Ms w0 ma m) (hw0 : Below w0.heap.size w0 w) (hB : w.cell? ⟨B, 0, none⟩ = some (.slice ma m.length mc)) :
    SeqM Tryz.prog 81 #[.pointer (some ⟨B, 0, none⟩)] encS MemS ownC Prod.snd (circsAll m) (fun b => b < w0.heap.size ∨ b = B) w := by
  intro l J Jx C T W hW hJ hJx hneed hY h0
  obtain ⟨hm1, hm6, hc1, hc10, hrows⟩ := validM_of hv
  have h64 : Hid (All64 m) := fun q hq x hx => by
    obtain ⟨c, hc, rfl⟩ := mem_gt.1 hx
    have := gt_in (hrows q hq).2 hc
    unfold In64; omega
  have HRL : Hid (∀ r ∈ m, r.length = colsM m) := fun r hr => (hrows r hr).1
  have HM6 := Lib.hid hm6
  have HM1 := Lib.hid hm1
  have HC : Hid (1 ≤ colsM m ∧ colsM m ≤ 10) := ⟨hc1, hc10⟩
  have HMS := Lib.hid hms
  have HV := Lib.hid hv
  have HY := Lib.hid hY
  have H0 := Lib.hid h0
  have HNEED := Lib.hid hneed
  have HW0 : Hid (Below w0.heap.size w0 W) := hw0.trans (hW.mono hw0.size)
  have cB : W.cell? ⟨B, 0, none⟩ = some (.slice ma m.length mc) := (hW.cell (p := ⟨B, 0, none⟩) (cell_lt hB)).trans hB
  clear hms hv hY h0 hneed hw0 hB hW hrows hc1 hc10 hm6
  obtain ⟨V, hV⟩ : ∃ V, W.alloc (.cells #[.func (.yield l) #[] #[]] 23) = V := ⟨_, rfl⟩
  have HB0 : Hid (Below W.heap.size W V) := by rw [← hV]; exact (Below.refl _ _).alloc (Nat.le_refl _) _
  have HVS : Hid (V.heap.size = W.heap.size + 1) := by rw [← hV]; exact World.size_alloc _ _
  have HCY : Hid (V.cell? ⟨W.heap.size, 0, none⟩ = some (.func (.yield l) #[] #[])) := by rw [← hV]; exact alloc_cell _ _ _ _ _ rfl
  have cBV : V.cell? ⟨B, 0, none⟩ = some (.slice ma m.length mc) := (HB0.out.cell (p := ⟨B, 0, none⟩) (cell_lt cB)).trans cB
  have HBV := Lib.hid cBV
  have HBW : Hid (Below w0.heap.size w0 V) := HW0.out.trans (HB0.out.mono HW0.out.size)
  have HLB : Hid (B < W.heap.size) := cell_lt cB
  clear cB
  show Calls _ _ (#[.func (.yield l) #[] #[], .pointer (some ⟨B, 0, none⟩)]) _ _
  refine (callsIn_wide (n := 50)).1 ?_
  refine callsIn_of_wp_marks Tryz.func81 rfl trivial ?_ rfl
  simp only [Tryz.ntmps81, List.size_toArray, List.length_cons, List.length_nil, Nat.reduceAdd, Nat.reduceSub, Array.replicate_succ, Array.replicate_zero, List.push_toArray, List.append_toArray, List.nil_append, List.cons_append]
  obtain ⟨rd, hrd⟩ : ∃ rd, redN m (upTo (colsM m)) = rd := ⟨_, rfl⟩
  obtain ⟨rk, hrk⟩ : ∃ rk, rd.piv.length = rk := ⟨_, rfl⟩
  have HRK : Hid (rankM m = rk) := by show _ = _; unfold rankM; rw [hrd, hrk]
  have hrk6 : rk ≤ 6 := by
    have h := (redN_fin HV.out (px := upTo (colsM m)) (fun j hj => upTo_in hj)).pl
    rw [hrd, hrk] at h; have := HM6.out; omega
  have HRD : Hid (Calls Tryz.prog 39 #[.slice ma m.length mc, .func (.func 45) #[] #[]] V (RdPost rd V)) := by
    rw [← hrd]; exact reduceAll_any HM6 HM1 HC HRL h64 (HMS.out.below HBW.out)
  have HRKD := Lib.hid hrk
  clear hrd hrk
  obtain ⟨rd, hrd⟩ : ∃ rd, redN m (upTo (colsM m)) = rd := ⟨_, rfl⟩
  obtain ⟨rk, hrk⟩ : ∃ rk, rd.piv.length = rk := ⟨_, rfl⟩
  have HRK : Hid (rankM m = rk) := by show _ = _; unfold rankM; rw [hrd, hrk]
  have hrk6 : rk ≤ 6 := by
    have h := (redN_fin HV.out (px := upTo (colsM m)) (fun j hj => upTo_in hj)).pl
    rw [hrd, hrk] at h; have := HM6.out; omega
  have HRD : Hid (Calls Tryz.prog 39 #[.slice ma m.length mc, .func (.func 45) #[] #[]] V (RdPost rd V)) := by
    rw [← hrd]; exact reduceAll_any HM6 HM1 HC HRL h64 (HMS.out.below HBW.out)
  have HRKD := Lib.hid hrk
  clear hrd hrk
  obtain ⟨rd, hrd⟩ : ∃ rd, redN m (upTo (colsM m)) = rd := ⟨_, rfl⟩
  obtain ⟨rk, hrk⟩ : ∃ rk, rd.piv.length = rk := ⟨_, rfl⟩
  have HRK : Hid (rankM m = rk) := by show _ = _; unfold rankM; rw [hrd, hrk]
  have hrk6 : rk ≤ 6 := by
    have h := (redN_fin HV.out (px := upTo (colsM m)) (fun j hj => upTo_in hj)).pl
    rw [hrd, hrk] at h; have := HM6.out; omega
  have HRD : Hid (Calls Tryz.prog 39 #[.slice ma m.length mc, .func (.func 45) #[] #[]] V (RdPost rd V)) := by
    rw [← hrd]; exact reduceAll_any HM6 HM1 HC HRL h64 (HMS.out.below HBW.out)
  have HRKD := Lib.hid hrk
  clear hrd hrk
  obtain ⟨rd, hrd⟩ : ∃ rd, redN m (upTo (colsM m)) = rd := ⟨_, rfl⟩
  obtain ⟨rk, hrk⟩ : ∃ rk, rd.piv.length = rk := ⟨_, rfl⟩
  have HRK : Hid (rankM m = rk) := by show _ = _; unfold rankM; rw [hrd, hrk]
  have hrk6 : rk ≤ 6 := by
    have h := (redN_fin HV.out (px := upTo (colsM m)) (fun j hj => upTo_in hj)).pl
    rw [hrd, hrk] at h; have := HM6.out; omega
  have HRD : Hid (Calls Tryz.prog 39 #[.slice ma m.length mc, .func (.func 45) #[] #[]] V (RdPost rd V)) := by
    rw [← hrd]; exact reduceAll_any HM6 HM1 HC HRL h64 (HMS.out.below HBW.out)
  have HRKD := Lib.hid hrk
  clear hrd hrk
  obtain ⟨rd, hrd⟩ : ∃ rd, redN m (upTo (colsM m)) = rd := ⟨_, rfl⟩
  obtain ⟨rk, hrk⟩ : ∃ rk, rd.piv.length = rk := ⟨_, rfl⟩
  have HRK : Hid (rankM m = rk) := by show _ = _; unfold rankM; rw [hrd, hrk]
  have hrk6 : rk ≤ 6 := by
    have h := (redN_fin HV.out (px := upTo (colsM m)) (fun j hj => upTo_in hj)).pl
    rw [hrd, hrk] at h; have := HM6.out; omega
  have HRD : Hid (Calls Tryz.prog 39 #[.slice ma m.length mc, .func (.func 45) #[] #[]] V (RdPost rd V)) := by
    rw [← hrd]; exact reduceAll_any HM6 HM1 HC HRL h64 (HMS.out.below HBW.out)
  have HRKD := Lib.hid hrk
  clear hrd hrk
  obtain ⟨rd, hrd⟩ : ∃ rd, redN m (upTo (colsM m)) = rd := ⟨_, rfl⟩
  obtain ⟨rk, hrk⟩ : ∃ rk, rd.piv.length = rk := ⟨_, rfl⟩
  have HRK : Hid (rankM m = rk) := by show _ = _; unfold rankM; rw [hrd, hrk]
  have hrk6 : rk ≤ 6 := by
    have h := (redN_fin HV.out (px := upTo (colsM m)) (fun j hj => upTo_in hj)).pl
    rw [hrd, hrk] at h; have := HM6.out; omega
  have HRD : Hid (Calls Tryz.prog 39 #[.slice ma m.length mc, .func (.func 45) #[] #[]] V (RdPost rd V)) := by
    rw [← hrd]; exact reduceAll_any HM6 HM1 HC HRL h64 (HMS.out.below HBW.out)
  have HRKD := Lib.hid hrk
  clear hrd hrk
  obtain ⟨rd, hrd⟩ : ∃ rd, redN m (upTo (colsM m)) = rd := ⟨_, rfl⟩
  obtain ⟨rk, hrk⟩ : ∃ rk, rd.piv.length = rk := ⟨_, rfl⟩
  have HRK : Hid (rankM m = rk) := by show _ = _; unfold rankM; rw [hrd, hrk]
  have hrk6 : rk ≤ 6 := by
    have h := (redN_fin HV.out (px := upTo (colsM m)) (fun j hj => upTo_in hj)).pl
    rw [hrd, hrk] at h; have := HM6.out; omega
  have HRD : Hid (Calls Tryz.prog 39 #[.slice ma m.length mc, .func (.func 45) #[] #[]] V (RdPost rd V)) := by
    rw [← hrd]; exact reduceAll_any HM6 HM1 HC HRL h64 (HMS.out.below HBW.out)
  have HRKD := Lib.hid hrk
  clear hrd hrk
  obtain ⟨rd, hrd⟩ : ∃ rd, redN m (upTo (colsM m)) = rd := ⟨_, rfl⟩
  obtain ⟨rk, hrk⟩ : ∃ rk, rd.piv.length = rk := ⟨_, rfl⟩
  have HRK : Hid (rankM m = rk) := by show _ = _; unfold rankM; rw [hrd, hrk]
  have hrk6 : rk ≤ 6 := by
    have h := (redN_fin HV.out (px := upTo (colsM m)) (fun j hj => upTo_in hj)).pl
    rw [hrd, hrk] at h; have := HM6.out; omega
  have HRD : Hid (Calls Tryz.prog 39 #[.slice ma m.length mc, .func (.func 45) #[] #[]] V (RdPost rd V)) := by
    rw [← hrd]; exact reduceAll_any HM6 HM1 HC HRL h64 (HMS.out.below HBW.out)
  have HRKD := Lib.hid hrk
  clear hrd hrk
  gi_wp2_with (first | (refine ⟨trivial, ?_⟩; gi_at_call 39; refine (callsIn_wide.2 HRD.out).mono ?_; rintro e w2 ⟨hb2, g, cap, ads, pa2, pc2, rfl, hgg, si, pi⟩; unfold rdV; have HB2 := Lib.hid hb2; clear hb2 si pi hgg) | (refine ⟨trivial, ?_⟩; gi_at_call 74; refine (callsIn_wide.2 (rank_any rd.cols g rd.rows.length cap pa2 rd.piv pc2 rd.dv _)).mono ?_; rintro e w3 ⟨rfl, hb3⟩; have HB3 := Lib.hid hb3; clear hb3; rw [HRKD.out]))
  have HV3 : Hid (Below V.heap.size V w3) := HB2.out.trans (HB3.out.mono HB2.out.size)
  have HW3 : Hid (Below W.heap.size W w3) := HB0.out.trans (HV3.out.mono (by have := HVS.out; omega))
  have HI0 : Hid (∃ pre C, CIn w0 B W.heap.size l ma m.length mc [] J pre C (fun _ => False) w3 ∧ pre.map Prod.snd = circsTo m 0) := by
    refine ⟨[], C, ⟨⟨fun b => T b ∨ W.heap.size ≤ b, hJ.keep H0.out (turned_below HW3.out) (fun b e => e), fun b e => e.elim, .inr (Nat.le_refl _), fun D hD => by cases hD⟩, HNEED.out, fun b _ e => e, HW0.out.trans (HW3.out.mono HW0.out.size), ?_, ?_, fun D hD => by cases hD⟩, rfl⟩
    · exact (HV3.out.cell (p := ⟨B, 0, none⟩) (by have := HLB.out; have := HVS.out; show B < _; omega)).trans HBV.out
    · exact (HV3.out.cell (p := ⟨W.heap.size, 0, none⟩) (by have := HVS.out; show W.heap.size < _; omega)).trans HCY.out
  clear hV cBV
  refine wpIn_loop (fun a' X => ∃ (k : Nat) (ms : List Nat) (u4 u5 u6 u7 u8 u9 u10 u11 u14 u15 u16 u17 u18 u19 u20 u21 u22 u23 u24 u25 u26 u27 u28 u29 u30 u31 u32 u33 u34 u35 u36 u37 : Value), a' = { tmps := #[.func (.yield l) #[] #[], .pointer (some ⟨B, 0, none⟩), .pointer (some ⟨W.heap.size, 0, none⟩), .int .i64 (rk : Int), u4, u5, u6, u7, u8, u9, u10, u11, .int .i64 ((rk : Int) + 1), .int .i64 (k : Int), u14, u15, u16, u17, u18, u19, u20, u21, u22, u23, u24, u25, u26, u27, u28, u29, u30, u31, u32, u33, u34, u35, u36, u37], defers := ms.map mark } ∧ k ≤ rk + 1 ∧ ms.Nodup ∧ ∃ pre C, CIn w0 B W.heap.size l ma m.length mc ms J pre C (fun _ => False) X ∧ pre.map Prod.snd = circsTo m k)
    (fun a' _ => 8 - (intOf (a'.tmps.getD 13 undef)).toNat) ?start ?round
  case start =>
    exact ⟨0, [], _, _, _, _, _, _, _, _, _, _, _, _, _, _, _, _, _, _, _, _, _, _, _, _, _, _, _, _, _, _, _, _, rfl, Nat.zero_le _, List.nodup_nil, HI0.out⟩
  case round =>
    rintro a' X ⟨k, ms, u4, u5, u6, u7, u8, u9, u10, u11, u14, u15, u16, u17, u18, u19, u20, u21, u22, u23, u24, u25, u26, u27, u28, u29, u30, u31, u32, u33, u34, u35, u36, u37, rfl, hk, hnd, pre, C1, hI, hpre⟩
    have HI := Lib.hid hI
    have HPRE := Lib.hid hpre
    have HND := Lib.hid hnd
    clear HI0 hpre hnd
    by_cases hlt : k < rk + 1
    · obtain ⟨n, hn⟩ : ∃ n, colsM m = n := ⟨_, rfl⟩
      have HN := Lib.hid hn
      have hn1 : 1 ≤ n := by rw [← hn]; exact HC.out.1
      have hn10 : n ≤ 10 := by rw [← hn]; exact HC.out.2
      obtain ⟨b1, o1, ai, rr, ci, rfl, hcell, hsl, HR⟩ := HMS.out.at (show 0 < m.length from HM1.out)
      have hrn : rr.length = n := by rw [← hn]; exact HRL.out rr (List.mem_of_getElem? HR.out)
      rw [hrn] at hcell
      have hcX : X.cell? ⟨b1, o1, none⟩ = some (.slice ai n ci) := (hI.bw.cell (p := ⟨b1, o1, none⟩) (cell_lt hcell)).trans hcell
      have hcB := hI.cB
      clear hrn hsl hcell hn hI
      gi_wp2_with (refine ⟨trivial, ?_⟩; gi_at_call 82; refine (callsIn_wide.2 (sets_any (n : Int) ((k : Int) + 1) X)).mono ?_; rintro e w4 ⟨rfl, rfl⟩)
      obtain ⟨V1, hV1⟩ : ∃ V1, (X.alloc (.cells #[.int .i64 (n : Int)] 3)).alloc (.cells #[.int .i64 ((k : Int) + 1)] 3) = V1 := ⟨_, rfl⟩
      have hv1 : V1.heap.size = X.heap.size + 2 := by rw [← hV1, World.size_alloc, World.size_alloc]
      have hcN : V1.cell? ⟨X.heap.size, 0, none⟩ = some (.int .i64 n) := by rw [← hV1]; exact (alloc_old _ _ _ _ (alloc_lt' rfl)).trans (alloc_cell _ _ _ _ _ rfl)
      have hcS : V1.cell? ⟨X.heap.size + 1, 0, none⟩ = some (.int .i64 ((k + 1 : Nat) : Int)) := by rw [← hV1]; exact (two_last _ _ _ _).1
      have hbX : Below X.heap.size X V1 := by rw [← hV1]; exact ((Below.refl _ _).alloc (Nat.le_refl _) _).alloc (by rw [World.size_alloc]; omega) _
      rw [hV1]
      have hC1 : ∀ b, C1 b → b < X.heap.size := by
        obtain ⟨T2, hk2, _⟩ := HI.out.cl
        exact fun b hb => (hJ.lt hk2 b hb).1
      have hI1 : ∃ pre', (pre'.map Prod.snd = circsTo m k ++ ((([] : List SetV).map Prod.snd).filter (circB m)).map (circH m)) ∧ CIn w0 B W.heap.size l (some ⟨b1, o1, none⟩) m.length mc ms J pre' C1 (fun _ => False) V1 :=
        (CIn.client hJ (q := fun (s : List SetV) pre' => pre'.map Prod.snd = circsTo m k ++ ((s.map Prod.snd).filter (circB m)).map (circH m))).keep ⟨pre, by rw [HPRE.out]; simp, HI.out⟩ (turned_below hbX) (fun b e => e.elim)
      have HI1 := Lib.hid hI1
      have HXV := Lib.hid hbX
      have HV1 := Lib.hid hv1
      have HC1 := Lib.hid hC1
      have HK := Lib.hid hlt
      clear hI1 hbX hV1 hcB hcX hC1
      refine wpIn_rangeFunc_M (by omega) (gf := 97) (lb := #[.pointer (some ⟨X.heap.size + 1, 0, none⟩), .pointer (some ⟨X.heap.size, 0, none⟩)]) rfl (enters_of Tryz.func97 (by kernel_rfl) rfl)
        (sets1_seq n (k + 1) (X.heap.size + 1) X.heap.size (by omega) (by omega) V1 hcS hcN) (Below.refl _ _) (fun _ => rfl) memS_put
        (fun s C T W' => ∃ pre', (pre'.map Prod.snd = circsTo m k ++ ((s.map Prod.snd).filter (circB m)).map (circH m)) ∧ CIn w0 B W.heap.size l (some ⟨b1, o1, none⟩) m.length mc ms J pre' C T W')
        (fun c s C T W' => ∃ pre' : List SetV, c = .ret ∧ CIn w0 B W.heap.size l (some ⟨b1, o1, none⟩) m.length mc ms Jx pre' C T W')
        (CIn.client hJ) (fun c => CIn.client hJx (q := fun _ _ => c = .ret)) C1 (fun _ => False) ?need (fun _ e => e.elim) HI1.out
        (fun x => { tmps := #[.func (.yield l) #[] #[], .pointer (some ⟨B, 0, none⟩), .pointer (some ⟨W.heap.size, 0, none⟩), .int .i64 (rk : Int), .int .i64 (k : Int), .slice (some ⟨x.1, 0, none⟩) x.2.length x.2.length, u6, u7, u8, u9, u10, u11, .int .i64 ((rk : Int) + 1), .int .i64 (k : Int), .bool true, .int .i64 (k : Int), .slice (some ⟨b1, o1, none⟩) m.length mc, .pointer (some ⟨b1, o1, none⟩), .slice ai n ci, .int .i64 (n : Int), .int .i64 (k : Int), .int .i64 ((k : Int) + 1), .func (.func 97) #[] #[.pointer (some ⟨X.heap.size + 1, 0, none⟩), .pointer (some ⟨X.heap.size, 0, none⟩)], .slice (some ⟨x.1, 0, none⟩) x.2.length x.2.length, u24, u25, u26, u27, u28, u29, u30, u31, u32, u33, u34, u35, u36, u37], defers := [] }) ?assign ?body ?done ?stop
      case need =>
        have h1 := HV1.out
        rintro b (rfl | rfl)
        · exact ⟨fun e => by have := HC1.out _ e; omega, by omega⟩
        · exact ⟨fun e => by have := HC1.out _ e; omega, by omega⟩
      case assign =>
        intro l2 x V K hK
        gi_wp2
        exact hK
      case stop =>
        rintro D c pre2 C3 T3 V2 hD ⟨pre', rfl, hI'⟩ hTD hK2
        obtain ⟨T2, q1, q2, q3, q4⟩ := hI'.cl
        have X1 := Lib.hid q1; have X4 := Lib.hid q4
        have XT := Lib.hid (q2 D hTD)
        have XD := Lib.hid hK2
        have XM := Lib.hid hI'.dm
        have hlD : ∀ E, E ∈ ms → E < X.heap.size := fun E hE => (Array.getElem?_eq_some_iff.1 (HI.out.dm E hE)).1
        have XN : Hid ((D :: ms).Nodup) := List.nodup_cons.2 ⟨fun hm => by have := hlD D hm; have := HV1.out; omega, HND.out⟩
        clear q1 q2 q3 q4 hI' hK2 hTD hD hcS hcN hv1 hlD
        gi_wp2
        refine circ_leaves (ms := D :: ms) rfl hJx X1.out ?_ XN.out ?_ (fun C T W h => .inr ⟨_, _, _, h⟩)
        · intro E hE
          rcases List.mem_cons.1 hE with rfl | hE
          · exact XT.out
          · exact X4.out E hE
        · intro E hE
          rcases List.mem_cons.1 hE with rfl | hE
          · exact XD.out
          · exact XM.out E hE
      case done =>
        rintro D ys C3 T3 V2 hD hys ⟨pre', hpre', hI'⟩ hTD hK2
        have hlD : ∀ E, E ∈ ms → E < X.heap.size := fun E hE => (Array.getElem?_eq_some_iff.1 (HI.out.dm E hE)).1
        have XN : Hid ((D :: ms).Nodup) := List.nodup_cons.2 ⟨fun hm => by have := hlD D hm; have := HV1.out; omega, HND.out⟩
        have XP : Hid (pre'.map Prod.snd = circsTo m (k + 1)) := by show _ = _; rw [hpre', hys, circsTo_succ, HN.out]
        have XI : Hid (CIn w0 B W.heap.size l (some ⟨b1, o1, none⟩) m.length mc (D :: ms) J pre' C3 (fun _ => False) V2) := by
          obtain ⟨T2, q1, q2, q3, q4⟩ := hI'.cl
          refine ⟨⟨T2, q1, fun b e => e.elim, q3, fun E hE => ?_⟩, hI'.nc, fun b _ e => e, hI'.bw, hI'.cB, hI'.cY, fun E hE => ?_⟩
          · rcases List.mem_cons.1 hE with rfl | hE
            · exact q2 _ hTD
            · exact q4 E hE
          · rcases List.mem_cons.1 hE with rfl | hE
            · exact hK2
            · exact hI'.dm E hE
        clear hys hpre' hI' hTD hK2 hcS hcN hv1 hlD hD
        gi_wp2
        refine ⟨?_, ?_⟩
        · refine ⟨k + 1, D :: ms, ?_⟩
          (repeat apply Exists.intro)
          refine ⟨?_, by have := HK.out; omega, XN.out, pre', C3, XI.out, XP.out⟩
          simp only [List.map_cons, mark]
          congr 1
        · have := HK.out; simp [intOf]; omega
      case body =>
        rintro l2 pre2 ⟨xb, xs⟩ C3 T3 V2 ⟨pre', hpre', hI'⟩ hmem hown ⟨rest, hrest⟩
        dsimp only at hmem hrest
        have hin : xs ∈ compl n (k + 1) 0 := by rw [hrest]; simp
        obtain ⟨hxl, hxr⟩ := compl_mem hin
        have XPX : Hid (1 ≤ xs.length ∧ xs.length ≤ 10) := by show _ ∧ _; rw [hxl]; have := HK.out; omega
        have XIN : Hid (pxOk m xs) := fun j hj => by have := hxr j hj; rw [HN.out]; omega
        have XSL := Lib.hid (OwnI.sl hmem)
        have XI := Lib.hid hI'
        have XMS : Hid (Ms V2 (some ⟨b1, o1, none⟩) m) := HMS.out.below hI'.bw
        have XP := Lib.hid hpre'
        have XR := Lib.hid hrest
        have hcB2 := hI'.cB
        have HCO : Hid (Calls Tryz.prog 83 #[.slice (some ⟨b1, o1, none⟩) m.length mc, .slice (some ⟨xb, 0, none⟩) xs.length xs.length] V2 (CPost m xs V2)) := circuitOn_any HV.out XPX.out XIN.out XMS.out XSL.out
        have HNN := Lib.hid HN.out
        clear hmem hrest hin hxl hxr hI' hpre' hown hcS hcN hv1
        dsimp only
        by_cases hcb : circB m xs = true
        case neg =>
          have hcb' : circB m xs = false := by simpa using hcb
          have HCB := Lib.hid hcb'
          clear hcb hcb'
          gi_wp2_with (refine ⟨trivial, ?_⟩; gi_at_call 83; refine (callsIn_wide.2 HCO.out).mono ?_; rintro e W5 ⟨hb5, (⟨-, rfl⟩ | ⟨ht, -⟩)⟩; rotate_left 1; exact absurd ht (by rw [HCB.out]; simp); have HB5 := Lib.hid hb5; clear hb5)
          obtain ⟨q1, q2, q3⟩ := (CIn.client hJ (q := fun (s : List SetV) pre' => pre'.map Prod.snd = circsTo m k ++ ((s.map Prod.snd).filter (circB m)).map (circH m))).keep (pre := pre2) ⟨pre', XP.out, XI.out⟩ (turned_below HB5.out) (fun b e => .inl e)
          have Q1 := Lib.hid q2; have Q3 := Lib.hid q3
          clear q2 q3
          refine ⟨fun _ h => (by cases h), ?_⟩
          gi_wp2
          refine ⟨C3, T3, ⟨q1, ?_, Q3.out⟩, fun b hb _ _ => hb, fun b hb => .inl hb, turned_below HB5.out⟩
          rw [Q1.out, List.map_append, List.filter_append]
          simp [HCB.out]
        case pos =>
          have HCB := Lib.hid hcb
          have HHL : Hid ((circH m xs).length = n) := by show _ = _; rw [← HN.out]; exact putTo_len _ _ _ _
          obtain ⟨T2, q1, q2, q3, q4⟩ := XI.out.cl
          have XPR : Hid (∃ rest2, circsAll m = pre'.map Prod.snd ++ circH m xs :: rest2) := by
            obtain ⟨post, hpost⟩ := circsTo_split m (k + 1) (rk + 1) (by have := HK.out; omega)
            refine ⟨((rest).filter (circB m)).map (circH m) ++ post, ?_⟩
            unfold circsAll
            rw [HRK.out, hpost, circsTo_succ, HN.out, XR.out, XP.out, List.filter_append, List.filter_cons_of_pos HCB.out]
            simp
          have Q1 := Lib.hid q1; have Q2 := Lib.hid q2; have Q3 := Lib.hid q3; have Q4 := Lib.hid q4
          clear hcb q1 q2 q3 q4
          gi_wp2_with (refine ⟨trivial, ?_⟩; gi_at_call 83; refine (callsIn_wide.2 HCO.out).mono ?_; rintro e W5 ⟨hb5, (⟨hff, rfl⟩ | ⟨-, bh, rfl, ho5⟩)⟩; exact absurd HCB.out (by rw [hff]; simp); rw [HN.out] at ho5 ⊢; have hY2 := HY.out pre' (bh, circH m xs) C3 (fun b => T2 b ∨ V2.heap.size ≤ b) W5 (hJ.keep Q1.out (turned_below hb5) (fun b e => e)) (by show OwnI _ _ _ _; dsimp only; rw [HHL.out]; exact ho5.mono (Nat.zero_le _)) (fun b e => by have e : b = bh := e; subst e; exact .inr (OwnI.lt ho5).2) XPR.out 47; obtain ⟨fn, tmps, assign, body, hy1, hR⟩ := hY2; dsimp only [encS] at hy1; rw [HHL.out] at hy1; have HBH := Lib.hid (OwnI.lt ho5).2; have HB5 := Lib.hid hb5; have hcY5 := (hb5.cell (p := ⟨W.heap.size, 0, none⟩) (cell_lt XI.out.cY)).trans XI.out.cY; clear hb5 ho5)
          refine hR.mono ?_
          rintro e W6 (⟨rfl, hw⟩ | ⟨rfl, hw⟩)
          · obtain ⟨C', r1, r2, r3⟩ := cin_next hJ XI.out Q1.out Q2.out Q3.out Q4.out HB5.out HBH.out hw
            have R1 := Lib.hid r1; have R2 := Lib.hid r2; have R3 := Lib.hid r3
            clear r1 r2 r3 hw hR hy1 hcY5 hcB2
            gi_wp2
            refine ⟨C', fun b => T3 b ∧ b < V2.heap.size, ⟨_, ?_, R1.out⟩, fun b hb hl _ => ⟨hb, hl⟩, fun b hb => (R2.out b hb).elim .inl (fun q => .inr (.inr q)), R3.out.mono fun b _ e => .inl e⟩
            rw [List.map_append, XP.out, List.map_append, List.filter_append]
            simp [HCB.out]
          · obtain ⟨C', r1, r2, r3⟩ := cin_next hJ XI.out Q1.out Q2.out Q3.out Q4.out HB5.out HBH.out hw
            have R1 := Lib.hid r1; have R2 := Lib.hid r2; have R3 := Lib.hid r3
            clear r1 r2 r3 hw hR hy1 hcY5 hcB2
            gi_wp2
            exact ⟨C', fun b => T3 b ∧ b < V2.heap.size, ⟨_, rfl, R1.out⟩, fun b hb hl _ => ⟨hb, hl⟩, fun b hb => (R2.out b hb).elim .inl (fun q => .inr (.inr q)), R3.out.mono fun b _ e => .inl e⟩
    · obtain ⟨T2, q1, q2, q3, q4⟩ := hI.cl
      obtain rfl : k = rk + 1 := by omega
      have X1 := Lib.hid q1; have X4 := Lib.hid q4
      have XM := Lib.hid hI.dm
      clear q1 q2 q3 q4 hI
      gi_wp2
      refine circ_leaves (ms := ms) rfl hJ X1.out X4.out HND.out XM.out (fun C T W h => .inl ⟨_, _, _, ?_, h⟩)
      rw [HPRE.out]; unfold circsAll; rw [HRK.out]
end Go.Proofs.YtgbnfhfkehpfaaaGreat
