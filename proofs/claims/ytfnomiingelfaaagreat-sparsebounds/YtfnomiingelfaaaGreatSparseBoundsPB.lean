/- Parts of the proof of SparseBounds: plain words, walks and contracts, each under its own heading. -/
import Derived.Test.YtfnomiingelfaaaGreatSparseBoundsPA
import Derived.Deep.RegionLaw
import Derived.Deep.AppendLies
import Derived.Laws.ResultCell
import Derived.Laws.NewBlocks
import Derived.BigQuiet
import Derived.Deep.QuietTactic
/- clear of layer 3, whole: a contract. -/
namespace Go.Proofs.YtfnomiingelfaaaGreat
open Go.RowKit

structure RdW (base B g cap : Nat) (ads : List (Nat × Nat)) (pv : Value) (r : Rd) (w : World) : Prop where
  bx : RdB B (r.cols : Int) g r.rows.length cap pv r.dv w
  si : SI w base g ads r.rows
  pi : OwnI w base pv r.piv
  apt : ∀ (i : Nat) (x : Nat × Nat), ads[i]? = some x → x.1 ≠ B ∧ ∀ b, pv.ownBlock = some b → x.1 ≠ b
  fg : ∀ k, w.frozen? ⟨g, k, none⟩ = false
  gl : g < w.heap.size
  bg : base ≤ g
  sep : g ≠ B ∧ pv.ownBlock ≠ some B ∧ pv.ownBlock ≠ some g ∧ base ≤ B
structure RdOk (N : Nat) (r : Rd) : Prop where
  len : r.rows.length ≤ 100
  row : ∀ q ∈ r.rows, q.length = N
  hN : N ≤ 100
  piv : r.piv.length ≤ r.rows.length
  dv : r.dv ≠ 0
theorem RdW.far {base B g cap : Nat} {ads : List (Nat × Nat)} {pv : Value} {r : Rd} {w w' : World} (h : RdW base B g cap ads pv r w) (hb : Below w.heap.size w w') : RdW base B g cap ads pv r w' :=
  ⟨h.bx.kept (hb.block B (cell_lt h.bx.c0)), h.si.below hb, h.pi.below hb, h.apt, fun k => (frozen_of_block (hb.block g h.gl)).trans (h.fg k), Nat.lt_of_lt_of_le h.gl hb.size, h.bg, h.sep⟩
theorem clear_none {base B g cap c N : Nat} {ads : List (Nat × Nat)} {pv : Value} {r : Rd} {w w' : World} (_hok : RdOk N r) (h : RdW base B g cap ads pv r w) (hb : Below w.heap.size w w') (hn : pivRow r.rows c (r.rows.length - r.piv.length) r.piv.length = none) : RdW base B g cap ads pv (clearR c r) w' := by
  have e : clearR c r = r := by unfold clearR; rw [hn]
  rw [e]
  exact h.far hb
theorem clearTo_set {M : List (List Int)} {own : List Int} {p c : Nat} {dv : Int} {k : Nat} : clearTo (M.set p own) own p c dv k = clearTo M own p c dv k := by
  refine List.ext_getElem? fun i => ?_
  by_cases h : i < M.length
  · rw [clearTo_get (by rw [List.length_set]; exact h), clearTo_get h]
    by_cases e : i = p
    · rw [if_pos e, if_pos e]
    · rw [if_neg e, if_neg e]
      have : rowL (M.set p own) i = rowL M i := by unfold rowL; rw [List.getElem?_set_ne (fun e' => e e'.symm)]
      rw [this]
  · rw [List.getElem?_eq_none (by rw [clearTo_len, List.length_set]; omega), List.getElem?_eq_none (by rw [clearTo_len]; omega)]
theorem CW.swapped {base B Cb g cap c : Nat} {ads : List (Nat × Nat)} {pv : Value} {r : Rd} {W : World} (h : RdW base B g cap ads pv r W) (hcb : W.cell? ⟨Cb, 0, none⟩ = some (.int .i64 (c : Int))) (hCg : Cb ≠ g) {p i : Nat} {x y : Nat × Nat} {rp ri : List Int}
    (ep : ads[p]? = some x) (ei : ads[i]? = some y) (rp' : r.rows[p]? = some rp) (ri' : r.rows[i]? = some ri) :
    CW base B Cb g r.rows.length cap (r.cols : Int) pv r.dv c r.piv (swapA ads p i) (swapR r.rows p i) ((W.setCell ⟨g, p, none⟩ (.slice (some ⟨y.1, 0, none⟩) ri.length y.2)).setCell ⟨g, i, none⟩ (.slice (some ⟨x.1, 0, none⟩) rp.length x.2)).drew := by
  have same : ∀ b, b ≠ g → ((W.setCell ⟨g, p, none⟩ (.slice (some ⟨y.1, 0, none⟩) ri.length y.2)).setCell ⟨g, i, none⟩ (.slice (some ⟨x.1, 0, none⟩) rp.length x.2)).drew.heap[b]? = W.heap[b]? := fun b hb =>
    (Below.heap_setCell _ ⟨g, i, none⟩ _ b hb).trans (Below.heap_setCell W ⟨g, p, none⟩ _ b hb)
  have hs := h.si.swap ep ei rp' ri'
  refine ⟨h.bx.kept (same B (fun e => h.sep.1 e.symm)), (World.cell?_of_block (same Cb hCg)).trans hcb, ⟨hs.len, hs.row, hs.apart, hs.out⟩, ?_, fun k => ?_⟩
  · obtain ⟨h0, h1 | ⟨g', cap', cur, e, hg, hh, rest⟩⟩ := h.pi
    · exact ⟨h0, .inl h1⟩
    · exact ⟨h0, .inr ⟨g', cap', cur, e, hg, (same g' (fun e2 => h.sep.2.2.1 (by rw [e, ← e2]; rfl))).trans hh, rest⟩⟩
  · have := h.fg k
    show ((W.setCell _ _).setCell _ _).frozen? _ = false
    go_simp
theorem RdW.cleared {base B g cap c : Nat} {ads ads' : List (Nat × Nat)} {pv : Value} {r : Rd} {w W w' : World} {i : Nat} {ri : List Int} (h : RdW base B g cap ads pv r w) (hW : Below w.heap.size w W) (hpv : pivRow r.rows c (r.rows.length - r.piv.length) r.piv.length = some i) (hri : rowL (swapR r.rows r.piv.length i) r.piv.length = ri)
    (ha : ∀ (k : Nat) (x : Nat × Nat), ads'[k]? = some x → ∃ j : Nat, ads[j]? = some x)
    (hc : ClP base B g r.rows.length cap (r.cols : Int) pv W.heap.size (gt (ownR ri c) c) (r.piv ++ [(c : Int)]) ads' (clearTo (swapR r.rows r.piv.length i) (ownR ri c) r.piv.length c r.dv r.rows.length) W w') : ∃ pv', RdW base B g cap ads' pv' (clearR c r) w' := by
  have e : clearR c r = { cols := r.cols, rows := clearTo (swapR r.rows r.piv.length i) (ownR ri c) r.piv.length c r.dv r.rows.length, piv := r.piv ++ [(c : Int)], dv := gt (ownR ri c) c } := by
    unfold clearR; rw [hpv]; dsimp only; rw [hri, swapR_len]
  rw [e]
  obtain ⟨⟨pv', hb, ho, hx⟩, hs, hbl, hf⟩ := hc
  have hsz := hW.size
  have hlt : ∀ (k : Nat) (x : Nat × Nat), ads[k]? = some x → x.1 < w.heap.size := fun k x ek => by
    have hk : k < r.rows.length := by rw [← h.si.len]; exact (List.getElem?_eq_some_iff.1 ek).1
    exact (OwnI.lt (h.si.row k x _ ek (List.getElem?_eq_getElem hk)).2).1
  have hBl : B < w.heap.size := cell_lt h.bx.c0
  have hgl := h.gl
  refine ⟨pv', by simpa [clearTo_len, swapR_len] using hb, hs, ho, fun k x ek => ?_, hf, Nat.lt_of_lt_of_le (Nat.lt_of_lt_of_le hgl hsz) hbl.size, h.bg, h.sep.1, ?_, ?_, h.sep.2.2.2⟩
  · obtain ⟨j, ej⟩ := ha k x ek
    obtain ⟨a1, a2⟩ := h.apt j x ej
    refine ⟨a1, fun b eb => ?_⟩
    rcases hx with e1 | ⟨G, e1, hG⟩
    · exact a2 b (by rw [← e1]; exact eb)
    · rw [e1] at eb
      obtain rfl : G = b := by simpa using eb
      have := hlt j x ej; omega
  · intro e2
    rcases hx with e1 | ⟨G, e1, hG⟩
    · exact h.sep.2.1 (by rw [← e1]; exact e2)
    · rw [e1] at e2
      obtain rfl : G = B := by simpa using e2
      omega
  · intro e2
    rcases hx with e1 | ⟨G, e1, hG⟩
    · exact h.sep.2.2.1 (by rw [← e1]; exact e2)
    · rw [e1] at e2
      obtain rfl : G = g := by simpa using e2
      omega
theorem pivRow_some {M : List (List Int)} {c : Nat} : ∀ {n i j : Nat}, pivRow M c n i = some j → i ≤ j ∧ j < i + n ∧ gt (rowL M j) c ≠ 0
  | 0, i, j, h => by cases h
  | n + 1, i, j, h => by
    unfold pivRow at h
    split at h
    · rename_i hne
      obtain rfl : i = j := by simpa using h
      exact ⟨Nat.le_refl _, by omega, hne⟩
    · obtain ⟨h1, h2, h3⟩ := pivRow_some h
      exact ⟨by omega, by omega, h3⟩
set_option maxRecDepth 100000 in
set_option maxHeartbeats 3200000 in
theorem clear_any (base B g cap c N : Nat) (ads : List (Nat × Nat)) (pv : Value) (r : Rd) (w : World) (hok : RdOk N r) (hc : c < N) (hcap : r.rows.length ≤ cap) (h : RdW base B g cap ads pv r w) :
    Calls Tryz.prog 126 #[.pointer (some ⟨B, 0, none⟩), .int .i64 (c : Int)] w fun e w' => e = .returned (.tuple #[]) ∧ Below base w w' ∧ ∃ ads' pv', RdW base B g cap ads' pv' (clearR c r) w' := by
  obtain ⟨n, hn⟩ : ∃ n, r.rows.length = n := ⟨_, rfl⟩
  obtain ⟨p, hp⟩ : ∃ p, r.piv.length = p := ⟨_, rfl⟩
  obtain ⟨pa, pc, rfl, _⟩ := h.pi.any
  have HOK := Lib.hid hok; clear hok
  have H := Lib.hid h; clear h
  have HNN := Lib.hid hn
  have HPP := Lib.hid hp
  have hn6 : n ≤ 100 := by have := HOK.out.len; omega
  have hpn : p ≤ n := by have := HOK.out.piv; omega
  rw [hn] at hcap
  have hB : B < w.heap.size := cell_lt H.out.bx.c0
  have hbb : base ≤ w.heap.size := by have := H.out.sep; omega
  have HB0 : Hid (Below w.heap.size w (w.alloc (.cells #[.int .i64 (c : Int)] 3))) := (Below.refl _ _).alloc (Nat.le_refl _) _
  have hcb : (w.alloc (.cells #[.int .i64 (c : Int)] 3)).cell? ⟨w.heap.size, 0, none⟩ = some (.int .i64 (c : Int)) := alloc_cell _ _ _ _ _ rfl
  have c1 : (w.alloc (.cells #[.int .i64 (c : Int)] 3)).cell? ⟨B, 1, none⟩ = some (.slice (some ⟨g, 0, none⟩) n cap) := by rw [← hn]; exact (HB0.out.cell (p := ⟨B, 1, none⟩) hB).trans H.out.bx.c1
  have c2 : (w.alloc (.cells #[.int .i64 (c : Int)] 3)).cell? ⟨B, 2, none⟩ = some (.slice pa p pc) := by rw [← hp]; exact (HB0.out.cell (p := ⟨B, 2, none⟩) hB).trans H.out.bx.c2
  have HSI : Hid (SI (w.alloc (.cells #[.int .i64 (c : Int)] 3)) base g ads r.rows) := H.out.si.below HB0.out
  clear hn hp
  go_enter Tryz.func126, Tryz.ntmps126
  have hwr := clear_none (c := c) (N := N) HOK.out H.out HB0.out
  by_cases hcp : cap = p
  · have hc0 : cap - p = 0 := by omega
    have hnp : n - p = 0 := by omega
    have HPN : Hid (pivRow r.rows c (r.rows.length - r.piv.length) r.piv.length = none) := by
      show _ = _; rw [HNN.out, HPP.out, hnp]; rfl
    clear hnp
    have HIX : Hid (ixV r.rows c p = -1) := by show _ = _; unfold ixV; rw [← HPP.out, HPN.out]
    go_wp2_with fail
    refine (indexFunc_any base w.heap.size g ads r.rows c p (n - p) (some ⟨g, 0, none⟩) 0 N _ (by rw [HNN.out]; omega) HOK.out.len (fun h => by omega) HOK.out.row hc hcb HSI.out).mono ?_
    rintro e w1 ⟨rfl, rfl⟩
    rw [HIX.out]
    go_wp2
    refine bodyPost_ret (results_none rfl _ _ _) rfl ?_
    exact ⟨rfl, HB0.out.mono hbb, _, _, hwr HPN.out⟩
  · have hc0 : ¬ (cap - p = 0) := by omega
    have hc1 : (cap : Int) - (p : Int) ≠ 0 := by omega
    go_wp2_with fail
    refine (indexFunc_any base w.heap.size g ads r.rows c p (n - p) (some ⟨g, p, none⟩) (cap - p) N _ (by rw [HNN.out]; omega) HOK.out.len (fun _ => rfl) HOK.out.row hc hcb HSI.out).mono ?_
    rintro e w1 ⟨rfl, rfl⟩
    clear hc0 hc1 hcp
    cases hpv : pivRow r.rows c (r.rows.length - r.piv.length) r.piv.length with
    | none =>
      have HIX : Hid (ixV r.rows c p = -1) := by show _ = _; unfold ixV; rw [← HPP.out, hpv]
      have HPN := Lib.hid (hwr hpv)
      clear hpv hwr
      rw [HIX.out]
      go_wp2
      refine bodyPost_ret (results_none rfl _ _ _) rfl ?_
      exact ⟨rfl, HB0.out.mono hbb, _, _, HPN.out⟩
    | some i =>
      obtain ⟨i1, i2, i3⟩ := pivRow_some hpv
      rw [HPP.out] at i1
      rw [HNN.out, HPP.out] at i2
      obtain ⟨d, hd⟩ : ∃ d, i = p + d := ⟨i - p, by omega⟩
      have HIX : Hid (ixV r.rows c p = (d : Int)) := by show _ = _; unfold ixV; rw [← HPP.out, hpv]; show (i : Int) - _ = _; rw [HPP.out]; omega
      have HPV := Lib.hid hpv
      have HI3 := Lib.hid i3
      rw [HIX.out]
      have di : (p : Int) + (d : Int) = (i : Int) := by omega
      clear hpv hwr i3 hd
      have hpn' : p < r.rows.length := by rw [HNN.out]; omega
      have hin' : i < r.rows.length := by rw [HNN.out]; omega
      obtain ⟨rp, hrp⟩ : ∃ q, r.rows[p]? = some q := ⟨r.rows[p], by simp [hpn']⟩
      obtain ⟨ri, hri⟩ : ∃ q, r.rows[i]? = some q := ⟨r.rows[i], by simp [hin']⟩
      obtain ⟨x, hx⟩ : ∃ x, ads[p]? = some x := ⟨ads[p]'(by rw [H.out.si.len]; exact hpn'), by simp [H.out.si.len, hpn']⟩
      obtain ⟨y, hy⟩ : ∃ x, ads[i]? = some x := ⟨ads[i]'(by rw [H.out.si.len]; exact hin'), by simp [H.out.si.len, hin']⟩
      have HPX := Lib.hid hx
      have HIY := Lib.hid hy
      have HRP := Lib.hid hrp
      have HRI := Lib.hid hri
      have hcp1 := (HSI.out.row p x rp hx hrp).1
      have hci1 := (HSI.out.row i y ri hy hri).1
      have HSW := Lib.hid (HSI.out.swap (i := p) (j := i) hx hy hrp hri)
      have hfg : ∀ k, (w.alloc (.cells #[.int .i64 (c : Int)] 3)).frozen? ⟨g, k, none⟩ = false := fun k => (frozen_of_block (HB0.out.block g H.out.gl)).trans (H.out.fg k)
      have hf1 := hfg p
      have hf2 := hfg i
      have HFG := Lib.hid hfg
      have hlp : rp.length = N := HOK.out.row rp (List.mem_of_getElem? hrp)
      have hli : ri.length = N := HOK.out.row ri (List.mem_of_getElem? hri)
      have HLP := Lib.hid hlp
      have HLI := Lib.hid hli
      have hgB : g ≠ B := H.out.sep.1
      have HCN := Lib.hid hc
      have hBg : B ≠ g := fun e => hgB e.symm
      have HC1A : Hid (∀ (W : World) (o : Nat) (v : Value), W.cell? ⟨B, 1, none⟩ = some (.slice (some ⟨g, 0, none⟩) n cap) → (W.setCell ⟨g, o, none⟩ v).cell? ⟨B, 1, none⟩ = some (.slice (some ⟨g, 0, none⟩) n cap)) := fun W o v h => (cell_other W _ _ _ hBg).trans h
      obtain ⟨xb, xc⟩ := x
      obtain ⟨yb, yc⟩ := y
      dsimp only at hcp1 hci1 HSW
      have g1 : (p : Int) < (n : Int) := by omega
      have g2 : (i : Int) < (n : Int) := by omega
      have g3 : 0 ≤ (p : Int) := by omega
      have g4 : 0 ≤ (i : Int) := by omega
      have d4 : IntKind.i64.wrap (i : Int) = (i : Int) := IntWalk.i64_in _ (by omega)
      clear hlp hli hx hy hrp hri hfg hpn' hin'
      by_cases hip : p = i
      · subst hip
        obtain rfl : d = 0 := by omega
        obtain ⟨rfl, rfl⟩ : xb = yb ∧ xc = yc := by
          have := HPX.out.symm.trans HIY.out
          simpa using this
        obtain rfl : rp = ri := by
          have := HRP.out.symm.trans HRI.out
          simpa using this
        have dz : (p : Int) + 0 = (p : Int) := by omega
        go_wp2
        rename_i aK
        have HK := Lib.hid aK
        clear aK
        refine wp_region_G (S := untilS 29 (fun w' => w'.cell? ⟨B, 1, none⟩ = some (.slice (some ⟨g, 0, none⟩) n cap)) (fun w' => w'.cell? ⟨g, p, none⟩ = some (.slice (some ⟨xb, 0, none⟩) rp.length xc) ∧ w'.cell? ⟨g, p, none⟩ = some (.slice (some ⟨xb, 0, none⟩) rp.length xc))) (by kernel_rfl) (untilS_all ⟨c1, hcp1, hcp1⟩ _) ?_
        intro hc hS
        refine wpAnyG_take (i := 0) (oi := ?oi0t) (v := ?v0t) ?hi0t (by kernel_rfl) (by kernel_rfl) (by kernel_rfl) ?hQ0t (untilS_set (by decide)) hc ?hy0t hS ?rest0t
        case hi0t => (simp only [List.getElem?_toArray, List.getElem?_cons_zero]; exact rfl)
        case hQ0t => exact fun _ _ _ h => h
        case hy0t => (refine Or.inl ⟨rfl, ?_⟩; (intro w _; go_simp; (try with_reducible rfl)))
        clear hc hS; intro hc hS
        simp only [Act.put, List.setIfInBounds_toArray, List.set_cons_zero, List.set_cons_succ]
        refine wpAnyG_take (i := 1) (oi := ?oi1t) (v := ?v1t) ?hi1t (by kernel_rfl) (by kernel_rfl) (by kernel_rfl) ?hQ1t (untilS_set (by decide)) hc ?hy1t hS ?rest1t
        case hi1t => (simp only [List.getElem?_toArray, List.getElem?_cons_succ, List.getElem?_cons_zero]; exact rfl)
        case hQ1t => exact fun _ _ _ h => h
        case hy1t => (refine Or.inl ⟨rfl, ?_⟩; (intro w _; go_simp; (try with_reducible rfl)))
        clear hc hS; intro hc hS
        simp only [Act.put, List.setIfInBounds_toArray, List.set_cons_zero, List.set_cons_succ]
        refine wpAnyG_take (i := 2) (oi := ?oi2t) (v := ?v2t) ?hi2t (by kernel_rfl) (by kernel_rfl) (by kernel_rfl) ?hQ2t (untilS_set (by decide)) hc ?hy2t hS ?rest2t
        case hi2t => (simp only [List.getElem?_toArray, List.getElem?_cons_succ, List.getElem?_cons_zero]; exact rfl)
        case hQ2t => exact fun _ _ _ h => h
        case hy2t => (refine Or.inl ⟨rfl, ?_⟩; (intro w _; go_simp; (try with_reducible rfl)))
        clear hc hS; intro hc hS
        simp only [Act.put, List.setIfInBounds_toArray, List.set_cons_zero, List.set_cons_succ]
        refine wpAnyG_take (i := 3) (oi := ?oi3t) (v := ?v3t) ?hi3t (by kernel_rfl) (by kernel_rfl) (by kernel_rfl) ?hQ3t (untilS_set (by decide)) hc ?hy3t hS ?rest3t
        case hi3t => (simp only [List.getElem?_toArray, List.getElem?_cons_succ, List.getElem?_cons_zero]; exact rfl)
        case hQ3t => exact fun _ _ _ h => h
        case hy3t => (refine Or.inl ⟨rfl, ?_⟩; (rintro w ⟨L, hsd, hL, hA, hB⟩; clear hsd hL hB; (try dsimp only at hA); go_simp; (try with_reducible rfl)))
        clear hc hS; intro hc hS
        simp only [Act.put, List.setIfInBounds_toArray, List.set_cons_zero, List.set_cons_succ]
        refine wpAnyG_take (i := 4) (oi := ?oi4t) (v := ?v4t) ?hi4t (by kernel_rfl) (by kernel_rfl) (by kernel_rfl) ?hQ4t (untilS_set (by decide)) hc ?hy4t hS ?rest4t
        case hi4t => (simp only [List.getElem?_toArray, List.getElem?_cons_succ, List.getElem?_cons_zero]; exact rfl)
        case hQ4t => exact fun _ _ _ h => h
        case hy4t => (refine Or.inl ⟨rfl, ?_⟩; (intro w _; go_simp; (try with_reducible rfl)))
        clear hc hS; intro hc hS
        simp only [Act.put, List.setIfInBounds_toArray, List.set_cons_zero, List.set_cons_succ]
        refine wpAnyG_take (i := 5) (oi := ?oi5t) (v := ?v5t) ?hi5t (by kernel_rfl) (by kernel_rfl) (by kernel_rfl) ?hQ5t (untilS_set (by decide)) hc ?hy5t hS ?rest5t
        case hi5t => (simp only [List.getElem?_toArray, List.getElem?_cons_succ, List.getElem?_cons_zero]; exact rfl)
        case hQ5t => exact fun _ _ _ h => h
        case hy5t => (refine Or.inl ⟨rfl, ?_⟩; (intro w _; go_simp; (try with_reducible rfl)))
        clear hc hS; intro hc hS
        simp only [Act.put, List.setIfInBounds_toArray, List.set_cons_zero, List.set_cons_succ]
        refine wpAnyG_take (i := 6) (oi := ?oi6t) (v := ?v6t) ?hi6t (by kernel_rfl) (by kernel_rfl) (by kernel_rfl) ?hQ6t (untilS_set (by decide)) hc ?hy6t hS ?rest6t
        case hi6t => (simp only [List.getElem?_toArray, List.getElem?_cons_succ, List.getElem?_cons_zero]; exact rfl)
        case hQ6t => exact fun _ _ _ h => h
        case hy6t => (refine Or.inl ⟨rfl, ?_⟩; (intro w _; go_simp; (try with_reducible rfl)))
        clear hc hS; intro hc hS
        simp only [Act.put, List.setIfInBounds_toArray, List.set_cons_zero, List.set_cons_succ]
        refine wpAnyG_take (i := 7) (oi := ?oi7t) (v := ?v7t) ?hi7t (by kernel_rfl) (by kernel_rfl) (by kernel_rfl) ?hQ7t (untilS_set (by decide)) hc ?hy7t hS ?rest7t
        case hi7t => (simp only [List.getElem?_toArray, List.getElem?_cons_succ, List.getElem?_cons_zero]; exact rfl)
        case hQ7t => exact fun _ _ _ h => h
        case hy7t => (refine Or.inl ⟨rfl, ?_⟩; (intro w _; go_simp; (try with_reducible rfl)))
        clear hc hS; intro hc hS
        simp only [Act.put, List.setIfInBounds_toArray, List.set_cons_zero, List.set_cons_succ]
        refine wpAnyG_take (i := 8) (oi := ?oi8t) (v := ?v8t) ?hi8t (by kernel_rfl) (by kernel_rfl) (by kernel_rfl) ?hQ8t (untilS_set (by decide)) hc ?hy8t hS ?rest8t
        case hi8t => (simp only [List.getElem?_toArray, List.getElem?_cons_succ, List.getElem?_cons_zero]; exact rfl)
        case hQ8t => exact fun _ _ _ h => h
        case hy8t => (refine Or.inl ⟨rfl, ?_⟩; (rintro w ⟨L, hsd, hL, hA, hB⟩; clear hsd hL hB; (try dsimp only at hA); go_simp; (try with_reducible rfl)))
        clear hc hS; intro hc hS
        simp only [Act.put, List.setIfInBounds_toArray, List.set_cons_zero, List.set_cons_succ]
        refine wpAnyG_take (i := 9) (oi := ?oi9t) (v := ?v9t) ?hi9t (by kernel_rfl) (by kernel_rfl) (by kernel_rfl) ?hQ9t (untilS_set (by decide)) hc ?hy9t hS ?rest9t
        case hi9t => (simp only [List.getElem?_toArray, List.getElem?_cons_succ, List.getElem?_cons_zero]; exact rfl)
        case hQ9t => exact fun _ _ _ h => h
        case hy9t => (refine Or.inl ⟨rfl, ?_⟩; (intro w _; go_simp; (try with_reducible rfl)))
        clear hc hS; intro hc hS
        simp only [Act.put, List.setIfInBounds_toArray, List.set_cons_zero, List.set_cons_succ]
        refine wpAnyG_take (i := 10) (oi := ?oi10t) (v := ?v10t) ?hi10t (by kernel_rfl) (by kernel_rfl) (by kernel_rfl) ?hQ10t (untilS_set (by decide)) hc ?hy10t hS ?rest10t
        case hi10t => (simp only [List.getElem?_toArray, List.getElem?_cons_succ, List.getElem?_cons_zero]; exact rfl)
        case hQ10t => exact fun _ _ _ h => h
        case hy10t => (refine Or.inl ⟨rfl, ?_⟩; (intro w _; go_simp; (try with_reducible rfl)))
        clear hc hS; intro hc hS
        simp only [Act.put, List.setIfInBounds_toArray, List.set_cons_zero, List.set_cons_succ]
        refine wpAnyG_take (i := 11) (oi := ?oi11t) (v := ?v11t) ?hi11t (by kernel_rfl) (by kernel_rfl) (by kernel_rfl) ?hQ11t (untilS_set (by decide)) hc ?hy11t hS ?rest11t
        case hi11t => (simp only [List.getElem?_toArray, List.getElem?_cons_succ, List.getElem?_cons_zero]; exact rfl)
        case hQ11t => exact fun _ _ _ h => h
        case hy11t => (refine Or.inl ⟨rfl, ?_⟩; (intro w _; go_simp; (try with_reducible rfl)))
        clear hc hS; intro hc hS
        simp only [Act.put, List.setIfInBounds_toArray, List.set_cons_zero, List.set_cons_succ]
        refine wpAnyG_take (i := 12) (oi := ?oi12t) (v := ?v12t) ?hi12t (by kernel_rfl) (by kernel_rfl) (by kernel_rfl) ?hQ12t (untilS_set (by decide)) hc ?hy12t hS ?rest12t
        case hi12t => (simp only [List.getElem?_toArray, List.getElem?_cons_succ, List.getElem?_cons_zero]; exact rfl)
        case hQ12t => exact fun _ _ _ h => h
        case hy12t => (refine Or.inl ⟨rfl, ?_⟩; (intro w _; go_simp; (try with_reducible rfl)))
        clear hc hS; intro hc hS
        simp only [Act.put, List.setIfInBounds_toArray, List.set_cons_zero, List.set_cons_succ]
        refine wpAnyG_take (i := 13) (oi := ?oi13t) (v := ?v13t) ?hi13t (by kernel_rfl) (by kernel_rfl) (by kernel_rfl) ?hQ13t (untilS_set (by decide)) hc ?hy13t hS ?rest13t
        case hi13t => (simp only [List.getElem?_toArray, List.getElem?_cons_succ, List.getElem?_cons_zero]; exact rfl)
        case hQ13t => exact fun _ _ _ h => h
        case hy13t => (refine Or.inl ⟨rfl, ?_⟩; (intro w _; go_simp; (try with_reducible rfl)))
        clear hc hS; intro hc hS
        simp only [Act.put, List.setIfInBounds_toArray, List.set_cons_zero, List.set_cons_succ]
        refine wpAnyG_take (i := 14) (oi := ?oi14t) (v := ?v14t) ?hi14t (by kernel_rfl) (by kernel_rfl) (by kernel_rfl) ?hQ14t (untilS_set (by decide)) hc ?hy14t hS ?rest14t
        case hi14t => (simp only [List.getElem?_toArray, List.getElem?_cons_succ, List.getElem?_cons_zero]; exact rfl)
        case hQ14t => exact fun _ _ _ h => h
        case hy14t => (refine Or.inl ⟨rfl, ?_⟩; (intro w _; go_simp; (try with_reducible rfl)))
        clear hc hS; intro hc hS
        simp only [Act.put, List.setIfInBounds_toArray, List.set_cons_zero, List.set_cons_succ]
        refine wpAnyG_take (i := 15) (oi := ?oi15t) (v := ?v15t) ?hi15t (by kernel_rfl) (by kernel_rfl) (by kernel_rfl) ?hQ15t (untilS_set (by decide)) hc ?hy15t hS ?rest15t
        case hi15t => (simp only [List.getElem?_toArray, List.getElem?_cons_succ, List.getElem?_cons_zero]; exact rfl)
        case hQ15t => exact fun _ _ _ h => h
        case hy15t => (refine Or.inl ⟨rfl, ?_⟩; (rintro w ⟨L, hsd, hL, hA, hB⟩; clear hsd hL hB; (try dsimp only at hA); go_simp; (try with_reducible rfl)))
        clear hc hS; intro hc hS
        simp only [Act.put, List.setIfInBounds_toArray, List.set_cons_zero, List.set_cons_succ]
        refine wpAnyG_take (i := 16) (oi := ?oi16t) (v := ?v16t) ?hi16t (by kernel_rfl) (by kernel_rfl) (by kernel_rfl) ?hQ16t (untilS_set (by decide)) hc ?hy16t hS ?rest16t
        case hi16t => (simp only [List.getElem?_toArray, List.getElem?_cons_succ, List.getElem?_cons_zero]; exact rfl)
        case hQ16t => exact fun _ _ _ h => h
        case hy16t => (refine Or.inl ⟨rfl, ?_⟩; (intro w _; go_simp; (try with_reducible rfl)))
        clear hc hS; intro hc hS
        simp only [Act.put, List.setIfInBounds_toArray, List.set_cons_zero, List.set_cons_succ]
        refine wpAnyG_take (i := 17) (oi := ?oi17t) (v := ?v17t) ?hi17t (by kernel_rfl) (by kernel_rfl) (by kernel_rfl) ?hQ17t (untilS_set (by decide)) hc ?hy17t hS ?rest17t
        case hi17t => (simp only [List.getElem?_toArray, List.getElem?_cons_succ, List.getElem?_cons_zero]; exact rfl)
        case hQ17t => exact fun _ _ _ h => h
        case hy17t => (refine Or.inl ⟨rfl, ?_⟩; (intro w _; go_simp; (try with_reducible rfl)))
        clear hc hS; intro hc hS
        simp only [Act.put, List.setIfInBounds_toArray, List.set_cons_zero, List.set_cons_succ]
        refine wpAnyG_take (i := 18) (oi := ?oi18t) (v := ?v18t) ?hi18t (by kernel_rfl) (by kernel_rfl) (by kernel_rfl) ?hQ18t (untilS_set (by decide)) hc ?hy18t hS ?rest18t
        case hi18t => (simp only [List.getElem?_toArray, List.getElem?_cons_succ, List.getElem?_cons_zero]; exact rfl)
        case hQ18t => exact fun _ _ _ h => h
        case hy18t => (refine Or.inl ⟨rfl, ?_⟩; (intro w _; go_simp; (try with_reducible rfl)))
        clear hc hS; intro hc hS
        simp only [Act.put, List.setIfInBounds_toArray, List.set_cons_zero, List.set_cons_succ]
        refine wpAnyG_take (i := 19) (oi := ?oi19t) (v := ?v19t) ?hi19t (by kernel_rfl) (by kernel_rfl) (by kernel_rfl) ?hQ19t (untilS_set (by decide)) hc ?hy19t hS ?rest19t
        case hi19t => (simp only [List.getElem?_toArray, List.getElem?_cons_succ, List.getElem?_cons_zero]; exact rfl)
        case hQ19t => exact fun _ _ _ h => h
        case hy19t => (refine Or.inl ⟨rfl, ?_⟩; (intro w _; go_simp; (try with_reducible rfl)))
        clear hc hS; intro hc hS
        simp only [Act.put, List.setIfInBounds_toArray, List.set_cons_zero, List.set_cons_succ]
        refine wpAnyG_take (i := 20) (oi := ?oi20t) (v := ?v20t) ?hi20t (by kernel_rfl) (by kernel_rfl) (by kernel_rfl) ?hQ20t (untilS_set (by decide)) hc ?hy20t hS ?rest20t
        case hi20t => (simp only [List.getElem?_toArray, List.getElem?_cons_succ, List.getElem?_cons_zero]; exact rfl)
        case hQ20t => exact fun _ _ _ h => h
        case hy20t => (refine Or.inl ⟨rfl, ?_⟩; (rintro w ⟨L, hsd, hL, hA, hB⟩; replace hB := hB (hsd.not (i := 20) (by kernel_rfl) hL); obtain ⟨q1, q2⟩ := hB; clear hsd hL; (try dsimp only at hA); go_simp; (try with_reducible rfl)))
        clear hc hS; intro hc hS
        simp only [Act.put, List.setIfInBounds_toArray, List.set_cons_zero, List.set_cons_succ]
        refine wpAnyG_take (i := 21) (oi := ?oi21t) (v := ?v21t) ?hi21t (by kernel_rfl) (by kernel_rfl) (by kernel_rfl) ?hQ21t (untilS_set (by decide)) hc ?hy21t hS ?rest21t
        case hi21t => (simp only [List.getElem?_toArray, List.getElem?_cons_succ, List.getElem?_cons_zero]; exact rfl)
        case hQ21t => exact fun _ _ _ h => h
        case hy21t => (refine Or.inl ⟨rfl, ?_⟩; (intro w _; go_simp; (try with_reducible rfl)))
        clear hc hS; intro hc hS
        simp only [Act.put, List.setIfInBounds_toArray, List.set_cons_zero, List.set_cons_succ]
        refine wpAnyG_take (i := 22) (oi := ?oi22t) (v := ?v22t) ?hi22t (by kernel_rfl) (by kernel_rfl) (by kernel_rfl) ?hQ22t (untilS_set (by decide)) hc ?hy22t hS ?rest22t
        case hi22t => (simp only [List.getElem?_toArray, List.getElem?_cons_succ, List.getElem?_cons_zero]; exact rfl)
        case hQ22t => exact fun _ _ _ h => h
        case hy22t => (refine Or.inl ⟨rfl, ?_⟩; (intro w _; go_simp; (try with_reducible rfl)))
        clear hc hS; intro hc hS
        simp only [Act.put, List.setIfInBounds_toArray, List.set_cons_zero, List.set_cons_succ]
        refine wpAnyG_take (i := 23) (oi := ?oi23t) (v := ?v23t) ?hi23t (by kernel_rfl) (by kernel_rfl) (by kernel_rfl) ?hQ23t (untilS_set (by decide)) hc ?hy23t hS ?rest23t
        case hi23t => (simp only [List.getElem?_toArray, List.getElem?_cons_succ, List.getElem?_cons_zero]; exact rfl)
        case hQ23t => exact fun _ _ _ h => h
        case hy23t => (refine Or.inl ⟨rfl, ?_⟩; (intro w _; go_simp; (try with_reducible rfl)))
        clear hc hS; intro hc hS
        simp only [Act.put, List.setIfInBounds_toArray, List.set_cons_zero, List.set_cons_succ]
        refine wpAnyG_take (i := 24) (oi := ?oi24t) (v := ?v24t) ?hi24t (by kernel_rfl) (by kernel_rfl) (by kernel_rfl) ?hQ24t (untilS_set (by decide)) hc ?hy24t hS ?rest24t
        case hi24t => (simp only [List.getElem?_toArray, List.getElem?_cons_succ, List.getElem?_cons_zero]; exact rfl)
        case hQ24t => exact fun _ _ _ h => h
        case hy24t => (refine Or.inl ⟨rfl, ?_⟩; (rintro w ⟨L, hsd, hL, hA, hB⟩; clear hsd hL hB; (try dsimp only at hA); go_simp; (try with_reducible rfl)))
        clear hc hS; intro hc hS
        simp only [Act.put, List.setIfInBounds_toArray, List.set_cons_zero, List.set_cons_succ]
        refine wpAnyG_take (i := 25) (oi := ?oi25t) (v := ?v25t) ?hi25t (by kernel_rfl) (by kernel_rfl) (by kernel_rfl) ?hQ25t (untilS_set (by decide)) hc ?hy25t hS ?rest25t
        case hi25t => (simp only [List.getElem?_toArray, List.getElem?_cons_succ, List.getElem?_cons_zero]; exact rfl)
        case hQ25t => exact fun _ _ _ h => h
        case hy25t => (refine Or.inl ⟨rfl, ?_⟩; (intro w _; go_simp; (try with_reducible rfl)))
        clear hc hS; intro hc hS
        simp only [Act.put, List.setIfInBounds_toArray, List.set_cons_zero, List.set_cons_succ]
        refine wpAnyG_take (i := 26) (oi := ?oi26t) (v := ?v26t) ?hi26t (by kernel_rfl) (by kernel_rfl) (by kernel_rfl) ?hQ26t (untilS_set (by decide)) hc ?hy26t hS ?rest26t
        case hi26t => (simp only [List.getElem?_toArray, List.getElem?_cons_succ, List.getElem?_cons_zero]; exact rfl)
        case hQ26t => exact fun _ _ _ h => h
        case hy26t => (refine Or.inl ⟨rfl, ?_⟩; (intro w _; go_simp; (try with_reducible rfl)))
        clear hc hS; intro hc hS
        simp only [Act.put, List.setIfInBounds_toArray, List.set_cons_zero, List.set_cons_succ]
        refine wpAnyG_take (i := 27) (oi := ?oi27t) (v := ?v27t) ?hi27t (by kernel_rfl) (by kernel_rfl) (by kernel_rfl) ?hQ27t (untilS_set (by decide)) hc ?hy27t hS ?rest27t
        case hi27t => (simp only [List.getElem?_toArray, List.getElem?_cons_succ, List.getElem?_cons_zero]; exact rfl)
        case hQ27t => exact fun _ _ _ h => h
        case hy27t => (refine Or.inl ⟨rfl, ?_⟩; (rintro w ⟨L, hsd, hL, hA, hB⟩; replace hB := hB (hsd.not (i := 27) (by kernel_rfl) hL); obtain ⟨q1, q2⟩ := hB; clear hsd hL; (try dsimp only at hA); go_simp; (try with_reducible rfl)))
        clear hc hS; intro hc hS
        simp only [Act.put, List.setIfInBounds_toArray, List.set_cons_zero, List.set_cons_succ]
        refine wpAnyG_take (i := 28) (oi := ?oi28t) (v := ?v28t) ?hi28t (by kernel_rfl) (by kernel_rfl) (by kernel_rfl) ?hQ28t (untilS_set (by decide)) hc ?hy28t hS ?rest28t
        case hi28t => (simp only [List.getElem?_toArray, List.getElem?_cons_succ, List.getElem?_cons_zero]; exact rfl)
        case hQ28t => exact fun _ _ _ h => h
        case hy28t => (refine Or.inl ⟨rfl, ?_⟩; (intro w _; go_simp; (try with_reducible rfl)))
        clear hc hS; intro hc hS
        simp only [Act.put, List.setIfInBounds_toArray, List.set_cons_zero, List.set_cons_succ]
        refine wpAnyG_only (i := 29) (o := ?oi29t) (by kernel_rfl) ?hi29t hc ?rest29t
        case hi29t => (simp only [List.getElem?_toArray, List.getElem?_cons_succ, List.getElem?_cons_zero]; exact rfl)
        clear hc; intro hc K hK; have HK := Lib.hid hK; clear hK
        go_simp
        refine HK.out _ _ (untilS_past (HC1A.out _ _ _ c1) (by first | rfl | decide)) ?_
        clear HK K hS; intro hS
        refine wpAnyG_take (i := 30) (oi := ?oi30t) (v := ?v30t) ?hi30t (by kernel_rfl) (by kernel_rfl) (by kernel_rfl) ?hQ30t (untilS_set (by decide)) hc ?hy30t hS ?rest30t
        case hi30t => (simp only [List.getElem?_toArray, List.getElem?_cons_succ, List.getElem?_cons_zero]; exact rfl)
        case hQ30t => exact fun _ _ _ h => h
        case hy30t => (refine Or.inl ⟨rfl, ?_⟩; (intro w _; go_simp; (try with_reducible rfl)))
        clear hc hS; intro hc hS
        simp only [Act.put, List.setIfInBounds_toArray, List.set_cons_zero, List.set_cons_succ]
        refine wpAnyG_only (i := 31) (o := ?oi31t) (by kernel_rfl) ?hi31t hc ?rest31t
        case hi31t => (simp only [List.getElem?_toArray, List.getElem?_cons_succ, List.getElem?_cons_zero]; exact rfl)
        clear hc; intro hc K hK; have HK := Lib.hid hK; clear hK
        go_simp
        refine HK.out _ _ (untilS_past (HC1A.out _ _ _ (HC1A.out _ _ _ c1)) (by first | rfl | decide)) ?_
        clear HK K hS; intro hS
        refine wpAnyG_done (by kernel_rfl) ?_ _
        refine HK.out _ _ ?_
        have hsp : (swapR r.rows p p)[p]? = some rp := by rw [swapR_get (by rw [HNN.out]; omega) (by rw [HNN.out]; omega)]; rw [show swI p p p = p by unfold swI; rw [if_pos rfl]]; exact HRI.out
        have hsa : (swapA ads p p)[p]? = some (xb, xc) := by rw [swapA_get (by rw [H.out.si.len, HNN.out]; omega) (by rw [H.out.si.len, HNN.out]; omega)]; rw [show swI p p p = p by unfold swI; rw [if_pos rfl]]; exact HIY.out
        have hCW := CW.swapped (H.out.far HB0.out) hcb (fun e => by have := H.out.gl; omega) HPX.out HIY.out HRP.out HRI.out
        rw [HNN.out] at hCW
        have hall : ∀ (k : Nat) (x : Nat × Nat), (swapA ads p p)[k]? = some x → ∃ j : Nat, ads[j]? = some x := fun k x e => by
          rw [swapA_get (by rw [H.out.si.len, HNN.out]; omega) (by rw [H.out.si.len, HNN.out]; omega)] at e
          exact ⟨_, e⟩
        have hltA : ∀ (k : Nat) (x : Nat × Nat), ads[k]? = some x → x.1 < w.heap.size := fun k x ek => by
          have hk : k < r.rows.length := by rw [← H.out.si.len]; exact (List.getElem?_eq_some_iff.1 ek).1
          exact (OwnI.lt (H.out.si.row k x _ ek (List.getElem?_eq_getElem hk)).2).1
        have hrows : ∀ q ∈ swapR r.rows p p, q.length = rp.length := fun q hq => by
          obtain ⟨k, hk, rfl⟩ := List.mem_iff_getElem.1 hq
          have e : (swapR r.rows p p)[k]? = some (swapR r.rows p p)[k] := List.getElem?_eq_getElem hk
          rw [swapR_get (by rw [HNN.out]; omega) (by rw [HNN.out]; omega)] at e
          rw [HLI.out]; exact HOK.out.row _ (List.mem_of_getElem? e)
        have hBW : Below base (w.alloc (.cells #[.int .i64 (c : Int)] 3)) (((w.alloc (.cells #[.int .i64 (c : Int)] 3)).setCell ⟨g, p, none⟩ (.slice (some ⟨xb, 0, none⟩) rp.length xc)).setCell ⟨g, p, none⟩ (.slice (some ⟨xb, 0, none⟩) rp.length xc)).drew := (((Below.refl _ _).setCell (p := ⟨g, p, none⟩) H.out.bg _).setCell (p := ⟨g, p, none⟩) H.out.bg _).drew
        refine wp_mono (clear_t5 (w0 := (w.alloc (.cells #[.int .i64 (c : Int)] 3))) (n := n) (p := p) (own0 := rp) (bo := xb) (co := xc) (ads := swapA ads p p) (M := swapR r.rows p p) (Lib.hid (fun k x e => by
            obtain ⟨j, ej⟩ := hall k x e
            obtain ⟨a1, a2⟩ := H.out.apt j x ej
            exact ⟨a1, by have := hltA j x ej; omega, a2⟩)) H.out.sep.2.2.2 (Lib.hid ⟨H.out.sep.1, H.out.sep.2.1, H.out.sep.2.2.1⟩) (Lib.hid (by rw [swapR_len]; exact HNN.out)) hn6 (Lib.hid hrows) (by rw [HLI.out]; exact HOK.out.hN) (Lib.hid (by rw [HLI.out]; exact HCN.out)) (by omega) (Lib.hid hsp) (Lib.hid hsa) HOK.out.dv (by rw [HPP.out]; omega) (Lib.hid hCW) (Lib.hid hBW) _ _ _ _ _ _ _ _ _ _ _ _ _ _ _ _ _ _ _ _ _ _ _ _ _ _ _ _ _ _ _ _ _ _ _ _ _ _ _ _ _ _ _ _ _ _ _ _ _ _ _ _ _ _ _ _ _ _ _ _ _ _ _ _ _ _ _ _ _ _ _ _ _ _ _ _ _ _ _ _ _ _ _ _ _ _ _ _ _ _ _ _ _ _ _ _ _ _ _ _ _ _ _ _ _ _ _ _ _ _ _ _ _ _ _ _ _ _ _ _ _ _ _ _ _ _ _ _ _ _ _) fun e a W' hq => bodyPost_mono hq fun e2 w9 h2 => ?_
        refine ⟨h2.1, (HB0.out.mono hbb).trans h2.2.below, swapA ads p p, ?_⟩
        refine RdW.cleared H.out HB0.out HPV.out (i := p) (ri := rp) (by rw [HPP.out]; exact rowL_some hsp) hall ?_
        have h3 := h2.2
        rw [clearTo_set, HPP.out] at h3
        rw [HPP.out, HNN.out]
        exact h3
      · have hip' : ¬ (i = p) := fun e => hip e.symm
        go_wp2
        rename_i aK
        have HK := Lib.hid aK
        clear aK
        refine wp_region_G (S := untilS 29 (fun w' => w'.cell? ⟨B, 1, none⟩ = some (.slice (some ⟨g, 0, none⟩) n cap)) (fun w' => w'.cell? ⟨g, p, none⟩ = some (.slice (some ⟨xb, 0, none⟩) rp.length xc) ∧ w'.cell? ⟨g, i, none⟩ = some (.slice (some ⟨yb, 0, none⟩) ri.length yc))) (by kernel_rfl) (untilS_all ⟨c1, hcp1, hci1⟩ _) ?_
        intro hc hS
        refine wpAnyG_take (i := 0) (oi := ?oi0s) (v := ?v0s) ?hi0s (by kernel_rfl) (by kernel_rfl) (by kernel_rfl) ?hQ0s (untilS_set (by decide)) hc ?hy0s hS ?rest0s
        case hi0s => (simp only [List.getElem?_toArray, List.getElem?_cons_zero]; exact rfl)
        case hQ0s => exact fun _ _ _ h => h
        case hy0s => (refine Or.inl ⟨rfl, ?_⟩; (intro w _; go_simp; (try with_reducible rfl)))
        clear hc hS; intro hc hS
        simp only [Act.put, List.setIfInBounds_toArray, List.set_cons_zero, List.set_cons_succ]
        refine wpAnyG_take (i := 1) (oi := ?oi1s) (v := ?v1s) ?hi1s (by kernel_rfl) (by kernel_rfl) (by kernel_rfl) ?hQ1s (untilS_set (by decide)) hc ?hy1s hS ?rest1s
        case hi1s => (simp only [List.getElem?_toArray, List.getElem?_cons_succ, List.getElem?_cons_zero]; exact rfl)
        case hQ1s => exact fun _ _ _ h => h
        case hy1s => (refine Or.inl ⟨rfl, ?_⟩; (intro w _; go_simp; (try with_reducible rfl)))
        clear hc hS; intro hc hS
        simp only [Act.put, List.setIfInBounds_toArray, List.set_cons_zero, List.set_cons_succ]
        refine wpAnyG_take (i := 2) (oi := ?oi2s) (v := ?v2s) ?hi2s (by kernel_rfl) (by kernel_rfl) (by kernel_rfl) ?hQ2s (untilS_set (by decide)) hc ?hy2s hS ?rest2s
        case hi2s => (simp only [List.getElem?_toArray, List.getElem?_cons_succ, List.getElem?_cons_zero]; exact rfl)
        case hQ2s => exact fun _ _ _ h => h
        case hy2s => (refine Or.inl ⟨rfl, ?_⟩; (intro w _; go_simp; (try with_reducible rfl)))
        clear hc hS; intro hc hS
        simp only [Act.put, List.setIfInBounds_toArray, List.set_cons_zero, List.set_cons_succ]
        refine wpAnyG_take (i := 3) (oi := ?oi3s) (v := ?v3s) ?hi3s (by kernel_rfl) (by kernel_rfl) (by kernel_rfl) ?hQ3s (untilS_set (by decide)) hc ?hy3s hS ?rest3s
        case hi3s => (simp only [List.getElem?_toArray, List.getElem?_cons_succ, List.getElem?_cons_zero]; exact rfl)
        case hQ3s => exact fun _ _ _ h => h
        case hy3s => (refine Or.inl ⟨rfl, ?_⟩; (rintro w ⟨L, hsd, hL, hA, hB⟩; clear hsd hL hB; (try dsimp only at hA); go_simp; (try with_reducible rfl)))
        clear hc hS; intro hc hS
        simp only [Act.put, List.setIfInBounds_toArray, List.set_cons_zero, List.set_cons_succ]
        refine wpAnyG_take (i := 4) (oi := ?oi4s) (v := ?v4s) ?hi4s (by kernel_rfl) (by kernel_rfl) (by kernel_rfl) ?hQ4s (untilS_set (by decide)) hc ?hy4s hS ?rest4s
        case hi4s => (simp only [List.getElem?_toArray, List.getElem?_cons_succ, List.getElem?_cons_zero]; exact rfl)
        case hQ4s => exact fun _ _ _ h => h
        case hy4s => (refine Or.inl ⟨rfl, ?_⟩; (intro w _; go_simp; (try with_reducible rfl)))
        clear hc hS; intro hc hS
        simp only [Act.put, List.setIfInBounds_toArray, List.set_cons_zero, List.set_cons_succ]
        refine wpAnyG_take (i := 5) (oi := ?oi5s) (v := ?v5s) ?hi5s (by kernel_rfl) (by kernel_rfl) (by kernel_rfl) ?hQ5s (untilS_set (by decide)) hc ?hy5s hS ?rest5s
        case hi5s => (simp only [List.getElem?_toArray, List.getElem?_cons_succ, List.getElem?_cons_zero]; exact rfl)
        case hQ5s => exact fun _ _ _ h => h
        case hy5s => (refine Or.inl ⟨rfl, ?_⟩; (intro w _; go_simp; (try with_reducible rfl)))
        clear hc hS; intro hc hS
        simp only [Act.put, List.setIfInBounds_toArray, List.set_cons_zero, List.set_cons_succ]
        refine wpAnyG_take (i := 6) (oi := ?oi6s) (v := ?v6s) ?hi6s (by kernel_rfl) (by kernel_rfl) (by kernel_rfl) ?hQ6s (untilS_set (by decide)) hc ?hy6s hS ?rest6s
        case hi6s => (simp only [List.getElem?_toArray, List.getElem?_cons_succ, List.getElem?_cons_zero]; exact rfl)
        case hQ6s => exact fun _ _ _ h => h
        case hy6s => (refine Or.inl ⟨rfl, ?_⟩; (intro w _; go_simp; (try with_reducible rfl)))
        clear hc hS; intro hc hS
        simp only [Act.put, List.setIfInBounds_toArray, List.set_cons_zero, List.set_cons_succ]
        refine wpAnyG_take (i := 7) (oi := ?oi7s) (v := ?v7s) ?hi7s (by kernel_rfl) (by kernel_rfl) (by kernel_rfl) ?hQ7s (untilS_set (by decide)) hc ?hy7s hS ?rest7s
        case hi7s => (simp only [List.getElem?_toArray, List.getElem?_cons_succ, List.getElem?_cons_zero]; exact rfl)
        case hQ7s => exact fun _ _ _ h => h
        case hy7s => (refine Or.inl ⟨rfl, ?_⟩; (intro w _; go_simp; (try with_reducible rfl)))
        clear hc hS; intro hc hS
        simp only [Act.put, List.setIfInBounds_toArray, List.set_cons_zero, List.set_cons_succ]
        refine wpAnyG_take (i := 8) (oi := ?oi8s) (v := ?v8s) ?hi8s (by kernel_rfl) (by kernel_rfl) (by kernel_rfl) ?hQ8s (untilS_set (by decide)) hc ?hy8s hS ?rest8s
        case hi8s => (simp only [List.getElem?_toArray, List.getElem?_cons_succ, List.getElem?_cons_zero]; exact rfl)
        case hQ8s => exact fun _ _ _ h => h
        case hy8s => (refine Or.inl ⟨rfl, ?_⟩; (rintro w ⟨L, hsd, hL, hA, hB⟩; clear hsd hL hB; (try dsimp only at hA); go_simp; (try with_reducible rfl)))
        clear hc hS; intro hc hS
        simp only [Act.put, List.setIfInBounds_toArray, List.set_cons_zero, List.set_cons_succ]
        refine wpAnyG_take (i := 9) (oi := ?oi9s) (v := ?v9s) ?hi9s (by kernel_rfl) (by kernel_rfl) (by kernel_rfl) ?hQ9s (untilS_set (by decide)) hc ?hy9s hS ?rest9s
        case hi9s => (simp only [List.getElem?_toArray, List.getElem?_cons_succ, List.getElem?_cons_zero]; exact rfl)
        case hQ9s => exact fun _ _ _ h => h
        case hy9s => (refine Or.inl ⟨rfl, ?_⟩; (intro w _; go_simp; (try with_reducible rfl)))
        clear hc hS; intro hc hS
        simp only [Act.put, List.setIfInBounds_toArray, List.set_cons_zero, List.set_cons_succ]
        refine wpAnyG_take (i := 10) (oi := ?oi10s) (v := ?v10s) ?hi10s (by kernel_rfl) (by kernel_rfl) (by kernel_rfl) ?hQ10s (untilS_set (by decide)) hc ?hy10s hS ?rest10s
        case hi10s => (simp only [List.getElem?_toArray, List.getElem?_cons_succ, List.getElem?_cons_zero]; exact rfl)
        case hQ10s => exact fun _ _ _ h => h
        case hy10s => (refine Or.inl ⟨rfl, ?_⟩; (intro w _; go_simp; (try with_reducible rfl)))
        clear hc hS; intro hc hS
        simp only [Act.put, List.setIfInBounds_toArray, List.set_cons_zero, List.set_cons_succ]
        refine wpAnyG_take (i := 11) (oi := ?oi11s) (v := ?v11s) ?hi11s (by kernel_rfl) (by kernel_rfl) (by kernel_rfl) ?hQ11s (untilS_set (by decide)) hc ?hy11s hS ?rest11s
        case hi11s => (simp only [List.getElem?_toArray, List.getElem?_cons_succ, List.getElem?_cons_zero]; exact rfl)
        case hQ11s => exact fun _ _ _ h => h
        case hy11s => (refine Or.inl ⟨rfl, ?_⟩; (intro w _; go_simp; (try with_reducible rfl)))
        clear hc hS; intro hc hS
        simp only [Act.put, List.setIfInBounds_toArray, List.set_cons_zero, List.set_cons_succ]
        refine wpAnyG_take (i := 12) (oi := ?oi12s) (v := ?v12s) ?hi12s (by kernel_rfl) (by kernel_rfl) (by kernel_rfl) ?hQ12s (untilS_set (by decide)) hc ?hy12s hS ?rest12s
        case hi12s => (simp only [List.getElem?_toArray, List.getElem?_cons_succ, List.getElem?_cons_zero]; exact rfl)
        case hQ12s => exact fun _ _ _ h => h
        case hy12s => (refine Or.inl ⟨rfl, ?_⟩; (intro w _; go_simp; (try with_reducible rfl)))
        clear hc hS; intro hc hS
        simp only [Act.put, List.setIfInBounds_toArray, List.set_cons_zero, List.set_cons_succ]
        refine wpAnyG_take (i := 13) (oi := ?oi13s) (v := ?v13s) ?hi13s (by kernel_rfl) (by kernel_rfl) (by kernel_rfl) ?hQ13s (untilS_set (by decide)) hc ?hy13s hS ?rest13s
        case hi13s => (simp only [List.getElem?_toArray, List.getElem?_cons_succ, List.getElem?_cons_zero]; exact rfl)
        case hQ13s => exact fun _ _ _ h => h
        case hy13s => (refine Or.inl ⟨rfl, ?_⟩; (intro w _; go_simp; (try with_reducible rfl)))
        clear hc hS; intro hc hS
        simp only [Act.put, List.setIfInBounds_toArray, List.set_cons_zero, List.set_cons_succ]
        refine wpAnyG_take (i := 14) (oi := ?oi14s) (v := ?v14s) ?hi14s (by kernel_rfl) (by kernel_rfl) (by kernel_rfl) ?hQ14s (untilS_set (by decide)) hc ?hy14s hS ?rest14s
        case hi14s => (simp only [List.getElem?_toArray, List.getElem?_cons_succ, List.getElem?_cons_zero]; exact rfl)
        case hQ14s => exact fun _ _ _ h => h
        case hy14s => (refine Or.inl ⟨rfl, ?_⟩; (intro w _; go_simp; (try with_reducible rfl)))
        clear hc hS; intro hc hS
        simp only [Act.put, List.setIfInBounds_toArray, List.set_cons_zero, List.set_cons_succ]
        refine wpAnyG_take (i := 15) (oi := ?oi15s) (v := ?v15s) ?hi15s (by kernel_rfl) (by kernel_rfl) (by kernel_rfl) ?hQ15s (untilS_set (by decide)) hc ?hy15s hS ?rest15s
        case hi15s => (simp only [List.getElem?_toArray, List.getElem?_cons_succ, List.getElem?_cons_zero]; exact rfl)
        case hQ15s => exact fun _ _ _ h => h
        case hy15s => (refine Or.inl ⟨rfl, ?_⟩; (rintro w ⟨L, hsd, hL, hA, hB⟩; clear hsd hL hB; (try dsimp only at hA); go_simp; (try with_reducible rfl)))
        clear hc hS; intro hc hS
        simp only [Act.put, List.setIfInBounds_toArray, List.set_cons_zero, List.set_cons_succ]
        refine wpAnyG_take (i := 16) (oi := ?oi16s) (v := ?v16s) ?hi16s (by kernel_rfl) (by kernel_rfl) (by kernel_rfl) ?hQ16s (untilS_set (by decide)) hc ?hy16s hS ?rest16s
        case hi16s => (simp only [List.getElem?_toArray, List.getElem?_cons_succ, List.getElem?_cons_zero]; exact rfl)
        case hQ16s => exact fun _ _ _ h => h
        case hy16s => (refine Or.inl ⟨rfl, ?_⟩; (intro w _; go_simp; (try with_reducible rfl)))
        clear hc hS; intro hc hS
        simp only [Act.put, List.setIfInBounds_toArray, List.set_cons_zero, List.set_cons_succ]
        refine wpAnyG_take (i := 17) (oi := ?oi17s) (v := ?v17s) ?hi17s (by kernel_rfl) (by kernel_rfl) (by kernel_rfl) ?hQ17s (untilS_set (by decide)) hc ?hy17s hS ?rest17s
        case hi17s => (simp only [List.getElem?_toArray, List.getElem?_cons_succ, List.getElem?_cons_zero]; exact rfl)
        case hQ17s => exact fun _ _ _ h => h
        case hy17s => (refine Or.inl ⟨rfl, ?_⟩; (intro w _; go_simp; (try with_reducible rfl)))
        clear hc hS; intro hc hS
        simp only [Act.put, List.setIfInBounds_toArray, List.set_cons_zero, List.set_cons_succ]
        refine wpAnyG_take (i := 18) (oi := ?oi18s) (v := ?v18s) ?hi18s (by kernel_rfl) (by kernel_rfl) (by kernel_rfl) ?hQ18s (untilS_set (by decide)) hc ?hy18s hS ?rest18s
        case hi18s => (simp only [List.getElem?_toArray, List.getElem?_cons_succ, List.getElem?_cons_zero]; exact rfl)
        case hQ18s => exact fun _ _ _ h => h
        case hy18s => (refine Or.inl ⟨rfl, ?_⟩; (intro w _; go_simp; (try with_reducible rfl)))
        clear hc hS; intro hc hS
        simp only [Act.put, List.setIfInBounds_toArray, List.set_cons_zero, List.set_cons_succ]
        refine wpAnyG_take (i := 19) (oi := ?oi19s) (v := ?v19s) ?hi19s (by kernel_rfl) (by kernel_rfl) (by kernel_rfl) ?hQ19s (untilS_set (by decide)) hc ?hy19s hS ?rest19s
        case hi19s => (simp only [List.getElem?_toArray, List.getElem?_cons_succ, List.getElem?_cons_zero]; exact rfl)
        case hQ19s => exact fun _ _ _ h => h
        case hy19s => (refine Or.inl ⟨rfl, ?_⟩; (intro w _; go_simp; (try with_reducible rfl)))
        clear hc hS; intro hc hS
        simp only [Act.put, List.setIfInBounds_toArray, List.set_cons_zero, List.set_cons_succ]
        refine wpAnyG_take (i := 20) (oi := ?oi20s) (v := ?v20s) ?hi20s (by kernel_rfl) (by kernel_rfl) (by kernel_rfl) ?hQ20s (untilS_set (by decide)) hc ?hy20s hS ?rest20s
        case hi20s => (simp only [List.getElem?_toArray, List.getElem?_cons_succ, List.getElem?_cons_zero]; exact rfl)
        case hQ20s => exact fun _ _ _ h => h
        case hy20s => (refine Or.inl ⟨rfl, ?_⟩; (rintro w ⟨L, hsd, hL, hA, hB⟩; replace hB := hB (hsd.not (i := 20) (by kernel_rfl) hL); obtain ⟨q1, q2⟩ := hB; clear hsd hL; (try dsimp only at hA); go_simp; (try with_reducible rfl)))
        clear hc hS; intro hc hS
        simp only [Act.put, List.setIfInBounds_toArray, List.set_cons_zero, List.set_cons_succ]
        refine wpAnyG_take (i := 21) (oi := ?oi21s) (v := ?v21s) ?hi21s (by kernel_rfl) (by kernel_rfl) (by kernel_rfl) ?hQ21s (untilS_set (by decide)) hc ?hy21s hS ?rest21s
        case hi21s => (simp only [List.getElem?_toArray, List.getElem?_cons_succ, List.getElem?_cons_zero]; exact rfl)
        case hQ21s => exact fun _ _ _ h => h
        case hy21s => (refine Or.inl ⟨rfl, ?_⟩; (intro w _; go_simp; (try with_reducible rfl)))
        clear hc hS; intro hc hS
        simp only [Act.put, List.setIfInBounds_toArray, List.set_cons_zero, List.set_cons_succ]
        refine wpAnyG_take (i := 22) (oi := ?oi22s) (v := ?v22s) ?hi22s (by kernel_rfl) (by kernel_rfl) (by kernel_rfl) ?hQ22s (untilS_set (by decide)) hc ?hy22s hS ?rest22s
        case hi22s => (simp only [List.getElem?_toArray, List.getElem?_cons_succ, List.getElem?_cons_zero]; exact rfl)
        case hQ22s => exact fun _ _ _ h => h
        case hy22s => (refine Or.inl ⟨rfl, ?_⟩; (intro w _; go_simp; (try with_reducible rfl)))
        clear hc hS; intro hc hS
        simp only [Act.put, List.setIfInBounds_toArray, List.set_cons_zero, List.set_cons_succ]
        refine wpAnyG_take (i := 23) (oi := ?oi23s) (v := ?v23s) ?hi23s (by kernel_rfl) (by kernel_rfl) (by kernel_rfl) ?hQ23s (untilS_set (by decide)) hc ?hy23s hS ?rest23s
        case hi23s => (simp only [List.getElem?_toArray, List.getElem?_cons_succ, List.getElem?_cons_zero]; exact rfl)
        case hQ23s => exact fun _ _ _ h => h
        case hy23s => (refine Or.inl ⟨rfl, ?_⟩; (intro w _; go_simp; (try with_reducible rfl)))
        clear hc hS; intro hc hS
        simp only [Act.put, List.setIfInBounds_toArray, List.set_cons_zero, List.set_cons_succ]
        refine wpAnyG_take (i := 24) (oi := ?oi24s) (v := ?v24s) ?hi24s (by kernel_rfl) (by kernel_rfl) (by kernel_rfl) ?hQ24s (untilS_set (by decide)) hc ?hy24s hS ?rest24s
        case hi24s => (simp only [List.getElem?_toArray, List.getElem?_cons_succ, List.getElem?_cons_zero]; exact rfl)
        case hQ24s => exact fun _ _ _ h => h
        case hy24s => (refine Or.inl ⟨rfl, ?_⟩; (rintro w ⟨L, hsd, hL, hA, hB⟩; clear hsd hL hB; (try dsimp only at hA); go_simp; (try with_reducible rfl)))
        clear hc hS; intro hc hS
        simp only [Act.put, List.setIfInBounds_toArray, List.set_cons_zero, List.set_cons_succ]
        refine wpAnyG_take (i := 25) (oi := ?oi25s) (v := ?v25s) ?hi25s (by kernel_rfl) (by kernel_rfl) (by kernel_rfl) ?hQ25s (untilS_set (by decide)) hc ?hy25s hS ?rest25s
        case hi25s => (simp only [List.getElem?_toArray, List.getElem?_cons_succ, List.getElem?_cons_zero]; exact rfl)
        case hQ25s => exact fun _ _ _ h => h
        case hy25s => (refine Or.inl ⟨rfl, ?_⟩; (intro w _; go_simp; (try with_reducible rfl)))
        clear hc hS; intro hc hS
        simp only [Act.put, List.setIfInBounds_toArray, List.set_cons_zero, List.set_cons_succ]
        refine wpAnyG_take (i := 26) (oi := ?oi26s) (v := ?v26s) ?hi26s (by kernel_rfl) (by kernel_rfl) (by kernel_rfl) ?hQ26s (untilS_set (by decide)) hc ?hy26s hS ?rest26s
        case hi26s => (simp only [List.getElem?_toArray, List.getElem?_cons_succ, List.getElem?_cons_zero]; exact rfl)
        case hQ26s => exact fun _ _ _ h => h
        case hy26s => (refine Or.inl ⟨rfl, ?_⟩; (intro w _; go_simp; (try with_reducible rfl)))
        clear hc hS; intro hc hS
        simp only [Act.put, List.setIfInBounds_toArray, List.set_cons_zero, List.set_cons_succ]
        refine wpAnyG_take (i := 27) (oi := ?oi27s) (v := ?v27s) ?hi27s (by kernel_rfl) (by kernel_rfl) (by kernel_rfl) ?hQ27s (untilS_set (by decide)) hc ?hy27s hS ?rest27s
        case hi27s => (simp only [List.getElem?_toArray, List.getElem?_cons_succ, List.getElem?_cons_zero]; exact rfl)
        case hQ27s => exact fun _ _ _ h => h
        case hy27s => (refine Or.inl ⟨rfl, ?_⟩; (rintro w ⟨L, hsd, hL, hA, hB⟩; replace hB := hB (hsd.not (i := 27) (by kernel_rfl) hL); obtain ⟨q1, q2⟩ := hB; clear hsd hL; (try dsimp only at hA); go_simp; (try with_reducible rfl)))
        clear hc hS; intro hc hS
        simp only [Act.put, List.setIfInBounds_toArray, List.set_cons_zero, List.set_cons_succ]
        refine wpAnyG_take (i := 28) (oi := ?oi28s) (v := ?v28s) ?hi28s (by kernel_rfl) (by kernel_rfl) (by kernel_rfl) ?hQ28s (untilS_set (by decide)) hc ?hy28s hS ?rest28s
        case hi28s => (simp only [List.getElem?_toArray, List.getElem?_cons_succ, List.getElem?_cons_zero]; exact rfl)
        case hQ28s => exact fun _ _ _ h => h
        case hy28s => (refine Or.inl ⟨rfl, ?_⟩; (intro w _; go_simp; (try with_reducible rfl)))
        clear hc hS; intro hc hS
        simp only [Act.put, List.setIfInBounds_toArray, List.set_cons_zero, List.set_cons_succ]
        refine wpAnyG_only (i := 29) (o := ?oi29s) (by kernel_rfl) ?hi29s hc ?rest29s
        case hi29s => (simp only [List.getElem?_toArray, List.getElem?_cons_succ, List.getElem?_cons_zero]; exact rfl)
        clear hc; intro hc K hK; have HK := Lib.hid hK; clear hK
        go_simp
        refine HK.out _ _ (untilS_past (HC1A.out _ _ _ c1) (by first | rfl | decide)) ?_
        clear HK K hS; intro hS
        refine wpAnyG_take (i := 30) (oi := ?oi30s) (v := ?v30s) ?hi30s (by kernel_rfl) (by kernel_rfl) (by kernel_rfl) ?hQ30s (untilS_set (by decide)) hc ?hy30s hS ?rest30s
        case hi30s => (simp only [List.getElem?_toArray, List.getElem?_cons_succ, List.getElem?_cons_zero]; exact rfl)
        case hQ30s => exact fun _ _ _ h => h
        case hy30s => (refine Or.inl ⟨rfl, ?_⟩; (intro w _; go_simp; (try with_reducible rfl)))
        clear hc hS; intro hc hS
        simp only [Act.put, List.setIfInBounds_toArray, List.set_cons_zero, List.set_cons_succ]
        refine wpAnyG_only (i := 31) (o := ?oi31s) (by kernel_rfl) ?hi31s hc ?rest31s
        case hi31s => (simp only [List.getElem?_toArray, List.getElem?_cons_succ, List.getElem?_cons_zero]; exact rfl)
        clear hc; intro hc K hK; have HK := Lib.hid hK; clear hK
        go_simp
        refine HK.out _ _ (untilS_past (HC1A.out _ _ _ (HC1A.out _ _ _ c1)) (by first | rfl | decide)) ?_
        clear HK K hS; intro hS
        refine wpAnyG_done (by kernel_rfl) ?_ _
        refine HK.out _ _ ?_
        have hsp : (swapR r.rows p i)[p]? = some ri := by rw [swapR_get (by rw [HNN.out]; omega) (by rw [HNN.out]; omega)]; rw [show swI p i p = i by unfold swI; rw [if_neg hip, if_pos rfl]]; exact HRI.out
        have hsa : (swapA ads p i)[p]? = some (yb, yc) := by rw [swapA_get (by rw [H.out.si.len, HNN.out]; omega) (by rw [H.out.si.len, HNN.out]; omega)]; rw [show swI p i p = i by unfold swI; rw [if_neg hip, if_pos rfl]]; exact HIY.out
        have hCW := CW.swapped (H.out.far HB0.out) hcb (fun e => by have := H.out.gl; omega) HPX.out HIY.out HRP.out HRI.out
        rw [HNN.out] at hCW
        have hall : ∀ (k : Nat) (x : Nat × Nat), (swapA ads p i)[k]? = some x → ∃ j : Nat, ads[j]? = some x := fun k x e => by
          rw [swapA_get (by rw [H.out.si.len, HNN.out]; omega) (by rw [H.out.si.len, HNN.out]; omega)] at e
          exact ⟨_, e⟩
        have hltA : ∀ (k : Nat) (x : Nat × Nat), ads[k]? = some x → x.1 < w.heap.size := fun k x ek => by
          have hk : k < r.rows.length := by rw [← H.out.si.len]; exact (List.getElem?_eq_some_iff.1 ek).1
          exact (OwnI.lt (H.out.si.row k x _ ek (List.getElem?_eq_getElem hk)).2).1
        have hrows : ∀ q ∈ swapR r.rows p i, q.length = ri.length := fun q hq => by
          obtain ⟨k, hk, rfl⟩ := List.mem_iff_getElem.1 hq
          have e : (swapR r.rows p i)[k]? = some (swapR r.rows p i)[k] := List.getElem?_eq_getElem hk
          rw [swapR_get (by rw [HNN.out]; omega) (by rw [HNN.out]; omega)] at e
          rw [HLI.out]; exact HOK.out.row _ (List.mem_of_getElem? e)
        have hBW : Below base (w.alloc (.cells #[.int .i64 (c : Int)] 3)) (((w.alloc (.cells #[.int .i64 (c : Int)] 3)).setCell ⟨g, p, none⟩ (.slice (some ⟨yb, 0, none⟩) ri.length yc)).setCell ⟨g, i, none⟩ (.slice (some ⟨xb, 0, none⟩) rp.length xc)).drew := (((Below.refl _ _).setCell (p := ⟨g, p, none⟩) H.out.bg _).setCell (p := ⟨g, i, none⟩) H.out.bg _).drew
        refine wp_mono (clear_t5 (w0 := (w.alloc (.cells #[.int .i64 (c : Int)] 3))) (n := n) (p := p) (own0 := ri) (bo := yb) (co := yc) (ads := swapA ads p i) (M := swapR r.rows p i) (Lib.hid (fun k x e => by
            obtain ⟨j, ej⟩ := hall k x e
            obtain ⟨a1, a2⟩ := H.out.apt j x ej
            exact ⟨a1, by have := hltA j x ej; omega, a2⟩)) H.out.sep.2.2.2 (Lib.hid ⟨H.out.sep.1, H.out.sep.2.1, H.out.sep.2.2.1⟩) (Lib.hid (by rw [swapR_len]; exact HNN.out)) hn6 (Lib.hid hrows) (by rw [HLI.out]; exact HOK.out.hN) (Lib.hid (by rw [HLI.out]; exact HCN.out)) (by omega) (Lib.hid hsp) (Lib.hid hsa) HOK.out.dv (by rw [HPP.out]; omega) (Lib.hid hCW) (Lib.hid hBW) _ _ _ _ _ _ _ _ _ _ _ _ _ _ _ _ _ _ _ _ _ _ _ _ _ _ _ _ _ _ _ _ _ _ _ _ _ _ _ _ _ _ _ _ _ _ _ _ _ _ _ _ _ _ _ _ _ _ _ _ _ _ _ _ _ _ _ _ _ _ _ _ _ _ _ _ _ _ _ _ _ _ _ _ _ _ _ _ _ _ _ _ _ _ _ _ _ _ _ _ _ _ _ _ _ _ _ _ _ _ _ _ _ _ _ _ _ _ _ _ _ _ _ _ _ _ _ _ _ _ _) fun e a W' hq => bodyPost_mono hq fun e2 w9 h2 => ?_
        refine ⟨h2.1, (HB0.out.mono hbb).trans h2.2.below, swapA ads p i, ?_⟩
        refine RdW.cleared H.out HB0.out HPV.out (i := i) (ri := ri) (by rw [HPP.out]; exact rowL_some hsp) hall ?_
        have h3 := h2.2
        rw [clearTo_set, HPP.out] at h3
        rw [HPP.out, HNN.out]
        exact h3
end Go.Proofs.YtfnomiingelfaaaGreat
/- What clear keeps of a reduction: rows of one length, numbers of 64 bits, a divisor that is not 0. -/
namespace Go.Proofs.YtfnomiingelfaaaGreat
open Go.RowKit

def In64 (x : Int) : Prop := -9223372036854775808 ≤ x ∧ x ≤ 9223372036854775807
theorem in64_wrap (n : Int) : In64 (IntKind.i64.wrap n) := by rw [← wrap_is]; unfold wrap64 In64; omega
theorem wrap_neg_ne {x : Int} (h : In64 x) (h0 : x ≠ 0) : IntKind.i64.wrap (-x) ≠ 0 := by rw [← wrap_is]; unfold In64 at h; unfold wrap64; omega
def All64 (M : List (List Int)) : Prop := ∀ q ∈ M, ∀ x ∈ q, In64 x
theorem gt_in64 {q : List Int} (h : ∀ x ∈ q, In64 x) (k : Nat) : In64 (gt q k) := by
  unfold gt
  cases e : q[k]? with
  | none => exact ⟨by decide, by decide⟩
  | some x => exact h x (List.mem_of_getElem? e)
theorem rowL_mem {M : List (List Int)} {i : Nat} (h : i < M.length) : rowL M i ∈ M := by
  rw [rowL_some (List.getElem?_eq_getElem h)]; exact List.getElem_mem h
theorem swapR_mem {M : List (List Int)} {i j : Nat} (hi : i < M.length) (hj : j < M.length) {q : List Int} (h : q ∈ swapR M i j) : q ∈ M := by
  unfold swapR at h
  rcases List.mem_or_eq_of_mem_set h with h | rfl
  · rcases List.mem_or_eq_of_mem_set h with h | rfl
    · exact h
    · exact rowL_mem hj
  · exact rowL_mem hi
theorem rowL_swapR {M : List (List Int)} {i j : Nat} (hi : i < M.length) (hj : j < M.length) : rowL (swapR M i j) i = rowL M j := by
  unfold swapR
  by_cases e : i = j
  · subst e; apply rowL_some; rw [List.getElem?_set_self (by simpa using hi)]
  · apply rowL_some; rw [List.getElem?_set_ne (Ne.symm e), List.getElem?_set_self hi]
theorem ownR_len (r : List Int) (c : Nat) : (ownR r c).length = r.length := by unfold ownR; split <;> simp [negL]
theorem ownR_in {r : List Int} {c : Nat} (h : ∀ x ∈ r, In64 x) : ∀ x ∈ ownR r c, In64 x := by
  unfold ownR
  split
  · intro x hx; unfold negL at hx; obtain ⟨y, _, rfl⟩ := List.mem_map.1 hx; exact in64_wrap _
  · exact h
theorem ownR_ne {r : List Int} {c : Nat} (h : ∀ x ∈ r, In64 x) (h0 : gt r c ≠ 0) : gt (ownR r c) c ≠ 0 := by
  unfold ownR
  split
  · have hc : c < r.length := by
      rcases Nat.lt_or_ge c r.length with hc | hc
      · exact hc
      · exact absurd (by unfold gt; rw [List.getElem?_eq_none hc]; rfl) h0
    have e : gt (negL r) c = IntKind.i64.wrap (-gt r c) := by unfold gt negL; simp [hc]
    rw [e]; exact wrap_neg_ne (gt_in64 h c) h0
  · exact h0
theorem combL_in {next times dv : Int} {own row : List Int} : ∀ x ∈ combL next times dv own row, In64 x := by
  intro x hx
  unfold combL combTo at hx
  obtain ⟨k, hk, rfl⟩ := List.mem_map.1 hx
  rw [if_pos (List.mem_range.1 hk)]
  exact in64_wrap _
theorem RdOk.clear {N c : Nat} {r : Rd} (h : RdOk N r) (h64 : All64 r.rows) : RdOk N (clearR c r) ∧ All64 (clearR c r).rows ∧ (clearR c r).rows.length = r.rows.length ∧ (clearR c r).cols = r.cols := by
  unfold clearR
  cases hp : pivRow r.rows c (r.rows.length - r.piv.length) r.piv.length with
  | none => exact ⟨h, h64, rfl, rfl⟩
  | some i =>
    obtain ⟨h1, h2, h3⟩ := pivRow_some hp
    have hpv := h.piv
    have hi : i < r.rows.length := by omega
    have hq : r.piv.length < r.rows.length := by omega
    have hl : (swapR r.rows r.piv.length i).length = r.rows.length := swapR_len _ _ _
    have eo := rowL_swapR hq hi
    have ho64 : ∀ x ∈ ownR (rowL (swapR r.rows r.piv.length i) r.piv.length) c, In64 x := by rw [eo]; exact ownR_in (h64 _ (rowL_mem hi))
    have hol : (ownR (rowL (swapR r.rows r.piv.length i) r.piv.length) c).length = N := by rw [ownR_len, eo]; exact h.row _ (rowL_mem hi)
    have hrow : ∀ q ∈ clearTo (swapR r.rows r.piv.length i) (ownR (rowL (swapR r.rows r.piv.length i) r.piv.length) c) r.piv.length c r.dv (swapR r.rows r.piv.length i).length, q.length = N ∧ ∀ x ∈ q, In64 x := by
      intro q hm
      unfold clearTo at hm
      obtain ⟨k, hk, rfl⟩ := List.mem_map.1 hm
      have hk := List.mem_range.1 hk
      split
      · exact ⟨hol, ho64⟩
      · exact ⟨by rw [combL_len]; exact h.row _ (swapR_mem hq hi (rowL_mem hk)), combL_in⟩
    have hcl : (clearTo (swapR r.rows r.piv.length i) (ownR (rowL (swapR r.rows r.piv.length i) r.piv.length) c) r.piv.length c r.dv (swapR r.rows r.piv.length i).length).length = r.rows.length := by simp [clearTo, hl]
    refine ⟨⟨?_, fun q hm => (hrow q hm).1, h.hN, ?_, ?_⟩, fun q hm => (hrow q hm).2, hcl, rfl⟩
    · show (clearTo _ _ _ _ _ _).length ≤ 100; rw [hcl]; exact h.len
    · show (r.piv ++ [(c : Int)]).length ≤ (clearTo _ _ _ _ _ _).length; rw [hcl]; simp; omega
    · show gt (ownR _ c) c ≠ 0
      rw [eo]; exact ownR_ne (h64 _ (rowL_mem hi)) h3
end Go.Proofs.YtfnomiingelfaaaGreat
/- How great the numbers of a reduction get, and that layer 3's reduction is one: plain words. Speaks of no program. -/
namespace Go.Proofs.YtfnomiingelfaaaGreat
open Go.RowKit

def fc : Nat → Int
  | 0 => 1
  | n + 1 => ((n : Int) + 1) * fc n
def pr (w : Nat → Int) : Nat → Int
  | 0 => 1
  | n + 1 => pr w n * w n
theorem fc_pos : ∀ n, 1 ≤ fc n
  | 0 => by decide
  | n + 1 => by have := fc_pos n; have h2 : fc (n + 1) = (n : Int) * fc n + fc n := by rw [fc, Int.add_mul, Int.one_mul]
                have : 0 ≤ (n : Int) * fc n := Int.mul_nonneg (Int.natCast_nonneg n) (by omega)
                omega
theorem fc_mono {m n : Nat} (h : m ≤ n) : fc m ≤ fc n := by
  induction n with
  | zero => obtain rfl : m = 0 := by omega
            exact Int.le_refl _
  | succ n ih =>
    by_cases e : m = n + 1
    · subst e; exact Int.le_refl _
    · have h1 := ih (by omega)
      have h2 : fc (n + 1) = (n : Int) * fc n + fc n := by rw [fc]; rw [Int.add_mul, Int.one_mul]
      have : 0 ≤ (n : Int) * fc n := Int.mul_nonneg (Int.natCast_nonneg n) (by have := fc_pos n; omega)
      omega
theorem pr_congr {w v : Nat → Int} : ∀ n, (∀ s, s < n → w s = v s) → pr w n = pr v n
  | 0, _ => rfl
  | n + 1, h => by simp only [pr, pr_congr n fun s hs => h s (by omega), h n (by omega)]
theorem pr_nonneg {w : Nat → Int} : ∀ n, (∀ s, s < n → 0 ≤ w s) → 0 ≤ pr w n
  | 0, _ => by show (0 : Int) ≤ 1; decide
  | n + 1, h => Int.mul_nonneg (pr_nonneg n fun s hs => h s (by omega)) (h n (by omega))
def updW (w : Nat → Int) (t : Nat) (v : Int) : Nat → Int := fun s => if s = t then v else w s
theorem pr_upd (w : Nat → Int) (v : Int) {t : Nat} : ∀ n, t < n → pr (updW w t v) n * w t = pr w n * v
  | 0, h => absurd h (by omega)
  | n + 1, h => by
    simp only [pr]
    by_cases e : t = n
    · subst e
      rw [pr_congr t fun s hs => show updW w t v s = w s by unfold updW; rw [if_neg (by omega)]]
      rw [show updW w t v t = v by unfold updW; rw [if_pos rfl]]; grind
    · have ih := pr_upd w v n (show t < n by omega)
      rw [show updW w t v n = w n by unfold updW; rw [if_neg (by omega)]]; grind
theorem detC_bd : ∀ (n : Nat) (b : Nat → Nat → Int) (w : Nat → Int), (∀ s, s < n → 0 ≤ w s) → (∀ s, s < n → ∀ i, i < n → -w s ≤ b s i ∧ b s i ≤ w s) → -(fc n * pr w n) ≤ detC n b ∧ detC n b ≤ fc n * pr w n
  | 0, _, _, _, _ => by simp [detC, fc, pr]
  | n + 1, b, w, h0, h => by
    have hP : 0 ≤ fc n * pr w n := Int.mul_nonneg (by have := fc_pos n; omega) (pr_nonneg n fun s hs => h0 s (by omega))
    have h1 := mul_le (h n (by omega) n (by omega)) (detC_bd n b w (fun s hs => h0 s (by omega)) fun s hs i hi => h s (by omega) i (by omega))
    have e1 : w n * (fc n * pr w n) = fc n * pr w (n + 1) := by simp only [pr]; grind
    rw [e1] at h1
    have h2 := sumTo_bd (f := fun t => b t n * detC n (updC b t (b n))) (M := fc n * pr w (n + 1)) n fun t ht => by
      have h3 := detC_bd n (updC b t (b n)) (updW w t (w n)) (fun s hs => by unfold updW; split; exact h0 n (by omega); exact h0 s (by omega)) (fun s hs i hi => by
        unfold updW updC
        split
        · exact h n (by omega) i (by omega)
        · exact h s (by omega) i (by omega))
      have h4 := mul_le (h t (by omega) n (by omega)) h3
      have e2 : w t * (fc n * pr (updW w t (w n)) n) = fc n * pr w (n + 1) := by
        have := pr_upd w (w n) n ht
        simp only [pr]; grind
      rw [e2] at h4
      exact h4
    have e3 : fc (n + 1) * pr w (n + 1) = n * (fc n * pr w (n + 1)) + fc n * pr w (n + 1) := by rw [fc]; grind
    rw [e3]
    simp only [detC]
    omega
theorem mk_bd {A : Nat → Nat → Int} {p : Nat → Nat} {k x c : Nat} {Y : Int} (hY : 0 ≤ Y) (h1 : ∀ i, (i < k ∨ i = x) → ∀ t, t < k → -1 ≤ A i (p t) ∧ A i (p t) ≤ 1) (h2 : ∀ i, (i < k ∨ i = x) → -Y ≤ A i c ∧ A i c ≤ Y) :
    -(fc (if x < k then k else k + 1) * Y) ≤ mk A p k x c ∧ mk A p k x c ≤ fc (if x < k then k else k + 1) * Y := by
  have one : pr (fun _ => 1) k = 1 := by
    induction k with
    | zero => rfl
    | succ k ih => simp only [pr]; rw [ih (fun i hi t ht => h1 i (by omega) t (by omega)) (fun i hi => h2 i (by omega))]; rfl
  have up : ∀ t, t < k → -(fc k * Y) ≤ detC k (updC (colF A p) t fun i => A i c) ∧ detC k (updC (colF A p) t fun i => A i c) ≤ fc k * Y := by
    intro t ht
    have h := detC_bd k (updC (colF A p) t fun i => A i c) (updW (fun _ => 1) t Y) (fun s _ => by unfold updW; split; exact hY; exact Int.one_nonneg) (fun s hs i hi => by
      unfold updW updC
      split
      · exact h2 i (.inl hi)
      · exact h1 i (.inl hi) s hs)
    have e := pr_upd (fun _ => 1) Y k ht
    rw [one, Int.mul_one, Int.one_mul] at e
    rw [e] at h
    exact h
  unfold mk
  split
  · rename_i h; exact up x h
  · have hd := detC_bd k (colF A p) (fun _ => 1) (fun _ _ => by decide) (fun s hs i hi => h1 i (.inl hi) s hs)
    rw [one, Int.mul_one] at hd
    have m1 := mul_le hd (h2 x (.inr rfl))
    have m2 := sumTo_bd (f := fun t => A x (p t) * detC k (updC (colF A p) t fun i => A i c)) (M := fc k * Y) k fun t ht => by
      have := mul_le (h1 x (.inr rfl) t ht) (up t ht)
      rw [Int.one_mul] at this
      exact this
    have e3 : fc (k + 1) * Y = k * (fc k * Y) + fc k * Y := by rw [fc]; grind
    rw [e3]
    unfold dt
    omega
theorem mk_bd6 {A : Nat → Nat → Int} {p : Nat → Nat} {R k x c : Nat} {Y : Int} (hY : 0 ≤ Y) (hk : k ≤ R) (hR : R ≤ 6) (hx : x < R) (h1 : ∀ i, i < R → ∀ t, t < k → -1 ≤ A i (p t) ∧ A i (p t) ≤ 1) (h2 : ∀ i, i < R → -Y ≤ A i c ∧ A i c ≤ Y) : -(720 * Y) ≤ mk A p k x c ∧ mk A p k x c ≤ 720 * Y := by
  have h := mk_bd (A := A) (p := p) (k := k) (x := x) (c := c) hY (fun i hi t ht => h1 i (by omega) t ht) (fun i hi => h2 i (by omega))
  have hf : fc (if x < k then k else k + 1) ≤ 720 := by
    have : fc (if x < k then k else k + 1) ≤ fc 6 := fc_mono (by split <;> omega)
    exact Int.le_trans this (by decide)
  have := Int.mul_le_mul_of_nonneg_right hf hY
  omega
theorem wrap_id {n : Int} (h1 : -9223372036854775808 ≤ n) (h2 : n ≤ 9223372036854775807) : IntKind.i64.wrap n = n := by rw [← wrap_is]; unfold wrap64; omega
theorem combI_exact {d e next times n o : Int} (hd : d ≠ 0) (h : d * e = next * n - times * o) (hn : -720 ≤ next ∧ next ≤ 720) (hN : -720000000 ≤ n ∧ n ≤ 720000000) (ht : -720 ≤ times ∧ times ≤ 720) (ho : -720000000 ≤ o ∧ o ≤ 720000000) (he : -720000000 ≤ e ∧ e ≤ 720000000) : combI next times d n o = e := by
  have m1 := mul_le hn hN
  have m2 := mul_le ht ho
  unfold combI
  rw [wrap_id (n := next * n) (by omega) (by omega), wrap_id (n := times * o) (by omega) (by omega), wrap_id (n := next * n - times * o) (by omega) (by omega), ← h, Int.mul_tdiv_cancel_left _ hd]
  exact wrap_id (by omega) (by omega)
def pivN (r : Rd) (t : Nat) : Nat := (gt r.piv t).toNat
def a0 (M : List (List Int)) (i c : Nat) : Int := gt (rowL M i) c
structure Bar (R N D : Nat) (A0 A : Nat → Nat → Int) (r : Rd) : Prop where
  len : r.rows.length = R
  row : ∀ q ∈ r.rows, q.length = N
  pl : r.piv.length ≤ R
  pz : ∀ t, t < r.piv.length → 0 ≤ gt r.piv t ∧ gt r.piv t < D
  asc : ∀ s t, s < t → t < r.piv.length → pivN r s < pivN r t
  val : ∀ x, x < R → ∀ c, c < N → gt (rowL r.rows x) c = mk A (pivN r) r.piv.length x c
  dv : r.dv = dt A (pivN r) r.piv.length
  pos : 0 < r.dv
  uq : Uniq A (pivN r) r.piv.length
  low : ∀ x, r.piv.length ≤ x → x < R → ∀ c, c < D → mk A (pivN r) r.piv.length x c = 0
  ech : ∀ t, t < r.piv.length → ∀ c, c < pivN r t → mk A (pivN r) r.piv.length t c = 0
  arr : ∀ x, x < R → ∃ i s, i < R ∧ (s = 1 ∨ s = -1) ∧ ∀ c, A x c = s * A0 i c
  ker : ∀ w : Nat → Int, (∀ i, i < R → sumTo (fun c => A0 i c * w c) N = 0) ↔ (∀ i, i < R → sumTo (fun c => A i c * w c) N = 0)
theorem arr_bd {R : Nat} {A0 A : Nat → Nat → Int} (arr : ∀ x, x < R → ∃ i s, i < R ∧ (s = 1 ∨ s = -1) ∧ ∀ c, A x c = s * A0 i c) {c : Nat} {Y : Int} (h : ∀ i, i < R → -Y ≤ A0 i c ∧ A0 i c ≤ Y) : ∀ x, x < R → -Y ≤ A x c ∧ A x c ≤ Y := by
  intro x hx
  obtain ⟨i, s, hi, hs, e⟩ := arr x hx
  have := h i hi
  rw [e]
  rcases hs with rfl | rfl <;> omega
theorem pivRow_none {M : List (List Int)} {c : Nat} : ∀ {n i : Nat}, pivRow M c n i = none → ∀ j, i ≤ j → j < i + n → gt (rowL M j) c = 0
  | 0, _, _, _, _, _ => by omega
  | n + 1, i, h, j, h1, h2 => by
    unfold pivRow at h
    split at h
    · cases h
    · rename_i h0
      by_cases e : j = i
      · subst e; simpa using h0
      · exact pivRow_none h j (by omega) (by omega)
theorem bar_start {R N cols : Nat} {M : List (List Int)} (h1 : M.length = R) (h2 : ∀ q ∈ M, q.length = N) : Bar R N 0 (a0 M) (a0 M) { cols := cols, rows := M, piv := [], dv := 1 } where
  len := h1
  row := h2
  pl := Nat.zero_le _
  pz := fun t h => absurd h (by simp)
  asc := fun s t _ h => absurd h (by simp)
  val := fun x _ c _ => by simp [mk, dt, detC, sumTo, a0]
  dv := rfl
  pos := by show (0 : Int) < 1; decide
  uq := uniq_zero
  low := fun _ _ _ _ h => absurd h (by omega)
  ech := fun t h => absurd h (by simp)
  arr := fun x hx => ⟨x, 1, hx, .inl rfl, fun c => by omega⟩
  ker := fun _ => Iff.rfl
end Go.Proofs.YtfnomiingelfaaaGreat
/- One column more: clear keeps a reduction one of determinants. Plain words. Speaks of no program. -/
namespace Go.Proofs.YtfnomiingelfaaaGreat
open Go.RowKit

theorem bar_skip {R N D : Nat} {A0 A : Nat → Nat → Int} {r : Rd} (h : Bar R N D A0 A r) (hD : D < N) (hp : pivRow r.rows D (r.rows.length - r.piv.length) r.piv.length = none) : Bar R N (D + 1) A0 A r where
  len := h.len
  row := h.row
  pl := h.pl
  pz := fun t ht => ⟨(h.pz t ht).1, by have := (h.pz t ht).2; omega⟩
  asc := h.asc
  val := h.val
  dv := h.dv
  pos := h.pos
  uq := h.uq
  low := fun x h1 h2 c hc => by
    by_cases e : c = D
    · subst e
      rw [← h.val x h2 c hD]
      exact pivRow_none hp x h1 (by have := h.len; have := h.pl; omega)
    · exact h.low x h1 h2 c (by omega)
  ech := h.ech
  arr := h.arr
  ker := h.ker
theorem rowL_swapR_at {M : List (List Int)} {k i x : Nat} (hk : k < M.length) (hi : i < M.length) : rowL (swapR M k i) x = if x = k then rowL M i else if x = i then rowL M k else rowL M x := by
  by_cases e : x = k
  · subst e; rw [if_pos rfl]; exact rowL_swapR hk hi
  · rw [if_neg e]
    unfold swapR
    by_cases e2 : x = i
    · subst e2; rw [if_pos rfl]; apply rowL_some; rw [List.getElem?_set_self (by simpa using hi)]
    · rw [if_neg e2]; unfold rowL; rw [List.getElem?_set_ne (Ne.symm e2), List.getElem?_set_ne (Ne.symm e)]
theorem gt_ownR {q : List Int} {D c : Nat} (h : ∀ c, c < q.length → -720000000 ≤ gt q c ∧ gt q c ≤ 720000000) (hc : c < q.length) : gt (ownR q D) c = (if gt q D < 0 then -1 else 1) * gt q c := by
  unfold ownR
  split
  · have e : gt (negL q) c = IntKind.i64.wrap (-gt q c) := by unfold gt negL; simp [hc]
    have := h c hc
    rw [e, wrap_id (by omega) (by omega)]; omega
  · omega
theorem gt_combL {next times dv : Int} {own row : List Int} {c : Nat} (hc : c < row.length) : gt (combL next times dv own row) c = combI next times dv (gt row c) (gt own c) := by
  unfold combL combTo; rw [gt_map_range _ hc, if_pos hc]
theorem gt_snoc (xs : List Int) (v : Int) (t : Nat) : gt (xs ++ [v]) t = if t < xs.length then gt xs t else if t = xs.length then v else 0 := by
  unfold gt
  by_cases h : t < xs.length
  · rw [if_pos h, List.getElem?_append_left h]
  · rw [if_neg h, List.getElem?_append_right (by omega)]
    by_cases e : t = xs.length
    · subst e; simp
    · rw [if_neg e, List.getElem?_eq_none (by simp; omega)]; rfl
theorem bar_step {R N D cols : Nat} {A0 A : Nat → Nat → Int} {r : Rd} (h : Bar R N D A0 A r) (hR : R ≤ 6) (hD : D < cols) (hN : cols ≤ N) (hb1 : ∀ i, i < R → ∀ c, c < cols → -1 ≤ A0 i c ∧ A0 i c ≤ 1) (hb2 : ∀ i, i < R → ∀ c, c < N → -1000000 ≤ A0 i c ∧ A0 i c ≤ 1000000)
    {i : Nat} (hp : pivRow r.rows D (r.rows.length - r.piv.length) r.piv.length = some i) : ∃ A', Bar R N (D + 1) A0 A' (clearR D r) := by
  obtain ⟨h1, h2, h3⟩ := pivRow_some hp
  obtain ⟨rcols, rows, piv, rdv⟩ := r
  obtain ⟨len, row, pl, pz, asc, val, dv, pos, uq, low, ech, arr, ker⟩ := h
  dsimp only at len row pl pz asc val dv pos uq low ech arr ker h1 h2 h3 hp
  obtain ⟨k, hk⟩ : ∃ k, piv.length = k := ⟨_, rfl⟩
  obtain ⟨p, hpp⟩ : ∃ p, pivN { cols := rcols, rows := rows, piv := piv, dv := rdv } = p := ⟨_, rfl⟩
  rw [hpp] at asc val dv uq low ech
  rw [hk] at pl pz asc val dv uq low ech h1 h2
  have hiR : i < R := by omega
  have hkR : k < R := by omega
  have hpt : ∀ t, t < k → p t < D := by
    intro t ht
    rw [← hpp]
    have := pz t ht
    show (gt piv t).toNat < D
    omega
  -- the rows' numbers are small
  have hA1 : ∀ x, x < R → ∀ c, c < cols → -1 ≤ A x c ∧ A x c ≤ 1 := fun x hx c hc => arr_bd arr (fun i hi => hb1 i hi c hc) x hx
  have hA2 : ∀ x, x < R → ∀ c, c < N → -1000000 ≤ A x c ∧ A x c ≤ 1000000 := fun x hx c hc => arr_bd arr (fun i hi => hb2 i hi c hc) x hx
  have bigN : ∀ x, x < R → ∀ c, c < N → -720000000 ≤ mk A p k x c ∧ mk A p k x c ≤ 720000000 := fun x hx c hc => mk_bd6 (Y := 1000000) (by decide) pl hR hx (fun i hi t ht => hA1 i hi _ (by have := hpt t ht; omega)) (fun i hi => hA2 i hi c hc)
  have bigC : ∀ x, x < R → ∀ c, c < cols → -720 ≤ mk A p k x c ∧ mk A p k x c ≤ 720 := fun x hx c hc => mk_bd6 (Y := 1) (by decide) pl hR hx (fun i hi t ht => hA1 i hi _ (by have := hpt t ht; omega)) (fun i hi => hA1 i hi c hc)
  -- the new order
  obtain ⟨s, hs⟩ : ∃ s : Int, (if gt (rowL rows i) D < 0 then -1 else 1) = s := ⟨_, rfl⟩
  have hs1 : s = 1 ∨ s = -1 := by rw [← hs]; split <;> simp
  obtain ⟨A', hA'⟩ : ∃ A' : Nat → Nat → Int, (fun x c => if x = k then s * A i c else if x = i then A k c else A x c) = A' := ⟨_, rfl⟩
  have a'k : ∀ c, A' k c = s * A i c := fun c => by rw [← hA']; simp
  have a'i : i ≠ k → A' i = A k := fun e => by rw [← hA']; funext c; simp [e]
  have a'x : ∀ x, x ≠ k → x ≠ i → A' x = A x := fun x e1 e2 => by rw [← hA']; funext c; simp [e1, e2]
  have a'u : ∀ x, x < k → A' x = A x := fun x hx => a'x x (by omega) (by omega)
  have mu : ∀ t, t < k → ∀ c, mk A' p k t c = mk A p k t c := fun t ht c => mk_congr (fun _ _ => rfl) a'u (a'u t ht)
  have dte : dt A' p k = dt A p k := detC_congr k fun t _ x hx => by unfold colF; rw [a'u x hx]
  have mkk : ∀ c, mk A' p k k c = s * mk A p k i c := fun c => by
    rw [mk_scale (v := A i) (s := s) (Nat.le_refl k) a'k, mk_low (x := i) h1, dte]
    congr 2
    exact sumTo_congr k fun t ht => by rw [mu t ht]
  have mki : i ≠ k → ∀ c, mk A' p k i c = mk A p k k c := fun e c => by
    rw [mk_low h1, mk_low (x := k) (Nat.le_refl k), dte, a'i e]
    congr 1
    exact sumTo_congr k fun t ht => by rw [mu t ht]
  have mkx : ∀ x, x ≠ k → x ≠ i → ∀ c, mk A' p k x c = mk A p k x c := fun x e1 e2 c => mk_congr (fun _ _ => rfl) a'u (a'x x e1 e2)
  -- the rows behind the swap
  have rl : ∀ x, x < R → (rowL rows x).length = N := fun x hx => row _ (rowL_mem (by omega))
  have own_at : ∀ c, c < N → gt (ownR (rowL rows i) D) c = mk A' p k k c := fun c hc => by
    rw [gt_ownR (fun c hc => by rw [rl i hiR] at hc; rw [val i hiR c hc]; exact bigN i hiR c hc) (by rw [rl i hiR]; exact hc), hs, mkk, val i hiR c hc]
  have sw : ∀ x, rowL (swapR rows k i) x = if x = k then rowL rows i else if x = i then rowL rows k else rowL rows x := fun x => rowL_swapR_at (by omega) (by omega)
  have swl : (swapR rows k i).length = R := by rw [swapR_len]; exact len
  have sw_at : ∀ x, x < R → x ≠ k → ∀ c, c < N → gt (rowL (swapR rows k i) x) c = mk A' p k x c := by
    intro x hx e c hc
    rw [sw, if_neg e]
    by_cases e2 : x = i
    · subst e2; rw [if_pos rfl, val k hkR c hc, mki e]
    · rw [if_neg e2, val x hx c hc, mkx x e e2]
  have swll : ∀ x, x < R → (rowL (swapR rows k i) x).length = N := by
    intro x hx
    rw [sw]; split
    · exact rl i hiR
    · split
      · exact rl k hkR
      · exact rl x hx
  have arr' : ∀ x, x < R → ∃ j s, j < R ∧ (s = 1 ∨ s = -1) ∧ ∀ c, A' x c = s * A0 j c := by
    intro x hx
    by_cases e : x = k
    · subst e
      obtain ⟨j, s2, hj, hs2, e2⟩ := arr i hiR
      refine ⟨j, s * s2, hj, by rcases hs1 with rfl | rfl <;> rcases hs2 with rfl | rfl <;> simp, fun c => by rw [a'k, e2, Int.mul_assoc]⟩
    · by_cases e2 : x = i
      · subst e2; rw [a'i e]; exact arr k hkR
      · rw [a'x x e e2]; exact arr x hx
  have hB1 : ∀ x, x < R → ∀ c, c < cols → -1 ≤ A' x c ∧ A' x c ≤ 1 := fun x hx c hc => arr_bd arr' (fun i hi => hb1 i hi c hc) x hx
  have hB2 : ∀ x, x < R → ∀ c, c < N → -1000000 ≤ A' x c ∧ A' x c ≤ 1000000 := fun x hx c hc => arr_bd arr' (fun i hi => hb2 i hi c hc) x hx
  -- the new pivots
  obtain ⟨p', hp'⟩ : ∃ p', (fun t => (gt (piv ++ [(D : Int)]) t).toNat) = p' := ⟨_, rfl⟩
  have pu : ∀ t, t < k → p' t = p t := fun t ht => by rw [← hp', ← hpp]; show (gt (piv ++ [(D : Int)]) t).toNat = (gt piv t).toNat; rw [gt_snoc, if_pos (by omega)]
  have pk : p' k = D := by rw [← hp']; show (gt (piv ++ [(D : Int)]) k).toNat = D; rw [gt_snoc, if_neg (by omega), if_pos (by omega)]; rfl
  have mp : ∀ x c, mk A' p' k x c = mk A' p k x c := fun x c => mk_congr pu (fun _ _ => rfl) rfl
  have dtp : dt A' p' k = dt A p k := by rw [← dte]; exact detC_congr k fun t ht x _ => by unfold colF; rw [pu t ht]
  have d' : dt A' p' (k + 1) = mk A' p k k D := by rw [dt_succ, pk, mp]
  have d'pos : 0 < dt A' p' (k + 1) := by
    rw [d', mkk, ← hs, ← val i hiR D (by omega)]
    split <;> omega
  have uqk : Uniq A' p' k := by
    intro z hz
    refine uq z fun x hx => ?_
    rw [← hz x hx]
    exact sumTo_congr k fun t ht => by rw [a'u x hx, pu t ht]
  have d0 : dt A p k ≠ 0 := by omega
  have uq' : Uniq A' p' (k + 1) := uniq_succ uqk (by rw [dtp]; exact d0) (by omega)
  have stepx : ∀ x, x ≠ k → ∀ c, dt A p k * mk A' p' (k + 1) x c = dt A' p' (k + 1) * mk A' p k x c - mk A' p k x D * mk A' p k k c := by
    intro x hx c
    have := mk_step uq' hx c
    rw [dtp, mp, mp, mp, pk] at this
    exact this
  have ownk : ∀ c, mk A' p' (k + 1) k c = mk A' p k k c := fun c => by rw [mk_succ_own, mp]
  have pt' : ∀ t, t < k + 1 → p' t < cols := fun t ht => by
    by_cases e : t = k
    · subst e; rw [pk]; exact hD
    · rw [pu t (by omega)]; have := hpt t (by omega); omega
  have bigN' : ∀ x, x < R → ∀ c, c < N → -720000000 ≤ mk A' p' (k + 1) x c ∧ mk A' p' (k + 1) x c ≤ 720000000 := fun x hx c hc => mk_bd6 (Y := 1000000) (by decide) hkR hR hx (fun i hi t ht => hB1 i hi _ (pt' t ht)) (fun i hi => hB2 i hi c hc)
  have bK : ∀ x, x < R → ∀ c, c < N → -720000000 ≤ mk A' p k x c ∧ mk A' p k x c ≤ 720000000 := fun x hx c hc => mk_bd6 (Y := 1000000) (by decide) pl hR hx (fun i hi t ht => hB1 i hi _ (by have := hpt t ht; omega)) (fun i hi => hB2 i hi c hc)
  have bC : ∀ x, x < R → ∀ c, c < cols → -720 ≤ mk A' p k x c ∧ mk A' p k x c ≤ 720 := fun x hx c hc => mk_bd6 (Y := 1) (by decide) pl hR hx (fun i hi t ht => hB1 i hi _ (by have := hpt t ht; omega)) (fun i hi => hB1 i hi c hc)
  have zl : ∀ x, k ≤ x → x < R → ∀ c, c < D → mk A' p k x c = 0 := by
    intro x hx hxR c hc
    by_cases e : x = k
    · subst e; rw [mkk, low i h1 hiR c hc, Int.mul_zero]
    · by_cases e2 : x = i
      · subst e2; rw [mki e]; exact low k (Nat.le_refl k) hkR c hc
      · rw [mkx x e e2]; exact low x hx hxR c hc
  have eqr : clearR D { cols := rcols, rows := rows, piv := piv, dv := rdv } = { cols := rcols, rows := clearTo (swapR rows k i) (ownR (rowL rows i) D) k D rdv R, piv := piv ++ [(D : Int)], dv := gt (ownR (rowL rows i) D) D } := by
    unfold clearR
    simp only [hk] at hp ⊢
    rw [hp]
    simp only [rowL_swapR (M := rows) (i := k) (j := i) (by omega) (by omega), swl]
  rw [eqr]
  have hpn : pivN { cols := rcols, rows := clearTo (swapR rows k i) (ownR (rowL rows i) D) k D rdv R, piv := piv ++ [(D : Int)], dv := gt (ownR (rowL rows i) D) D } = p' := by rw [← hp']; rfl
  have hpl : (piv ++ [(D : Int)]).length = k + 1 := by simp [hk]
  have hrow : ∀ x, x < R → rowL (clearTo (swapR rows k i) (ownR (rowL rows i) D) k D rdv R) x = if x = k then ownR (rowL rows i) D else combL (gt (ownR (rowL rows i) D) D) (gt (rowL (swapR rows k i) x) D) rdv (ownR (rowL rows i) D) (rowL (swapR rows k i) x) := by
    intro x hx
    apply rowL_some
    rw [clearTo_get (by omega), if_pos hx]
  refine ⟨A', ?_⟩
  constructor <;> (try dsimp only)
  case len => rw [clearTo_len]; exact swl
  case row =>
    intro q hq
    obtain ⟨x, hx, rfl⟩ := List.mem_map.1 hq
    have hx := List.mem_range.1 hx
    rw [swl] at hx
    split
    · rw [ownR_len]; exact rl i hiR
    · first
      | (rw [combL_len]; exact swll x hx)
      | (rw [if_pos hx, combL_len]; exact swll x hx)
  case pl => rw [hpl]; exact hkR
  case pz =>
    intro t ht
    rw [hpl] at ht
    rw [gt_snoc, hk]
    split
    · rename_i q; have := pz t q; omega
    · rw [if_pos (by omega)]; omega
  case asc =>
    intro a b hab hb
    rw [hpl] at hb
    rw [hpn]
    by_cases e : b = k
    · subst e; rw [pk, pu a hab]; exact hpt a hab
    · rw [pu a (by omega), pu b (by omega)]; exact asc a b hab (by omega)
  case val =>
    intro x hx c hc
    rw [hpn, hpl, hrow x hx]
    split
    · rename_i e; subst e; rw [own_at c hc, ownk]
    · rename_i e
      rw [gt_combL (by rw [swll x hx]; exact hc), sw_at x hx e c hc, sw_at x hx e D (by omega), own_at c hc, own_at D (by omega), ← d', dv]
      refine combI_exact d0 (stepx x e c) ?_ (bK x hx c hc) (bC x hx D hD) (bK k hkR c hc) (bigN' x hx c hc)
      rw [d']; exact bC k hkR D hD
  case dv => rw [hpn, hpl, own_at D (by omega), d']
  case pos => rw [own_at D (by omega), ← d']; exact d'pos
  case uq => rw [hpn, hpl]; exact uq'
  case low =>
    intro x h4 h5 c hc
    rw [hpl] at h4
    rw [hpn, hpl]
    have hst := stepx x (by omega) c
    by_cases e : c = D
    · subst e
      rw [d', Int.mul_comm (mk A' p k k c), Int.sub_self] at hst
      exact (Int.mul_eq_zero.1 hst).resolve_left d0
    · rw [zl x (by omega) h5 c (by omega), zl k (Nat.le_refl k) hkR c (by omega)] at hst
      simp only [Int.mul_zero, Int.sub_self] at hst
      exact (Int.mul_eq_zero.1 hst).resolve_left d0
  case ech =>
    intro t ht c hc
    rw [hpl] at ht
    rw [hpn] at hc ⊢
    rw [hpl]
    by_cases e : t = k
    · subst e
      rw [pk] at hc
      rw [ownk]; exact zl t (Nat.le_refl _) hkR c hc
    · rw [pu t (by omega)] at hc
      have hst := stepx t e c
      rw [mu t (by omega), ech t (by omega) c hc, zl k (Nat.le_refl k) hkR c (by have := hpt t (by omega); omega)] at hst
      simp only [Int.mul_zero, Int.sub_self] at hst
      exact (Int.mul_eq_zero.1 hst).resolve_left d0
  case arr => exact arr'
  case ker =>
    intro w
    rw [ker w]
    have sc : sumTo (fun c => A' k c * w c) N = s * sumTo (fun c => A i c * w c) N := by
      rw [← sumTo_mul]; exact sumTo_congr N fun c _ => by rw [a'k, Int.mul_assoc]
    constructor
    · intro hz x hx
      by_cases e : x = k
      · subst e; rw [sc, hz i hiR, Int.mul_zero]
      · by_cases e2 : x = i
        · subst e2; rw [a'i e]; exact hz k hkR
        · rw [a'x x e e2]; exact hz x hx
    · intro hz x hx
      have hi0 : sumTo (fun c => A i c * w c) N = 0 := by
        have := hz k hkR
        rw [sc] at this
        rcases Int.mul_eq_zero.1 this with q | q
        · rcases hs1 with rfl | rfl <;> cases q
        · exact q
      by_cases e2 : x = i
      · subst e2; exact hi0
      · by_cases e : x = k
        · subst e; have := hz i hiR; rw [a'i (by omega)] at this; exact this
        · have := hz x hx; rw [a'x x e e2] at this; exact this
end Go.Proofs.YtfnomiingelfaaaGreat
/- Rows of the call's own that are appended one by one to a slice of rows. -/
namespace Go.Proofs.YtfnomiingelfaaaGreat
open Go.RowKit

theorem row_below {w w' : World} {base : Nat} {e : TypeId} {sz n : Nat} {v : Value} {xs : List Value} (h : w.ownsRow base e sz v n xs) (hb : Below w.heap.size w w') : w'.ownsRow base e sz v n xs := by
  obtain ⟨h0, h1 | ⟨g, cap, cur, e, hg, hh, rest⟩⟩ := h
  · exact ⟨h0, .inl h1⟩
  · exact ⟨h0, .inr ⟨g, cap, cur, e, hg, (hb.block g (Array.getElem?_eq_some_iff.1 hh).1).trans hh, rest⟩⟩
theorem Tryz.infoRowL : (Tryz.prog.info? 24).map (fun i => (i.zero, i.size, i.bytes)) = some (some (.slice none 0 0), 1, 24) := by kernel_rfl
def hdrs (ads : List (Nat × Nat)) (M : List (List Int)) : List Value := List.zipWith (fun x r => Value.slice (some ⟨x.1, 0, none⟩) r.length x.2) ads M
structure RS (base : Nat) (rv : Value) (ads : List (Nat × Nat)) (M : List (List Int)) (w : World) : Prop where
  len : ads.length = M.length
  own : w.ownsRow base 24 1 rv M.length (hdrs ads M)
  row : ∀ (i : Nat) (x : Nat × Nat) (r : List Int), ads[i]? = some x → M[i]? = some r → OwnI w base (.slice (some ⟨x.1, 0, none⟩) r.length x.2) r
  apart : ∀ (i j : Nat) (x y : Nat × Nat), ads[i]? = some x → ads[j]? = some y → i ≠ j → x.1 ≠ y.1
  out : ∀ (i : Nat) (x : Nat × Nat), ads[i]? = some x → base ≤ x.1 ∧ x.1 < w.heap.size ∧ rv.ownBlock ≠ some x.1
theorem RS.below {base : Nat} {rv : Value} {ads : List (Nat × Nat)} {M : List (List Int)} {w w' : World} (h : RS base rv ads M w) (hb : Below w.heap.size w w') : RS base rv ads M w' where
  len := h.len
  own := row_below h.own hb
  row := fun i x r e1 e2 => (h.row i x r e1 e2).below hb
  apart := h.apart
  out := fun i x e => ⟨(h.out i x e).1, Nat.lt_of_lt_of_le (h.out i x e).2.1 hb.size, (h.out i x e).2.2⟩
theorem get_snoc {α : Type} {l : List α} {y : α} {i : Nat} {x : α} (e : (l ++ [y])[i]? = some x) : l[i]? = some x ∨ (i = l.length ∧ x = y) := by
  rcases Nat.lt_trichotomy i l.length with hi | hi | hi
  · rw [List.getElem?_append_left hi] at e; exact .inl e
  · subst hi; simp at e; exact .inr ⟨rfl, e.symm⟩
  · have := (List.getElem?_eq_some_iff.1 e).1; simp at this; omega
theorem RS.push {base : Nat} {rv : Value} {ads : List (Nat × Nat)} {M : List (List Int)} {V w' : World} (h : RS base rv ads M V) {row : List Int} {nb nc g cap : Nat} (hrow : OwnI V base (.slice (some ⟨nb, 0, none⟩) row.length nc) row)
    (hap : ∀ (i : Nat) (x : Nat × Nat), ads[i]? = some x → x.1 ≠ nb) (hne : rv.ownBlock ≠ some nb)
    (h1 : w'.ownsRow base 24 1 (.slice (some ⟨g, 0, none⟩) (M.length + 1) cap) (M.length + 1) (hdrs ads M ++ [.slice (some ⟨nb, 0, none⟩) row.length nc])) (h2 : V.grownBy w' rv.ownBlock) (h3 : rv.ownBlock = some g ∨ g = V.heap.size) :
    RS base (.slice (some ⟨g, 0, none⟩) (M.length + 1) cap) (ads ++ [(nb, nc)]) (M ++ [row]) w' := by
  have far : ∀ b, b < V.heap.size → rv.ownBlock ≠ some b → w'.heap[b]? = V.heap[b]? := fun b hb hn => h2.block b hb (fun e => hn e.symm)
  have hne2 : ∀ b, b < V.heap.size → rv.ownBlock ≠ some b → g ≠ b := by
    intro b hb hn e
    rcases h3 with h3 | h3
    · exact hn (by rw [h3, e])
    · omega
  have hsz : V.heap.size ≤ w'.heap.size := h2.size
  have hnb := OwnI.lt hrow
  have hh : hdrs (ads ++ [(nb, nc)]) (M ++ [row]) = hdrs ads M ++ [.slice (some ⟨nb, 0, none⟩) row.length nc] := by
    unfold hdrs; rw [List.zipWith_append h.len]; rfl
  refine ⟨by simp [h.len], ?_, ?_, ?_, ?_⟩
  · rw [hh]; simpa using h1
  · intro i x r e1 e2
    have hl := h.len
    rcases get_snoc e1 with e1 | ⟨i1, rfl⟩
    · have hi := (List.getElem?_eq_some_iff.1 e1).1
      rw [List.getElem?_append_left (by omega)] at e2
      obtain ⟨_, a2, a3⟩ := h.out i x e1
      exact (h.row i x r e1 e2).sameBlock (far x.1 a2 a3)
    · subst i1
      rw [hl] at e2; simp at e2; subst e2
      exact hrow.sameBlock (far nb hnb.1 hne)
  · intro i j x y e1 e2 hij
    rcases get_snoc e1 with e1 | ⟨i1, rfl⟩ <;> rcases get_snoc e2 with e2 | ⟨i2, rfl⟩
    · exact h.apart i j x y e1 e2 hij
    · exact hap i x e1
    · exact fun e => hap j y e2 e.symm
    · omega
  · intro i x e
    have : base ≤ x.1 ∧ x.1 < V.heap.size ∧ rv.ownBlock ≠ some x.1 := by
      rcases get_snoc e with e | ⟨_, rfl⟩
      · exact h.out i x e
      · exact ⟨hnb.2, hnb.1, hne⟩
    exact ⟨this.1, by omega, fun e => hne2 x.1 this.2.1 this.2.2 (by simpa [Value.ownBlock] using e)⟩
theorem step_pushRow {ops : Array Oper} {o : Oper} {act : Act} {K : Act → World → Prop} {Q : Exit → Act → World → Prop} {E : Prop} (hgd : o.guard = none) (s x : Operand)
    (ho : o.op = .call { callee := .builtin .append, args := #[s, x], argTypes := #[22, 22] }) (base : Nat) (rv : Value) (ads : List (Nat × Nat)) (M : List (List Int)) (row : List Int) (nb nc : Nat) (W : World) (A : Nat)
    (hv : act.eval s = rv) (hx : act.eval x = .slice (some ⟨A, 0, none⟩) 1 1) (hnew : W.cell? ⟨A, 0, none⟩ = some (.slice (some ⟨nb, 0, none⟩) row.length nc)) (hown : RS base rv ads M W) (hrow : OwnI W base (.slice (some ⟨nb, 0, none⟩) row.length nc) row)
    (hap : ∀ (i : Nat) (x : Nat × Nat), ads[i]? = some x → x.1 ≠ nb) (hne : rv.ownBlock ≠ some nb) (hl : M.length ≤ 1000) (hbase : base ≤ W.heap.size)
    (h : ∀ g cap w', RS base (.slice (some ⟨g, 0, none⟩) (M.length + 1) cap) (ads ++ [(nb, nc)]) (M ++ [row]) w' → W.grownBy w' rv.ownBlock → (rv.ownBlock = some g ∨ g = W.heap.size) → K (act.put o.dst (.slice (some ⟨g, 0, none⟩) (M.length + 1) cap)) w') : if Region.wanted o (yielded ops act.tmps) = true then Oper.wp Tryz.prog o act W K Q else E := by
  obtain ⟨i0, hi, hz0, hz1, hz2⟩ := info_parts Tryz.infoRowL
  refine step_append_lies W hgd s x 22 ho base 24 i0 (.slice none 0 0) 1 24 Tryz.underlying22 hi hz0 hz1 hz2 rfl (by decide) rv M.length (hdrs ads M) hv hown.own ⟨A, 0, none⟩ 1 1 [.slice (some ⟨nb, 0, none⟩) row.length nc] hx rfl ?_ ?_ (by decide) (by unfold maxLen; omega) (by omega) hbase W.heap.size rfl ?_
  · intro j u hj
    match j, hj with
    | 0, hj =>
      simp at hj; subst hj
      rw [addr_add]; exact hnew
    | j + 1, hj => simp at hj
  · intro u hu; simp at hu; subst hu; rfl
  · intro g cap w' h1 h2 h3 _
    exact h g cap w' (hown.push hrow hap hne h1 h2 h3) h2 h3
theorem row_same {w w' : World} {base : Nat} {e : TypeId} {sz n : Nat} {v : Value} {xs : List Value} (h : w.ownsRow base e sz v n xs) (hb : ∀ b, v.ownBlock = some b → w'.heap[b]? = w.heap[b]?) : w'.ownsRow base e sz v n xs := by
  obtain ⟨h0, h1 | ⟨g, cap, cur, e, hg, hh, rest⟩⟩ := h
  · exact ⟨h0, .inl h1⟩
  · exact ⟨h0, .inr ⟨g, cap, cur, e, hg, (hb g (by rw [e]; rfl)).trans hh, rest⟩⟩
theorem RS.stored {base B : Nat} {rv : Value} {ads : List (Nat × Nat)} {M : List (List Int)} {w : World} (h : RS base rv ads M w) (h1 : rv.ownBlock ≠ some B) (h2 : ∀ (i : Nat) (x : Nat × Nat), ads[i]? = some x → x.1 ≠ B) (o : Nat) (u : Value) : RS base rv ads M (w.setCell ⟨B, o, none⟩ u) where
  len := h.len
  own := row_same h.own fun b e => Below.heap_setCell w _ _ b (by show b ≠ B; rintro rfl; exact h1 e)
  row := fun i x r e1 e2 => (h.row i x r e1 e2).sameBlock (Below.heap_setCell w _ _ x.1 (h2 i x e1))
  apart := h.apart
  out := fun i x e => ⟨(h.out i x e).1, by rw [World.size_setCell]; exact (h.out i x e).2.1, (h.out i x e).2.2⟩
structure RB (B : Nat) (cols : Int) (rv : Value) (w : World) : Prop where
  c0 : w.cell? ⟨B, 0, none⟩ = some (.int .i64 cols)
  c1 : w.cell? ⟨B, 1, none⟩ = some rv
  c2 : w.cell? ⟨B, 2, none⟩ = some (.slice none 0 0)
  c3 : w.cell? ⟨B, 3, none⟩ = some (.int .i64 1)
  f1 : w.frozen? ⟨B, 1, none⟩ = false
  f2 : w.frozen? ⟨B, 2, none⟩ = false
  f3 : w.frozen? ⟨B, 3, none⟩ = false
theorem RB.kept {B : Nat} {cols : Int} {rv : Value} {w w' : World} (h : RB B cols rv w) (hb : w'.heap[B]? = w.heap[B]?) : RB B cols rv w' :=
  ⟨(World.cell?_of_block hb).trans h.c0, (World.cell?_of_block hb).trans h.c1, (World.cell?_of_block hb).trans h.c2, (World.cell?_of_block hb).trans h.c3, (World.frozen?_of_block hb).trans h.f1, (World.frozen?_of_block hb).trans h.f2, (World.frozen?_of_block hb).trans h.f3⟩
theorem RB.stored {B : Nat} {cols : Int} {rv : Value} {w : World} (h : RB B cols rv w) (u : Value) : RB B cols u (w.setCell ⟨B, 1, none⟩ u) where
  c0 := (World.cell?_setCell_other w ⟨B, 1, none⟩ ⟨B, 0, none⟩ u (by simp)).trans h.c0
  c1 := World.cell?_setCell_same _ _ _ h.c1
  c2 := (World.cell?_setCell_other w ⟨B, 1, none⟩ ⟨B, 2, none⟩ u (by simp)).trans h.c2
  c3 := (World.cell?_setCell_other w ⟨B, 1, none⟩ ⟨B, 3, none⟩ u (by simp)).trans h.c3
  f1 := by simpa using h.f1
  f2 := by simpa using h.f2
  f3 := by simpa using h.f3
theorem rs_pushed {base B nb nc G2 cp2 : Nat} {rv : Value} {ads : List (Nat × Nat)} {M : List (List Int)} {row : List Int} {w0 wr w9 : World} {ob : Obj} (hb : Below base w0 wr) (hbB : base ≤ B) (lB : B < wr.heap.size) (hrs : RS base rv ads M wr)
    (hne : rv.ownBlock ≠ some B ∧ ∀ (i : Nat) (x : Nat × Nat), ads[i]? = some x → x.1 ≠ B) (hnb : B < nb)
    (ho : RS base (.slice (some ⟨G2, 0, none⟩) (M.length + 1) cp2) (ads ++ [(nb, nc)]) (M ++ [row]) w9) (hg : (wr.alloc ob).drew.grownBy w9 rv.ownBlock) (hat : rv.ownBlock = some G2 ∨ G2 = (wr.alloc ob).drew.heap.size) {cols : Int} (hc : RB B cols rv w9) :
    RS base (.slice (some ⟨G2, 0, none⟩) (M.length + 1) cp2) (ads ++ [(nb, nc)]) (M ++ [row]) (w9.setCell ⟨B, 1, none⟩ (.slice (some ⟨G2, 0, none⟩) (M.length + 1) cp2))
    ∧ RB B cols (.slice (some ⟨G2, 0, none⟩) (M.length + 1) cp2) (w9.setCell ⟨B, 1, none⟩ (.slice (some ⟨G2, 0, none⟩) (M.length + 1) cp2))
    ∧ ((Value.slice (some ⟨G2, 0, none⟩) (M.length + 1) cp2).ownBlock ≠ some B ∧ ∀ (i : Nat) (x : Nat × Nat), (ads ++ [(nb, nc)])[i]? = some x → x.1 ≠ B)
    ∧ Below base w0 (w9.setCell ⟨B, 1, none⟩ (.slice (some ⟨G2, 0, none⟩) (M.length + 1) cp2)) ∧ B < (w9.setCell ⟨B, 1, none⟩ (.slice (some ⟨G2, 0, none⟩) (M.length + 1) cp2)).heap.size := by
  have hsz : (wr.alloc ob).drew.heap.size = wr.heap.size + 1 := World.size_alloc ..
  have hG2 : G2 ≠ B := by
    rcases hat with h | h
    · rintro rfl; exact hne.1 h
    · omega
  have h1 : (Value.slice (some ⟨G2, 0, none⟩) (M.length + 1) cp2).ownBlock ≠ some B := fun e => hG2 (by simpa [Value.ownBlock] using e)
  have h2 : ∀ (i : Nat) (x : Nat × Nat), (ads ++ [(nb, nc)])[i]? = some x → x.1 ≠ B := by
    intro i x e
    rcases get_snoc e with e | ⟨_, rfl⟩
    · exact hne.2 i x e
    · show nb ≠ B; omega
  have h9 := hg.size
  exact ⟨ho.stored h1 h2 1 _, hc.stored _, ⟨h1, h2⟩, ((hb.alloc (by omega) ob).drew.grown hg (by omega) (fun k e => (World.ownsRow.lt hrs.own k e).1)).setCell (p := ⟨B, 1, none⟩) hbB _, by rw [World.size_setCell]; omega⟩
end Go.Proofs.YtfnomiingelfaaaGreat
/- Rows that were appended one by one, as a reduction's. -/
namespace Go.Proofs.YtfnomiingelfaaaGreat
open Go.RowKit

theorem hdrs_at {ads : List (Nat × Nat)} {M : List (List Int)} {i : Nat} {x : Nat × Nat} {r : List Int} (e1 : ads[i]? = some x) (e2 : M[i]? = some r) : (hdrs ads M)[i]? = some (.slice (some ⟨x.1, 0, none⟩) r.length x.2) := by
  unfold hdrs; rw [List.getElem?_zipWith, e1, e2]
theorem RS.reduction {base B cols : Nat} {rv : Value} {ads : List (Nat × Nat)} {M : List (List Int)} {w : World} (h : RS base rv ads M w) (h1 : 1 ≤ M.length) (hB : base ≤ B)
    (hne : rv.ownBlock ≠ some B ∧ ∀ (i : Nat) (x : Nat × Nat), ads[i]? = some x → x.1 ≠ B) (hbx : RB B (cols : Int) rv w) :
    ∃ g cap, rv = .slice (some ⟨g, 0, none⟩) M.length cap ∧ M.length ≤ cap ∧ RdW base B g cap ads (.slice none 0 0) { cols := cols, rows := M, piv := [], dv := 1 } w := by
  have ho := h.own
  obtain ⟨hx, ⟨_, h0⟩ | ⟨g, cap, cur, rfl, hg, hb, hn, hm, hsz, ht⟩⟩ := h.own
  · omega
  · have hl : (hdrs ads M).length = M.length := by simp [hdrs, h.len]
    have hgl : g < w.heap.size := (Array.getElem?_eq_some_iff.1 hb).1
    have hgB : g ≠ B := fun e => hne.1 (by rw [e]; rfl)
    refine ⟨g, cap, rfl, hn, ⟨⟨hbx.c0, hbx.c1, hbx.c2, hbx.c3, hbx.f1, hbx.f2, hbx.f3⟩, ⟨h.len, fun i x r e1 e2 => ⟨?_, h.row i x r e1 e2⟩, h.apart, fun i x e => ⟨fun e2 => (h.out i x e).2.2 (by rw [e2]; rfl), (h.out i x e).1⟩⟩, World.ownsRow_nil _ _ _ _, fun i x e => ⟨hne.2 i x e, fun b hb => by simp [Value.ownBlock] at hb⟩, fun k => World.ownsRow.frozenAt ho k, hgl, hg, hgB, by simp [Value.ownBlock], by simp [Value.ownBlock], hB⟩⟩
    have h2 := ho.cellAt i (by rw [Nat.mul_one]; exact (List.getElem?_eq_some_iff.1 e2).1)
    rw [h2]; exact hdrs_at e1 e2
end Go.Proofs.YtfnomiingelfaaaGreat
/- One int appended to a slice of the call's own, told by what grows (for reduce). -/
namespace Go.Proofs.YtfnomiingelfaaaGreat
open Go.RowKit

theorem wpList_pushG0 {ops : Array Oper} {rest : List Oper} {o : Oper} {act : Act} {Q : Exit → Act → World → Prop} (hgd : o.guard = none) (s x : Operand)
    (ho : o.op = .call { callee := .builtin .append, args := #[s, x], argTypes := #[24, 24] }) (base : Nat) (v : Value) (zs : List Int) (y : Int) (V : World) (B : Nat) (t : TypeId)
    (hs : act.eval s = v) (hx : act.eval x = .slice (some ⟨B, 0, none⟩) 1 1) (hB : B = V.heap.size) (hown : OwnI V base v zs) (hl : zs.length ≤ 100000) (hbase : base ≤ V.heap.size)
    (h : ∀ g cap w', OwnI w' base (.slice (some ⟨g, 0, none⟩) (zs.length + 1) cap) (zs ++ [y]) → (v.ownBlock = some g ∨ V.heap.size ≤ g) → Below base V w' → (V.alloc (.cells #[.int .i64 y] t)).grownBy w' v.ownBlock → wpList Tryz.prog ops Q rest (act.put o.dst (.slice (some ⟨g, 0, none⟩) (zs.length + 1) cap)) w') : wpList Tryz.prog ops Q (o :: rest) act (V.alloc (.cells #[.int .i64 y] t)) := by
  obtain ⟨i0, hi, hz0, hz1, hz2⟩ := info_parts Tryz.infoInt
  subst hB
  have hb1 : Below V.heap.size V (V.alloc (.cells #[.int .i64 y] t)) := (Below.refl _ _).alloc (Nat.le_refl _) _
  have hown' := OwnI.below hown hb1
  refine wpList_append_lies _ hgd s x 24 ho base 3 i0 (.int .i64 0) 1 8 Tryz.underlying24 hi hz0 hz1 hz2 rfl (by decide) v zs.length (zs.map (Value.int .i64)) hs hown' ⟨V.heap.size, 0, none⟩ 1 1 [.int .i64 y] hx rfl ?_ ?_ (by decide) (by unfold maxLen; omega) (by omega) (by rw [World.size_alloc]; omega) _ rfl ?_
  · intro j u hj
    match j, hj with
    | 0, hj =>
      simp at hj; subst hj
      rw [addr_add]; exact alloc_cell _ _ _ _ _ rfl
    | j + 1, hj => simp at hj
  · intro u hu; simp at hu; subst hu; rfl
  · intro g cap w' h1 h2 h3 _
    refine h g cap w' (by simpa [OwnI] using h1) ?_ (((Below.refl base V).alloc hbase _).grown h2 (by rw [World.size_alloc]; omega) (fun k e => (World.ownsRow.lt hown k e).1)) h2
    rcases h3 with h3 | h3
    · exact .inl h3
    · rw [World.size_alloc] at h3; exact .inr (by omega)
end Go.Proofs.YtfnomiingelfaaaGreat
/- The columns of a reduction cleared: the second loop of reduce. -/
namespace Go.Proofs.YtfnomiingelfaaaGreat
open Go.RowKit

theorem results_cell_one' {fn : Func} {p : Tmp} {ty : TypeId} (h : fn.results = #[.cell p ty]) (tmps : Array Value) (P : Program) (w : World) :
    (results fn tmps).run P w = ((asAddr (tmps.getD p undef)).run P w).andThen fun a w₁ => ((loadVar ty a).run P w₁).andThen fun v w₂ => .ok v w₂ := by
  simp only [results, h]
  simp [Sem.run_bind, Result.andThen]
  split <;> first | rfl | (split <;> rfl) | (split <;> simp_all)
def rdV (g cap : Nat) (pa : Option Addr) (pc : Nat) (r : Rd) : Value := .agg #[.int .i64 (r.cols : Int), .slice (some ⟨g, 0, none⟩) r.rows.length cap, .slice pa r.piv.length pc, .int .i64 r.dv]
def rdBox (T g cap : Nat) (pa : Option Addr) (pc : Nat) (r : Rd) (w : World) : World := (((w.setCell ⟨T, 0, none⟩ (.int .i64 (r.cols : Int))).setCell ⟨T, 1, none⟩ (.slice (some ⟨g, 0, none⟩) r.rows.length cap)).setCell ⟨T, 2, none⟩ (.slice pa r.piv.length pc)).setCell ⟨T, 3, none⟩ (.int .i64 r.dv)
def clearN (r : Rd) (k : Nat) : Rd := (List.range k).foldl (fun r c => clearR c r) r
theorem clearN_succ (r : Rd) (k : Nat) : clearN r (k + 1) = clearR k (clearN r k) := by unfold clearN; rw [List.range_succ, List.foldl_append]; rfl
theorem clearN_ok {N : Nat} {r : Rd} (h : RdOk N r) (h64 : All64 r.rows) (k : Nat) : RdOk N (clearN r k) ∧ All64 (clearN r k).rows ∧ (clearN r k).rows.length = r.rows.length ∧ (clearN r k).cols = r.cols := by
  induction k with
  | zero => exact ⟨h, h64, rfl, rfl⟩
  | succ k ih =>
    obtain ⟨a, b, c, d⟩ := ih
    obtain ⟨a', b', c', d'⟩ := a.clear (c := k) b
    rw [clearN_succ]
    exact ⟨a', b', c'.trans c, d'.trans d⟩
set_option maxRecDepth 100000 in
set_option maxHeartbeats 1600000 in
theorem reduce_t3 {base B T g cap N : Nat} {ads : List (Nat × Nat)} {pv : Value} {r : Rd} {pxa : Option Addr} {px : List Int} {pxc : Nat} {w w0 : World} (hT : T < base) (_hTw : T < w0.heap.size) (hok : Hid (RdOk N r)) (h64 : Hid (All64 r.rows)) (hpN : px.length ≤ N) (hp100 : px.length ≤ 100) (hcap : Hid (r.rows.length ≤ cap))
    (hbx : Hid (∀ k, k < 4 → (∃ u, w0.cell? ⟨T, k, none⟩ = some u) ∧ w0.frozen? ⟨T, k, none⟩ = false)) (h : Hid (RdW base B g cap ads pv r w)) (hb0 : Hid (Below base w0 w)) (u0 u2 u3 u4 u5 u8 u9 u10 u11 u12 u13 u14 u15 u16 u17 u18 u19 u20 u21 u22 u23 u24 u25 u26 u27 u28 u29 u30 u31 u32 u33 u34 u35 u36 u37 u38 u39 u40 u41 u42 u43 u44 u45 u46 u47 u48 u49 u50 u51 u52 u53 u54 u55 u56 u57 u58 : Value) (R : Ending → World → Prop)
    (hR : Hid (∀ (ads' : List (Nat × Nat)) (pa : Option Addr) (pc : Nat) (W : World), RdW base B g cap ads' (.slice pa (clearN r px.length).piv.length pc) (clearN r px.length) W → Below base w0 W → R (.returned (rdV g cap pa pc (clearN r px.length))) (rdBox T g cap pa pc (clearN r px.length) W))) :
    Code.wp Tryz.prog (seqTail 3 ((Tryz.f90.body).getD .skip)) (bodyPost Tryz.prog Tryz.f90 R) { tmps := #[u0, .slice pxa px.length pxc, u2, u3, u4, u5, .pointer (some ⟨T, 0, none⟩), .pointer (some ⟨B, 0, none⟩), u8, u9, u10, u11, u12, u13, u14, u15, u16, u17, u18, u19, u20, u21, u22, u23, u24, u25, u26, u27, u28, u29, u30, u31, u32, u33, u34, u35, u36, u37, u38, u39, u40, u41, u42, u43, u44, u45, u46, u47, u48, u49, u50, u51, u52, u53, u54, u55, u56, u57, u58], defers := [] } w := by
  conv => arg 2; whnf
  refine wp_seq_k (fun K hK => ?_)
  have HK := Lib.hid hK; clear hK
  go_wp2
  go_loopw [52] (fun i wr => ∃ (k : Nat) (ads' : List (Nat × Nat)) (pv' : Value), k ≤ px.length ∧ i = .int .i64 k ∧ Hid (RdW base B g cap ads' pv' (clearN r k) wr) ∧ Below base w0 wr) (fun i _ => px.length - (intOf i).toNat)
  case atStart => exact ⟨0, ads, pv, Nat.zero_le _, rfl, h, hb0.out⟩
  case round =>
    obtain ⟨k, ads', pv', hk, rfl, HR, hbl⟩ := hrel
    have HBL := Lib.hid hbl; clear hbl
    by_cases hlt : k < px.length
    · have HCO := Lib.hid (clearN_ok hok.out h64.out k)
      have HSU := Lib.hid (clearN_succ r k)
      go_wp2_with (go_at_call 126; refine (clear_any base B g cap k N ads' pv' (clearN r k) _ HCO.out.1 (Nat.lt_of_lt_of_le hlt hpN) (by rw [HCO.out.2.2.1]; exact hcap.out) HR.out).mono ?_; rintro e w2 ⟨rfl, hb2, ads2, pv2, hr2⟩)
      have HR2 : Hid (RdW base B g cap ads2 pv2 (clearN r (k + 1)) w2) := by rw [HSU.out]; exact hr2
      clear hr2
      go_wp2
      go_roundw
      case rel => exact ⟨k + 1, ads2, pv2, hlt, by go_num, HR2, HBL.out.trans hb2⟩
      case measure => simp [intOf]; omega
    · obtain rfl : k = px.length := by omega
      go_wp2
      refine HK.out _ _ ?_
      have c0 := HR.out.bx.c0
      have c1 := HR.out.bx.c1
      have c2 := HR.out.bx.c2
      have c3 := HR.out.bx.c3
      obtain ⟨pa, pc, rfl, _⟩ := HR.out.pi.any
      obtain ⟨⟨v0, t0⟩, z0⟩ := hbx.out 0 (by omega)
      obtain ⟨⟨v1, t1⟩, z1⟩ := hbx.out 1 (by omega)
      obtain ⟨⟨v2, t2⟩, z2⟩ := hbx.out 2 (by omega)
      obtain ⟨⟨v3, t3⟩, z3⟩ := hbx.out 3 (by omega)
      have t0' := (HBL.out.cell (p := ⟨T, 0, none⟩) hT).trans t0
      have t1' := (HBL.out.cell (p := ⟨T, 1, none⟩) hT).trans t1
      have t2' := (HBL.out.cell (p := ⟨T, 2, none⟩) hT).trans t2
      have t3' := (HBL.out.cell (p := ⟨T, 3, none⟩) hT).trans t3
      have z0' := (HBL.out.frozen (p := ⟨T, 0, none⟩) hT).trans z0
      have z1' := (HBL.out.frozen (p := ⟨T, 1, none⟩) hT).trans z1
      have z2' := (HBL.out.frozen (p := ⟨T, 2, none⟩) hT).trans z2
      have z3' := (HBL.out.frozen (p := ⟨T, 3, none⟩) hT).trans z3
      clear HK t0 t1 t2 t3 z0 z1 z2 z3
      go_wp2
      refine bodyPost_ret_by (v := rdV g cap pa pc (clearN r px.length)) ?_ rfl (hR.out ads' pa pc wr HR.out HBL.out)
      rw [results_cell_one' rfl]
      unfold rdV
      go_simp
end Go.Proofs.YtfnomiingelfaaaGreat
/- divisor and shorten of layer 3: contracts. -/
namespace Go.Proofs.YtfnomiingelfaaaGreat
open Go.RowKit

def gcdTo (xs : List Int) : Nat → Nat
  | 0 => 0
  | k + 1 => Nat.gcd (gcdTo xs k) (gt xs k).natAbs
def gcdL (xs : List Int) : Nat := gcdTo xs xs.length
def Mid (x : Int) : Prop := -4611686018427387904 ≤ x ∧ x ≤ 4611686018427387904
set_option maxRecDepth 100000 in
set_option maxHeartbeats 800000 in
theorem divisor_any (a : Option Addr) (xs : List Int) (cap : Nat) (w : World) (hl : xs.length ≤ 1000) (hx : ∀ x ∈ xs, Mid x) (hs : Sl w a xs) :
    Calls Tryz.prog 150 #[.slice a xs.length cap] w fun e w' => e = .returned (.int .i64 (gcdL xs : Nat)) ∧ ∃ nd, w' = w.drewN nd := by
  have HS := Lib.hid hs; clear hs
  have HX := Lib.hid hx; clear hx
  go_enter Tryz.func150, Tryz.ntmps150
  go_wp2
  go_loopw [3, 8] (fun c i wr => ∃ (k : Nat) (v : Int) (nd : Nat), k ≤ xs.length ∧ i = .int .i64 k ∧ c = .int .i64 v ∧ Mid v ∧ Hid (v.natAbs = gcdTo xs k) ∧ wr = w.drewN nd) (fun _ i _ => xs.length - (intOf i).toNat)
  case atStart => exact ⟨0, 0, 0, Nat.zero_le _, rfl, rfl, by unfold Mid; omega, rfl, rfl⟩
  case round =>
    obtain ⟨k, v, nd, hk, rfl, rfl, hv, HG, rfl⟩ := hrel
    by_cases hlt : k < xs.length
    · obtain ⟨b, off, x, rfl, hcell, HXK⟩ := HS.out.at hlt
      have hmx := HX.out x (List.mem_of_getElem? HXK.out)
      have HGN : Hid (gcdTo xs (k + 1) = Nat.gcd v.natAbs x.natAbs) := by show _ = _; unfold gcdTo; rw [gt_some' HXK.out, HG.out]
      go_wp2
      clear hcell
      go_loopw [3, 5] (fun c n wr => ∃ (p q : Int) (nd' : Nat), c = .int .i64 p ∧ n = .int .i64 q ∧ Mid p ∧ Mid q ∧ Hid (Nat.gcd p.natAbs q.natAbs = Nat.gcd v.natAbs x.natAbs) ∧ wr = w.drewN nd') (fun _ n _ => (intOf n).natAbs)
      case atStart => exact ⟨v, x, nd, rfl, rfl, hv, hmx, rfl, rfl⟩
      case round =>
        obtain ⟨p, q, nd', rfl, rfl, hp, hq, HE, rfl⟩ := hrel
        by_cases hq0 : q = 0
        · subst hq0
          have HGE : Hid (p.natAbs = gcdTo xs (k + 1)) := by
            show _ = _
            rw [HGN.out, ← HE.out]; simp
          go_wp2
          go_roundw
          case rel => exact ⟨k + 1, p, nd', by omega, by go_num, rfl, hp, HGE, rfl⟩
          case measure => simp [intOf]; omega
        · have y0 : (q == 0) = false := by simpa using hq0
          have y1 : (q != 0) = true := by simpa using hq0
          obtain ⟨t, ht⟩ : ∃ t, p.tmod q = t := ⟨_, rfl⟩
          have hta : t.natAbs = p.natAbs % q.natAbs := by rw [← ht, Int.natAbs_tmod]
          have hlt2 : p.natAbs % q.natAbs < q.natAbs := Nat.mod_lt _ (by omega)
          have hmt : Mid t := by unfold Mid at hq ⊢; omega
          have HE2 : Hid (Nat.gcd q.natAbs t.natAbs = Nat.gcd v.natAbs x.natAbs) := by
            show _ = _
            rw [hta, ← HE.out, Nat.gcd_comm p.natAbs, Nat.gcd_rec q.natAbs p.natAbs]
            exact Nat.gcd_comm _ _
          have hmeas : t.natAbs < q.natAbs := by omega
          obtain ⟨t1, t2⟩ := hmt
          have w1 : IntKind.i64.wrap t = t := IntWalk.i64_in _ (by omega)
          have w2 : wrap64 t = t := IntWalk.wrap64_in _ (by omega)
          clear hta hlt2 hlt
          go_wp2
          go_quiet (fail)
          go_wp2
          go_roundw
          case rel => exact ⟨q, t, _, rfl, rfl, hq, ⟨t1, t2⟩, HE2, World.drewN_drewN _ _ _⟩
          case measure => simp [intOf]; omega
    · obtain rfl : k = xs.length := by omega
      obtain ⟨v1, v2⟩ := hv
      have HF : Hid ((gcdL xs : Int) = if v < -v then -v else v) := by
        show _ = _
        have := HG.out
        unfold gcdL; rw [← this]; split <;> omega
      go_wp2
      all_goals go_ret
      all_goals exact ⟨ret_i64 (by rw [HF.out]; split <;> omega), nd, rfl⟩
def shortL (xs : List Int) : List Int := xs.map fun n => n.tdiv (gcdL xs : Nat)
def shortTo (xs : List Int) (g : Int) (q : Nat) : List Int := (List.range xs.length).map fun k => if k < q then (gt xs k).tdiv g else gt xs k
theorem shortTo_len (xs : List Int) (g : Int) (q : Nat) : (shortTo xs g q).length = xs.length := by simp [shortTo]
theorem shortTo_zero (xs : List Int) (g : Int) : shortTo xs g 0 = xs := by
  refine list_ext_gt (shortTo_len _ _ _) fun k hk => ?_
  rw [shortTo_len] at hk
  unfold shortTo; rw [gt_map_range _ hk, if_neg (by omega)]
theorem shortTo_at (xs : List Int) (g : Int) {q : Nat} (hq : q < xs.length) : gt (shortTo xs g q) q = gt xs q := by unfold shortTo; rw [gt_map_range _ hq, if_neg (by omega)]
theorem shortTo_succ {xs : List Int} {g : Int} {q : Nat} (hq : q < xs.length) : (shortTo xs g q).set q ((gt xs q).tdiv g) = shortTo xs g (q + 1) := by
  refine list_ext_gt (by rw [List.length_set, shortTo_len, shortTo_len]) fun k hk => ?_
  rw [List.length_set, shortTo_len] at hk
  rw [gt_set (by rw [shortTo_len]; exact hq)]
  unfold shortTo
  rw [gt_map_range _ hk, gt_map_range _ hk]
  by_cases e : k = q
  · subst e; rw [if_pos rfl, if_pos (by omega)]
  · rw [if_neg e]
    by_cases h : k < q
    · rw [if_pos h, if_pos (by omega)]
    · rw [if_neg h, if_neg (by omega)]
theorem shortTo_full (xs : List Int) : shortTo xs (gcdL xs : Nat) xs.length = shortL xs := by
  refine list_ext_gt (by simp [shortTo, shortL]) fun k hk => ?_
  rw [shortTo_len] at hk
  unfold shortTo shortL
  rw [gt_map_range _ hk, if_pos hk]
  unfold gt; simp [hk]
theorem tdiv_mid {x g : Int} (hx : Mid x) (_hg : 1 ≤ g) : Mid (x.tdiv g) := by
  have h : (x.tdiv g).natAbs ≤ x.natAbs := by rw [Int.natAbs_tdiv]; exact Nat.div_le_self _ _
  unfold Mid at *; omega
theorem OnlyB.ofDrewN (b : Nat) (w : World) (n : Nat) : OnlyB b w (w.drewN n) := ⟨rfl, fun _ _ => rfl⟩
set_option maxRecDepth 100000 in
set_option maxHeartbeats 800000 in
theorem shorten_any (base b c : Nat) (xs : List Int) (w : World) (hl : xs.length ≤ 1000) (hx : ∀ x ∈ xs, Mid x) (hg : gcdL xs ≠ 0) (ho : OwnI w base (.slice (some ⟨b, 0, none⟩) xs.length c) xs) :
    Calls Tryz.prog 160 #[.slice (some ⟨b, 0, none⟩) xs.length c] w fun e w' => e = .returned (.slice (some ⟨b, 0, none⟩) xs.length c) ∧ OnlyB b w w' ∧ Below base w w' ∧ OwnI w' base (.slice (some ⟨b, 0, none⟩) xs.length c) (shortL xs) := by
  have HO := Lib.hid ho; clear ho
  have HX := Lib.hid hx; clear hx
  go_enter Tryz.func160, Tryz.ntmps160
  go_wp2_with fail
  refine (divisor_any _ xs c w hl HX.out HO.out.sl).mono ?_
  rintro e w1 ⟨rfl, nd, rfl⟩
  have HF := Lib.hid (shortTo_full xs)
  obtain ⟨g, hg'⟩ : ∃ g : Int, (gcdL xs : Nat) = g := ⟨_, rfl⟩
  have hg1 : 1 ≤ g := by omega
  rw [hg'] at HF
  rw [hg']
  have HO1 : Hid (OwnI (w.drewN nd) base (.slice (some ⟨b, 0, none⟩) xs.length c) (shortTo xs g 0)) := by show OwnI _ _ _ _; rw [shortTo_zero]; exact HO.out.drewN nd
  have HB1 : Hid (OnlyB b w (w.drewN nd)) := OnlyB.ofDrewN b w nd
  have HBB1 : Hid (Below base w (w.drewN nd)) := below_drewN (Below.refl _ _) nd
  clear hg hg'
  generalize w.drewN nd = w1 at *
  have y0 : (g == 0) = false := by simp; omega
  have y1 : (g != 0) = true := by simp; omega
  have y2 : ¬ (g = 0) := by omega
  have y3 : ¬ (g = -1) := by omega
  go_wp2
  go_loopw [10] (fun i wr => ∃ q : Nat, q ≤ xs.length ∧ i = .int .i64 q ∧ OwnI wr base (.slice (some ⟨b, 0, none⟩) xs.length c) (shortTo xs g q) ∧ OnlyB b w wr ∧ Below base w wr) (fun i _ => xs.length - (intOf i).toNat)
  case atStart => exact ⟨0, Nat.zero_le _, rfl, HO1.out, HB1.out, HBB1.out⟩
  case round =>
    clear HO1 HB1 HBB1
    obtain ⟨q, hq, rfl, hO, hB, hb⟩ := hrel
    have HOR := Lib.hid hO; clear hO
    have HB := Lib.hid hB; clear hB
    have HBB := Lib.hid hb; clear hb
    by_cases hlt : q < xs.length
    · obtain ⟨c1, f1⟩ := HOR.out.cell (j := q) (by rw [shortTo_len]; exact hlt)
      have hv : (shortTo xs g q)[q]?.getD 0 = gt xs q := shortTo_at xs g hlt
      rw [hv] at c1
      have HG := HOR.out.lt
      have hmx : Mid (gt xs q) := HX.out _ (by unfold gt; rw [List.getElem?_eq_getElem hlt, Option.getD_some]; exact List.getElem_mem hlt)
      obtain ⟨x, hx⟩ : ∃ x, gt xs q = x := ⟨_, rfl⟩
      have HN : Hid ((shortTo xs g q).set q (x.tdiv g) = shortTo xs g (q + 1)) := by show _ = _; rw [← hx]; exact shortTo_succ hlt
      rw [hx] at c1 hmx
      have HST := Lib.hid (HOR.out.stored q (x.tdiv g))
      obtain ⟨t1, t2⟩ := tdiv_mid hmx hg1
      have w1 : wrap64 (x.tdiv g) = x.tdiv g := IntWalk.wrap64_in _ (by omega)
      have w2 : IntKind.i64.wrap (x.tdiv g) = x.tdiv g := IntWalk.i64_in _ (by omega)
      clear hv hx
      go_wp2
      go_roundw
      case rel => exact ⟨q + 1, by omega, by go_num, by rw [← HN.out]; exact HST.out, HB.out.setCell _ _, HBB.out.setCell HG.2 _⟩
      case measure => simp [intOf]; omega
    · obtain rfl : q = xs.length := by omega
      rw [HF.out] at HOR
      go_wp2
      go_ret
      exact ⟨rfl, HB.out, HBB.out, HOR.out⟩
end Go.Proofs.YtfnomiingelfaaaGreat
/- Whether a list has a number; rank and free of a reduction: contracts. -/
namespace Go.Proofs.YtfnomiingelfaaaGreat
open Go.RowKit

def firstAt (xs : List Int) (v : Int) : Nat → Nat → Option Nat
  | 0, _ => none
  | n + 1, i => if gt xs i = v then some i else firstAt xs v n (i + 1)
theorem firstAt_skip {xs : List Int} {v : Int} : ∀ (k n i : Nat), k ≤ n → (∀ j, j < k → gt xs (i + j) ≠ v) → firstAt xs v n i = firstAt xs v (n - k) (i + k)
  | 0, n, i, _, _ => by simp
  | k + 1, n, i, h, hz => by
    obtain ⟨n', rfl⟩ : ∃ n', n = n' + 1 := ⟨n - 1, by omega⟩
    have h0 := hz 0 (by omega)
    rw [Nat.add_zero] at h0
    rw [show firstAt xs v (n' + 1) i = firstAt xs v n' (i + 1) by conv => lhs; unfold firstAt; rw [if_neg h0]]
    rw [firstAt_skip k n' (i + 1) (by omega) (fun j hj => by have := hz (j + 1) (by omega); rwa [show i + (j + 1) = i + 1 + j by omega] at this)]
    rw [show n' + 1 - (k + 1) = n' - k by omega, show i + 1 + k = i + (k + 1) by omega]
def indexV (xs : List Int) (v : Int) : Int := match firstAt xs v xs.length 0 with | some i => (i : Int) | none => -1
theorem indexV_hit {xs : List Int} {v : Int} {k : Nat} (h : k < xs.length) (hz : ∀ j, j < k → gt xs j ≠ v) (hk : gt xs k = v) : indexV xs v = k := by
  have e := firstAt_skip k xs.length 0 (by omega) (fun j hj => by rw [Nat.zero_add]; exact hz j hj)
  obtain ⟨d, hd⟩ : ∃ d, xs.length - k = d + 1 := ⟨xs.length - k - 1, by omega⟩
  unfold indexV
  rw [e, hd, Nat.zero_add]; unfold firstAt; rw [if_pos hk]
theorem indexV_miss {xs : List Int} {v : Int} (hz : ∀ j, j < xs.length → gt xs j ≠ v) : indexV xs v = -1 := by
  have e := firstAt_skip xs.length xs.length 0 (Nat.le_refl _) (fun j hj => by rw [Nat.zero_add]; exact hz j hj)
  unfold indexV
  rw [e, Nat.sub_self]; rfl
theorem indexV_mem {xs : List Int} {v : Int} : decide (0 ≤ indexV xs v) = decide (v ∈ xs) := by
  by_cases h : v ∈ xs
  · have : ∃ k, k < xs.length ∧ gt xs k = v := by
      obtain ⟨k, hk, e⟩ := List.mem_iff_getElem.1 h
      exact ⟨k, hk, by unfold gt; rw [List.getElem?_eq_getElem hk, Option.getD_some]; exact e⟩
    have hex : ∃ k, k < xs.length ∧ gt xs k = v ∧ ∀ j, j < k → gt xs j ≠ v := by
      obtain ⟨k, hk, e⟩ := this
      induction k using Nat.strongRecOn with
      | _ k ih =>
        by_cases hj : ∃ j, j < k ∧ gt xs j = v
        · obtain ⟨j, j1, j2⟩ := hj
          exact ih j j1 (by omega) j2
        · exact ⟨k, hk, e, fun j j1 j2 => hj ⟨j, j1, j2⟩⟩
    obtain ⟨k, k1, k2, k3⟩ := hex
    rw [indexV_hit k1 k3 k2]
    simp [h]
  · rw [indexV_miss (fun j hj e => h (by rw [← e]; unfold gt; rw [List.getElem?_eq_getElem hj, Option.getD_some]; exact List.getElem_mem hj))]
    simp [h]
set_option maxRecDepth 100000 in
theorem index_any (a : Option Addr) (xs : List Int) (cap : Nat) (v : Int) (w : World) (hl : xs.length ≤ 1000) (hs : Sl w a xs) :
    Calls Tryz.prog 161 #[.slice a xs.length cap, .int .i64 v] w fun e w' => e = .returned (.int .i64 (indexV xs v)) ∧ w = w' := by
  have HS := Lib.hid hs; clear hs
  go_enter Tryz.func161, Tryz.ntmps161
  go_wp2
  go_loop [8] (fun i => ∃ k : Nat, k ≤ xs.length ∧ i = .int .i64 k ∧ Hid (∀ j, j < k → gt xs j ≠ v)) (fun i => xs.length - (intOf i).toNat)
  case atStart => exact ⟨0, Nat.zero_le _, rfl, fun j hj => by omega⟩
  case round =>
    obtain ⟨k, hk, rfl, HZ⟩ := hrel
    by_cases hlt : k < xs.length
    · obtain ⟨b, off, x, rfl, hcell, HX⟩ := HS.out.at hlt
      have HG := Lib.hid (gt_some' HX.out)
      by_cases hx : v = x
      · have e0 : (v == x) = true := by simpa using hx
        have HV : Hid (indexV xs v = k) := indexV_hit hlt HZ.out (by rw [HG.out]; exact hx.symm)
        clear hx
        go_wp2
        go_ret
        exact ⟨ret_i64 (by rw [HV.out]), rfl⟩
      · have e0 : (v == x) = false := by simpa using hx
        have HZ2 : Hid (∀ j, j < k + 1 → gt xs j ≠ v) := fun j hj => by
          by_cases e : j = k
          · rw [e, HG.out]; exact fun e => hx e.symm
          · exact HZ.out j (by omega)
        clear hx
        go_wp2
        go_round
        case rel => exact ⟨k + 1, by omega, by go_num, HZ2⟩
        case measure => simp [intOf]; omega
    · obtain rfl : k = xs.length := by omega
      have HV := Lib.hid (indexV_miss (xs := xs) (v := v) HZ.out)
      go_wp2
      go_ret
      exact ⟨ret_i64 (by rw [HV.out]), rfl⟩
theorem contains_any (a : Option Addr) (xs : List Int) (cap : Nat) (v : Int) (w : World) (hl : xs.length ≤ 1000) (hs : Sl w a xs) :
    Calls Tryz.prog 156 #[.slice a xs.length cap, .int .i64 v] w fun e w' => e = .returned (.bool (decide (v ∈ xs))) ∧ w = w' := by
  have HS := Lib.hid hs; clear hs
  go_enter Tryz.func156, Tryz.ntmps156
  go_wp2_with fail
  refine (index_any a xs cap v w hl HS.out).mono ?_
  rintro e w1 ⟨rfl, rfl⟩
  have HV := Lib.hid (indexV_mem (xs := xs) (v := v))
  go_wp2
  go_ret
  exact ⟨ret_bool (by rw [← HV.out]), rfl⟩
def freeTo (pz : List Int) : Nat → List Int
  | 0 => []
  | k + 1 => if (k : Int) ∈ pz then freeTo pz k else freeTo pz k ++ [(k : Int)]
theorem freeTo_len (pz : List Int) : ∀ k, (freeTo pz k).length ≤ k
  | 0 => Nat.le_refl _
  | k + 1 => by
    have := freeTo_len pz k
    unfold freeTo; split
    · omega
    · rw [List.length_append, List.length_singleton]; omega
def RdV (cols : Nat) (g n cap : Nat) (pv : Value) (dv : Int) : Value := .agg #[.int .i64 (cols : Int), .slice (some ⟨g, 0, none⟩) n cap, pv, .int .i64 dv]
set_option maxRecDepth 100000 in
set_option maxHeartbeats 800000 in
theorem free_any (cols g n cap : Nat) (pa : Option Addr) (pz : List Int) (pc : Nat) (dv : Int) (w : World) (hc : cols ≤ 100) (hl : pz.length ≤ 1000) (hs : Sl w pa pz) :
    Calls Tryz.prog 154 #[RdV cols g n cap (.slice pa pz.length pc) dv] w fun e w' => Below w.heap.size w w' ∧ ∃ a k, e = .returned (.slice a (freeTo pz cols).length k) ∧ Sl w' a (freeTo pz cols) := by
  have HS := Lib.hid hs; clear hs
  unfold RdV
  go_enter Tryz.func154, Tryz.ntmps154
  have HB0 : Hid (Below w.heap.size w (w.alloc (.cells #[.int .i64 (cols : Int), .slice (some ⟨g, 0, none⟩) n cap, .slice pa pz.length pc, .int .i64 dv] 113))) := (Below.refl _ _).alloc (Nat.le_refl _) _
  have hc0 : (w.alloc (.cells #[.int .i64 (cols : Int), .slice (some ⟨g, 0, none⟩) n cap, .slice pa pz.length pc, .int .i64 dv] 113)).cell? ⟨w.heap.size, 0, none⟩ = some (.int .i64 (cols : Int)) := alloc_cell _ _ _ _ _ rfl
  have HC2 : Hid ((w.alloc (.cells #[.int .i64 (cols : Int), .slice (some ⟨g, 0, none⟩) n cap, .slice pa pz.length pc, .int .i64 dv] 113)).cell? ⟨w.heap.size, 2, none⟩ = some (.slice pa pz.length pc)) := alloc_cell _ _ _ _ _ rfl
  have hsz : w.heap.size < (w.alloc (.cells #[.int .i64 (cols : Int), .slice (some ⟨g, 0, none⟩) n cap, .slice pa pz.length pc, .int .i64 dv] 113)).heap.size := by rw [World.size_alloc]; omega
  go_wp2
  generalize (w.alloc (.cells #[.int .i64 (cols : Int), .slice (some ⟨g, 0, none⟩) n cap, .slice pa pz.length pc, .int .i64 dv] 113)) = V at *
  clear hc0
  go_loopw [3, 7] (fun v i wr => ∃ k : Nat, k ≤ cols ∧ i = .int .i64 k ∧ OwnI wr V.heap.size v (freeTo pz k) ∧ Below V.heap.size V wr) (fun _ i _ => cols - (intOf i).toNat)
  case atStart => exact ⟨0, Nat.zero_le _, rfl, OwnI.nil _ _, Below.refl _ _⟩
  case round =>
    obtain ⟨k, hk, rfl, hO, hB⟩ := hrel
    have HO := Lib.hid hO; clear hO
    have HB := Lib.hid hB; clear hB
    have HBw : Hid (Below w.heap.size w wr) := HB0.out.trans (HB.out.mono (Nat.le_of_lt hsz))
    by_cases hlt : k < cols
    · have c2 : wr.cell? ⟨w.heap.size, 2, none⟩ = some (.slice pa pz.length pc) := (HB.out.cell (p := ⟨w.heap.size, 2, none⟩) hsz).trans HC2.out
      have HLEN := Lib.hid (freeTo_len pz k)
      go_wp2_with fail
      refine (contains_any pa pz pc (k : Int) wr hl (HS.out.below HBw.out)).mono ?_
      rintro e w1 ⟨rfl, rfl⟩
      by_cases hm : (k : Int) ∈ pz
      · have HT : Hid (freeTo pz (k + 1) = freeTo pz k) := by show _ = _; conv => lhs; unfold freeTo; rw [if_pos hm]
        rw [show decide ((k : Int) ∈ pz) = true by simpa using hm]
        clear hm c2
        go_wp2
        go_roundw
        case rel => exact ⟨k + 1, by omega, by go_num, by rw [HT.out]; exact HO.out, HB.out⟩
        case measure => simp [intOf]; omega
      · have HT : Hid (freeTo pz (k + 1) = freeTo pz k ++ [(k : Int)]) := by show _ = _; conv => lhs; unfold freeTo; rw [if_neg hm]
        rw [show decide ((k : Int) ∈ pz) = false by simpa using hm]
        clear hm c2
        go_wp2_with (at_builtin; go_must (refine wpList_push rfl (.tmp 15) (.tmp 17) rfl V.heap.size _ (freeTo pz k) _ _ _ _ rfl rfl rfl HO.out (by have := HLEN.out; omega) HB.out.size ?_); intro v' w9 ho' hb')
        go_roundw
        case rel => exact ⟨k + 1, by omega, by go_num, by rw [HT.out]; exact ho', HB.out.trans hb'⟩
        case measure => simp [intOf]; omega
    · obtain rfl : k = cols := by omega
      obtain ⟨a5, c5, rfl, s5⟩ := HO.out.any
      have S5 := Lib.hid s5; clear s5
      go_wp2
      go_ret
      exact ⟨HBw.out, a5, c5, rfl, S5.out⟩
end Go.Proofs.YtfnomiingelfaaaGreat
/- kernel, rank and nothing of layer 3: contracts. -/
namespace Go.Proofs.YtfnomiingelfaaaGreat
open Go.RowKit

theorem nothing_any (i : Int) (w : World) : Calls Tryz.prog 91 #[.int .i64 i] w fun e w' => e = .returned (.slice none 0 0) ∧ w = w' := by
  go_enter Tryz.func91, Tryz.ntmps91
  go_wp2
  go_ret
  exact ⟨rfl, rfl⟩
theorem rank_any (cols g n cap : Nat) (pa : Option Addr) (pz : List Int) (pc : Nat) (dv : Int) (w : World) :
    Calls Tryz.prog 92 #[RdV cols g n cap (.slice pa pz.length pc) dv] w fun e w' => e = .returned (.int .i64 pz.length) ∧ Below w.heap.size w w' := by
  unfold RdV
  have HB0 : Hid (Below w.heap.size w (w.alloc (.cells #[.int .i64 (cols : Int), .slice (some ⟨g, 0, none⟩) n cap, .slice pa pz.length pc, .int .i64 dv] 113))) := (Below.refl _ _).alloc (Nat.le_refl _) _
  have c2 : (w.alloc (.cells #[.int .i64 (cols : Int), .slice (some ⟨g, 0, none⟩) n cap, .slice pa pz.length pc, .int .i64 dv] 113)).cell? ⟨w.heap.size, 2, none⟩ = some (.slice pa pz.length pc) := alloc_cell _ _ _ _ _ rfl
  go_enter Tryz.func92, Tryz.ntmps92
  go_wp2
  go_ret
  exact ⟨rfl, HB0.out⟩
def kerTo (cols : Nat) (M : List (List Int)) (pz : List Int) (dv : Int) (fr : Nat) : Nat → List Int
  | 0 => (List.replicate cols (0 : Int)).set fr dv
  | k + 1 => (kerTo cols M pz dv fr k).set (gt pz k).toNat (IntKind.i64.wrap (-gt (rowL M k) fr))
theorem kerTo_len (cols : Nat) (M : List (List Int)) (pz : List Int) (dv : Int) (fr : Nat) : ∀ k, (kerTo cols M pz dv fr k).length = cols
  | 0 => by simp [kerTo]
  | k + 1 => by unfold kerTo; rw [List.length_set]; exact kerTo_len cols M pz dv fr k
def kerL (cols : Nat) (M : List (List Int)) (pz : List Int) (dv : Int) (fr : Nat) : List Int := shortL (kerTo cols M pz dv fr pz.length)
set_option maxRecDepth 100000 in
set_option maxHeartbeats 1600000 in
theorem kernel_any (base cols g cap : Nat) (ads : List (Nat × Nat)) (M : List (List Int)) (pa : Option Addr) (pz : List Int) (pc : Nat) (dv : Int) (fr : Nat) (w : World) (hc : cols ≤ 100) (hf : fr < cols) (hl : pz.length ≤ M.length) (hM : M.length ≤ 100) (hp : ∀ k, k < pz.length → 0 ≤ gt pz k ∧ gt pz k < cols)
    (hrl : ∀ r ∈ M, fr < r.length) (hmid : ∀ x ∈ kerTo cols M pz dv fr pz.length, Mid x) (hg : gcdL (kerTo cols M pz dv fr pz.length) ≠ 0) (hs : Sl w pa pz) (hsi : SI w base g ads M) :
    Calls Tryz.prog 155 #[RdV cols g M.length cap (.slice pa pz.length pc) dv, .int .i64 (fr : Int)] w fun e w' => Below w.heap.size w w' ∧ ∃ b k, e = .returned (.slice (some ⟨b, 0, none⟩) cols k) ∧ OwnI w' w.heap.size (.slice (some ⟨b, 0, none⟩) cols k) (kerL cols M pz dv fr) := by
  have HS := Lib.hid hs; clear hs
  have HSI := Lib.hid hsi; clear hsi
  have HP := Lib.hid hp; clear hp
  have HRL := Lib.hid hrl; clear hrl
  have HMID := Lib.hid hmid; clear hmid
  have HG := Lib.hid hg; clear hg
  obtain ⟨i0, hi, hz0, hz1, hz2⟩ := info_parts Tryz.infoInt
  unfold RdV
  go_enter Tryz.func155, Tryz.ntmps155
  have HB0 : Hid (Below w.heap.size w (w.alloc (.cells #[.int .i64 (cols : Int), .slice (some ⟨g, 0, none⟩) M.length cap, .slice pa pz.length pc, .int .i64 dv] 113))) := (Below.refl _ _).alloc (Nat.le_refl _) _
  have c0 : (w.alloc (.cells #[.int .i64 (cols : Int), .slice (some ⟨g, 0, none⟩) M.length cap, .slice pa pz.length pc, .int .i64 dv] 113)).cell? ⟨w.heap.size, 0, none⟩ = some (.int .i64 (cols : Int)) := alloc_cell _ _ _ _ _ rfl
  have HC1 : Hid ((w.alloc (.cells #[.int .i64 (cols : Int), .slice (some ⟨g, 0, none⟩) M.length cap, .slice pa pz.length pc, .int .i64 dv] 113)).cell? ⟨w.heap.size, 1, none⟩ = some (.slice (some ⟨g, 0, none⟩) M.length cap)) := alloc_cell _ _ _ _ _ rfl
  have HC2 : Hid ((w.alloc (.cells #[.int .i64 (cols : Int), .slice (some ⟨g, 0, none⟩) M.length cap, .slice pa pz.length pc, .int .i64 dv] 113)).cell? ⟨w.heap.size, 2, none⟩ = some (.slice pa pz.length pc)) := alloc_cell _ _ _ _ _ rfl
  have HC3 : Hid ((w.alloc (.cells #[.int .i64 (cols : Int), .slice (some ⟨g, 0, none⟩) M.length cap, .slice pa pz.length pc, .int .i64 dv] 113)).cell? ⟨w.heap.size, 3, none⟩ = some (.int .i64 dv)) := alloc_cell _ _ _ _ _ rfl
  have hsz : w.heap.size < (w.alloc (.cells #[.int .i64 (cols : Int), .slice (some ⟨g, 0, none⟩) M.length cap, .slice pa pz.length pc, .int .i64 dv] 113)).heap.size := by rw [World.size_alloc]; omega
  go_wp2_with (with_reducible refine wpList_make_full _ rfl (.tmp 9) (.tmp 9) 24 rfl (w.alloc (.cells #[.int .i64 (cols : Int), .slice (some ⟨g, 0, none⟩) M.length cap, .slice pa pz.length pc, .int .i64 dv] 113)).heap.size 3 i0 (.int .i64 0) 1 Tryz.underlying24 hi hz0 hz1 .i64 .i64 (cols : Int) (cols : Int) cols rfl rfl rfl rfl (by rw [hz2]; omega) (by unfold maxLen; omega) (Nat.le_refl _) ?_)
  rotate_left
  intro w4 hown hgrow
  have hsz1 : (w.alloc (.cells #[.int .i64 (cols : Int), .slice (some ⟨g, 0, none⟩) M.length cap, .slice pa pz.length pc, .int .i64 dv] 113)).heap.size = w.heap.size + 1 := World.size_alloc _ _
  have HO4 : Hid (OwnI w4 w.heap.size (.slice (some ⟨w.heap.size + 1, 0, none⟩) cols cols) (List.replicate cols 0)) := by
    have z := zeros_are cols
    rw [Nat.mul_one] at z
    refine OwnI.mono (base := w.heap.size + 1) ?_ (Nat.le_succ _)
    show w4.ownsRow _ _ _ _ _ _
    rw [List.length_replicate, ← z]; exact hown
  have hb4 : Below (w.heap.size + 1) (w.alloc (.cells #[.int .i64 (cols : Int), .slice (some ⟨g, 0, none⟩) M.length cap, .slice pa pz.length pc, .int .i64 dv] 113)) w4 := (Below.refl (w.heap.size + 1) _).grown hgrow (by rw [hsz1]; exact Nat.le_refl _) (fun k e => by cases e)
  have HB4 : Hid (Below w.heap.size w w4) := HB0.out.trans (hb4.mono (Nat.le_succ _))
  have HD1 : Hid (w4.cell? ⟨w.heap.size, 1, none⟩ = some (.slice (some ⟨g, 0, none⟩) M.length cap)) := (hb4.cell (p := ⟨w.heap.size, 1, none⟩) (Nat.lt_succ_self _)).trans HC1.out
  have HD2 : Hid (w4.cell? ⟨w.heap.size, 2, none⟩ = some (.slice pa pz.length pc)) := (hb4.cell (p := ⟨w.heap.size, 2, none⟩) (Nat.lt_succ_self _)).trans HC2.out
  have d3 : w4.cell? ⟨w.heap.size, 3, none⟩ = some (.int .i64 dv) := (hb4.cell (p := ⟨w.heap.size, 3, none⟩) (Nat.lt_succ_self _)).trans HC3.out
  have HK0 : Hid ((List.replicate cols (0 : Int)).set fr dv = kerTo cols M pz dv fr 0) := rfl
  obtain ⟨cz, fz⟩ := HO4.out.cell (j := fr) (by rw [List.length_replicate]; exact hf)
  have HO5 := Lib.hid (HO4.out.stored fr dv)
  have HON : Hid (OnlyB (w.heap.size + 1) w4 (w4.setCell ⟨w.heap.size + 1, fr, none⟩ (.int .i64 dv))) := (OnlyB.refl _ _).setCell fr _
  have HB5 : Hid (Below w.heap.size w (w4.setCell ⟨w.heap.size + 1, fr, none⟩ (.int .i64 dv))) := HB4.out.setCell (p := ⟨w.heap.size + 1, fr, none⟩) (Nat.le_succ _) _
  have d2' : (w4.setCell ⟨w.heap.size + 1, fr, none⟩ (.int .i64 dv)).cell? ⟨w.heap.size, 2, none⟩ = some (.slice pa pz.length pc) := (HON.out.cell (by omega)).trans HD2.out
  clear hown hgrow hb4 hsz hsz1 c0
  go_wp2
  clear d2' d3 cz fz
  go_loopw [19] (fun i wr => ∃ k : Nat, k ≤ pz.length ∧ i = .int .i64 k ∧ OwnI wr w.heap.size (.slice (some ⟨w.heap.size + 1, 0, none⟩) cols cols) (kerTo cols M pz dv fr k) ∧ OnlyB (w.heap.size + 1) w4 wr ∧ Below w.heap.size w wr) (fun i _ => pz.length - (intOf i).toNat)
  case atStart => exact ⟨0, Nat.zero_le _, rfl, HO5.out, HON.out, HB5.out⟩
  case round =>
    clear HO5 HON HB5 HO4
    obtain ⟨k, hk, rfl, hO, hN, hB⟩ := hrel
    have HO := Lib.hid hO; clear hO
    have HN := Lib.hid hN; clear hN
    have HB := Lib.hid hB; clear hB
    by_cases hlt : k < pz.length
    · obtain ⟨pb, po, v, rfl, hcv, HV⟩ := (HS.out.below HB.out).at hlt
      have hgv := gt_some' HV.out
      have hvr := HP.out k hlt
      rw [hgv] at hvr
      obtain ⟨j, rfl⟩ := Int.eq_ofNat_of_zero_le hvr.1
      have hj : j < cols := by omega
      have hkM : k < M.length := by omega
      obtain ⟨r, hr⟩ : ∃ r, M[k]? = some r := ⟨M[k], by simp [hkM]⟩
      obtain ⟨x, hx⟩ : ∃ x, ads[k]? = some x := ⟨ads[k]'(by rw [HSI.out.len]; exact hkM), by simp [HSI.out.len, hkM]⟩
      obtain ⟨xb, xc⟩ := x
      obtain ⟨hh, hro⟩ := (HSI.out.below HB.out).row k (xb, xc) r hx hr
      have hfr : fr < r.length := HRL.out r (List.mem_of_getElem? hr)
      dsimp only at hh
      have hcr := (OwnI.cell hro (j := fr) hfr).1
      obtain ⟨y, hy⟩ : ∃ y, gt r fr = y := ⟨_, rfl⟩
      have hcy : wr.cell? ⟨xb, fr, none⟩ = some (.int .i64 y) := by rw [← hy]; exact hcr
      have d1 : wr.cell? ⟨w.heap.size, 1, none⟩ = some (.slice (some ⟨g, 0, none⟩) M.length cap) := (HN.out.cell (by omega)).trans HD1.out
      obtain ⟨cz, fz⟩ := HO.out.cell (j := j) (by rw [kerTo_len]; exact hj)
      have HKN : Hid ((kerTo cols M pz dv fr k).set j (IntKind.i64.wrap (-y)) = kerTo cols M pz dv fr (k + 1)) := by
        show _ = _
        conv => rhs; unfold kerTo
        rw [hgv, Int.toNat_natCast, rowL_some hr, hy]
      have HST := Lib.hid (HO.out.stored j (IntKind.i64.wrap (-y)))
      clear hcr hro hgv hvr hy hx hr
      go_wp2
      go_roundw
      case rel =>
        (try rw [wrap_is])
        exact ⟨k + 1, by omega, by go_num, by rw [← HKN.out]; exact HST.out, HN.out.setCell _ _, HB.out.setCell (p := ⟨w.heap.size + 1, j, none⟩) (Nat.le_succ _) _⟩
      case measure => simp [intOf]; omega
    · obtain rfl : k = pz.length := by omega
      have HKL : Hid ((kerTo cols M pz dv fr pz.length).length = cols) := kerTo_len _ _ _ _ _ _
      have HSH : Hid (Calls Tryz.prog 160 #[.slice (some ⟨w.heap.size + 1, 0, none⟩) cols cols] wr fun e w' => e = .returned (.slice (some ⟨w.heap.size + 1, 0, none⟩) cols cols) ∧ OnlyB (w.heap.size + 1) wr w' ∧ Below w.heap.size wr w' ∧ OwnI w' w.heap.size (.slice (some ⟨w.heap.size + 1, 0, none⟩) cols cols) (kerL cols M pz dv fr)) := by
        have h := shorten_any w.heap.size (w.heap.size + 1) cols (kerTo cols M pz dv fr pz.length) wr (by rw [HKL.out]; omega) HMID.out HG.out (by rw [HKL.out]; exact HO.out)
        rw [HKL.out] at h
        exact h
      go_wp2_with fail
      refine HSH.out.mono ?_
      rintro e w6 ⟨rfl, _, hbl, hown⟩
      have HB6 := Lib.hid (HB.out.trans hbl)
      have HO6 := Lib.hid hown
      clear hbl hown
      go_wp2
      go_ret
      exact ⟨HB6.out, _, _, rfl, HO6.out⟩
end Go.Proofs.YtfnomiingelfaaaGreat
/- The rows of a reduction laid: the first loop of reduce. -/
namespace Go.Proofs.YtfnomiingelfaaaGreat
open Go.RowKit

def pixR (px : List Int) (r : List Int) : List Int := px.map fun j => gt r j.toNat
def pixM (px : List Int) (m : List (List Int)) : List (List Int) := m.map (pixR px)
theorem pixR_len (px r : List Int) : (pixR px r).length = px.length := by simp [pixR]
theorem pixR_succ {px r : List Int} {j : Nat} {p : Int} (h : px[j]? = some p) : (pixR px r).take (j + 1) = (pixR px r).take j ++ [gt r p.toNat] := by
  have hj := (List.getElem?_eq_some_iff.1 h).1
  rw [List.take_succ_eq_append_getElem (by rw [pixR_len]; exact hj)]
  have e := (List.getElem?_eq_some_iff.1 h).2
  simp [pixR, e]
def redM (m : List (List Int)) (px : List Int) : Rd := { cols := px.length, rows := pixM px m, piv := [], dv := 1 }
def redN (m : List (List Int)) (px : List Int) : Rd := clearN (redM m px) px.length
theorem redM_ok {m : List (List Int)} {px : List Int} (hm : m.length ≤ 6) (hp : px.length ≤ 10) (h64 : All64 m) : RdOk px.length (redM m px) ∧ All64 (redM m px).rows := by
  refine ⟨⟨?_, ?_, by omega, ?_, by simp [redM]⟩, ?_⟩
  · show (pixM px m).length ≤ 100; rw [pixM, List.length_map]; omega
  · intro q hq; obtain ⟨r, _, rfl⟩ := List.mem_map.1 hq; exact pixR_len _ _
  · exact Nat.zero_le _
  · intro q hq x hx
    obtain ⟨r, hr, rfl⟩ := List.mem_map.1 hq
    obtain ⟨j, _, rfl⟩ := List.mem_map.1 hx
    exact gt_in64 (h64 r hr) _
set_option maxRecDepth 100000 in
set_option maxHeartbeats 1600000 in
theorem reduce_t2 {base B T : Nat} {ma : Option Addr} {m : List (List Int)} {mc : Nat} {pxa : Option Addr} {px : List Int} {pxc : Nat} {w w0 : World} (hbB : base ≤ B) (hm : Hid (m.length ≤ 6)) (hpx : Hid (px.length ≤ 10)) (hin : Hid (∀ j ∈ px, 0 ≤ j ∧ j < colsM m)) (hrl : Hid (∀ r ∈ m, r.length = colsM m))
    (hms : Hid (∀ {W : World}, Below base w0 W → Ms W ma m)) (hps : Hid (∀ {W : World}, Below base w0 W → Sl W pxa px)) (hB : B < w.heap.size)
    (hbx : Hid (RB B (px.length : Int) (.slice none 0 0) w)) (hb0 : Hid (Below base w0 w)) (hm1 : Hid (1 ≤ m.length)) (h64 : Hid (All64 m)) (hT : T < base) (hTw : T < w0.heap.size) (hTx : Hid (∀ k, k < 4 → (∃ u, w0.cell? ⟨T, k, none⟩ = some u) ∧ w0.frozen? ⟨T, k, none⟩ = false)) (u3 u4 u5 u8 u9 u10 u11 u12 u13 u14 u15 u16 u17 u18 u19 u20 u21 u22 u23 u24 u25 u26 u27 u28 u29 u30 u31 u32 u33 u34 u35 u36 u37 u38 u39 u40 u41 u42 u43 u44 u45 u46 u47 u48 u49 u50 u51 u52 u53 u54 u55 u56 u57 u58 : Value) (R : Ending → World → Prop)
    (hR : Hid (∀ (g cap : Nat) (ads' : List (Nat × Nat)) (pa : Option Addr) (pc : Nat) (W : World), RdW base B g cap ads' (.slice pa (redN m px).piv.length pc) (redN m px) W → Below base w0 W → R (.returned (rdV g cap pa pc (redN m px))) (rdBox T g cap pa pc (redN m px) W))) :
    Code.wp Tryz.prog (seqTail 2 ((Tryz.f90.body).getD .skip)) (bodyPost Tryz.prog Tryz.f90 R) { tmps := #[.slice ma m.length mc, .slice pxa px.length pxc, .func (.func 91) #[] #[], u3, u4, u5, .pointer (some ⟨T, 0, none⟩), .pointer (some ⟨B, 0, none⟩), u8, u9, u10, u11, u12, u13, u14, u15, u16, u17, u18, u19, u20, u21, u22, u23, u24, u25, u26, u27, u28, u29, u30, u31, u32, u33, u34, u35, u36, u37, u38, u39, u40, u41, u42, u43, u44, u45, u46, u47, u48, u49, u50, u51, u52, u53, u54, u55, u56, u57, u58], defers := [] } w := by
  conv => arg 2; whnf
  refine wp_seq_k (fun K hK => ?_)
  have HK := Lib.hid hK; clear hK
  obtain ⟨i0, hi, hz0, hz1, hz2⟩ := info_parts Tryz.infoInt
  go_wp2
  go_loopw [19] (fun i wr => ∃ (k : Nat) (rv : Value) (ads : List (Nat × Nat)), k ≤ m.length ∧ i = .int .i64 k ∧ Hid (RS base rv ads ((pixM px m).take k) wr) ∧ Hid (RB B (px.length : Int) rv wr) ∧ Hid (rv.ownBlock ≠ some B ∧ ∀ (i : Nat) (x : Nat × Nat), ads[i]? = some x → x.1 ≠ B) ∧ Below base w0 wr ∧ B < wr.heap.size) (fun i _ => m.length - (intOf i).toNat)
  case atStart => exact ⟨0, _, [], Nat.zero_le _, rfl, ⟨rfl, World.ownsRow_nil _ _ _ _, fun i x r h => by simp at h, fun i j x y h => by simp at h, fun i x h => by simp at h⟩, hbx, ⟨by simp [Value.ownBlock], fun i x h => by simp at h⟩, hb0.out, hB⟩
  case round =>
    obtain ⟨k, rv, ads, hk, rfl, HRS, HBX, HNE, hbl, hBl⟩ := hrel
    have HBL := Lib.hid hbl; clear hbl
    by_cases hlt : k < m.length
    · obtain ⟨b1, o1, ai, r, ci, rfl, hcell, hsl, HR⟩ := (hms.out HBL.out).at hlt
      have HSL := Lib.hid hsl; clear hsl
      have hbw : base ≤ wr.heap.size := by omega
      go_wp2_with (with_reducible refine wpList_make_own _ rfl (.const (.int .i64 0)) (.const (.int .i64 20)) 24 rfl wr.heap.size 3 i0 (.int .i64 0) 1 Tryz.underlying24 hi hz0 hz1 .i64 .i64 20 20 rfl rfl rfl (by rw [hz2]; omega) (by unfold maxLen; omega) (Nat.le_refl _) ?_)
      rotate_left
      intro w4 hown hgrow
      have HO4 : Hid (OwnI w4 wr.heap.size (.slice (some ⟨wr.heap.size, 0, none⟩) 0 20) []) := hown
      have HB4 : Hid (Below wr.heap.size wr w4) := (Below.refl _ _).grown hgrow (Nat.le_refl _) (fun k e => by cases e)
      clear hown hgrow
      obtain ⟨G, hG⟩ : ∃ G, wr.heap.size = G := ⟨_, rfl⟩
      rw [hG] at HO4 HB4
      have HGB : Hid (∀ {W : World}, Below G wr W → Below wr.heap.size wr W) := fun h => by rw [hG]; exact h
      rw [hG]
      have HGS : Hid (∀ {W : World}, Below G wr W → G ≤ W.heap.size) := fun h => by have := h.size; omega
      have hGb : base ≤ G := by omega
      have HGE := Lib.hid hG
      clear hG
      have hpx10 : px.length ≤ 10 := hpx.out
      go_wp2
      go_loopw [10, 27] (fun v i wq => ∃ j : Nat, j ≤ px.length ∧ i = .int .i64 j ∧ OwnI wq G v ((pixR px r).take j) ∧ Below G wr wq ∧ ∃ b c, v = .slice (some ⟨b, 0, none⟩) j c) (fun _ i _ => px.length - (intOf i).toNat)
      case atStart => exact ⟨0, Nat.zero_le _, rfl, HO4.out, HB4.out, _, _, rfl⟩
      case round =>
        clear HO4 HB4
        obtain ⟨j, hj, rfl, hO, hB, nb, nc, hvv⟩ := hrel
        subst hvv
        have HO := Lib.hid hO; clear hO
        have HB := Lib.hid hB; clear hB
        have HBq : Hid (Below base w0 wr) := HBL.out.trans (HB.out.mono hGb)
        by_cases hlj : j < px.length
        · obtain ⟨pb, po, v, rfl, hcv, HV⟩ := (hps.out HBq.out).at hlj
          have hvr := hin.out v (List.mem_of_getElem? HV.out)
          have HRC : Hid (r.length = colsM m) := hrl.out r (List.mem_of_getElem? HR.out)
          obtain ⟨q, rfl⟩ := Int.eq_ofNat_of_zero_le hvr.1
          have hq : q < r.length := by have := HRC.out; omega
          obtain ⟨rb, ro, x, rfl, hcx, HX⟩ := (HSL.out.below (HGB.out HB.out)).at hq
          have HT : Hid ((pixR px r).take (j + 1) = (pixR px r).take j ++ [x]) := by show _ = _; rw [pixR_succ HV.out, Int.toNat_natCast, gt_some' HX.out]
          have HTL : Hid (((pixR px r).take j).length = j) := by show _ = _; rw [List.length_take, pixR_len]; omega
          obtain ⟨TT, hTT⟩ : ∃ TT, (pixR px r).take j = TT := ⟨_, rfl⟩
          rw [hTT] at HO HT HTL
          clear hvr hTT
          go_wp2_with (at_builtin; go_must (refine wpList_pushG0 rfl (.tmp 31) (.tmp 36) rfl G _ TT _ _ _ _ rfl rfl rfl HO.out (by rw [HTL.out]; omega) (HGS.out HB.out) ?_); intro g7 c7 w9 ho' _ hb' _)
          go_roundw
          case rel => exact ⟨j + 1, by omega, by go_num, by rw [HT.out]; exact ho', HB.out.trans hb', g7, c7, by rw [HTL.out]⟩
          case measure => simp [intOf]; omega
        · obtain rfl : j = px.length := by omega
          rw [List.take_of_length_le (by rw [pixR_len]; exact Nat.le_refl _)] at HO
          have HPXL : Hid (px.length = (pixR px r).length) := (pixR_len px r).symm
          rw [HPXL.out] at HO
          rw [show Value.slice (some ⟨nb, 0, none⟩) px.length nc = Value.slice (some ⟨nb, 0, none⟩) (pixR px r).length nc by rw [pixR_len]]
          have hBG : B < G := by have := HGE.out; omega
          have cB : wr.cell? ⟨B, 1, none⟩ = some rv := (HB.out.cell (p := ⟨B, 1, none⟩) hBG).trans HBX.out.c1
          have fB : wr.frozen? ⟨B, 1, none⟩ = false := (HB.out.frozen (p := ⟨B, 1, none⟩) hBG).trans HBX.out.f1
          have HBX2 : Hid (RB B (px.length : Int) rv wr) := HBX.out.kept (HB.out.block B hBG)
          have HNBL : Hid (nb < wr.heap.size) := (OwnI.lt HO.out).1
          have HRS2 : Hid (RS base rv ads ((pixM px m).take k) wr) := HRS.out.below (HGB.out HB.out)
          have HK2 : Hid (((pixM px m).take k).length = k) := by show _ = _; rw [List.length_take, pixM, List.length_map]; omega
          obtain ⟨Mk, hMk⟩ : ∃ Mk, (pixM px m).take k = Mk := ⟨_, rfl⟩
          rw [hMk] at HRS2 HK2
          have HMT : Hid (Mk ++ [pixR px r] = (pixM px m).take (k + 1)) := by
            show _ = _
            have e := (List.getElem?_eq_some_iff.1 HR.out)
            rw [← hMk, List.take_succ_eq_append_getElem (by rw [pixM, List.length_map]; exact e.1)]
            simp [pixM, e.2]
          have HMK := Lib.hid hMk
          clear hMk
          have lBq : B < wr.heap.size := by have := HGS.out HB.out; omega
          have hbq : base ≤ wr.heap.size := by omega
          have HNCL : (pixR px r).length ≤ nc := OwnI.cap_le HO.out
          have HBQ : Hid (Below base w0 wr) := HBL.out.trans (HB.out.mono hGb)
          have HRW : Hid (OwnI wr base (.slice (some ⟨nb, 0, none⟩) (pixR px r).length nc) (pixR px r)) := HO.out.mono hGb
          have HAPP : Hid ((∀ (i : Nat) (x : Nat × Nat), ads[i]? = some x → x.1 ≠ nb) ∧ rv.ownBlock ≠ some nb) := by
            have e1 := HGE.out
            have e2 := (OwnI.lt HO.out).2
            refine ⟨fun i x e => ?_, fun e => ?_⟩
            · have := (HRS.out.out i x e).2.1; omega
            · have := (World.ownsRow.lt HRS.out.own nb e).2; omega
          have HBN : Hid (B < nb) := by have e2 := (OwnI.lt HO.out).2; show B < nb; omega
          go_wp2
          go_region_law (first | (go_simp; go_at_call 91; refine (nothing_any _ _).mono ?_; rintro e wz ⟨rfl, rfl⟩) | (refine step_pushRow rfl (.tmp 40) (.tmp 46) rfl base rv ads Mk (pixR px r) nb nc _ _ (by rfl) (by rfl) (by go_simp) ((HRS2.out.below ((Below.refl _ _).alloc (Nat.le_refl _) _).drew)) (HRW.out.below ((Below.refl _ _).alloc (Nat.le_refl _) _).drew) HAPP.out.1 HAPP.out.2 (by rw [HK2.out]; have := hm.out; omega) (by simp; omega) ?_; intro G2 cp2 w9 ho9 hg9 hat9; have hk9 := (hg9.block B (by simp; omega) (fun e => HNE.out.1 e.symm)).trans (((Below.refl wr.heap.size wr).alloc (Nat.le_refl _) _).drew.block B lBq); have c9 := (cell_of_block hk9 1).trans cB; have f9 := (frozen_of_block' hk9 1).trans fB; have HB9 := Lib.hid (HBX2.out.kept hk9)))
          all_goals
            have key := rs_pushed HBQ.out hbB lBq HRS2.out HNE.out HBN.out ho9 hg9 hat9 HB9.out
            have KEY := Lib.hid key
            clear key ho9 hg9 hat9 hk9 c9 f9
            have hk6 : m.length ≤ 6 := hm.out
            go_wp2
            go_roundw
            case rel => exact ⟨k + 1, _, ads ++ [(nb, nc)], hlt, by go_num, HMT.out ▸ KEY.out.1, KEY.out.2.1, KEY.out.2.2.1, KEY.out.2.2.2.1, KEY.out.2.2.2.2⟩
            case measure => simp [intOf]; omega
    · obtain rfl : k = m.length := by omega
      have HOK := Lib.hid (redM_ok hm.out hpx.out h64.out)
      have hRS := HRS.out
      rw [List.take_of_length_le (by rw [pixM, List.length_map]; exact Nat.le_refl _)] at hRS
      obtain ⟨g, cap, rfl, hgc, hW⟩ := hRS.reduction (by rw [pixM, List.length_map]; exact hm1.out) hbB HNE.out HBX.out
      have HWW : Hid (RdW base B g cap ads (.slice none 0 0) (redM m px) wr) := hW
      have HGC := Lib.hid hgc
      clear hW hRS hgc
      go_wp2
      refine HK.out _ _ ?_
      refine reduce_t3 (N := px.length) (r := redM m px) hT hTw HOK.out.1 HOK.out.2 (Nat.le_refl _) (by have := hpx.out; omega) HGC.out hTx HWW HBL _ _ _ _ _ _ _ _ _ _ _ _ _ _ _ _ _ _ _ _ _ _ _ _ _ _ _ _ _ _ _ _ _ _ _ _ _ _ _ _ _ _ _ _ _ _ _ _ _ _ _ _ _ _ _ _ R (hR.out g cap)
end Go.Proofs.YtfnomiingelfaaaGreat
/- What a whole reduction is: pivots, free columns, and the same vectors read as 0. Plain words. Speaks of no program. -/
namespace Go.Proofs.YtfnomiingelfaaaGreat
open Go.RowKit

structure RFin (R N cols : Nat) (A0 : Nat → Nat → Int) (r : Rd) : Prop where
  len : r.rows.length = R
  row : ∀ q ∈ r.rows, q.length = N
  pl : r.piv.length ≤ R
  pz : ∀ t, t < r.piv.length → 0 ≤ gt r.piv t ∧ gt r.piv t < cols
  asc : ∀ s t, s < t → t < r.piv.length → pivN r s < pivN r t
  pos : 0 < r.dv ∧ r.dv ≤ 720
  self : ∀ s t, s < r.piv.length → t < r.piv.length → gt (rowL r.rows t) (pivN r s) = if t = s then r.dv else 0
  low : ∀ x, r.piv.length ≤ x → x < R → ∀ c, c < cols → gt (rowL r.rows x) c = 0
  ech : ∀ t, t < r.piv.length → ∀ c, c < pivN r t → gt (rowL r.rows t) c = 0
  bd : ∀ x, x < R → ∀ c, c < cols → -720 ≤ gt (rowL r.rows x) c ∧ gt (rowL r.rows x) c ≤ 720
  bdN : ∀ x, x < R → ∀ c, c < N → -720000000 ≤ gt (rowL r.rows x) c ∧ gt (rowL r.rows x) c ≤ 720000000
  ker : ∀ w : Nat → Int, (∀ i, i < R → sumTo (fun c => A0 i c * w c) N = 0) ↔ (∀ x, x < R → sumTo (fun c => gt (rowL r.rows x) c * w c) N = 0)
theorem clearR_cols (c : Nat) (r : Rd) : (clearR c r).cols = r.cols := by unfold clearR; split <;> rfl
theorem clearN_cols (r : Rd) : ∀ k, (clearN r k).cols = r.cols
  | 0 => rfl
  | k + 1 => by rw [clearN_succ, clearR_cols, clearN_cols r k]
theorem bar_all {R N cols : Nat} {M : List (List Int)} (h1 : M.length = R) (h2 : ∀ q ∈ M, q.length = N) (hR : R ≤ 6) (hN : cols ≤ N) (hb1 : ∀ i, i < R → ∀ c, c < cols → -1 ≤ a0 M i c ∧ a0 M i c ≤ 1) (hb2 : ∀ i, i < R → ∀ c, c < N → -1000000 ≤ a0 M i c ∧ a0 M i c ≤ 1000000) :
    ∀ D, D ≤ cols → ∃ A, Bar R N D (a0 M) A (clearN { cols := cols, rows := M, piv := [], dv := 1 } D)
  | 0, _ => ⟨_, bar_start h1 h2⟩
  | D + 1, hD => by
    obtain ⟨A, hA⟩ := bar_all h1 h2 hR hN hb1 hb2 D (by omega)
    rw [clearN_succ]
    obtain ⟨r, hr⟩ : ∃ r, clearN { cols := cols, rows := M, piv := [], dv := 1 } D = r := ⟨_, rfl⟩
    rw [hr] at hA ⊢
    cases hp : pivRow r.rows D (r.rows.length - r.piv.length) r.piv.length with
    | none =>
      have e : clearR D r = r := by unfold clearR; rw [hp]
      rw [e]
      exact ⟨A, bar_skip hA (by omega) hp⟩
    | some i => exact bar_step hA hR (by omega) hN hb1 hb2 hp
theorem rd_fin {R N cols : Nat} {M : List (List Int)} (h1 : M.length = R) (h2 : ∀ q ∈ M, q.length = N) (hR : R ≤ 6) (hN : cols ≤ N) (hb1 : ∀ i, i < R → ∀ c, c < cols → -1 ≤ a0 M i c ∧ a0 M i c ≤ 1) (hb2 : ∀ i, i < R → ∀ c, c < N → -1000000 ≤ a0 M i c ∧ a0 M i c ≤ 1000000) :
    RFin R N cols (a0 M) (clearN { cols := cols, rows := M, piv := [], dv := 1 } cols) := by
  obtain ⟨A, h⟩ := bar_all h1 h2 hR hN hb1 hb2 cols (Nat.le_refl _)
  obtain ⟨r, hr⟩ : ∃ r, clearN { cols := cols, rows := M, piv := [], dv := 1 } cols = r := ⟨_, rfl⟩
  rw [hr] at h ⊢
  have hpt : ∀ t, t < r.piv.length → pivN r t < cols := fun t ht => by have := h.pz t ht; unfold pivN; omega
  have hA1 : ∀ x, x < R → ∀ c, c < cols → -1 ≤ A x c ∧ A x c ≤ 1 := fun x hx c hc => arr_bd h.arr (fun i hi => hb1 i hi c hc) x hx
  have hA2 : ∀ x, x < R → ∀ c, c < N → -1000000 ≤ A x c ∧ A x c ≤ 1000000 := fun x hx c hc => arr_bd h.arr (fun i hi => hb2 i hi c hc) x hx
  refine ⟨h.len, h.row, h.pl, h.pz, h.asc, ⟨h.pos, ?_⟩, ?_, ?_, ?_, ?_, ?_, ?_⟩
  · rw [h.dv]
    unfold dt
    have one : ∀ k, pr (fun _ => 1) k = 1 := fun k => by
      induction k with
      | zero => rfl
      | succ k ih => simp only [pr]; rw [ih]; rfl
    have hd := detC_bd r.piv.length (colF A (pivN r)) (fun _ => 1) (fun _ _ => Int.one_nonneg) (fun s hs i hi => hA1 i (by have := h.pl; omega) _ (hpt s hs))
    rw [one, Int.mul_one] at hd
    have : fc r.piv.length ≤ fc 6 := fc_mono (by have := h.pl; omega)
    exact Int.le_trans (Int.le_trans hd.2 this) (by decide)
  · intro s t hs ht
    rw [h.val t (by have := h.pl; omega) _ (by have := hpt s hs; omega), mk_self h.uq hs ht, h.dv]
  · intro x h3 h4 c hc
    rw [h.val x h4 c (by omega)]; exact h.low x h3 h4 c hc
  · intro t ht c hc
    rw [h.val t (by have := h.pl; omega) c (by have := hpt t ht; omega)]; exact h.ech t ht c hc
  · intro x hx c hc
    rw [h.val x hx c (by omega)]
    exact mk_bd6 (Y := 1) (by decide) h.pl hR hx (fun i hi t ht => hA1 i hi _ (hpt t ht)) (fun i hi => hA1 i hi c hc)
  · intro x hx c hc
    rw [h.val x hx c hc]
    exact mk_bd6 (Y := 1000000) (by decide) h.pl hR hx (fun i hi t ht => hA1 i hi _ (hpt t ht)) (fun i hi => hA2 i hi c hc)
  · intro w
    rw [h.ker w, mk_ker h.uq (by have := h.pos; rw [h.dv] at this; omega) R N h.pl w]
    constructor <;> intro hz x hx <;> rw [← hz x hx] <;> refine sumTo_congr N fun c hc => ?_ <;> rw [h.val x hx c hc]
def pxOk (m : List (List Int)) (px : List Int) : Prop := ∀ j ∈ px, 0 ≤ j ∧ j < colsM m
theorem gt_pixR {px r : List Int} {c : Nat} (h : c < px.length) : gt (pixR px r) c = gt r (gt px c).toNat := by
  unfold pixR gt; simp [h]
theorem rowL_pixM {m : List (List Int)} {px : List Int} {i : Nat} (h : i < m.length) : rowL (pixM px m) i = pixR px (rowL m i) := by
  unfold pixM rowL; simp [h]
theorem redN_cols (m : List (List Int)) (px : List Int) : (redN m px).cols = px.length := clearN_cols _ _
theorem redN_fin {m : List (List Int)} (hv : validM m = true) {px : List Int} (hpx : pxOk m px) : RFin m.length px.length px.length (a0 (pixM px m)) (redN m px) := by
  obtain ⟨hm1, hm6, hc1, hc10, hrows⟩ := validM_of hv
  have hb : ∀ i, i < m.length → ∀ c, c < px.length → -1 ≤ a0 (pixM px m) i c ∧ a0 (pixM px m) i c ≤ 1 := by
    intro i hi c hc
    unfold a0
    rw [rowL_pixM hi, gt_pixR hc]
    have hr := hrows _ (rowL_mem hi)
    have hj : gt px c ∈ px := by unfold gt; simp [hc]
    have := hpx _ hj
    exact gt_in hr.2 (by rw [hr.1]; omega)
  refine rd_fin (by simp [pixM]) ?_ hm6 (Nat.le_refl _) hb (fun i hi c hc => by have := hb i hi c hc; omega)
  intro q hq
  obtain ⟨r, _, rfl⟩ := List.mem_map.1 hq
  exact pixR_len _ _
end Go.Proofs.YtfnomiingelfaaaGreat
/- The kernel vector at a free column: its numbers. Plain words. -/
namespace Go.Proofs.YtfnomiingelfaaaGreat
open Go.RowKit

theorem freeTo_mem (pz : List Int) : ∀ k c, c ∈ freeTo pz k ↔ ∃ j : Nat, j < k ∧ c = (j : Int) ∧ (j : Int) ∉ pz
  | 0, c => by simp [freeTo]
  | k + 1, c => by
    unfold freeTo
    have ih := freeTo_mem pz k c
    split
    · rename_i h
      rw [ih]
      constructor
      · rintro ⟨j, h1, h2, h3⟩; exact ⟨j, by omega, h2, h3⟩
      · rintro ⟨j, h1, h2, h3⟩
        by_cases e : j = k
        · subst e; exact absurd h h3
        · exact ⟨j, by omega, h2, h3⟩
    · rename_i h
      rw [List.mem_append, ih, List.mem_singleton]
      constructor
      · rintro (⟨j, h1, h2, h3⟩ | rfl)
        · exact ⟨j, by omega, h2, h3⟩
        · exact ⟨k, by omega, rfl, h⟩
      · rintro ⟨j, h1, h2, h3⟩
        by_cases e : j = k
        · subst e; exact .inr h2
        · exact .inl ⟨j, by omega, h2, h3⟩
theorem mem_gt {xs : List Int} {v : Int} : v ∈ xs ↔ ∃ t, t < xs.length ∧ gt xs t = v := by
  rw [List.mem_iff_getElem]
  constructor
  · rintro ⟨t, h, e⟩; exact ⟨t, h, by unfold gt; simp [h, e]⟩
  · rintro ⟨t, h, e⟩; exact ⟨t, h, by unfold gt at e; simpa [h] using e⟩
section
variable {R N cols : Nat} {A0 : Nat → Nat → Int} {r : Rd}
theorem RFin.pivN_lt (h : RFin R N cols A0 r) {t : Nat} (ht : t < r.piv.length) : pivN r t < cols := by have := h.pz t ht; unfold pivN; omega
theorem RFin.pivN_eq (h : RFin R N cols A0 r) {t : Nat} (ht : t < r.piv.length) : gt r.piv t = (pivN r t : Int) := by have := h.pz t ht; unfold pivN; omega
theorem RFin.inj (h : RFin R N cols A0 r) {s t : Nat} (hs : s < r.piv.length) (ht : t < r.piv.length) (e : pivN r s = pivN r t) : s = t := by
  rcases Nat.lt_trichotomy s t with q | q | q
  · have := h.asc s t q ht; omega
  · exact q
  · have := h.asc t s q hs; omega
theorem RFin.mem (h : RFin R N cols A0 r) {c : Nat} : (c : Int) ∈ r.piv ↔ ∃ t, t < r.piv.length ∧ pivN r t = c := by
  rw [mem_gt]
  constructor
  · rintro ⟨t, ht, e⟩; exact ⟨t, ht, by rw [h.pivN_eq ht] at e; omega⟩
  · rintro ⟨t, ht, e⟩; exact ⟨t, ht, by rw [h.pivN_eq ht, e]⟩
theorem RFin.ker_at (h : RFin R N cols A0 r) (hR : R ≤ 6) (hN : cols ≤ N) {fr : Nat} (hf : fr < cols) (hn : (fr : Int) ∉ r.piv) : ∀ k, k ≤ r.piv.length → ∀ c, c < cols →
    gt (kerTo cols r.rows r.piv r.dv fr k) c = if c = fr then r.dv else if (∃ t, t < k ∧ pivN r t = c) then -gt (rowL r.rows ((List.range k).findIdx fun t => pivN r t == c)) fr else 0
  | 0, _, c, hc => by
    unfold kerTo
    rw [gt_set (by simpa using hf)]
    split
    · rfl
    · rw [if_neg (by rintro ⟨t, ht, _⟩; omega)]; unfold gt; simp [hc]
  | k + 1, hk, c, hc => by
    have ih := h.ker_at hR hN hf hn k (by omega) c hc
    unfold kerTo
    rw [gt_set (by rw [kerTo_len]; exact h.pivN_lt (by omega))]
    have hfr : pivN r k ≠ fr := fun e => hn (h.mem.2 ⟨k, by omega, e⟩)
    have hfind : ∀ t, t ≤ k → pivN r t = c → (List.range (k + 1)).findIdx (fun t => pivN r t == c) = t := by
      intro t ht e
      rw [List.findIdx_eq (by simp; omega)]
      refine ⟨by simpa using e, fun j hj => ?_⟩
      have : pivN r j ≠ c := fun e2 => by have := h.inj (s := j) (t := t) (by omega) (by omega) (by omega); omega
      simpa using this
    have hfind' : ∀ t, t < k → pivN r t = c → (List.range k).findIdx (fun t => pivN r t == c) = t := by
      intro t ht e
      rw [List.findIdx_eq (by simp; omega)]
      refine ⟨by simpa using e, fun j hj => ?_⟩
      have : pivN r j ≠ c := fun e2 => by have := h.inj (s := j) (t := t) (by omega) (by omega) (by omega); omega
      simpa using this
    by_cases e : c = (gt r.piv k).toNat
    · rw [if_pos e, if_neg (by intro e2; apply hfr; show (gt r.piv k).toNat = fr; omega), if_pos ⟨k, by omega, e.symm⟩, hfind k (Nat.le_refl k) e.symm]
      have := h.bd k (by have := h.pl; omega) fr hf
      exact wrap_id (by omega) (by omega)
    · rw [if_neg e, ih]
      by_cases e1 : c = fr
      · rw [if_pos e1, if_pos e1]
      · rw [if_neg e1, if_neg e1]
        by_cases e2 : ∃ t, t < k ∧ pivN r t = c
        · obtain ⟨t, ht, e3⟩ := e2
          rw [if_pos ⟨t, ht, e3⟩, if_pos ⟨t, by omega, e3⟩, hfind t (by omega) e3, hfind' t ht e3]
        · rw [if_neg e2, if_neg]
          rintro ⟨t, ht, e3⟩
          by_cases e4 : t = k
          · subst e4; exact e e3.symm
          · exact e2 ⟨t, by omega, e3⟩
def kvec (r : Rd) (cols fr : Nat) : List Int := kerTo cols r.rows r.piv r.dv fr r.piv.length
theorem RFin.kvec_free (h : RFin R N cols A0 r) (hR : R ≤ 6) (hN : cols ≤ N) {fr : Nat} (hf : fr < cols) (hn : (fr : Int) ∉ r.piv) : gt (kvec r cols fr) fr = r.dv := by
  unfold kvec; rw [h.ker_at hR hN hf hn _ (Nat.le_refl _) fr hf, if_pos rfl]
theorem RFin.kvec_piv (h : RFin R N cols A0 r) (hR : R ≤ 6) (hN : cols ≤ N) {fr : Nat} (hf : fr < cols) (hn : (fr : Int) ∉ r.piv) {t : Nat} (ht : t < r.piv.length) : gt (kvec r cols fr) (pivN r t) = -gt (rowL r.rows t) fr := by
  unfold kvec
  rw [h.ker_at hR hN hf hn _ (Nat.le_refl _) _ (h.pivN_lt ht), if_neg (fun e => hn (h.mem.2 ⟨t, ht, e⟩)), if_pos ⟨t, ht, rfl⟩]
  congr 3
  rw [List.findIdx_eq (by simpa using ht)]
  refine ⟨by simp, fun j hj => ?_⟩
  have : pivN r j ≠ pivN r t := fun e2 => by have := h.inj (s := j) (t := t) (by omega) ht e2; omega
  simpa using this
theorem RFin.kvec_else (h : RFin R N cols A0 r) (hR : R ≤ 6) (hN : cols ≤ N) {fr : Nat} (hf : fr < cols) (hn : (fr : Int) ∉ r.piv) {c : Nat} (hc : c < cols) (h1 : c ≠ fr) (h2 : (c : Int) ∉ r.piv) : gt (kvec r cols fr) c = 0 := by
  unfold kvec
  rw [h.ker_at hR hN hf hn _ (Nat.le_refl _) c hc, if_neg h1, if_neg fun e => h2 (h.mem.2 e)]
theorem RFin.kvec_bd (h : RFin R N cols A0 r) (hR : R ≤ 6) (hN : cols ≤ N) {fr : Nat} (hf : fr < cols) (hn : (fr : Int) ∉ r.piv) {c : Nat} (hc : c < cols) : -720 ≤ gt (kvec r cols fr) c ∧ gt (kvec r cols fr) c ≤ 720 := by
  have hp := h.pos
  by_cases e : c = fr
  · subst e; rw [h.kvec_free hR hN hf hn]; omega
  · by_cases e2 : (c : Int) ∈ r.piv
    · obtain ⟨t, ht, rfl⟩ := h.mem.1 e2
      rw [h.kvec_piv hR hN hf hn ht]
      have := h.bd t (by have := h.pl; omega) fr hf
      omega
    · rw [h.kvec_else hR hN hf hn hc e e2]; omega
theorem kvec_len (r : Rd) (cols fr : Nat) : (kvec r cols fr).length = cols := kerTo_len _ _ _ _ _ _
theorem gcdTo_zero {xs : List Int} : ∀ k, gcdTo xs k = 0 → ∀ j, j < k → gt xs j = 0
  | 0, _, _, h => absurd h (by omega)
  | k + 1, h, j, hj => by
    unfold gcdTo at h
    have h1 : gcdTo xs k = 0 := Nat.eq_zero_of_gcd_eq_zero_left h
    have h2 : (gt xs k).natAbs = 0 := Nat.eq_zero_of_gcd_eq_zero_right h
    by_cases e : j = k
    · subst e; omega
    · exact gcdTo_zero k h1 j (by omega)
theorem RFin.kvec_gcd (h : RFin R N cols A0 r) (hR : R ≤ 6) (hN : cols ≤ N) {fr : Nat} (hf : fr < cols) (hn : (fr : Int) ∉ r.piv) : gcdL (kvec r cols fr) ≠ 0 := by
  intro e
  have := gcdTo_zero _ e fr (by rw [kvec_len]; exact hf)
  rw [h.kvec_free hR hN hf hn] at this
  have := h.pos; omega
theorem RFin.kvec_mid (h : RFin R N cols A0 r) (hR : R ≤ 6) (hN : cols ≤ N) {fr : Nat} (hf : fr < cols) (hn : (fr : Int) ∉ r.piv) : ∀ x ∈ kvec r cols fr, Mid x := by
  intro x hx
  obtain ⟨c, hc, rfl⟩ := mem_gt.1 hx
  have := h.kvec_bd hR hN hf hn (c := c) (by rw [kvec_len] at hc; exact hc)
  unfold Mid; omega
end
end Go.Proofs.YtfnomiingelfaaaGreat
/- The answers' reduction as plain words: primitive rows, which are multiples of determinants. Speaks of no program. -/
namespace Go.Proofs.YtfnomiingelfaaaGreat
open Go.RowKit

def primR (q : List Int) : List Int := q.map fun n => n.tdiv ((max (gcdL q) 1 : Nat) : Int)
def wipR (q p : List Int) (j : Nat) : List Int := (List.range q.length).map fun k => IntKind.i64.wrap (IntKind.i64.wrap (gt q k * gt p j) - IntKind.i64.wrap (gt p k * gt q j))
def withoutR (q p : List Int) (j : Nat) : List Int := primR (wipR q p j)
theorem primR_len (q : List Int) : (primR q).length = q.length := by simp [primR]
theorem wipR_len (q p : List Int) (j : Nat) : (wipR q p j).length = q.length := by simp [wipR]
theorem withoutR_len (q p : List Int) (j : Nat) : (withoutR q p j).length = q.length := by rw [withoutR, primR_len, wipR_len]
theorem gcdTo_dvd (q : List Int) : ∀ n j, j < n → ((gcdTo q n : Nat) : Int) ∣ gt q j
  | 0, _, h => absurd h (by omega)
  | n + 1, j, h => by
    have h1 : gcdTo q (n + 1) ∣ gcdTo q n := Nat.gcd_dvd_left _ _
    have h2 : gcdTo q (n + 1) ∣ (gt q n).natAbs := Nat.gcd_dvd_right _ _
    by_cases e : j = n
    · subst e; exact Int.ofNat_dvd_left.mpr h2
    · exact Int.dvd_trans (Int.natCast_dvd_natCast.mpr h1) (gcdTo_dvd q n j (by omega))
theorem dvd_gcdTo (q : List Int) (d K : Int) : ∀ n, (∀ c, c < n → d ∣ K * gt q c) → d ∣ K * ((gcdTo q n : Nat) : Int)
  | 0, _ => by simp [gcdTo]
  | n + 1, h => by
    have h1 := dvd_gcdTo q d K n fun c hc => h c (by omega)
    have h2 := h n (by omega)
    rw [← Int.natAbs_dvd_natAbs] at h1 h2 ⊢
    rw [Int.natAbs_mul] at h1 h2 ⊢
    rw [Int.natAbs_natCast] at h1 ⊢
    show d.natAbs ∣ K.natAbs * Nat.gcd (gcdTo q n) (gt q n).natAbs
    rw [← Nat.gcd_mul_left]
    exact Nat.dvd_gcd h1 h2
theorem gt_primR {q : List Int} {c : Nat} (hc : c < q.length) : gt q c = ((max (gcdL q) 1 : Nat) : Int) * gt (primR q) c := by
  have e : gt (primR q) c = (gt q c).tdiv ((max (gcdL q) 1 : Nat) : Int) := by unfold gt primR; simp [hc]
  rw [e]
  symm
  apply Int.mul_tdiv_cancel'
  by_cases h : gcdL q = 0
  · rw [h]; exact Int.one_dvd _
  · rw [show max (gcdL q) 1 = gcdL q by omega]
    exact gcdTo_dvd q _ c hc
theorem prim_mul {q : List Int} {m : Nat → Int} {d K : Int} (hd : d ≠ 0) (hK : K ≠ 0) (h : ∀ c, c < q.length → d * m c = K * gt q c) : ∃ g, g ≠ 0 ∧ ∀ c, c < q.length → m c = g * gt (primR q) c := by
  by_cases h0 : gcdL q = 0
  · refine ⟨1, by decide, fun c hc => ?_⟩
    have z : gt q c = 0 := gcdTo_zero _ h0 c hc
    have z2 := gt_primR hc
    rw [h0, z] at z2
    have := h c hc
    rw [z, Int.mul_zero] at this
    rcases Int.mul_eq_zero.mp this with e | e
    · exact absurd e hd
    · rw [e]; simp at z2; rw [← z2]; rfl
  · obtain ⟨g, hg⟩ : d ∣ K * ((gcdL q : Nat) : Int) := dvd_gcdTo q d K _ fun c hc => ⟨m c, (h c hc).symm⟩
    refine ⟨g, fun e => ?_, fun c hc => ?_⟩
    · rw [e, Int.mul_zero] at hg
      rcases Int.mul_eq_zero.mp hg with e | e
      · exact hK e
      · exact h0 (by omega)
    · have h1 := h c hc
      rw [gt_primR hc, show max (gcdL q) 1 = gcdL q by omega, ← Int.mul_assoc, hg, Int.mul_assoc] at h1
      exact Int.eq_of_mul_eq_mul_left hd h1
def lastR (L : List (List Int)) (j : Nat) : Nat → Option Nat
  | 0 => none
  | n + 1 => if gt (rowL L n) j ≠ 0 then some n else lastR L j n
theorem lastR_none {L : List (List Int)} {j : Nat} : ∀ {n}, lastR L j n = none → ∀ x, x < n → gt (rowL L x) j = 0
  | 0, _, x, hx => absurd hx (by omega)
  | n + 1, h, x, hx => by
    unfold lastR at h
    split at h
    · cases h
    · rename_i h0
      by_cases e : x = n
      · subst e; simpa using h0
      · exact lastR_none h x (by omega)
theorem lastR_some {L : List (List Int)} {j i : Nat} : ∀ {n}, lastR L j n = some i → i < n ∧ gt (rowL L i) j ≠ 0
  | 0, h => by cases h
  | n + 1, h => by
    unfold lastR at h
    split at h
    · rename_i h0; cases h; exact ⟨by omega, h0⟩
    · have := lastR_some h; exact ⟨by omega, this.2⟩
structure Rs where
  done : List (List Int)
  left : List (List Int)
  piv : List Int
def stepR (j : Nat) (s : Rs) : Rs :=
  match lastR s.left j s.left.length with
  | none => s
  | some i => { done := (s.done.map fun q => withoutR q (ownR (rowL s.left i) j) j) ++ [ownR (rowL s.left i) j], left := (s.left.eraseIdx i).map fun q => withoutR q (ownR (rowL s.left i) j) j, piv := s.piv ++ [(j : Int)] }
def stepsR (s : Rs) : Nat → Rs
  | 0 => s
  | k + 1 => stepR k (stepsR s k)
def redR (M : List (List Int)) (n : Nat) : Rs := stepsR { done := [], left := M.map primR, piv := [] } n

structure RBar (R N D : Nat) (A0 A : Nat → Nat → Int) (p : Nat → Nat) (s : Rs) : Prop where
  pe : ∀ t, t < s.piv.length → gt s.piv t = (p t : Int)
  ld : s.done.length = s.piv.length
  ll : s.piv.length + s.left.length = R
  rd : ∀ q ∈ s.done, q.length = N
  rl : ∀ q ∈ s.left, q.length = N
  pz : ∀ t, t < s.piv.length → p t < D
  asc : ∀ a b, a < b → b < s.piv.length → p a < p b
  vd : ∀ t, t < s.piv.length → ∃ g, g ≠ 0 ∧ ∀ c, c < N → mk A p s.piv.length t c = g * gt (rowL s.done t) c
  vl : ∀ x, x < s.left.length → ∃ g, g ≠ 0 ∧ ∀ c, c < N → mk A p s.piv.length (s.piv.length + x) c = g * gt (rowL s.left x) c
  dn : dt A p s.piv.length ≠ 0
  uq : Uniq A p s.piv.length
  low : ∀ x, x < s.left.length → ∀ c, c < D → gt (rowL s.left x) c = 0
  ech : ∀ t, t < s.piv.length → ∀ c, c < p t → gt (rowL s.done t) c = 0
  pos : ∀ t, t < s.piv.length → 0 < gt (rowL s.done t) (p t)
  arr : ∀ x, x < R → ∃ i s, i < R ∧ (s = 1 ∨ s = -1) ∧ ∀ c, A x c = s * A0 i c
  ker : ∀ w : Nat → Int, (∀ i, i < R → sumTo (fun c => A0 i c * w c) N = 0) ↔ (∀ i, i < R → sumTo (fun c => A i c * w c) N = 0)
theorem rbar_skip {R N D : Nat} {A0 A : Nat → Nat → Int} {p : Nat → Nat} {s : Rs} (h : RBar R N D A0 A p s) (hp : lastR s.left D s.left.length = none) : RBar R N (D + 1) A0 A p (stepR D s) := by
  have e : stepR D s = s := by unfold stepR; rw [hp]
  rw [e]
  exact { h with
    pz := fun t ht => by have := h.pz t ht; omega
    low := fun x hx c hc => by
      by_cases e : c = D
      · subst e; exact lastR_none hp x hx
      · exact h.low x hx c (by omega) }
theorem rowL_map {M : List (List Int)} (f : List Int → List Int) {x : Nat} (hx : x < M.length) : rowL (M.map f) x = f (rowL M x) := by unfold rowL; simp [hx]
theorem rbar_start {R N : Nat} {M : List (List Int)} (h1 : M.length = R) (h2 : ∀ q ∈ M, q.length = N) : RBar R N 0 (a0 M) (a0 M) (fun _ => 0) { done := [], left := M.map primR, piv := [] } where
  pe := fun t h => absurd h (by simp)
  ld := rfl
  ll := by simp [h1]
  rd := fun q h => absurd h (by simp)
  rl := fun q h => by obtain ⟨r, hr, rfl⟩ := List.mem_map.mp h; rw [primR_len]; exact h2 r hr
  pz := fun t h => absurd h (by simp)
  asc := fun a b _ h => absurd h (by simp)
  vd := fun t h => absurd h (by simp)
  vl := fun x hx => by
    have hx' : x < M.length := by simpa using hx
    have hm : rowL M x ∈ M := rowL_mem hx'
    refine ⟨((max (gcdL (rowL M x)) 1 : Nat) : Int), by omega, fun c hc => ?_⟩
    rw [rowL_map _ hx', ← gt_primR (by rw [h2 _ hm]; exact hc)]
    simp [mk, dt, detC, sumTo, a0]
  dn := by show (1 : Int) ≠ 0; decide
  uq := uniq_zero
  low := fun _ _ _ h => absurd h (by omega)
  ech := fun t h => absurd h (by simp)
  pos := fun t h => absurd h (by simp)
  arr := fun x hx => ⟨x, 1, hx, .inl rfl, fun c => by omega⟩
  ker := fun w => Iff.rfl
end Go.Proofs.YtfnomiingelfaaaGreat
/- One column more of the answers' reduction. Plain words. Speaks of no program. -/
namespace Go.Proofs.YtfnomiingelfaaaGreat
open Go.RowKit

theorem mul_small {g v B : Int} (hg : g ≠ 0) (h : -B ≤ g * v ∧ g * v ≤ B) : -B ≤ v ∧ v ≤ B := by
  have h1 : v.natAbs ≤ (g * v).natAbs := by rw [Int.natAbs_mul]; exact Nat.le_mul_of_pos_left _ (by omega)
  omega
theorem gt_primR0 {q : List Int} {c : Nat} (hc : c < q.length) (h : gt q c = 0) : gt (primR q) c = 0 := by
  have h1 := gt_primR hc
  rw [h] at h1
  rcases Int.mul_eq_zero.mp h1.symm with e | e
  · omega
  · exact e
theorem gt_primR_pos {q : List Int} {c : Nat} (hc : c < q.length) (h : 0 < gt q c) : 0 < gt (primR q) c := by
  have h1 := gt_primR hc
  rw [h1] at h
  exact Int.pos_of_mul_pos_right h (by omega) |> fun x => x
theorem gt_wipR {q P : List Int} {D c : Nat} (hc : c < q.length) (h1 : -720000000 ≤ gt q c ∧ gt q c ≤ 720000000) (h2 : -720000000 ≤ gt P D ∧ gt P D ≤ 720000000) (h3 : -720000000 ≤ gt P c ∧ gt P c ≤ 720000000) (h4 : -720000000 ≤ gt q D ∧ gt q D ≤ 720000000) : gt (wipR q P D) c = gt q c * gt P D - gt P c * gt q D := by
  have e : gt (wipR q P D) c = IntKind.i64.wrap (IntKind.i64.wrap (gt q c * gt P D) - IntKind.i64.wrap (gt P c * gt q D)) := by unfold wipR; rw [gt_map_range _ hc]
  have b : ∀ {x y : Int}, (-720000000 ≤ x ∧ x ≤ 720000000) → (-720000000 ≤ y ∧ y ≤ 720000000) → -518400000000000000 ≤ x * y ∧ x * y ≤ 518400000000000000 := by
    intro x y hx hy
    have h : (x * y).natAbs ≤ 720000000 * 720000000 := by rw [Int.natAbs_mul]; exact Nat.mul_le_mul (by omega) (by omega)
    omega
  have b1 := b h1 h2
  have b2 := b h3 h4
  rw [e, wrap_id (n := gt q c * gt P D) (by omega) (by omega), wrap_id (n := gt P c * gt q D) (by omega) (by omega), wrap_id (by omega) (by omega)]
theorem rbar_bd {R N D cols : Nat} {A0 A : Nat → Nat → Int} {p : Nat → Nat} {s : Rs} (h : RBar R N D A0 A p s) (hR : R ≤ 6) (hD : D ≤ cols) (hb1 : ∀ i, i < R → ∀ c, c < cols → -1 ≤ A0 i c ∧ A0 i c ≤ 1) (hb2 : ∀ i, i < R → ∀ c, c < N → -1000000 ≤ A0 i c ∧ A0 i c ≤ 1000000) :
    (∀ t, t < s.piv.length → ∀ c, c < N → -720000000 ≤ gt (rowL s.done t) c ∧ gt (rowL s.done t) c ≤ 720000000) ∧ (∀ x, x < s.left.length → ∀ c, c < N → -720000000 ≤ gt (rowL s.left x) c ∧ gt (rowL s.left x) c ≤ 720000000) := by
  have hA1 : ∀ x, x < R → ∀ c, c < cols → -1 ≤ A x c ∧ A x c ≤ 1 := fun x hx c hc => arr_bd h.arr (fun i hi => hb1 i hi c hc) x hx
  have hA2 : ∀ x, x < R → ∀ c, c < N → -1000000 ≤ A x c ∧ A x c ≤ 1000000 := fun x hx c hc => arr_bd h.arr (fun i hi => hb2 i hi c hc) x hx
  have hl := h.ll
  have big : ∀ x, x < R → ∀ c, c < N → -720000000 ≤ mk A p s.piv.length x c ∧ mk A p s.piv.length x c ≤ 720000000 := fun x hx c hc => mk_bd6 (Y := 1000000) (by decide) (by omega) hR hx (fun i hi t ht => hA1 i hi _ (by have := h.pz t ht; omega)) (fun i hi => hA2 i hi c hc)
  constructor
  · intro t ht c hc
    obtain ⟨g, hg, e⟩ := h.vd t ht
    have := big t (by omega) c hc
    rw [e c hc] at this
    exact mul_small hg this
  · intro x hx c hc
    obtain ⟨g, hg, e⟩ := h.vl x hx
    have := big (s.piv.length + x) (by omega) c hc
    rw [e c hc] at this
    exact mul_small hg this
theorem rowL_erase {L : List (List Int)} {i x : Nat} : rowL (L.eraseIdx i) x = rowL L (if x < i then x else x + 1) := by
  unfold rowL
  rw [List.getElem?_eraseIdx]
  split <;> rfl
theorem rowL_snoc {L : List (List Int)} {q : List Int} {x : Nat} : rowL (L ++ [q]) x = if x < L.length then rowL L x else if x = L.length then q else [] := by
  unfold rowL
  by_cases h : x < L.length
  · rw [if_pos h, List.getElem?_append_left h]
  · rw [if_neg h, List.getElem?_append_right (by omega)]
    by_cases e : x = L.length
    · subst e; simp
    · rw [if_neg e, List.getElem?_eq_none (by simp; omega)]; rfl
def olX (k i x : Nat) : Nat := if x < k then x else if x = k then k + i else if x ≤ k + i then x - 1 else x
theorem rbar_step {R N D cols : Nat} {A0 A : Nat → Nat → Int} {p : Nat → Nat} {s : Rs} (h : RBar R N D A0 A p s) (hR : R ≤ 6) (hDN : D < N) (hD : D ≤ cols) (hb1 : ∀ i, i < R → ∀ c, c < cols → -1 ≤ A0 i c ∧ A0 i c ≤ 1) (hb2 : ∀ i, i < R → ∀ c, c < N → -1000000 ≤ A0 i c ∧ A0 i c ≤ 1000000)
    {i : Nat} (hp : lastR s.left D s.left.length = some i) : ∃ A' p', RBar R N (D + 1) A0 A' p' (stepR D s) := by
  obtain ⟨hi, hnz⟩ := lastR_some hp
  obtain ⟨bd, bl⟩ := rbar_bd h hR hD hb1 hb2
  obtain ⟨done, left, piv⟩ := s
  obtain ⟨pe, ld, ll, rd, rl, pz, asc, vd, vl, dn, uq, low, ech, pos, arr, ker⟩ := h
  dsimp only at pe ld ll rd rl pz asc vd vl dn uq low ech pos arr ker hi hnz bd bl hp
  obtain ⟨k, hk⟩ : ∃ k, piv.length = k := ⟨_, rfl⟩
  rw [hk] at pe ld ll pz asc vd vl dn uq ech pos bd
  have lld : ∀ t, t < k → (rowL done t).length = N := fun t ht => rd _ (rowL_mem (by omega))
  have lll : ∀ x, x < left.length → (rowL left x).length = N := fun x hx => rl _ (rowL_mem hx)
  -- the pivot's row
  obtain ⟨P, hP⟩ : ∃ P, ownR (rowL left i) D = P := ⟨_, rfl⟩
  obtain ⟨sg, hsg⟩ : ∃ sg : Int, (if gt (rowL left i) D < 0 then -1 else 1) = sg := ⟨_, rfl⟩
  have sg1 : sg = 1 ∨ sg = -1 := by rw [← hsg]; split <;> simp
  have lP : P.length = N := by rw [← hP, ownR_len]; exact lll i hi
  have atP : ∀ c, c < N → gt P c = sg * gt (rowL left i) c := fun c hc => by
    rw [← hP, gt_ownR (fun c hc => bl i hi c (by rw [lll i hi] at hc; exact hc)) (by rw [lll i hi]; exact hc), hsg]
  have PD : 0 < gt P D := by rw [atP D hDN, ← hsg]; split <;> omega
  have bP : ∀ c, c < N → -720000000 ≤ gt P c ∧ gt P c ≤ 720000000 := fun c hc => by
    have := bl i hi c hc
    rw [atP c hc]; rcases sg1 with e | e <;> rw [e] <;> omega
  have zP : ∀ c, c < D → gt P c = 0 := fun c hc => by rw [atP c (by omega), low i hi c hc, Int.mul_zero]
  -- the new order
  obtain ⟨A', hA'⟩ : ∃ A' : Nat → Nat → Int, (fun x => A (olX k i x)) = A' := ⟨_, rfl⟩
  obtain ⟨p', hp'⟩ : ∃ p' : Nat → Nat, (fun t => if t < k then p t else D) = p' := ⟨_, rfl⟩
  have a' : ∀ x, A' x = A (olX k i x) := fun x => by rw [← hA']
  have ou : ∀ x, x < k → olX k i x = x := fun x hx => by unfold olX; rw [if_pos hx]
  have ok : olX k i k = k + i := by unfold olX; rw [if_neg (by omega), if_pos rfl]
  have ox : ∀ x, olX k i (k + 1 + x) = k + (if x < i then x else x + 1) := fun x => by
    unfold olX
    rw [if_neg (by omega), if_neg (by omega)]
    by_cases e : x < i
    · rw [if_pos (by omega), if_pos e]; omega
    · rw [if_neg (by omega), if_neg e]; omega
  have ol : ∀ x, x < R → olX k i x < R := fun x hx => by unfold olX; split <;> (try split) <;> (try split) <;> omega
  have og : ∀ x, k ≤ x → k ≤ olX k i x := fun x hx => by unfold olX; split <;> (try split) <;> (try split) <;> omega
  have a'u : ∀ x, x < k → A' x = A x := fun x hx => by rw [a', ou x hx]
  have pu : ∀ t, t < k → p' t = p t := fun t ht => by rw [← hp']; simp [ht]
  have pk : p' k = D := by rw [← hp']; simp
  have mu : ∀ t, t < k → ∀ c, mk A' p' k t c = mk A p k t c := fun t ht c => mk_congr pu a'u (a'u t ht)
  have dte : dt A' p' k = dt A p k := detC_congr k fun t ht x hx => by unfold colF; rw [a'u x hx, pu t ht]
  have ml : ∀ x, mk A' p' k x = fun c => mk A p k (olX k i x) c := fun x => by
    funext c
    by_cases e : x < k
    · rw [ou x e, mu x e]
    · rw [mk_low (by omega), mk_low (x := olX k i x) (og x (by omega)), dte, a' x]
      congr 1
      exact sumTo_congr k fun t ht => by rw [mu t ht, pu t ht]
  obtain ⟨G, hG0, hG⟩ : ∃ G, G ≠ 0 ∧ ∀ c, c < N → mk A' p' k k c = G * gt P c := by
    obtain ⟨g, hg, e⟩ := vl i hi
    refine ⟨g * sg, ?_, fun c hc => ?_⟩
    · rcases sg1 with e | e <;> rw [e] <;> omega
    · rw [ml, ok]
      show mk A p k (k + i) c = _
      rw [e c hc, atP c hc]
      rcases sg1 with e | e <;> rw [e] <;> grind
  have dk : dt A' p' (k + 1) = G * gt P D := by rw [dt_succ, pk, hG D hDN]
  have dk0 : dt A' p' (k + 1) ≠ 0 := by rw [dk]; exact Int.mul_ne_zero hG0 (by omega)
  have uqk : Uniq A' p' k := by
    intro z hz
    refine uq z fun x hx => ?_
    rw [← hz x hx]
    exact sumTo_congr k fun t ht => by rw [a'u x hx, pu t ht]
  have uq' : Uniq A' p' (k + 1) := uniq_succ uqk (by rw [dte]; exact dn) dk0
  -- a row that the pivot's row is taken from
  have wip : ∀ {q : List Int}, q.length = N → (∀ c, c < N → -720000000 ≤ gt q c ∧ gt q c ≤ 720000000) → ∀ c, c < N → gt (wipR q P D) c = gt q c * gt P D - gt P c * gt q D := fun hq hb c hc => gt_wipR (by omega) (hb c hc) (bP D hDN) (bP c hc) (hb D hDN)
  have row : ∀ {q : List Int} {x : Nat} {g : Int}, q.length = N → (∀ c, c < N → -720000000 ≤ gt q c ∧ gt q c ≤ 720000000) → x ≠ k → g ≠ 0 → (∀ c, c < N → mk A' p' k x c = g * gt q c) → ∃ g', g' ≠ 0 ∧ ∀ c, c < N → mk A' p' (k + 1) x c = g' * gt (withoutR q P D) c := by
    intro q x g hq hb hx hg hm
    have hs := fun c => mk_step uq' hx c
    have := prim_mul (q := wipR q P D) (m := fun c => mk A' p' (k + 1) x c) (d := dt A p k) (K := g * G) dn (Int.mul_ne_zero hg hG0) (fun c hc => by
      rw [wipR_len, hq] at hc
      have h1 := hs c
      rw [dte, dk, pk, hm c hc, hm D hDN, hG c hc] at h1
      rw [wip hq hb c hc]
      show dt A p k * mk A' p' (k + 1) x c = _
      rw [h1]
      grind)
    rw [wipR_len, hq] at this
    exact this
  have zr : ∀ {q : List Int}, q.length = N → (∀ c, c < N → -720000000 ≤ gt q c ∧ gt q c ≤ 720000000) → ∀ c, c < N → gt q c = 0 → gt P c = 0 → gt (withoutR q P D) c = 0 := by
    intro q hq hb c hc h1 h2
    exact gt_primR0 (by rw [wipR_len]; omega) (by rw [wip hq hb c hc, h1, h2]; simp)
  have er : stepR D { done := done, left := left, piv := piv } = { done := (done.map fun q => withoutR q P D) ++ [P], left := (left.eraseIdx i).map fun q => withoutR q P D, piv := piv ++ [(D : Int)] } := by
    unfold stepR
    dsimp only
    rw [hp]
    simp only [hP]
  rw [er]
  have hpl : (piv ++ [(D : Int)]).length = k + 1 := by simp [hk]
  have hel : (left.eraseIdx i).length = left.length - 1 := List.length_eraseIdx_of_lt hi
  have hll : ((left.eraseIdx i).map fun q => withoutR q P D).length = left.length - 1 := by rw [List.length_map, hel]
  have dnu : ∀ t, t < k → rowL ((done.map fun q => withoutR q P D) ++ [P]) t = withoutR (rowL done t) P D := fun t ht => by rw [rowL_snoc, if_pos (by simp; omega), rowL_map _ (by omega)]
  have dnk : rowL ((done.map fun q => withoutR q P D) ++ [P]) k = P := by rw [rowL_snoc, if_neg (by simp; omega), if_pos (by simp; omega)]
  have lfx : ∀ x, x < left.length - 1 → rowL ((left.eraseIdx i).map fun q => withoutR q P D) x = withoutR (rowL left (if x < i then x else x + 1)) P D := fun x hx => by rw [rowL_map _ (by omega), rowL_erase]
  have lx : ∀ x, x < left.length - 1 → (if x < i then x else x + 1) < left.length := fun x hx => by split <;> omega
  refine ⟨A', p', ?_⟩
  constructor <;> (try dsimp only)
  case pe =>
    intro t ht
    rw [hpl] at ht
    rw [gt_snoc, hk]
    by_cases e : t < k
    · rw [if_pos e, pu t e]; exact pe t e
    · have e2 : t = k := by omega
      subst e2; rw [if_neg e, if_pos rfl, pk]
  case ld => simp [ld, hk]
  case ll => rw [hpl, hll]; omega
  case rd =>
    intro q hq
    rcases List.mem_append.mp hq with hq | hq
    · obtain ⟨r, hr, rfl⟩ := List.mem_map.mp hq; rw [withoutR_len]; exact rd r hr
    · rw [List.mem_singleton] at hq; rw [hq]; exact lP
  case rl =>
    intro q hq
    obtain ⟨r, hr, rfl⟩ := List.mem_map.mp hq; rw [withoutR_len]; exact rl r (List.mem_of_mem_eraseIdx hr)
  case pz =>
    intro t ht
    rw [hpl] at ht
    by_cases e : t < k
    · rw [pu t e]; have := pz t e; omega
    · have e2 : t = k := by omega
      rw [e2, pk]; omega
  case asc =>
    intro a b hab hb
    rw [hpl] at hb
    by_cases e : b < k
    · rw [pu a (by omega), pu b e]; exact asc a b hab e
    · have e2 : b = k := by omega
      rw [e2, pk, pu a (by omega)]; exact pz a (by omega)
  case vd =>
    intro t ht
    rw [hpl] at ht ⊢
    by_cases e : t < k
    · rw [dnu t e]
      obtain ⟨g, hg, hm⟩ := vd t e
      exact row (lld t e) (bd t e) (by omega) hg fun c hc => by rw [mu t e]; exact hm c hc
    · have e2 : t = k := by omega
      rw [e2, dnk]
      exact ⟨G, hG0, fun c hc => by rw [mk_succ_own]; exact hG c hc⟩
  case vl =>
    intro x hx
    rw [hll] at hx
    rw [hpl, lfx x hx]
    obtain ⟨g, hg, hm⟩ := vl _ (lx x hx)
    exact row (lll _ (lx x hx)) (bl _ (lx x hx)) (by omega) hg fun c hc => by rw [ml, ox]; exact hm c hc
  case dn => rw [hpl]; exact dk0
  case uq => rw [hpl]; exact uq'
  case low =>
    intro x hx c hc
    rw [hll] at hx
    rw [lfx x hx]
    by_cases e : c < D
    · exact zr (lll _ (lx x hx)) (bl _ (lx x hx)) c (by omega) (low _ (lx x hx) c e) (zP c e)
    · have e2 : c = D := by omega
      rw [e2]
      exact gt_primR0 (by rw [wipR_len, lll _ (lx x hx)]; exact hDN) (by rw [wip (lll _ (lx x hx)) (bl _ (lx x hx)) D hDN]; grind)
  case ech =>
    intro t ht c hc
    rw [hpl] at ht
    by_cases e : t < k
    · rw [pu t e] at hc
      have := pz t e
      rw [dnu t e]
      exact zr (lld t e) (bd t e) c (by omega) (ech t e c hc) (zP c (by omega))
    · have e2 : t = k := by omega
      rw [e2, pk] at hc
      rw [e2, dnk]; exact zP c hc
  case pos =>
    intro t ht
    rw [hpl] at ht
    by_cases e : t < k
    · have := pz t e
      rw [dnu t e, pu t e]
      refine gt_primR_pos (by rw [wipR_len, lld t e]; omega) ?_
      rw [wip (lld t e) (bd t e) _ (by omega), zP _ this, Int.zero_mul, Int.sub_zero]
      exact Int.mul_pos (pos t e) PD
    · have e2 : t = k := by omega
      rw [e2, dnk, pk]; exact PD
  case arr => intro x hx; rw [a']; exact arr _ (ol x hx)
  case ker =>
    intro w
    rw [ker w]
    constructor
    · intro hw x hx
      rw [a']; exact hw _ (ol x hx)
    · intro hw x hx
      by_cases e : x < k
      · have := hw x hx; rw [a', ou x e] at this; exact this
      · by_cases e2 : x = k + i
        · have := hw k (by omega); rw [a', ok] at this; rw [e2]; exact this
        · by_cases e3 : x < k + i
          · have := hw (k + 1 + (x - k)) (by omega)
            rw [a', ox, if_pos (by omega), show k + (x - k) = x by omega] at this; exact this
          · have := hw (k + 1 + (x - k - 1)) (by omega)
            rw [a', ox, if_neg (by omega), show k + (x - k - 1 + 1) = x by omega] at this; exact this
end Go.Proofs.YtfnomiingelfaaaGreat
/- Two reduced echelon forms with the same vectors read as 0: the same pivots, rows that are multiples. Plain words. Speaks of no program. -/
namespace Go.Proofs.YtfnomiingelfaaaGreat
open Go.RowKit

structure Ech (N n k : Nat) (p : Nat → Nat) (B : Nat → Nat → Int) : Prop where
  nN : n ≤ N
  pz : ∀ t, t < k → p t < n
  asc : ∀ a b, a < b → b < k → p a < p b
  nz : ∀ t, t < k → B t (p t) ≠ 0
  self : ∀ a b, a < k → b < k → a ≠ b → B b (p a) = 0
  ech : ∀ t, t < k → ∀ c, c < p t → B t c = 0
variable {N n k : Nat} {p : Nat → Nat} {B : Nat → Nat → Int}
theorem Ech.inj (h : Ech N n k p B) {a b : Nat} (ha : a < k) (hb : b < k) (e : p a = p b) : a = b := by
  rcases Nat.lt_trichotomy a b with h1 | h1 | h1
  · have := h.asc a b h1 hb; omega
  · exact h1
  · have := h.asc b a h1 ha; omega
theorem common (g : Nat → Int) : ∀ k, (∀ t, t < k → g t ≠ 0) → ∃ L : Int, L ≠ 0 ∧ ∃ q : Nat → Int, ∀ t, t < k → L = g t * q t
  | 0, _ => ⟨1, by decide, fun _ => 0, fun t h => absurd h (by omega)⟩
  | k + 1, h => by
    obtain ⟨L, hL, q, hq⟩ := common g k fun t ht => h t (by omega)
    refine ⟨L * g k, Int.mul_ne_zero hL (h k (by omega)), fun t => if t = k then L else q t * g k, fun t ht => ?_⟩
    dsimp only
    by_cases e : t = k
    · rw [if_pos e, e]; exact Int.mul_comm _ _
    · rw [if_neg e, hq t (by omega), Int.mul_assoc]
theorem Ech.vec (h : Ech N n k p B) {f : Nat} (hf : f < n) (hn : ∀ t, t < k → p t ≠ f) : ∃ w : Nat → Int, w f ≠ 0 ∧ (∀ c, f < c → w c = 0) ∧ (∀ c, c ≠ f → (∀ t, t < k → p t ≠ c) → w c = 0) ∧ (∀ t, t < k → w (p t) * B t (p t) = -(B t f * w f)) ∧ ∀ t, t < k → sumTo (fun c => B t c * w c) N = 0 := by
  obtain ⟨L, hL, q, hq⟩ := common (fun t => B t (p t)) k h.nz
  obtain ⟨w, hw⟩ : ∃ w : Nat → Int, (fun c => if c = f then L else -sumTo (fun t => if p t = c then B t f * q t else 0) k) = w := ⟨_, rfl⟩
  have wf : w f = L := by rw [← hw]; simp
  have wc : ∀ c, c ≠ f → w c = -sumTo (fun t => if p t = c then B t f * q t else 0) k := fun c e => by rw [← hw]; simp [e]
  have w0 : ∀ c, c ≠ f → (∀ t, t < k → p t ≠ c) → w c = 0 := fun c e hc => by
    rw [wc c e, sumZ k fun t ht => by rw [if_neg (hc t ht)]]; rfl
  have wp : ∀ t, t < k → w (p t) = -(B t f * q t) := fun t ht => by
    rw [wc _ (hn t ht), sumOne k ht fun s hs e => by rw [if_neg (fun e2 => e (h.inj hs ht e2))], if_pos rfl]
  refine ⟨w, by rw [wf]; exact hL, fun c hc => ?_, w0, fun t ht => ?_, fun t ht => ?_⟩
  · rw [wc c (by omega), sumZ k fun t ht => ?_]; rfl
    split
    · rename_i e; rw [h.ech t ht f (by omega), Int.zero_mul]
    · rfl
  · have := hq t ht
    rw [wp t ht, wf]; rw [this]; grind
  · have e0 : ∀ c, c < N → c ≠ f → c ≠ p t → B t c * w c = 0 := fun c _ e1 e2 => by
      by_cases e : ∃ s, s < k ∧ p s = c
      · obtain ⟨s, hs, e3⟩ := e
        rw [← e3, h.self s t hs ht (fun e4 => by rw [e4] at e3; omega), Int.zero_mul]
      · rw [w0 c e1 fun s hs e3 => e ⟨s, hs, e3⟩, Int.mul_zero]
    have hp := h.pz t ht
    have hN := h.nN
    have e := hq t ht
    have hnt := hn t ht
    have goal : B t f * w f + B t (p t) * w (p t) = 0 := by rw [wf, wp t ht, e]; grind
    rcases Nat.lt_or_ge f (p t) with h1 | h1
    · rw [sumPair h1 N (by omega) fun c hc a b => e0 c hc a b]; exact goal
    · rw [sumPair (s := p t) (t := f) (by omega) N (by omega) fun c hc a b => e0 c hc b a]; omega
theorem Ech.stop (h : Ech N n k p B) {t : Nat} (ht : t < k) {w : Nat → Int} (hw : sumTo (fun c => B t c * w c) N = 0) (hz : ∀ c, p t < c → c < N → w c = 0) : w (p t) = 0 := by
  have hp := h.pz t ht
  have hN := h.nN
  rw [sumOne (s := p t) N (by omega) fun c hc e => by
    rcases Nat.lt_or_ge c (p t) with h1 | h1
    · rw [h.ech t ht c h1, Int.zero_mul]
    · rw [hz c (by omega) hc, Int.mul_zero]] at hw
  rcases Int.mul_eq_zero.mp hw with e | e
  · exact absurd e (h.nz t ht)
  · exact e
theorem Ech.sub {m j : Nat} {q : Nat → Nat} {C : Nat → Nat → Int} (h : Ech N n k p B) (g : Ech N m j q C) (hk : ∀ w : Nat → Int, (∀ c, m ≤ c → w c = 0) → (∀ t, t < j → sumTo (fun c => C t c * w c) N = 0) → ∀ t, t < k → sumTo (fun c => B t c * w c) N = 0) {t : Nat} (ht : t < k) (hm : p t < m) : ∃ s, s < j ∧ q s = p t := by
  by_cases e : ∃ s, s < j ∧ q s = p t
  · exact e
  · obtain ⟨w, h1, h2, _, _, h5⟩ := g.vec hm fun s hs e2 => e ⟨s, hs, e2⟩
    exact absurd (h.stop ht (hk w (fun c hc => h2 c (by omega)) h5 t ht) fun c hc _ => h2 c hc) h1
theorem same_asc {j : Nat} {p q : Nat → Nat} (hp : ∀ a b, a < b → b < k → p a < p b) (hq : ∀ a b, a < b → b < j → q a < q b) (h1 : ∀ t, t < k → ∃ s, s < j ∧ q s = p t) (h2 : ∀ t, t < j → ∃ s, s < k ∧ p s = q t) : k = j ∧ ∀ t, t < k → p t = q t := by
  have key : ∀ t, t < k → t < j → p t = q t := by
    intro t
    induction t using Nat.strongRecOn with
    | _ t ih =>
      intro ht hj
      rcases Nat.lt_trichotomy (p t) (q t) with e | e | e
      · obtain ⟨s, hs, e2⟩ := h1 t ht
        have hst : s < t := by
          rcases Nat.lt_trichotomy s t with e3 | e3 | e3
          · exact e3
          · rw [e3] at e2; omega
          · have := hq t s e3 hs; omega
        have := ih s hst (by omega) hs
        have := hp s t hst ht
        omega
      · exact e
      · obtain ⟨s, hs, e2⟩ := h2 t hj
        have hst : s < t := by
          rcases Nat.lt_trichotomy s t with e3 | e3 | e3
          · exact e3
          · rw [e3] at e2; omega
          · have := hp t s e3 hs; omega
        have := ih s hst hs (by omega)
        have := hq s t hst hj
        omega
  have hkj : k = j := by
    rcases Nat.lt_trichotomy k j with e | e | e
    · obtain ⟨s, hs, e2⟩ := h2 k e
      have := key s hs (by omega)
      have := hq s k hs e
      omega
    · exact e
    · obtain ⟨s, hs, e2⟩ := h1 j e
      have := key s (by omega) hs
      have := hp s j hs e
      omega
  exact ⟨hkj, fun t ht => key t ht (by omega)⟩
theorem Ech.prop {C : Nat → Nat → Int} (h : Ech N n k p B) (hs : ∀ a b, a < k → b < k → a ≠ b → C b (p a) = 0) (hk : ∀ w : Nat → Int, (∀ c, n ≤ c → w c = 0) → (∀ t, t < k → sumTo (fun c => B t c * w c) N = 0) → ∀ t, t < k → sumTo (fun c => C t c * w c) N = 0) {t f : Nat} (ht : t < k) (hf : f < n) : C t f * B t (p t) = C t (p t) * B t f := by
  by_cases e : ∃ s, s < k ∧ p s = f
  · obtain ⟨s, hs2, rfl⟩ := e
    by_cases e2 : s = t
    · rw [e2]
    · rw [hs s t hs2 ht e2, h.self s t hs2 ht e2]; simp
  · have hnt : ∀ s, s < k → p s ≠ f := fun s hs e2 => e ⟨s, hs, e2⟩
    obtain ⟨w, h1, h2, h3, h4, h5⟩ := h.vec hf hnt
    have hp := h.pz t ht
    have hN := h.nN
    have hne := hnt t ht
    have e0 : ∀ c, c < N → c ≠ f → c ≠ p t → C t c * w c = 0 := fun c _ e1 e2 => by
      by_cases e : ∃ s, s < k ∧ p s = c
      · obtain ⟨s, hs2, e3⟩ := e
        rw [← e3, hs s t hs2 ht (fun e4 => by rw [e4] at e3; omega), Int.zero_mul]
      · rw [h3 c e1 fun s hs e3 => e ⟨s, hs, e3⟩, Int.mul_zero]
    have z := hk w (fun c hc => h2 c (by omega)) h5 t ht
    have z2 : C t f * w f + C t (p t) * w (p t) = 0 := by
      rcases Nat.lt_or_ge f (p t) with h6 | h6
      · rw [sumPair h6 N (by omega) fun c hc a b => e0 c hc a b] at z; exact z
      · rw [sumPair (s := p t) (t := f) (by omega) N (by omega) fun c hc a b => e0 c hc b a] at z; omega
    have h4 := h4 t ht
    refine Int.eq_of_mul_eq_mul_right h1 ?_
    grind
end Go.Proofs.YtfnomiingelfaaaGreat
/- The answers' reduction and the program's agree. Plain words. Speaks of no program. -/
namespace Go.Proofs.YtfnomiingelfaaaGreat
open Go.RowKit

theorem redR_succ (M : List (List Int)) (D : Nat) : redR M (D + 1) = stepR D (redR M D) := rfl
theorem rbar_all {R N cols : Nat} {M : List (List Int)} (h1 : M.length = R) (h2 : ∀ q ∈ M, q.length = N) (hR : R ≤ 6) (hb1 : ∀ i, i < R → ∀ c, c < cols → -1 ≤ a0 M i c ∧ a0 M i c ≤ 1) (hb2 : ∀ i, i < R → ∀ c, c < N → -1000000 ≤ a0 M i c ∧ a0 M i c ≤ 1000000) :
    ∀ D, D ≤ N → D ≤ cols + 1 → ∃ A p, RBar R N D (a0 M) A p (redR M D)
  | 0, _, _ => ⟨_, _, rbar_start h1 h2⟩
  | D + 1, hD, hc => by
    obtain ⟨A, p, hA⟩ := rbar_all h1 h2 hR hb1 hb2 D (by omega) (by omega)
    rw [redR_succ]
    cases hp : lastR (redR M D).left D (redR M D).left.length with
    | none => exact ⟨A, p, rbar_skip hA hp⟩
    | some i => exact rbar_step hA hR (by omega) (by omega) hb1 hb2 hp
theorem RBar.ech' {R N D : Nat} {A0 A : Nat → Nat → Int} {p : Nat → Nat} {s : Rs} (h : RBar R N D A0 A p s) (hD : D ≤ N) : Ech N D s.piv.length p (fun t c => gt (rowL s.done t) c) where
  nN := hD
  pz := h.pz
  asc := h.asc
  nz := fun t ht => by have := h.pos t ht; omega
  self := fun a b ha hb e => by
    obtain ⟨g, hg, hm⟩ := h.vd b hb
    have h1 := hm (p a) (by have := h.pz a ha; omega)
    rw [mk_self h.uq ha hb, if_neg (Ne.symm e)] at h1
    rcases Int.mul_eq_zero.mp h1.symm with e2 | e2
    · exact absurd e2 hg
    · exact e2
  ech := h.ech
theorem sumG {f u : Nat → Int} {g : Int} {N : Nat} (w : Nat → Int) (h : ∀ c, c < N → f c = g * u c) : sumTo (fun c => f c * w c) N = g * sumTo (fun c => u c * w c) N := by
  rw [← sumTo_mul]
  exact sumTo_congr N fun c hc => by rw [h c hc, Int.mul_assoc]
theorem RBar.ker' {R N : Nat} {A0 A : Nat → Nat → Int} {p : Nat → Nat} {s : Rs} (h : RBar R N N A0 A p s) (w : Nat → Int) : (∀ i, i < R → sumTo (fun c => A0 i c * w c) N = 0) ↔ (∀ t, t < s.piv.length → sumTo (fun c => gt (rowL s.done t) c * w c) N = 0) := by
  have hl := h.ll
  rw [h.ker w, mk_ker h.uq h.dn R N (by omega) w]
  constructor
  · intro hw t ht
    obtain ⟨g, hg, hm⟩ := h.vd t ht
    have h1 := hw t (by omega)
    rw [sumG w hm] at h1
    rcases Int.mul_eq_zero.mp h1 with e | e
    · exact absurd e hg
    · exact e
  · intro hw x hx
    by_cases e : x < s.piv.length
    · obtain ⟨g, hg, hm⟩ := h.vd x e
      rw [sumG w hm, hw x e, Int.mul_zero]
    · have hx2 : x - s.piv.length < s.left.length := by omega
      obtain ⟨g, hg, hm⟩ := h.vl _ hx2
      rw [show s.piv.length + (x - s.piv.length) = x by omega] at hm
      exact sumZ N fun c hc => by rw [hm c hc, h.low _ hx2 c hc]; simp
theorem RFin.ech' {R N cols : Nat} {A0 : Nat → Nat → Int} {r : Rd} (h : RFin R N cols A0 r) (hc : cols ≤ N) : Ech N cols r.piv.length (pivN r) (fun t c => gt (rowL r.rows t) c) where
  nN := hc
  pz := fun t ht => h.pivN_lt ht
  asc := h.asc
  nz := fun t ht => by have h1 := h.self t t ht ht; have := h.pos; rw [if_pos rfl] at h1; omega
  self := fun a b ha hb e => by have h1 := h.self a b ha hb; rw [if_neg (Ne.symm e)] at h1; exact h1
  ech := h.ech
theorem RFin.ker' {R N cols : Nat} {A0 : Nat → Nat → Int} {r : Rd} (h : RFin R N cols A0 r) (hz : ∀ x, r.piv.length ≤ x → x < R → ∀ c, c < N → gt (rowL r.rows x) c = 0) (w : Nat → Int) : (∀ i, i < R → sumTo (fun c => A0 i c * w c) N = 0) ↔ (∀ t, t < r.piv.length → sumTo (fun c => gt (rowL r.rows t) c * w c) N = 0) := by
  have hl := h.pl
  rw [h.ker w]
  constructor
  · intro hw t ht; exact hw t (by omega)
  · intro hw x hx
    by_cases e : x < r.piv.length
    · exact hw x e
    · exact sumZ N fun c hc => by rw [hz x (by omega) hx c hc, Int.zero_mul]
theorem list_gt {xs ys : List Int} (h1 : xs.length = ys.length) (h2 : ∀ t, t < xs.length → gt xs t = gt ys t) : xs = ys := by
  apply List.ext_getElem h1
  intro t ha hb
  have := h2 t ha
  unfold gt at this
  simpa [ha, hb] using this
theorem red_agree {R N cols : Nat} {A0 A : Nat → Nat → Int} {p : Nat → Nat} {r : Rd} {s : Rs} (h : RFin R N cols A0 r) (hc : cols ≤ N) (g : RBar R N N A0 A p s) (hz : ∀ x, r.piv.length ≤ x → x < R → ∀ c, c < N → gt (rowL r.rows x) c = 0) :
    s.piv = r.piv ∧ (∀ t, t < s.piv.length → p t = pivN r t) ∧ ∀ t, t < s.piv.length → ∀ f, f < N → gt (rowL r.rows t) f * gt (rowL s.done t) (p t) = r.dv * gt (rowL s.done t) f := by
  have e1 := h.ech' hc
  have e2 := g.ech' (Nat.le_refl N)
  have e1N : Ech N N r.piv.length (pivN r) (fun t c => gt (rowL r.rows t) c) := { e1 with nN := Nat.le_refl N, pz := fun t ht => by have := e1.pz t ht; omega }
  have k1 := h.ker' hz
  have k2 := g.ker'
  obtain ⟨q1, q2⟩ := same_asc e2.asc e1.asc
    (fun t ht => e2.sub e1N (fun w _ hw => (k2 w).mp ((k1 w).mpr hw)) ht (e2.pz t ht))
    (fun t ht => e1N.sub e2 (fun w _ hw => (k1 w).mp ((k2 w).mpr hw)) ht (e1N.pz t ht))
  refine ⟨list_gt q1 fun t ht => ?_, q2, fun t ht f hf => ?_⟩
  · rw [g.pe t ht, q2 t ht, h.pivN_eq (by omega)]
  · have := e2.prop (C := fun t c => gt (rowL r.rows t) c) (fun a b ha hb e => by rw [q2 a ha]; exact e1.self a b (by omega) (by omega) e) (fun w _ hw t ht => (k1 w).mp ((k2 w).mpr hw) t (by omega)) ht hf
    rw [this, q2 t ht]
    have h3 := h.self t t (by omega) (by omega)
    rw [if_pos rfl] at h3
    rw [h3]
end Go.Proofs.YtfnomiingelfaaaGreat
/- The answers' kernel vectors are the program's. Plain words. Speaks of no program. -/
namespace Go.Proofs.YtfnomiingelfaaaGreat
open Go.RowKit

theorem gcdTo_scale {v w : List Int} {a b : Nat} : ∀ n, (∀ c, c < n → (a : Int) * gt v c = (b : Int) * gt w c) → a * gcdTo v n = b * gcdTo w n
  | 0, _ => by simp [gcdTo]
  | n + 1, h => by
    have h1 := gcdTo_scale n fun c hc => h c (by omega)
    have h2 := congrArg Int.natAbs (h n (by omega))
    rw [Int.natAbs_mul, Int.natAbs_mul, Int.natAbs_natCast, Int.natAbs_natCast] at h2
    show a * Nat.gcd (gcdTo v n) (gt v n).natAbs = b * Nat.gcd (gcdTo w n) (gt w n).natAbs
    rw [← Nat.gcd_mul_left, ← Nat.gcd_mul_left, h1, h2]
theorem primR_prop {v w : List Int} {a b : Nat} (hl : v.length = w.length) (ha : 0 < a) (hb : 0 < b) (h : ∀ c, c < v.length → (a : Int) * gt v c = (b : Int) * gt w c) : primR v = primR w := by
  have hg := gcdTo_scale v.length h
  have hg : a * gcdL v = b * gcdL w := by rw [gcdL, gcdL, ← hl]; exact hg
  refine list_gt (by rw [primR_len, primR_len, hl]) fun c hc => ?_
  rw [primR_len] at hc
  have e1 := gt_primR hc
  have e2 := gt_primR (q := w) (c := c) (by omega)
  have e := h c hc
  by_cases h0 : gcdL v = 0
  · have h0' : gcdL w = 0 := by
      rw [h0, Nat.mul_zero] at hg
      rcases Nat.mul_eq_zero.mp hg.symm with e | e
      · omega
      · exact e
    rw [gt_primR0 hc (gcdTo_zero _ h0 c hc), gt_primR0 (q := w) (by omega) (gcdTo_zero _ h0' c (by omega))]
  · have h0' : gcdL w ≠ 0 := by
      intro e
      rw [e, Nat.mul_zero] at hg
      rcases Nat.mul_eq_zero.mp hg with e | e <;> omega
    rw [show max (gcdL v) 1 = gcdL v by omega] at e1
    rw [show max (gcdL w) 1 = gcdL w by omega] at e2
    rw [e1, e2, ← Int.mul_assoc, ← Int.mul_assoc, ← Int.natCast_mul, ← Int.natCast_mul, hg] at e
    refine Int.eq_of_mul_eq_mul_left ?_ e
    have : b * gcdL w ≠ 0 := Nat.mul_ne_zero (by omega) h0'
    omega
theorem primR_short {v : List Int} (h : gcdL v ≠ 0) : primR v = shortL v := by
  unfold primR shortL
  rw [show max (gcdL v) 1 = gcdL v by omega]
def pvR (s : Rs) (t : Nat) : Int := gt (rowL s.done t) (gt s.piv t).toNat
def lcTo (s : Rs) : Nat → Int
  | 0 => 1
  | t + 1 => IntKind.i64.wrap ((lcTo s t).tdiv ((Nat.gcd (lcTo s t).natAbs (pvR s t).natAbs : Nat) : Int) * pvR s t)
def rkV (s : Rs) (all : Int) (f t : Nat) : Int := IntKind.i64.wrap (IntKind.i64.wrap (-gt (rowL s.done t) f) * all.tdiv (pvR s t))
def rkTo (n : Nat) (s : Rs) (all : Int) (f : Nat) : Nat → List Int
  | 0 => (List.replicate n 0).set f all
  | t + 1 => (rkTo n s all f t).set (gt s.piv t).toNat (rkV s all f t)
theorem rkTo_len (n : Nat) (s : Rs) (all : Int) (f : Nat) : ∀ t, (rkTo n s all f t).length = n
  | 0 => by simp [rkTo]
  | t + 1 => by unfold rkTo; rw [List.length_set]; exact rkTo_len n s all f t
theorem lc_step {L d D : Nat} (hL : 0 < L) (hd : 0 < d) (h1 : L ∣ D) (h2 : d ∣ D) (hD : 0 < D ∧ D ≤ 720) : IntKind.i64.wrap ((L : Int).tdiv ((Nat.gcd L d : Nat) : Int) * (d : Int)) = ((Nat.lcm L d : Nat) : Int) ∧ 0 < Nat.lcm L d ∧ Nat.lcm L d ∣ D := by
  have h3 : Nat.lcm L d ∣ D := Nat.lcm_dvd h1 h2
  have h4 : 0 < Nat.lcm L d := Nat.lcm_pos hL hd
  have h5 := Nat.le_of_dvd hD.1 h3
  have e : (L : Int).tdiv ((Nat.gcd L d : Nat) : Int) * (d : Int) = ((Nat.lcm L d : Nat) : Int) := by
    have e1 : (L : Int).tdiv ((Nat.gcd L d : Nat) : Int) = ((L / Nat.gcd L d : Nat) : Int) := by rw [Int.ofNat_tdiv]
    rw [e1, ← Int.natCast_mul]
    congr 1
    unfold Nat.lcm
    exact (Nat.div_mul_right_comm (Nat.gcd_dvd_left L d) d).symm |> fun x => by omega
  exact ⟨by rw [e, wrap_id (by omega) (by omega)], h4, h3⟩
theorem RBar.pv {R N D : Nat} {A0 A : Nat → Nat → Int} {p : Nat → Nat} {s : Rs} (h : RBar R N D A0 A p s) {t : Nat} (ht : t < s.piv.length) : pvR s t = gt (rowL s.done t) (p t) := by unfold pvR; rw [h.pe t ht]; rfl
theorem RBar.dt_bd {R N : Nat} {A0 A : Nat → Nat → Int} {p : Nat → Nat} {s : Rs} (h : RBar R N N A0 A p s) (hR : R ≤ 6) (hb : ∀ i, i < R → ∀ c, c < N → -1 ≤ A0 i c ∧ A0 i c ≤ 1) (hk : 0 < s.piv.length) : (dt A p s.piv.length).natAbs ≤ 720 ∧ ∀ t, t < s.piv.length → pvR s t ∣ dt A p s.piv.length := by
  have hl := h.ll
  have hA : ∀ x, x < R → ∀ c, c < N → -1 ≤ A x c ∧ A x c ≤ 1 := fun x hx c hc => arr_bd h.arr (fun i hi => hb i hi c hc) x hx
  constructor
  · have := mk_bd6 (A := A) (p := p) (k := s.piv.length) (x := 0) (c := p 0) (R := R) (Y := 1) (by decide) (by omega) hR (by omega) (fun i hi t ht => hA i hi _ (h.pz t ht)) (fun i hi => hA i hi _ (h.pz 0 hk))
    rw [mk_self h.uq hk hk, if_pos rfl] at this
    omega
  · intro t ht
    obtain ⟨g, hg, hm⟩ := h.vd t ht
    have := hm (p t) (h.pz t ht)
    rw [mk_self h.uq ht ht, if_pos rfl] at this
    rw [h.pv ht]
    exact ⟨g, by rw [this, Int.mul_comm]⟩
theorem RBar.lc {R N : Nat} {A0 A : Nat → Nat → Int} {p : Nat → Nat} {s : Rs} (h : RBar R N N A0 A p s) (hR : R ≤ 6) (hb : ∀ i, i < R → ∀ c, c < N → -1 ≤ A0 i c ∧ A0 i c ≤ 1) : ∀ t, t ≤ s.piv.length → ∃ L : Nat, lcTo s t = (L : Int) ∧ 0 < L ∧ L ≤ 720 ∧ (0 < s.piv.length → L ∣ (dt A p s.piv.length).natAbs) ∧ ∀ i, i < t → pvR s i ∣ lcTo s t
  | 0, _ => ⟨1, rfl, by decide, by decide, fun _ => Nat.one_dvd _, fun i hi => absurd hi (by omega)⟩
  | t + 1, ht => by
    obtain ⟨L, e, h1, h2, h3, h4⟩ := RBar.lc h hR hb t (by omega)
    obtain ⟨b1, b2⟩ := h.dt_bd hR hb (by omega)
    have hpos := h.pos t (by omega)
    rw [← h.pv (by omega)] at hpos
    obtain ⟨d, hd⟩ : ∃ d : Nat, pvR s t = (d : Int) := ⟨(pvR s t).natAbs, by omega⟩
    have b3 := b2 t (by omega)
    rw [hd] at b3 hpos
    have b4 : d ∣ (dt A p s.piv.length).natAbs := Int.ofNat_dvd_left.mp b3
    have hD : 0 < (dt A p s.piv.length).natAbs := by have := h.dn; omega
    obtain ⟨c1, c2, c3⟩ := lc_step h1 (by omega) (h3 (by omega)) b4 ⟨hD, b1⟩
    have ee : lcTo s (t + 1) = ((Nat.lcm L d : Nat) : Int) := by
      rw [← c1]
      show IntKind.i64.wrap ((lcTo s t).tdiv ((Nat.gcd (lcTo s t).natAbs (pvR s t).natAbs : Nat) : Int) * pvR s t) = _
      rw [e, hd, Int.natAbs_natCast, Int.natAbs_natCast]
    refine ⟨Nat.lcm L d, ee, c2, by have := Nat.le_of_dvd hD c3; omega, fun _ => c3, fun i hi => ?_⟩
    rw [ee]
    by_cases e2 : i = t
    · rw [e2, hd]; exact Int.natCast_dvd_natCast.mpr (Nat.dvd_lcm_right _ _)
    · have := h4 i (by omega)
      rw [e] at this
      exact Int.dvd_trans this (Int.natCast_dvd_natCast.mpr (Nat.dvd_lcm_left _ _))
end Go.Proofs.YtfnomiingelfaaaGreat
/- The answers' kernel vector of a column is the program's. Plain words. Speaks of no program. -/
namespace Go.Proofs.YtfnomiingelfaaaGreat
open Go.RowKit

theorem gt_rep {n f c : Nat} {v : Int} (hf : f < n) : gt ((List.replicate n (0 : Int)).set f v) c = if c = f then v else 0 := by
  rw [gt_set (by simpa using hf)]
  split
  · rfl
  · unfold gt; rw [List.getElem?_replicate]; split <;> rfl
theorem rk_at {R N D : Nat} {A0 A : Nat → Nat → Int} {p : Nat → Nat} {s : Rs} (h : RBar R N D A0 A p s) (hD : D ≤ N) {f : Nat} (hf : f < N) (hn : ∀ t, t < s.piv.length → p t ≠ f) (all : Int) : ∀ T, T ≤ s.piv.length →
    gt (rkTo N s all f T) f = all ∧ (∀ t, t < T → gt (rkTo N s all f T) (p t) = rkV s all f t) ∧ (∀ c, c ≠ f → (∀ t, t < T → p t ≠ c) → gt (rkTo N s all f T) c = 0)
  | 0, _ => ⟨by show gt ((List.replicate N (0 : Int)).set f all) f = _; rw [gt_rep hf, if_pos rfl], fun t ht => absurd ht (by omega), fun c hc _ => by show gt ((List.replicate N (0 : Int)).set f all) c = _; rw [gt_rep hf, if_neg hc]⟩
  | T + 1, hT => by
    obtain ⟨h1, h2, h3⟩ := rk_at h hD hf hn all T (by omega)
    have hp := h.pz T (by omega)
    have e : ∀ c, gt (rkTo N s all f (T + 1)) c = if c = p T then rkV s all f T else gt (rkTo N s all f T) c := fun c => by
      show gt ((rkTo N s all f T).set (gt s.piv T).toNat (rkV s all f T)) c = _
      rw [h.pe T (by omega), Int.toNat_natCast, gt_set (by rw [rkTo_len]; omega)]
    refine ⟨?_, fun t ht => ?_, fun c hc hcc => ?_⟩
    · rw [e, if_neg (fun e2 => hn T (by omega) e2.symm)]; exact h1
    · rw [e]
      by_cases e2 : t = T
      · rw [e2, if_pos rfl]
      · rw [if_neg (fun e3 => by have := h.asc t T (by omega) (by omega); omega)]; exact h2 t (by omega)
    · rw [e, if_neg (fun e2 => hcc T (by omega) e2.symm)]; exact h3 c hc fun t ht => hcc t (by omega)
theorem ker_agree {R N : Nat} {A0 A : Nat → Nat → Int} {p : Nat → Nat} {r : Rd} {s : Rs} (h : RFin R N N A0 r) (g : RBar R N N A0 A p s) (hR : R ≤ 6) (hb : ∀ i, i < R → ∀ c, c < N → -1 ≤ A0 i c ∧ A0 i c ≤ 1) {f : Nat} (hf : f < N) (hn : (f : Int) ∉ r.piv) :
    primR (rkTo N s (lcTo s s.piv.length) f s.piv.length) = shortL (kvec r N f) := by
  have hz : ∀ x, r.piv.length ≤ x → x < R → ∀ c, c < N → gt (rowL r.rows x) c = 0 := h.low
  obtain ⟨e1, e2, e3⟩ := red_agree h (Nat.le_refl N) g hz
  have hnp : ∀ t, t < s.piv.length → p t ≠ f := fun t ht e => hn (by rw [← e1]; exact mem_gt.mpr ⟨t, ht, by rw [g.pe t ht, e]⟩)
  obtain ⟨L, eL, L1, L2, _, L4⟩ := g.lc hR hb s.piv.length (Nat.le_refl _)
  obtain ⟨a1, a2, a3⟩ := rk_at g (Nat.le_refl N) hf hnp (lcTo s s.piv.length) s.piv.length (Nat.le_refl _)
  have bd := (rbar_bd (cols := N) g hR (Nat.le_refl N) hb (fun i hi c hc => by have := hb i hi c hc; omega)).1
  have hpos := h.pos
  have hval : ∀ t, t < s.piv.length → r.dv * rkV s (lcTo s s.piv.length) f t = (L : Int) * -gt (rowL r.rows t) f := by
    intro t ht
    have hp := g.pos t ht
    have hpv := g.pv ht
    have b := bd t ht f hf
    have hd := L4 t ht
    have k := e3 t ht f hf
    obtain ⟨q, hq⟩ := hd
    rw [eL, hpv] at hq
    obtain ⟨P, hP⟩ : ∃ P, gt (rowL s.done t) (p t) = P := ⟨_, rfl⟩
    rw [hP] at hp hq k
    have etd : (lcTo s s.piv.length).tdiv (pvR s t) = q := by
      rw [eL, hpv, hP, hq]; exact Int.mul_tdiv_cancel_left _ (by omega)
    have bq : -720 ≤ q ∧ q ≤ 720 := by
      have h1 : q.natAbs ≤ (P * q).natAbs := by rw [Int.natAbs_mul]; exact Nat.le_mul_of_pos_left _ (by omega)
      rw [← hq, Int.natAbs_natCast] at h1
      omega
    have bm : -518400000000 ≤ -gt (rowL s.done t) f * q ∧ -gt (rowL s.done t) f * q ≤ 518400000000 := by
      have h1 : (-gt (rowL s.done t) f * q).natAbs ≤ 720000000 * 720 := by rw [Int.natAbs_mul]; exact Nat.mul_le_mul (by omega) (by omega)
      omega
    have ev : rkV s (lcTo s s.piv.length) f t = -gt (rowL s.done t) f * q := by
      unfold rkV
      rw [etd, wrap_id (n := -gt (rowL s.done t) f) (by omega) (by omega), wrap_id (by omega) (by omega)]
    rw [ev, hq]
    grind
  have key := primR_prop (v := rkTo N s (lcTo s s.piv.length) f s.piv.length) (w := kvec r N f) (a := r.dv.toNat) (b := L) (by rw [rkTo_len, kvec_len]) (by omega) L1 (fun c hc => by
    rw [rkTo_len] at hc
    rw [show ((r.dv.toNat : Nat) : Int) = r.dv by omega]
    by_cases c1 : c = f
    · rw [c1, a1, h.kvec_free hR (Nat.le_refl N) hf hn, eL, Int.mul_comm]
    · by_cases c2 : ∃ t, t < s.piv.length ∧ p t = c
      · obtain ⟨t, ht, e4⟩ := c2
        rw [← e4, a2 t ht, hval t ht, e2 t ht, h.kvec_piv hR (Nat.le_refl N) hf hn (by rw [← e1]; exact ht)]
      · have c3 : (c : Int) ∉ r.piv := by
          rw [← e1]
          intro hm
          obtain ⟨t, ht, e4⟩ := mem_gt.mp hm
          rw [g.pe t ht] at e4
          exact c2 ⟨t, ht, by omega⟩
        rw [a3 c c1 (fun t ht e4 => c2 ⟨t, ht, e4⟩), h.kvec_else hR (Nat.le_refl N) hf hn hc c1 c3]; simp)
  rw [key, primR_short (h.kvec_gcd hR (Nat.le_refl N) hf hn)]
end Go.Proofs.YtfnomiingelfaaaGreat
/- reduce: a contract. -/
namespace Go.Proofs.YtfnomiingelfaaaGreat
open Go.RowKit

def RdPost (r : Rd) (w : World) (e : Ending) (w' : World) : Prop := Below w.heap.size w w' ∧ ∃ (g cap : Nat) (ads : List (Nat × Nat)) (pa : Option Addr) (pc : Nat), e = .returned (rdV g cap pa pc r) ∧ w.heap.size ≤ g ∧ SI w' w.heap.size g ads r.rows ∧ OwnI w' w.heap.size (.slice pa r.piv.length pc) r.piv
theorem SI.lower {w : World} {base base' g : Nat} {ads : List (Nat × Nat)} {M : List (List Int)} (h : SI w base g ads M) (hb : base' ≤ base) : SI w base' g ads M :=
  ⟨h.len, fun i x r e1 e2 => ⟨(h.row i x r e1 e2).1, (h.row i x r e1 e2).2.mono hb⟩, h.apart, fun i x e => ⟨(h.out i x e).1, Nat.le_trans hb (h.out i x e).2⟩⟩
theorem rdBox_heap (T g cap : Nat) (pa : Option Addr) (pc : Nat) (r : Rd) (W : World) {b : Nat} (hb : b ≠ T) : (rdBox T g cap pa pc r W).heap[b]? = W.heap[b]? :=
  (Below.heap_setCell _ ⟨T, 3, none⟩ _ b hb).trans ((Below.heap_setCell _ ⟨T, 2, none⟩ _ b hb).trans ((Below.heap_setCell _ ⟨T, 1, none⟩ _ b hb).trans (Below.heap_setCell W ⟨T, 0, none⟩ _ b hb)))
theorem rdPost_of {B g cap pc : Nat} {pa : Option Addr} {ads : List (Nat × Nat)} {r : Rd} {w w0 W : World} (hT : Below w.heap.size w w0) (h : RdW (w.heap.size + 1) B g cap ads (.slice pa r.piv.length pc) r W) (hb : Below (w.heap.size + 1) w0 W) : RdPost r w (.returned (rdV g cap pa pc r)) (rdBox w.heap.size g cap pa pc r W) := by
  refine ⟨?_, g, cap, ads, pa, pc, rfl, Nat.le_trans (Nat.le_succ _) h.bg, (h.si.same (rdBox_heap _ _ _ _ _ _ _ (by have := h.bg; omega)) fun i x e => rdBox_heap _ _ _ _ _ _ _ (by have := (h.si.out i x e).2; omega)).lower (Nat.le_succ _), ?_⟩
  · have h1 := hT.trans (hb.mono (Nat.le_succ _))
    exact (((h1.setCell (p := ⟨w.heap.size, 0, none⟩) (Nat.le_refl _) _).setCell (p := ⟨w.heap.size, 1, none⟩) (Nat.le_refl _) _).setCell (p := ⟨w.heap.size, 2, none⟩) (Nat.le_refl _) _).setCell (p := ⟨w.heap.size, 3, none⟩) (Nat.le_refl _) _
  · have hp : OwnI (rdBox w.heap.size g cap pa pc r W) (w.heap.size + 1) (.slice pa r.piv.length pc) r.piv := row_same h.pi fun b e => rdBox_heap _ _ _ _ _ _ _ (by have := (World.ownsRow.lt h.pi b e).1; omega)
    exact hp.mono (Nat.le_succ _)
theorem rb_new (w : World) (o : Obj) (cols : Int) (t : TypeId) : RB (w.heap.size + 1) cols (.slice none 0 0) ((w.alloc o).alloc (.cells #[.int .i64 cols, .slice none 0 0, .slice none 0 0, .int .i64 1] t)) := by
  have h : (w.alloc o).heap.size = w.heap.size + 1 := World.size_alloc _ _
  rw [← h]
  exact ⟨alloc_cell _ _ _ _ _ rfl, alloc_cell _ _ _ _ _ rfl, alloc_cell _ _ _ _ _ rfl, alloc_cell _ _ _ _ _ rfl, by simp, by simp, by simp⟩
theorem rt_new (w : World) (a b c d : Value) (t : TypeId) (o : Obj) : ∀ k, k < 4 → (∃ u, ((w.alloc (.cells #[a, b, c, d] t)).alloc o).cell? ⟨w.heap.size, k, none⟩ = some u) ∧ ((w.alloc (.cells #[a, b, c, d] t)).alloc o).frozen? ⟨w.heap.size, k, none⟩ = false := by
  have h : (w.alloc (.cells #[a, b, c, d] t)).heap.size = w.heap.size + 1 := World.size_alloc _ _
  intro k hk
  refine ⟨?_, by simp⟩
  match k, hk with
  | 0, _ => exact ⟨a, (alloc_old _ _ _ _ (by omega)).trans (alloc_cell _ _ _ _ _ rfl)⟩
  | 1, _ => exact ⟨b, (alloc_old _ _ _ _ (by omega)).trans (alloc_cell _ _ _ _ _ rfl)⟩
  | 2, _ => exact ⟨c, (alloc_old _ _ _ _ (by omega)).trans (alloc_cell _ _ _ _ _ rfl)⟩
  | 3, _ => exact ⟨d, (alloc_old _ _ _ _ (by omega)).trans (alloc_cell _ _ _ _ _ rfl)⟩
theorem two_new (w : World) (o o' : Obj) : Below w.heap.size w ((w.alloc o).alloc o') := ((Below.refl _ _).alloc (Nat.le_refl _) _).alloc (by rw [World.size_alloc]; omega) _
set_option maxRecDepth 100000 in
theorem reduce_any0 {ma : Option Addr} {m : List (List Int)} {mc : Nat} {pxa : Option Addr} {px : List Int} {pxc : Nat} {w : World} (hm : Hid (m.length ≤ 6)) (hm1 : Hid (1 ≤ m.length)) (hpx : Hid (px.length ≤ 10)) (hin : Hid (∀ j ∈ px, 0 ≤ j ∧ j < colsM m)) (hrl : Hid (∀ r ∈ m, r.length = colsM m)) (h64 : Hid (All64 m))
    (hms : Hid (Ms w ma m)) (hps : Hid (Sl w pxa px)) :
    Calls Tryz.prog 90 #[.slice ma m.length mc, .slice pxa px.length pxc, .func (.func 91) #[] #[]] w (RdPost (redN m px) w) := by
  go_enter Tryz.func90, Tryz.ntmps90
  refine wp_seq_k (fun K hK => ?_)
  have HK := Lib.hid hK; clear hK
  go_wp2
  refine HK.out _ _ ?_
  clear HK
  refine wp_seq_k (fun K hK => ?_)
  have HK := Lib.hid hK; clear hK
  go_wp2
  refine HK.out _ _ ?_
  clear HK
  refine reduce_t2 (base := w.heap.size + 1) (T := w.heap.size) (Nat.le_refl _) hm hpx hin hrl ?_ ?_ ?_ ?_ (Below.refl _ _) hm1 h64 (Nat.lt_succ_self _) ?_ ?_ _ _ _ _ _ _ _ _ _ _ _ _ _ _ _ _ _ _ _ _ _ _ _ _ _ _ _ _ _ _ _ _ _ _ _ _ _ _ _ _ _ _ _ _ _ _ _ _ _ _ _ _ _ _ _ ?_
  · exact fun hb => hms.out.below ((two_new w _ _).trans (hb.mono (Nat.le_succ _)))
  · exact fun hb => hps.out.below ((two_new w _ _).trans (hb.mono (Nat.le_succ _)))
  · rw [World.size_alloc, World.size_alloc]; omega
  · exact rb_new w _ _ _
  · rw [World.size_alloc, World.size_alloc]; omega
  · exact rt_new w _ _ _ _ _ _
  · exact fun g cap ads pa pc W h hb => rdPost_of (two_new w _ _) h hb
theorem reduce_any {ma : Option Addr} {m : List (List Int)} {mc : Nat} {pxa : Option Addr} {px : List Int} {pxc : Nat} {w : World} (hm : Hid (m.length ≤ 6)) (hm1 : Hid (1 ≤ m.length)) (hpx : Hid (1 ≤ px.length ∧ px.length ≤ 10)) (hin : Hid (∀ j ∈ px, 0 ≤ j ∧ j < colsM m)) (hrl : Hid (∀ r ∈ m, r.length = colsM m)) (h64 : Hid (All64 m))
    (hms : Hid (Ms w ma m)) (hps : Hid (Sl w pxa px)) :
    Calls Tryz.prog 90 #[.slice ma m.length mc, .slice pxa px.length pxc, .func (.func 91) #[] #[]] w (RdPost (redN m px) w) := reduce_any0 hm hm1 (Lib.hid hpx.out.2) hin hrl h64 hms hps
end Go.Proofs.YtfnomiingelfaaaGreat
/- reduceAll: a contract. -/
namespace Go.Proofs.YtfnomiingelfaaaGreat
open Go.RowKit

def upTo (n : Nat) : List Int := (List.range n).map Int.ofNat
theorem upTo_len (n : Nat) : (upTo n).length = n := by simp [upTo]
theorem upTo_succ (n : Nat) : upTo (n + 1) = upTo n ++ [(n : Int)] := by unfold upTo; rw [List.range_succ, List.map_append]; rfl
theorem rdPost_box {T g cap pc : Nat} {pa : Option Addr} {ads : List (Nat × Nat)} {r : Rd} {w wr W : World} (hT : T = w.heap.size) (hwr : w.heap.size < wr.heap.size) (hb0 : Below w.heap.size w wr) (hb : Below wr.heap.size wr W) (hg : wr.heap.size ≤ g) (hs : SI W wr.heap.size g ads r.rows) (hp : OwnI W wr.heap.size (.slice pa r.piv.length pc) r.piv) : RdPost r w (.returned (rdV g cap pa pc r)) (rdBox T g cap pa pc r W) := by
  subst hT
  refine ⟨?_, g, cap, ads, pa, pc, rfl, by omega, (hs.same (rdBox_heap _ _ _ _ _ _ _ (by omega)) fun i x e => rdBox_heap _ _ _ _ _ _ _ (by have := (hs.out i x e).2; omega)).lower (by omega), ?_⟩
  · have h1 := hb0.trans (hb.mono (Nat.le_of_lt hwr))
    exact (((h1.setCell (p := ⟨w.heap.size, 0, none⟩) (Nat.le_refl _) _).setCell (p := ⟨w.heap.size, 1, none⟩) (Nat.le_refl _) _).setCell (p := ⟨w.heap.size, 2, none⟩) (Nat.le_refl _) _).setCell (p := ⟨w.heap.size, 3, none⟩) (Nat.le_refl _) _
  · have hp : OwnI (rdBox w.heap.size g cap pa pc r W) wr.heap.size (.slice pa r.piv.length pc) r.piv := row_same hp fun b e => rdBox_heap _ _ _ _ _ _ _ (by have := (World.ownsRow.lt hp b e).1; omega)
    exact hp.mono (Nat.le_of_lt hwr)
theorem upTo_in {n : Nat} {q : Int} (h : q ∈ upTo n) : 0 ≤ q ∧ q < (n : Int) := by
  obtain ⟨j, hj, rfl⟩ := List.mem_map.1 h
  have := List.mem_range.1 hj
  exact ⟨Int.natCast_nonneg _, by show (j : Int) < n; omega⟩
set_option maxRecDepth 100000 in
theorem reduceAll_any {ma : Option Addr} {m : List (List Int)} {mc : Nat} {w : World} (hm : Hid (m.length ≤ 6)) (hm1 : Hid (1 ≤ m.length)) (hc : Hid (1 ≤ colsM m ∧ colsM m ≤ 10)) (hrl : Hid (∀ r ∈ m, r.length = colsM m)) (h64 : Hid (All64 m)) (hms : Hid (Ms w ma m)) :
    Calls Tryz.prog 99 #[.slice ma m.length mc, .func (.func 91) #[] #[]] w (RdPost (redN m (upTo (colsM m))) w) := by
  obtain ⟨n, hn⟩ : ∃ n, colsM m = n := ⟨_, rfl⟩
  have HN := Lib.hid hn
  rw [hn] at hc hrl
  clear hn
  go_enter Tryz.func99, Tryz.ntmps99
  have HB0 : Hid (∀ o, Below (w.heap.size + 1) (w.alloc o) (w.alloc o)) := fun o => Below.refl _ _
  have HBA : Hid (∀ o, Below w.heap.size w (w.alloc o)) := fun o => (Below.refl _ _).alloc (Nat.le_refl _) _
  have h0 : 0 < m.length := hm1.out
  obtain ⟨b1, o1, ai, r, ci, rfl, hcell, hsl, HR⟩ := hms.out.at h0
  have hcell' : ∀ o, (w.alloc o).cell? ⟨b1, o1, none⟩ = some (.slice ai r.length ci) := fun o => ((HBA.out o).cell (p := ⟨b1, o1, none⟩) (cell_lt hcell)).trans hcell
  have hrn : r.length = n := hrl.out r (List.mem_of_getElem? HR.out)
  rw [hrn] at hcell'
  clear hcell
  have hn10 := hc.out.2
  go_wp2
  go_loopw [5, 11] (fun v i wr => ∃ j : Nat, j ≤ n ∧ i = .int .i64 j ∧ OwnI wr (w.heap.size + 1) v (upTo j) ∧ Below (w.heap.size + 1) (w.alloc (.cells #[.int .i64 0, .slice none 0 0, .slice none 0 0, .int .i64 0] 113)) wr) (fun _ i _ => n - (intOf i).toNat)
  case atStart => exact ⟨0, Nat.zero_le _, rfl, OwnI.nil _ _, Below.refl _ _⟩
  case round =>
    obtain ⟨j, hj, rfl, hO, hB⟩ := hrel
    have HO := Lib.hid hO; clear hO
    have HB := Lib.hid hB; clear hB
    have hsz : (w.alloc (.cells #[.int .i64 0, .slice none 0 0, .slice none 0 0, .int .i64 0] 113)).heap.size = w.heap.size + 1 := World.size_alloc _ _
    have HSZ : Hid (w.heap.size + 1 ≤ wr.heap.size) := by have := HB.out.size; show _ ≤ _; omega
    clear hsz hcell'
    by_cases hlt : j < n
    · go_wp2_with (at_builtin; go_must (refine wpList_push rfl (.tmp 14) (.tmp 16) rfl (w.heap.size + 1) _ (upTo j) _ _ _ _ rfl rfl rfl HO.out (by rw [upTo_len]; omega) HSZ.out ?_); intro v' w9 ho' hb')
      go_roundw
      case rel => exact ⟨j + 1, by omega, by go_num, by rw [upTo_succ]; exact ho', HB.out.trans hb'⟩
      case measure => simp [intOf]; omega
    · obtain rfl : j = n := by omega
      have HBW : Hid (Below w.heap.size w wr) := (HBA.out _).trans (HB.out.mono (Nat.le_succ _))
      obtain ⟨pa, pc, rfl, hps⟩ := HO.out.any
      have HPS := Lib.hid hps; clear hps
      have HMS : Hid (Ms wr (some ⟨b1, o1, none⟩) m) := hms.out.below HBW.out
      have HT0 : Hid (wr.cell? ⟨w.heap.size, 0, none⟩ = some (.int .i64 0) ∧ wr.frozen? ⟨w.heap.size, 0, none⟩ = false) := ⟨(HB.out.cell (p := ⟨w.heap.size, 0, none⟩) (Nat.lt_succ_self _)).trans (alloc_cell w _ _ _ _ rfl), (HB.out.frozen (p := ⟨w.heap.size, 0, none⟩) (Nat.lt_succ_self _)).trans (by simp)⟩
      have HT1 : Hid (wr.cell? ⟨w.heap.size, 1, none⟩ = some (.slice none 0 0) ∧ wr.frozen? ⟨w.heap.size, 1, none⟩ = false) := ⟨(HB.out.cell (p := ⟨w.heap.size, 1, none⟩) (Nat.lt_succ_self _)).trans (alloc_cell w _ _ _ _ rfl), (HB.out.frozen (p := ⟨w.heap.size, 1, none⟩) (Nat.lt_succ_self _)).trans (by simp)⟩
      have HT2 : Hid (wr.cell? ⟨w.heap.size, 2, none⟩ = some (.slice none 0 0) ∧ wr.frozen? ⟨w.heap.size, 2, none⟩ = false) := ⟨(HB.out.cell (p := ⟨w.heap.size, 2, none⟩) (Nat.lt_succ_self _)).trans (alloc_cell w _ _ _ _ rfl), (HB.out.frozen (p := ⟨w.heap.size, 2, none⟩) (Nat.lt_succ_self _)).trans (by simp)⟩
      have HT3 : Hid (wr.cell? ⟨w.heap.size, 3, none⟩ = some (.int .i64 0) ∧ wr.frozen? ⟨w.heap.size, 3, none⟩ = false) := ⟨(HB.out.cell (p := ⟨w.heap.size, 3, none⟩) (Nat.lt_succ_self _)).trans (alloc_cell w _ _ _ _ rfl), (HB.out.frozen (p := ⟨w.heap.size, 3, none⟩) (Nat.lt_succ_self _)).trans (by simp)⟩
      have hlw : Hid (w.heap.size < wr.heap.size) := HSZ.out
      have HPX : Hid (1 ≤ (upTo j).length ∧ (upTo j).length ≤ 10) := by rw [upTo_len]; exact hc.out
      have HIN : Hid (∀ q ∈ upTo j, 0 ≤ q ∧ q < colsM m) := fun q hq => by rw [HN.out]; exact upTo_in hq
      have HRL : Hid (∀ r ∈ m, r.length = colsM m) := fun r hr => by rw [HN.out]; exact hrl.out r hr
      go_wp2_with (go_at_call 90; refine (reduce_any hm hm1 HPX HIN HRL h64 HMS HPS).mono ?_; rintro e w2 ⟨hb2, g, cap, ads, pa2, pc2, rfl, hgg, si, pi⟩; unfold rdV; have t0 := (hb2.cell (p := ⟨w.heap.size, 0, none⟩) hlw.out).trans HT0.out.1; have z0 := (hb2.frozen (p := ⟨w.heap.size, 0, none⟩) hlw.out).trans HT0.out.2; have t1 := (hb2.cell (p := ⟨w.heap.size, 1, none⟩) hlw.out).trans HT1.out.1; have z1 := (hb2.frozen (p := ⟨w.heap.size, 1, none⟩) hlw.out).trans HT1.out.2; have t2 := (hb2.cell (p := ⟨w.heap.size, 2, none⟩) hlw.out).trans HT2.out.1; have z2 := (hb2.frozen (p := ⟨w.heap.size, 2, none⟩) hlw.out).trans HT2.out.2; have t3 := (hb2.cell (p := ⟨w.heap.size, 3, none⟩) hlw.out).trans HT3.out.1; have z3 := (hb2.frozen (p := ⟨w.heap.size, 3, none⟩) hlw.out).trans HT3.out.2)
      refine bodyPost_ret_by (v := rdV g cap pa2 pc2 (redN m (upTo j))) ?_ rfl (by rw [HN.out]; exact rdPost_box rfl hlw.out HBW.out hb2 hgg si pi)
      rw [results_cell_one' rfl]
      unfold rdV
      go_simp
end Go.Proofs.YtfnomiingelfaaaGreat
