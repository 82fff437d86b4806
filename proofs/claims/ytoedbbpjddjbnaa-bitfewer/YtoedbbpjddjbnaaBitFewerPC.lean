/- Parts of the proof of BitFewer: plain words, walks and contracts, each under its own heading. -/
import Derived.Test.YtoedbbpjddjbnaaBitFewerPB
import Derived.Test.YtoedbbpjddjbnaaBitFewerPA
import Derived.Deep.AppendLies
import Derived.Deep.RegionLaw
/- counts of layer 7: a contract, for any iterator over pictures. -/
namespace Go.Proofs.Ytoedbbpjddjbnaa
open Go.RowKit Go.Shelf Go.Maps
attribute [local go_sem] Oper.semAt_some

theorem Try.infoMap7 : (Try.prog.info? 88).map (fun i => (i.zero, i.size, i.bytes)) = some (some (.map none), 1, 8) := by kernel_rfl
/-- A map of the call's own that tells how often each sum has come. -/
def OC (W : World) (b : Nat) (S : List Int) : Prop := ∃ n D, n ≤ S.length ∧ Cnt D S ∧ OwnCnt W b n D
theorem OC.lt {W : World} {b : Nat} {S : List Int} (h : OC W b S) : b < W.heap.size := by
  obtain ⟨n, D, _, _, es, clock, hb, _⟩ := h
  exact (Array.getElem?_eq_some_iff.1 hb).1
theorem OC.same {W W' : World} {b : Nat} {S : List Int} (h : OC W b S) (hb : W'.heap[b]? = W.heap[b]?) : OC W' b S := by
  obtain ⟨n, D, h1, h2, es, clock, h3, h4⟩ := h
  exact ⟨n, D, h1, h2, es, clock, hb.trans h3, h4⟩
theorem OC.made (W : World) : OC (W.alloc (.map #[] 0)) W.heap.size [] := ⟨0, .map [], Nat.le_refl _, Cnt.nil, World.ownsMap_made _ _ _ _⟩
/-- One more sum: what the look-up and the update do. -/
theorem OC.more {W : World} {b : Nat} {S : List Int} (h : OC W b S) (hS : S.length ≤ 1000000) {s : Int} (hs : -9223372036854775808 ≤ s ∧ s ≤ 9223372036854775807) :
    (Instr.lookup 88 (.map (some b)) (.int .i64 s) false).run Try.prog W = .ok (.int .i64 (S.count s : Int)) W ∧
    ∃ W', (Instr.mapUpdate 88 (.map (some b)) (.int .i64 s) (.int .i64 ((S.count s : Int) + 1))).run Try.prog W = .ok () W' ∧ OC W' b (S ++ [s]) ∧ W.grownBy W' (some b) := by
  obtain ⟨n, D, h1, h2, h3⟩ := h
  have hk : keyOf Try.prog 3 (.int .i64 s) = some (litN s) := keyOf_int_mk Try.underlying3 (litN_wf hs)
  have hc : S.count s ≤ S.length := List.count_le_length
  refine ⟨?_, ?_⟩
  · obtain ⟨c, hrun, hat, _⟩ := World.ownsMap.lookup_int h3 (int_keyed Try.underlying3) Try.underlying88 Try.underlying3 (Try.zeroValue3 W) hk
    rw [h2.2.1 s] at hat
    have : (S.count s : Int) = c := by simpa using hat
    rw [hrun, this]
  · have hw : (Lit.int .i64 ((S.count s : Int) + 1)).wf = true := litN_wf (x := (S.count s : Int) + 1) (by omega)
    obtain ⟨W', r1, r2, r3⟩ := World.ownsMap.store h3 (int_keyed Try.underlying3) Try.underlying88 (by unfold maxLen; omega) hk (plainElem_int (H := Unit) Try.underlying3 hw)
    exact ⟨W', r1, ⟨n + 1, _, by rw [List.length_append]; simp; omega, h2.more s, r2⟩, r3.grown⟩
/-- What counts holds: its boxes, the maps' headers, and the maps. -/
structure CoI (w : World) (X R : Nat) (ra : Option Addr) (rc : Nat) (f : Nat → List Int) (W : World) : Prop where
  cR : W.cell? ⟨w.heap.size, 0, none⟩ = some (.slice ra R rc)
  cX : W.cell? ⟨X, 0, none⟩ = some (.slice (some ⟨w.heap.size + 1, 0, none⟩) R R)
  cG : ∀ i, i < R → W.cell? ⟨w.heap.size + 1, i, none⟩ = some (.map (some (X + 1 + i)))
  mp : ∀ i, i < R → OC W (X + 1 + i) (f i)
  bw : Below w.heap.size w W
  lt : X + 1 + R ≤ W.heap.size
  wX : w.heap.size + 2 ≤ X
theorem CoI.turned {w : World} {X R : Nat} {ra : Option Addr} {rc : Nat} {f : Nat → List Int} {T : Blk} {W W' : World} (h : CoI w X R ra rc f W) (ht : Turned T W W') (hT : ∀ b, b < X + 1 + R → ¬ T b) : CoI w X R ra rc f W' := by
  have hX := h.wX
  exact ⟨ht.cell h.cR (hT _ (by show w.heap.size < _; omega)), ht.cell h.cX (hT _ (by show X < _; omega)), fun i hi => ht.cell (h.cG i hi) (hT _ (by show w.heap.size + 1 < _; omega)),
    fun i hi => (h.mp i hi).same (ht.same _ (h.mp i hi).lt (hT _ (by omega))), h.bw.trans (ht.below h.bw.size fun b hb => hT b (by omega)), Nat.le_trans h.lt ht.size, hX⟩
theorem CoI.congr {w : World} {X R : Nat} {ra : Option Addr} {rc : Nat} {f g : Nat → List Int} {W : World} (h : CoI w X R ra rc f W) (e : ∀ i, i < R → f i = g i) : CoI w X R ra rc g W :=
  ⟨h.cR, h.cX, h.cG, fun i hi => by rw [← e i hi]; exact h.mp i hi, h.bw, h.lt, h.wX⟩
/-- One map more or less is turned. -/
theorem CoI.set {w : World} {X R : Nat} {ra : Option Addr} {rc : Nat} {f : Nat → List Int} {W W' : World} (h : CoI w X R ra rc f W) {i : Nat} (hi : i < R) {S : List Int} (hm : OC W' (X + 1 + i) S) (hg : W.grownBy W' (some (X + 1 + i))) : CoI w X R ra rc (fun j => if j = i then S else f j) W' := by
  have hX := h.wX
  have ht : Turned (fun b => b = X + 1 + i) W W' := turned_grown hg fun r e => by cases e; rfl
  refine ⟨ht.cell h.cR (by show w.heap.size ≠ _; omega), ht.cell h.cX (by show X ≠ _; omega), fun j hj => ht.cell (h.cG j hj) (by show w.heap.size + 1 ≠ _; omega), fun j hj => ?_, h.bw.trans (ht.below h.bw.size fun b hb => by omega), Nat.le_trans h.lt ht.size, hX⟩
  show OC W' _ (if j = i then S else f j)
  by_cases e : j = i
  · subst e; rw [if_pos rfl]; exact hm
  · rw [if_neg e]; exact (h.mp j hj).same (ht.same _ (h.mp j hj).lt (by omega))
def CoJ (w : World) (X R : Nat) (ra : Option Addr) (rc : Nat) (rows : List (List Int)) (pre : List PicV) (C T : Blk) (W : World) : Prop :=
  CoI w X R ra rc (fun i => pre.map fun x => prodL (rowL rows i) x.2) W ∧ (∀ b, C b ↔ X + 1 ≤ b ∧ b < X + 1 + R) ∧ ∀ b, b < X + 1 + R → ¬ T b
theorem CoJ.client {w : World} {X R : Nat} {ra : Option Addr} {rc : Nat} {rows : List (List Int)} : Client (CoJ w X R ra rc rows) where
  lt := fun h b hb => by
    have := (h.2.1 b).1 hb
    exact ⟨Nat.lt_of_lt_of_le this.2 h.1.lt, h.2.2 b this.2⟩
  keep := fun h ht hT => ⟨h.1.turned ht h.2.2, h.2.1, fun b hb e => (hT b e).elim (h.2.2 b hb) (by have := h.1.lt; omega)⟩
/-- The maps' headers while they are laid. -/
def hdM (B R k : Nat) : List Value := (List.range R).map fun j => if j < k then Value.map (some (B + j)) else .map none
theorem hdM_len (B R k : Nat) : (hdM B R k).length = R := by simp [hdM]
theorem hdM_set {B R k : Nat} (h : k < R) : (hdM B R k).set k (.map (some (B + k))) = hdM B R (k + 1) := by
  apply List.ext_getElem?
  intro i
  by_cases e : i = k
  · subst e
    rw [List.getElem?_set_self (by rw [hdM_len]; exact h)]
    unfold hdM; rw [List.getElem?_map, List.getElem?_range h]; simp
  · rw [List.getElem?_set_ne (Ne.symm e)]
    unfold hdM
    rw [List.getElem?_map, List.getElem?_map]
    by_cases hi : i < R
    · rw [List.getElem?_range hi]
      simp only [Option.map_some]
      congr 1
      by_cases c : i < k
      · rw [if_pos c, if_pos (by omega)]
      · rw [if_neg c, if_neg (by omega)]
    · rw [List.getElem?_eq_none (by simp; omega)]; rfl
theorem hdM_at {B R i : Nat} (h : i < R) : (hdM B R R)[i]? = some (.map (some (B + i))) := by
  unfold hdM; rw [List.getElem?_map, List.getElem?_range h]; simp [h]
theorem hdM_next {B R i : Nat} (h : i < R) : (hdM B R i)[i]? = some (.map none) := by
  unfold hdM; rw [List.getElem?_map, List.getElem?_range h]; simp
theorem hdM_zero (B R : Nat) : (madeCells (Value.map none).cells (R * 1)).toList = hdM B R 0 := by
  unfold hdM madeCells
  rw [Array.toList_map, Array.toList_range, Nat.mul_one]
  exact List.map_congr_left fun x _ => by
    show (#[Value.map none] : Array Value)[x % 1]! = _
    rw [Nat.mod_one]; rfl
set_option maxRecDepth 1000000 in
set_option maxHeartbeats 4000000 in
theorem counts_any {P : Nat} (hP : P ≤ 8) (gf : Nat) (lb : Array Value) (eg : ∀ args w, (callFunc gf args).run Try.prog w = .ok (.enter gf args) w) (Z : List (List Int)) (hZ : Z.length ≤ 65536) (hZr : ∀ x ∈ Z, x.length = P ∧ okL 0 3 x = true) (need : Blk) (w0 w : World) (hseq : SeqM Try.prog gf lb encP MemP (fun _ _ => False) Prod.snd Z need w0) (hb0 : Below w0.heap.size w0 w) (hneed : ∀ b, need b → b < w.heap.size)
    (ra : Option Addr) (rows : List (List Int)) (rc : Nat) (hR : rows.length ≤ 1000) (hrow : ∀ r ∈ rows, r.length = P ∧ okL (-1) 1 r = true) (hr : Ms w ra rows) :
    Calls Try.prog 73 #[.func (.func gf) #[] lb, .slice ra rows.length rc] w fun e w' => ∃ X, e = .returned (.slice (some ⟨w.heap.size + 1, 0, none⟩) rows.length rows.length) ∧ CoI w X rows.length ra rc (fun i => Z.map fun x => prodL (rowL rows i) x) w' := by
  obtain ⟨R, hRl⟩ : ∃ R, rows.length = R := ⟨_, rfl⟩
  have HMS := Lib.hid hr; clear hr
  have HROW := Lib.hid hrow; clear hrow
  have HZR := Lib.hid hZr; clear hZr
  have HSEQ := Lib.hid hseq; clear hseq
  have HB0 := Lib.hid hb0; clear hb0
  have HND := Lib.hid hneed; clear hneed
  have HEG := Lib.hid eg; clear eg
  have HRL := Lib.hid hRl
  rw [hRl] at hR
  simp only [hRl]
  clear hRl
  obtain ⟨i0, hi, hz0, hz1, hz2⟩ := info_parts Try.infoMap7
  refine (callsIn_wide (n := 50)).1 ?_
  refine callsIn_of_wp_marks Try.func73 rfl trivial ?_ rfl
  simp only [Try.ntmps73, List.size_toArray, List.length_cons, List.length_nil, Nat.reduceAdd, Nat.reduceSub, Array.replicate_succ, Array.replicate_zero, List.push_toArray, List.append_toArray, List.nil_append, List.cons_append]
  obtain ⟨V0, hV0⟩ : ∃ V0, w.alloc (.cells #[.slice ra R rc] 57) = V0 := ⟨_, rfl⟩
  have hs0 : V0.heap.size = w.heap.size + 1 := by rw [← hV0]; exact World.size_alloc _ _
  have HBV0 : Hid (Below w.heap.size w V0) := by rw [← hV0]; exact (Below.refl _ _).alloc (Nat.le_refl _) _
  have v0 : V0.cell? ⟨w.heap.size, 0, none⟩ = some (.slice ra R rc) := by rw [← hV0]; exact alloc_cell _ _ _ _ _ rfl
  gi_wp2_with (gi_at_make; with_reducible refine wpListIn_make_fullB _ rfl (.tmp 11) (.tmp 11) 89 rfl V0.heap.size 88 i0 (.map none) 1 Try.underlying89 hi hz0 hz1 .i64 .i64 (R : Int) (R : Int) R rfl rfl rfl rfl (by rw [hz2]; omega) (by unfold maxLen; omega) (Nat.le_refl _) ?_)
  intro w4 hown hgrow
  have hb4 : Below w.heap.size w w4 := HBV0.out.grown hgrow (by omega) (fun k e => by cases e)
  have hs4 : w.heap.size + 2 ≤ w4.heap.size := by
    obtain ⟨_, ⟨e, _⟩ | ⟨g9, cap9, cur, e9, _, h9, _⟩⟩ := hown
    · cases e
    · obtain ⟨rfl, _⟩ : w.heap.size + 1 = g9 ∧ _ := by simpa using e9
      have := (Array.getElem?_eq_some_iff.1 h9).1; omega
  obtain ⟨X, hX⟩ : ∃ X, w4.heap.size = X := ⟨_, rfl⟩
  obtain ⟨V5, hV5⟩ : ∃ V5, w4.alloc (.cells #[.slice (some ⟨w.heap.size + 1, 0, none⟩) R R] 89) = V5 := ⟨_, rfl⟩
  have HB45 : Hid (Below w4.heap.size w4 V5) := by rw [← hV5]; exact (Below.refl _ _).alloc (Nat.le_refl _) _
  have HS5 : Hid (V5.heap.size = X + 1) := by show _ = _; rw [← hV5, World.size_alloc, hX]
  have HO5 : Hid (V5.ownsRow (w.heap.size + 1) 88 1 (.slice (some ⟨w.heap.size + 1, 0, none⟩) R R) R (hdM (X + 1) R 0)) := by
    rw [← hdM_zero, Nat.mul_one]; exact row_below hown HB45.out
  have HWX : Hid (w.heap.size + 2 ≤ X) := by rw [← hX]; exact hs4
  have HC5 : Hid (V5.cell? ⟨w.heap.size, 0, none⟩ = some (.slice ra R rc) ∧ V5.cell? ⟨X, 0, none⟩ = some (.slice (some ⟨w.heap.size + 1, 0, none⟩) R R)) := by
    refine ⟨?_, by rw [← hV5, ← hX]; exact alloc_cell _ _ _ _ _ rfl⟩
    have h1 : w4.cell? ⟨w.heap.size, 0, none⟩ = some (.slice ra R rc) := (World.cell?_of_block (hgrow.block w.heap.size (by omega) (by simp))).trans v0
    exact (HB45.out.cell (p := ⟨w.heap.size, 0, none⟩) (cell_lt h1)).trans h1
  have HB5 : Hid (Below w.heap.size w V5) := hb4.trans (HB45.out.mono hb4.size)
  obtain ⟨x0, x1⟩ := HC5.out
  have hmm := @run_makeMap Try.prog
  clear hown hgrow hb4 HB45 hs4 v0 hV0 hs0 hi hz0 hz1 hz2
  gi_wp2
  clear x0 x1 hX hV5
  gi_loopw [6, 15] (fun _ i wr => ∃ k : Nat, k ≤ R ∧ i = .int .i64 k ∧ wr.heap.size = X + 1 + k ∧ wr.ownsRow (w.heap.size + 1) 88 1 (.slice (some ⟨w.heap.size + 1, 0, none⟩) R R) R (hdM (X + 1) R k) ∧ (wr.cell? ⟨w.heap.size, 0, none⟩ = some (.slice ra R rc) ∧ wr.cell? ⟨X, 0, none⟩ = some (.slice (some ⟨w.heap.size + 1, 0, none⟩) R R)) ∧ (∀ i, i < k → OC wr (X + 1 + i) []) ∧ Below w.heap.size w wr) (fun _ i _ => R - (intOf i).toNat)
  case atStart => exact ⟨0, Nat.zero_le _, rfl, HS5.out, HO5.out, HC5.out, fun i h => by omega, HB5.out⟩
  case round =>
    clear HO5 HC5 HB5 HS5
    obtain ⟨k, hk, rfl, hsz, hO, hc, hm, hb⟩ := hrel
    have HSZ := Lib.hid hsz
    have HO := Lib.hid hO
    have HM := Lib.hid hm
    have HB := Lib.hid hb
    have HC := Lib.hid hc
    have h2 := HWX.out
    by_cases hlt : k < R
    · obtain ⟨W2, hW2⟩ : ∃ W2, wr.alloc (.map #[] 0) = W2 := ⟨_, rfl⟩
      have hbw : Below wr.heap.size wr W2 := by rw [← hW2]; exact (Below.refl _ _).alloc (Nat.le_refl _) _
      have HBW := Lib.hid hbw
      have ho2 := row_below hO hbw
      have c1 := (hbw.cell (p := ⟨w.heap.size, 0, none⟩) (cell_lt hc.1)).trans hc.1
      have c2 := (hbw.cell (p := ⟨X, 0, none⟩) (cell_lt hc.2)).trans hc.2
      have c3 := ho2.cellAt k (by rw [Nat.mul_one]; exact hlt)
      rw [hdM_next hlt] at c3
      have c4 := World.ownsRow.frozenAt ho2 k
      have HST := Lib.hid (World.ownsRow.stored ho2 k (.map (some (X + 1 + k)))).1
      have HOM : Hid (OC W2 (X + 1 + k) []) := by show OC _ _ _; rw [← hW2, ← hsz]; exact OC.made wr
      have HS2 : Hid (W2.heap.size = X + 1 + (k + 1)) := by show _ = _; rw [← hW2, World.size_alloc, hsz]; omega
      rw [hdM_set hlt] at HST
      have hx := hc.2
      clear hO hm hb hc hbw ho2
      gi_wp2
      have hne : ∀ b, b ≠ w.heap.size + 1 → (W2.setCell ⟨w.heap.size + 1, k, none⟩ (.map (some (X + 1 + k)))).heap[b]? = W2.heap[b]? := fun b h => Below.heap_setCell _ _ _ b (by show b ≠ w.heap.size + 1; exact h)
      refine ⟨⟨k + 1, by omega, by go_num, by rw [World.size_setCell]; exact HS2.out, HST.out, ⟨(World.cell?_of_block (hne w.heap.size (by omega))).trans c1, (World.cell?_of_block (hne X (by omega))).trans c2⟩, fun i hi => ?_, (HB.out.trans (HBW.out.mono HB.out.size)).setCell (p := ⟨w.heap.size + 1, k, none⟩) (by show _ ≤ w.heap.size + 1; omega) _⟩, by simp [intOf]; omega⟩
      by_cases e : i = k
      · subst e; exact HOM.out.same (hne _ (by omega))
      · have h3 := HM.out i (by omega)
        exact (h3.same (HBW.out.block _ h3.lt)).same (hne _ (by omega))
    · obtain rfl : R = k := by omega
      have HI0 : Hid (CoJ w X R ra rc rows [] (fun b => X + 1 ≤ b ∧ b < X + 1 + R) (fun _ => False) wr) := ⟨⟨hc.1, hc.2, fun i hi => by
        have h := hO.cellAt i (by rw [Nat.mul_one]; exact hi)
        rw [hdM_at hi] at h; exact h, fun i hi => hm i hi, hb, by omega, h2⟩, fun b => Iff.rfl, fun _ _ e => e⟩
      clear hO hc hm hb hmm
      gi_wp2
      refine wpIn_rangeFunc_M (by omega) (gf := gf) (lb := lb) rfl HEG.out
        HSEQ.out (HB0.out.trans (HB.out.mono HB0.out.size)) (fun _ => rfl) memP_put
        (CoJ w X R ra rc rows) (fun _ _ _ _ _ => False) CoJ.client (fun _ => ⟨fun h => h.elim, fun h => h.elim⟩) (fun b => X + 1 ≤ b ∧ b < X + 1 + R) (fun _ => False) ?need (fun _ e => e.elim) HI0.out
        (fun x => { tmps := #[.func (.func gf) #[] lb, .slice ra R rc, undef, .pointer (some ⟨w.heap.size, 0, none⟩), .slice none 0 0, .pointer (some ⟨X, 0, none⟩), u6, .slice (some ⟨x.1, 0, none⟩) x.2.length x.2.length, undef, undef, .slice ra R rc, .int .i64 R, .slice (some ⟨w.heap.size + 1, 0, none⟩) R R, .slice (some ⟨w.heap.size + 1, 0, none⟩) R R, .int .i64 R, .int .i64 R, .bool false, u17, u18, u19, u20, u21, u22, .func (.func gf) #[] lb, .slice (some ⟨x.1, 0, none⟩) x.2.length x.2.length, undef, undef, undef, undef, undef, undef, undef, undef, undef, undef, undef, undef, undef, undef, undef, undef, undef, undef], defers := [] }) ?assign ?body ?done ?stop
      case need =>
        intro b hb
        have h1 := HND.out b hb
        have h3 := HB.out.size
        exact ⟨fun e => by omega, by omega⟩
      case assign =>
        intro l2 x V K hK
        gi_wp2
        exact hK
      case body =>
        rintro l2 pre ⟨xb, xs⟩ C Tb V hI hmem hown ⟨rest, hrest⟩
        have hin : xs ∈ Z := by rw [hrest]; simp
        have hpl : pre.length ≤ 65536 := by
          have e := congrArg List.length hrest
          simp at e; omega
        have HXS : Hid (xs.length = P ∧ okL 0 3 xs = true) := HZR.out xs hin
        have HI := Lib.hid hI
        have HPL := Lib.hid hpl
        obtain ⟨cx, ox, gx⟩ : ∃ cur o, V.heap[xb]? = some (.cells cur 3 o) := by
          obtain ⟨_, ⟨e, _⟩ | ⟨g9, cap9, cur, e9, _, h9, _⟩⟩ := (show OwnI V 0 (.slice (some ⟨xb, 0, none⟩) xs.length xs.length) xs from hmem)
          · cases e
          · obtain ⟨rfl, _⟩ : xb = g9 ∧ _ := by simpa using e9
            exact ⟨cur, _, h9⟩
        have HNX : Hid (¬ (X + 1 ≤ xb ∧ xb < X + 1 + R)) := fun ⟨h3, h4⟩ => by
          obtain ⟨n, D, _, _, es, clock, hb9, _⟩ := hI.1.mp (xb - (X + 1)) (by omega)
          rw [show X + 1 + (xb - (X + 1)) = xb by omega, gx] at hb9
          cases hb9
        have HSL : Hid (∀ W', Turned (fun b => X + 1 ≤ b ∧ b < X + 1 + R) V W' → Sl W' (some ⟨xb, 0, none⟩) xs) := fun W' ht => OwnI.sl (OwnI.sameBlock hmem (ht.same _ (Array.getElem?_eq_some_iff.1 gx).1 HNX.out))
        have HC0 : Hid (CoI w X R ra rc (fun i => pre.map fun x => prodL (rowL rows i) x.2) V) := hI.1
        have x0 := hI.1.cR
        clear hmem hown hrest hI hin gx hpl
        dsimp only
        gi_wp2
        clear x0
        gi_loopw [8, 9, 27] (fun _ _ i wr => ∃ k : Nat, k ≤ R ∧ i = .int .i64 k ∧ CoI w X R ra rc (fun i => if i < k then (pre.map fun x => prodL (rowL rows i) x.2) ++ [prodL (rowL rows i) xs] else pre.map fun x => prodL (rowL rows i) x.2) wr ∧ Turned (fun b => X + 1 ≤ b ∧ b < X + 1 + R) V wr) (fun _ _ i _ => R - (intOf i).toNat)
        case atStart => exact ⟨0, Nat.zero_le _, rfl, HC0.out, Turned.refl _ _⟩
        case round =>
          clear HC0
          obtain ⟨k, hk, rfl, hc, ht⟩ := hrel
          have HC := Lib.hid hc
          have HT := Lib.hid ht
          by_cases hlt : k < R
          · obtain ⟨b1, o1, a1, r1, c1, rfl, q0, q1, q2⟩ := (HMS.out.below hc.bw).at (i := k) (by rw [HRL.out]; exact hlt)
            have hr1 := HROW.out r1 (List.mem_of_getElem? q2.out)
            have hrl : rowL rows k = r1 := rowL_some q2.out
            have hpr := product_any a1 r1 c1 (some ⟨xb, 0, none⟩) xs xs.length wr.drew (by omega) (by rw [hr1.1, HXS.out.1]) hr1.2 HXS.out.2 q1.drew (HSL.out wr ht).drew
            have hbd : -24 ≤ prodL r1 xs ∧ prodL r1 xs ≤ 24 := by have h9 := prodTo_bd hr1.2 HXS.out.2 (by rw [hr1.1, HXS.out.1]) r1.length (Nat.le_refl _); have h8 := hr1.1; unfold prodL; omega
            obtain ⟨s, hs⟩ : ∃ s, prodL r1 xs = s := ⟨_, rfl⟩
            rw [hs] at hpr hbd
            obtain ⟨S, hS⟩ : ∃ S, (pre.map fun x => prodL (rowL rows k) x.2) = S := ⟨_, rfl⟩
            have hcd : CoI w X R (some ⟨b1, o1, none⟩) rc _ wr.drew := hc.turned (turned_drew (fun _ => False) wr) fun _ _ e => e
            have hm := hcd.mp k hlt
            rw [if_neg (Nat.lt_irrefl k), hS] at hm
            have hSl : S.length ≤ 1000000 := by rw [← hS, List.length_map]; have := HPL.out; omega
            obtain ⟨lk, W', up, hm', hg'⟩ := hm.more hSl (s := s) (by omega)
            have hcnt : S.count s ≤ S.length := List.count_le_length
            have HCN : Hid (CoI w X R (some ⟨b1, o1, none⟩) rc (fun i => if i < k + 1 then (pre.map fun x => prodL (rowL rows i) x.2) ++ [prodL (rowL rows i) xs] else pre.map fun x => prodL (rowL rows i) x.2) W') := by
              refine (hcd.set hlt hm' hg').congr fun i hi => ?_
              by_cases e : i = k
              · subst e; rw [if_pos rfl, if_pos (by omega), hrl, hs, ← hS, hrl]
              · rw [if_neg e]
                by_cases e2 : i < k
                · rw [if_pos e2, if_pos (by omega)]
                · rw [if_neg e2, if_neg (by omega)]
            have HTN : Hid (Turned (fun b => X + 1 ≤ b ∧ b < X + 1 + R) V W') := (ht.trans (turned_drew (fun b => X + 1 ≤ b ∧ b < X + 1 + R) wr) fun b e => .inl e).trans (turned_grown hg' fun r e => by cases e; exact ⟨by omega, by omega⟩) fun b e => .inl e
            have HPR := Lib.hid hpr
            have hx := hc.cX
            have hg := hc.cG k hlt
            have hr := hc.cR
            generalize S.count s = cn at *
            have hwr : IntKind.i64.wrap ((cn : Int) + 1) = (cn : Int) + 1 := IntWalk.i64_in _ (by omega)
            clear hc hcd ht q1 q2 hr1 hrl hpr hm hm' hg' hs hS
            gi_wp2
            refine wpIn_region_still_tail_round 9 (by kernel_rfl) (by kernel_rfl) (by kernel_rfl) ?hq ?_
            case hq => rintro ⟨_, _, h⟩; exact h
            simp only [List.take_succ_cons, List.take_zero, List.drop_succ_cons, List.drop_zero]
            repeat still_step
            still_call (HPR.out.mono fun _ _ h => ⟨h.1, h.2.symm⟩)
            repeat still_step
            refine wpStill_nil ?_
            go_wp2
            clear up lk hwr
            gi_wp2
            exact ⟨⟨k + 1, by omega, by go_num, HCN.out, HTN.out⟩, by simp [intOf]; omega⟩
          · obtain rfl : R = k := by omega
            have HF : Hid (CoI w X R ra rc (fun i => (pre ++ [(xb, xs)]).map fun x => prodL (rowL rows i) x.2) wr) := hc.congr fun i hi => by rw [if_pos hi, List.map_append]; rfl
            clear hc ht
            gi_wp2
            exact ⟨C, Tb, ⟨HF.out, HI.out.2.1, HI.out.2.2⟩, fun b hb _ _ => hb, fun b hb => .inl hb, HT.out.mono fun b _ e => .inl ((HI.out.2.1 b).2 e)⟩
      case done =>
        rintro D ys C Tb V hD hys hI hTD hK
        have HI := Lib.hid hI
        have HKD := Lib.hid hK
        have HDG : Hid (¬ D < X + 1 + R) := fun e => hI.2.2 D e hTD
        have HF : Hid (CoI w X R ra rc (fun i => Z.map fun x => prodL (rowL rows i) x) V) := hI.1.congr fun i _ => by rw [← hys, List.map_map]; rfl
        have hx := hI.1.cX
        clear hI hys hTD hK hD
        gi_wp2
        refine leavesP_marks (fun W => CoI w X R ra rc (fun i => Z.map fun x => prodL (rowL rows i) x) W) [D] ?_ ?_ [D] V (fun _ h => h) (by simp) ?_ HF.out
        · rintro W E hE h1
          obtain rfl : E = D := by simpa using hE
          exact h1.turned (turned_put (T := fun b => b = E) W (.deferred none) rfl) fun b hb e => by subst e; exact HDG.out hb
        · rintro W h1
          exact ⟨.slice (some ⟨w.heap.size + 1, 0, none⟩) R R, by simp [results, Try.results73, go_sem], X, rfl, h1⟩
        · intro E hE; rw [List.mem_singleton.1 hE]; exact HKD.out
      case stop =>
        rintro D c pre C Tb V hD h
        exact h.elim
end Go.Proofs.Ytoedbbpjddjbnaa
/- Parts of layer 7 and of its answers: contracts. -/
namespace Go.Proofs.Ytoedbbpjddjbnaa
open Go.RowKit

/-- The sums of a row times some pictures. -/
def sumsB (row : List Int) (L : List (List Int)) : List Int := L.map fun x => prodL row x
def celB (p t : Int) (cs : List Cl) (row : List Int) : Bool := valsB p t cs && browB p t row
def partsV (p t : Int) (cs : List Cl) (row : List Int) (th : Int) : (Int × Int) × Int :=
  if celB p t cs row = true then (if rangeB th (-100) 100 = true then (((cntLo (sumsB row (fitP t.toNat p.toNat cs)) th : Int), (cntHi (sumsB row (fitP t.toNat p.toNat cs)) th : Int)), 0) else ((0, 0), 7)) else ((0, 0), 1)
/-- Those of the first k pictures. -/
def paLo (row : List Int) (L : List (List Int)) (th : Int) (k : Nat) : Nat := cntLo (sumsB row (L.take k)) th
def paHi (row : List Int) (L : List (List Int)) (th : Int) (k : Nat) : Nat := cntHi (sumsB row (L.take k)) th
theorem pa_yes {row x : List Int} {L : List (List Int)} {th : Int} {k : Nat} (h : L[k]? = some x) (hx : prodL row x < th) : paLo row L th (k + 1) = paLo row L th k + 1 ∧ paHi row L th (k + 1) = paHi row L th k := by
  unfold paLo paHi cntLo cntHi sumsB
  rw [List.take_add_one, h, Option.toList_some, List.map_append, List.filter_append, List.filter_append]
  simp [hx]
theorem pa_no {row x : List Int} {L : List (List Int)} {th : Int} {k : Nat} (h : L[k]? = some x) (hx : ¬ prodL row x < th) : paLo row L th (k + 1) = paLo row L th k ∧ paHi row L th (k + 1) = paHi row L th k + 1 := by
  unfold paLo paHi cntLo cntHi sumsB
  rw [List.take_add_one, h, Option.toList_some, List.map_append, List.filter_append, List.filter_append]
  simp [hx]
theorem pa_le (row : List Int) (L : List (List Int)) (th : Int) (k : Nat) : paLo row L th k ≤ L.length ∧ paHi row L th k ≤ L.length := by
  unfold paLo paHi cntLo cntHi sumsB
  have h : (List.map (fun x => prodL row x) (L.take k)).length ≤ L.length := by rw [List.length_map, List.length_take]; omega
  exact ⟨Nat.le_trans (List.length_filter_le _ _) h, Nat.le_trans (List.length_filter_le _ _) h⟩
set_option maxRecDepth 100000 in
set_option maxHeartbeats 1000000 in
theorem rparts_any {P : Nat} (hP : P ≤ 8) (base : Nat) (va : Option Addr) (vc : Nat) (ads : List (Option Addr × Nat)) (L : List (List Int)) (a : Option Addr) (row : List Int) (ca : Nat) (th : Int) (w : World) (hl : L.length ≤ 1000000) (hL : ∀ x ∈ L, x.length = P ∧ okL 0 3 x = true) (hrow : row.length = P ∧ okL (-1) 1 row = true) (hr : HR base (.slice va L.length vc) ads L w) (ha : Sl w a row) :
    Calls Try.prog 75 #[.slice va L.length vc, .slice a row.length ca, .int .i64 th] w fun e w' => e = .returned (.tuple #[.int .i64 (cntLo (sumsB row L) th : Int), .int .i64 (cntHi (sumsB row L) th : Int)]) ∧ Below w.heap.size w w' := by
  have HRR := Lib.hid hr; clear hr
  have HA := Lib.hid ha; clear ha
  have HLL := Lib.hid hL; clear hL
  have HROW := Lib.hid hrow; clear hrow
  obtain ⟨N, hN⟩ : ∃ N, L.length = N := ⟨_, rfl⟩
  have HNL := Lib.hid hN
  rw [hN] at hl
  simp only [hN]
  clear hN
  go_enter Try.func75, Try.ntmps75
  go_wp2
  go_loop [6, 7, 9, 12] (fun v6 v7 _ i => ∃ k : Nat, k ≤ N ∧ i = .int .i64 k ∧ v6 = .int .i64 (paLo row L th k : Int) ∧ v7 = .int .i64 (paHi row L th k : Int)) (fun _ _ _ i => N - (intOf i).toNat)
  case atStart => exact ⟨0, Nat.zero_le _, rfl, rfl, rfl⟩
  case round =>
    obtain ⟨k, hk, rfl, rfl, rfl⟩ := hrel
    have hb := pa_le row L th k
    rw [HNL.out] at hb
    by_cases hlt : k < N
    · obtain ⟨g, rfl⟩ : ∃ g, va = some ⟨g, 0, none⟩ := by
        have h1 := HRR.out
        rcases h1.shape with ⟨_, e⟩ | ⟨g, c, e, _⟩
        · have h2 := HNL.out; rw [e] at h2; simp at h2; omega
        · exact ⟨g, by simpa using congrArg (fun v => match v with | .slice a _ _ => a | _ => none) e⟩
      obtain ⟨ra, rc, _, hcell, _, hsl, _⟩ := HRR.out.at (i := k) (by rw [HNL.out]; exact hlt)
      obtain ⟨x, hx⟩ : ∃ x, L[k]? = some x := ⟨L[k]'(by rw [HNL.out]; exact hlt), by simp⟩
      rw [rowL_some hx] at hcell hsl
      have hxr := HLL.out x (List.mem_of_getElem? hx)
      have HPR := Lib.hid (rsum_any a row ca ra x rc w (by rw [HROW.out.1]; exact hP) (by rw [HROW.out.1, hxr.1]) HROW.out.2 hxr.2 HA.out hsl)
      by_cases ht : prodL row x < th
      · have HE := Lib.hid (pa_yes hx ht)
        clear hx hxr hsl
        generalize paLo row L th k = A at *
        generalize paHi row L th k = B at *
        go_wp2_with (go_at_call 58; refine HPR.out.mono ?_; rintro e w9 ⟨rfl, rfl⟩)
        exact ⟨⟨k + 1, by omega, by go_num, by (rw [HE.out.1]; try rw [Int.natCast_add]; try rfl), by (rw [HE.out.2]; try rw [Int.natCast_add]; try rfl)⟩, by simp [intOf]; omega⟩
      · have HE := Lib.hid (pa_no hx ht)
        clear hx hxr hsl
        generalize paLo row L th k = A at *
        generalize paHi row L th k = B at *
        go_wp2_with (go_at_call 58; refine HPR.out.mono ?_; rintro e w9 ⟨rfl, rfl⟩)
        exact ⟨⟨k + 1, by omega, by go_num, by (rw [HE.out.1]; try rw [Int.natCast_add]; try rfl), by (rw [HE.out.2]; try rw [Int.natCast_add]; try rfl)⟩, by simp [intOf]; omega⟩
    · obtain rfl : N = k := by omega
      have HE : Hid (paLo row L th N = cntLo (sumsB row L) th ∧ paHi row L th N = cntHi (sumsB row L) th) := by
        show _ ∧ _
        unfold paLo paHi
        rw [List.take_of_length_le (by rw [HNL.out]; exact Nat.le_refl _)]
        exact ⟨rfl, rfl⟩
      go_wp2
      go_ret2
      exact ⟨by rw [← HE.out.1, ← HE.out.2]; rfl, Below.refl _ _⟩
theorem ms_one (W : World) (a : Option Addr) (row : List Int) (ca : Nat) (ty : TypeId) (hs : Sl W a row) : Ms (W.alloc (.cells #[.slice a row.length ca] ty)) (some ⟨W.heap.size, 0, none⟩) [row] := by
  intro i hi
  match i, hi with
  | 0, _ => exact ⟨W.heap.size, 0, a, ca, rfl, alloc_cell _ _ _ _ _ rfl, hs.alloc _⟩
theorem fitP_ok {T P : Nat} (hT : T ≤ 3) {cs : List Cl} {x : List Int} (hx : x ∈ fitP T P cs) : x.length = P ∧ okL 0 3 x = true := dig_ok hT (List.mem_filter.1 hx).1
/-- counts of one row, asked of the pictures that fit. -/
theorem counts_fit (P T : Nat) (hP1 : 1 ≤ P) (hP : P ≤ 8) (hT : T ≤ 3) (a : Option Addr) (cs : List Cl) (cap : Nat) (hn : cs.length ≤ 1000000) (hv : ∀ c ∈ cs, c.1.length = P ∧ okL (-1) 1 c.1 = true) (F : Nat) (w0 w : World) (hcs : Cs w0 a cs) (hw0 : Below w0.heap.size w0 w)
    (h0 : w.cell? ⟨F, 0, none⟩ = some (.int .i64 P)) (h1 : w.cell? ⟨F, 1, none⟩ = some (.int .i64 T)) (hq : w.cell? ⟨F + 1, 0, none⟩ = some (.slice a cs.length cap)) (ra : Option Addr) (rows : List (List Int)) (rc : Nat) (hR : rows.length ≤ 1000) (hrow : ∀ r ∈ rows, r.length = P ∧ okL (-1) 1 r = true) (hr : Ms w ra rows) :
    Calls Try.prog 73 #[.func (.func 95) #[] #[.pointer (some ⟨F, 0, none⟩), .pointer (some ⟨F + 1, 0, none⟩)], .slice ra rows.length rc] w fun e w' => ∃ X, e = .returned (.slice (some ⟨w.heap.size + 1, 0, none⟩) rows.length rows.length) ∧ CoI w X rows.length ra rc (fun i => (fitP T P cs).map fun x => prodL (rowL rows i) x) w' := by
  have l1 : F < w.heap.size := cell_lt h0
  have l2 : F + 1 < w.heap.size := cell_lt hq
  refine counts_any hP 95 #[.pointer (some ⟨F, 0, none⟩), .pointer (some ⟨F + 1, 0, none⟩)] (enters_of Try.func95 (by kernel_rfl) rfl) (fitP T P cs) (fitP_len hT hP cs) (fun x hx => fitP_ok hT hx) _ w w (fitting1_seq P T F (F + 1) hP1 hP hT a cs cap hn hv w0 w hcs hw0 h0 h1 hq) (Below.refl _ _) ?_ ra rows rc hR hrow hr
  rintro b (hb | rfl | rfl)
  · exact Nat.lt_of_lt_of_le hb hw0.size
  · exact l1
  · exact l2
theorem cel_row {p t : Int} {cs : List Cl} {row : List Int} (h : celB p t cs row = true) : ∃ P T : Nat, p = (P : Int) ∧ t = (T : Int) ∧ 1 ≤ P ∧ P ≤ 8 ∧ T ≤ 3 ∧ valsB P T cs = true ∧ row.length = P ∧ okL (-1) 1 row = true := by
  unfold celB at h
  rw [Bool.and_eq_true] at h
  obtain ⟨P, T, rfl, rfl, h1, h2, h3⟩ := vals_field h.1
  obtain ⟨_, _, _, _, q, q2⟩ := brow_of h.2
  exact ⟨P, T, rfl, rfl, h1, h2, h3, h.1, by omega, q2⟩
set_option maxRecDepth 100000 in
set_option maxHeartbeats 2000000 in
theorem bparts_any (p t : Int) (a : Option Addr) (cs : List Cl) (cap : Nat) (b : Option Addr) (row : List Int) (cb : Nat) (th : Int) (w : World) (hn : cs.length ≤ 1000000) (hlc : CLen cs) (hs : Cs w a cs) (hl : row.length ≤ 140737488351232) (hb : Sl w b row) :
    Calls Try.prog 34 #[.agg #[.int .i64 p, .int .i64 t], .slice a cs.length cap, .slice b row.length cb, .int .i64 th] w fun e w' => e = .returned (.tuple #[.int .i64 (partsV p t cs row th).1.1, .int .i64 (partsV p t cs row th).1.2, .int .i64 (partsV p t cs row th).2]) ∧ Below w.heap.size w w' := by
  have HF := Lib.hid (Fb.new w p t 23)
  have HS := Lib.hid hs; clear hs
  have HLC := Lib.hid hlc; clear hlc
  have HB := Lib.hid hb; clear hb
  cases hv : valsB p t cs
  · have HV := Lib.hid (show partsV p t cs row th = ((0, 0), 1) by unfold partsV celB; rw [hv]; rfl)
    go_enter Try.func34, Try.ntmps34
    go_wp2_with (go_at_call 21; refine (bvalid_any p t a cs cap _ hn HLC.out (HF.out.below_cs HS.out)).mono ?_; rintro e w1 ⟨rfl, hb1⟩; have F1 := Fb.next HF.out hb1; obtain ⟨k0, k1⟩ := And.intro F1.c0 F1.c1; rw [hv])
    go_ret3
    exact ⟨by rw [HV.out]; rfl, F1.below⟩
  · cases hw : browB p t row
    · have HV := Lib.hid (show partsV p t cs row th = ((0, 0), 1) by unfold partsV celB; rw [hv, hw]; rfl)
      go_enter Try.func34, Try.ntmps34
      go_wp2_with (first
        | (go_at_call 21; refine (bvalid_any p t a cs cap _ hn HLC.out (HF.out.below_cs HS.out)).mono ?_; rintro e w1 ⟨rfl, hb1⟩; have F1 := Fb.next HF.out hb1; obtain ⟨k0, k1⟩ := And.intro F1.c0 F1.c1; rw [hv])
        | (go_at_call 53; refine (vrow_any p t b row cb _ hl (F1.sl HB.out)).mono ?_; rintro e w2 ⟨rfl, hb2⟩; have F2 := Fb.next F1 hb2; obtain ⟨k2, k3⟩ := And.intro F2.c0 F2.c1; rw [hw]))
      go_ret3
      exact ⟨by rw [HV.out]; rfl, F2.below⟩
    · have hc : celB p t cs row = true := by unfold celB; rw [hv, hw]; rfl
      by_cases ht : -100 ≤ th ∧ th ≤ 100
      case neg =>
        have HV := Lib.hid (show partsV p t cs row th = ((0, 0), 7) by unfold partsV; rw [if_pos hc, if_neg (by simp [rangeB]; omega)])
        have HT : Hid (th < -100 ∨ (¬ th < -100 ∧ 100 < th)) := by show _ ∨ _; omega
        clear ht hc
        rcases HT.out with h1 | ⟨h1, h2⟩
        all_goals
          go_enter Try.func34, Try.ntmps34
          go_wp2_with (first
            | (go_at_call 21; refine (bvalid_any p t a cs cap _ hn HLC.out (HF.out.below_cs HS.out)).mono ?_; rintro e w1 ⟨rfl, hb1⟩; have F1 := Fb.next HF.out hb1; obtain ⟨k0, k1⟩ := And.intro F1.c0 F1.c1; rw [hv])
            | (go_at_call 53; refine (vrow_any p t b row cb _ hl (F1.sl HB.out)).mono ?_; rintro e w2 ⟨rfl, hb2⟩; have F2 := Fb.next F1 hb2; obtain ⟨k2, k3⟩ := And.intro F2.c0 F2.c1; rw [hw]))
          go_ret3
          exact ⟨by rw [HV.out]; rfl, F2.below⟩
      case pos =>
        obtain ⟨P, T, rfl, rfl, hP1, hP, hT, _, hrl, hrk⟩ := cel_row hc
        have HV := Lib.hid (show partsV P T cs row th = (((cntLo (sumsB row (fitP T P cs)) th : Int), (cntHi (sumsB row (fitP T P cs)) th : Int)), 0) by unfold partsV; rw [if_pos hc, if_pos (by simp [rangeB]; omega), Int.toNat_natCast, Int.toNat_natCast])
        have HVO := Lib.hid (vals_of hv).2
        have HRW : Hid (∀ r ∈ [row], r.length = P ∧ okL (-1) 1 r = true) := fun r hr => by rw [List.mem_singleton.1 hr]; exact ⟨hrl, hrk⟩
        have HZ : Hid ((sumsB row (fitP T P cs)).length ≤ 1000000) := by show _ ≤ _; unfold sumsB; rw [List.length_map]; have := fitP_len hT hP cs; omega
        have HCT : Hid (∀ W, Fb w P T W → Calls Try.prog 73 #[.func (.func 95) #[] #[.pointer (some ⟨W.heap.size, 0, none⟩), .pointer (some ⟨W.heap.size + 1, 0, none⟩)], .slice (some ⟨W.heap.size + 1 + 1, 0, none⟩) 1 1] (((W.alloc (.cells #[.int .i64 P, .int .i64 T] 23)).alloc (.cells #[.slice a cs.length cap] 24)).alloc (.cells #[.slice b row.length cb] 25)) fun e w' => ∃ G M, e = .returned (.slice (some ⟨G, 0, none⟩) 1 1) ∧ w'.cell? ⟨G, 0, none⟩ = some (.map (some M)) ∧ OC w' M (sumsB row (fitP T P cs)) ∧ Below W.heap.size W w') := fun W hf => by
          obtain ⟨A, hA⟩ : ∃ A, W.alloc (.cells #[.int .i64 P, .int .i64 T] 23) = A := ⟨_, rfl⟩
          obtain ⟨B, hB⟩ : ∃ B, A.alloc (.cells #[.slice a cs.length cap] 24) = B := ⟨_, rfl⟩
          obtain ⟨D, hD⟩ : ∃ D, B.alloc (.cells #[.slice b row.length cb] 25) = D := ⟨_, rfl⟩
          rw [hA, hB, hD]
          have sA : A.heap.size = W.heap.size + 1 := by rw [← hA]; exact World.size_alloc _ _
          have sB : B.heap.size = W.heap.size + 1 + 1 := by rw [← hB, World.size_alloc, sA]
          have bA : Below W.heap.size W A := by rw [← hA]; exact (Below.refl _ _).alloc (Nat.le_refl _) _
          have bB : Below A.heap.size A B := by rw [← hB]; exact (Below.refl _ _).alloc (Nat.le_refl _) _
          have bD : Below B.heap.size B D := by rw [← hD]; exact (Below.refl _ _).alloc (Nat.le_refl _) _
          have bWB : Below W.heap.size W B := bA.trans (bB.mono bA.size)
          have bWD : Below W.heap.size W D := bWB.trans (bD.mono bWB.size)
          have bAD : Below A.heap.size A D := bB.trans (bD.mono bB.size)
          have f0 : A.cell? ⟨W.heap.size, 0, none⟩ = some (.int .i64 P) := by rw [← hA]; exact alloc_cell _ _ _ _ _ rfl
          have f1 : A.cell? ⟨W.heap.size, 1, none⟩ = some (.int .i64 T) := by rw [← hA]; exact alloc_cell _ _ _ _ _ rfl
          have f2 : B.cell? ⟨W.heap.size + 1, 0, none⟩ = some (.slice a cs.length cap) := by rw [← hB, ← sA]; exact alloc_cell _ _ _ _ _ rfl
          have ms : Ms D (some ⟨W.heap.size + 1 + 1, 0, none⟩) [row] := by
            have h := ms_one B b row cb 25 (((hf.sl HB.out).below bA).below bB)
            rw [hD, sB] at h; exact h
          refine (counts_fit P T hP1 hP hT a cs cap hn HVO.out W.heap.size w D HS.out (hf.below.trans (bWD.mono hf.below.size)) ((bAD.cell (p := ⟨W.heap.size, 0, none⟩) (cell_lt f0)).trans f0) ((bAD.cell (p := ⟨W.heap.size, 1, none⟩) (cell_lt f1)).trans f1) ((bD.cell (p := ⟨W.heap.size + 1, 0, none⟩) (cell_lt f2)).trans f2) (some ⟨W.heap.size + 1 + 1, 0, none⟩) [row] 1 (by simp) HRW.out ms).mono ?_
          rintro e w' ⟨X, rfl, hc⟩
          exact ⟨D.heap.size + 1, X + 1 + 0, rfl, hc.cG 0 (by simp), hc.mp 0 (by simp), bWD.trans (hc.bw.mono bWD.size)⟩
        have HSD : Hid (∀ W M, OC W M (sumsB row (fitP T P cs)) → Calls Try.prog 72 #[.map (some M), .int .i64 th] W fun e w' => e = .returned (.tuple #[.int .i64 (cntLo (sumsB row (fitP T P cs)) th : Int), .int .i64 (cntHi (sumsB row (fitP T P cs)) th : Int)]) ∧ Below W.heap.size W w') := fun W M ⟨n, D, _, h2, h3⟩ => sides_any M n D _ th W HZ.out h2 h3
        obtain ⟨ht1, ht2⟩ := ht
        clear hc hrl hrk
        go_enter Try.func34, Try.ntmps34
        go_wp2_with (first
          | (go_at_call 21; refine (bvalid_any P T a cs cap _ hn HLC.out (HF.out.below_cs HS.out)).mono ?_; rintro e w1 ⟨rfl, hb1⟩; have F1 := Fb.next HF.out hb1; obtain ⟨k0, k1⟩ := And.intro F1.c0 F1.c1; rw [hv])
          | (go_at_call 53; refine (vrow_any P T b row cb _ hl (F1.sl HB.out)).mono ?_; rintro e w2 ⟨rfl, hb2⟩; have F2 := Fb.next F1 hb2; obtain ⟨k2, k3⟩ := And.intro F2.c0 F2.c1; rw [hw])
          | (go_at_call 67; refine (fittingmk_any _ _ _ _ _ _).mono ?_; rintro e w3 ⟨rfl, rfl⟩)
          | (go_at_call 73; refine (HCT.out _ F2).mono ?_; rintro e w4 ⟨G, M, rfl, hg, hoc, hb4⟩; have F4 := F2.next hb4; have HOC := Lib.hid hoc; clear hoc)
          | (go_at_call 72; refine (HSD.out _ _ HOC.out).mono ?_; rintro e w5 ⟨rfl, hb5⟩; have F5 := F4.next hb5))
        go_ret3
        exact ⟨by rw [HV.out]; rfl, F5.below⟩
theorem vals_brow {p t : Int} {cs : List Cl} {row : List Int} (h : valsB p t cs = true) : browB p t row = (decide ((row.length : Int) = p) && okL (-1) 1 row) := by
  unfold valsB at h
  rw [Bool.and_eq_true] at h
  unfold browB; rw [h.1]; rfl
def celE (p t : Int) (cs : List Cl) (row : List Int) : Int := if celB p t cs row = true then 0 else 1
set_option maxRecDepth 100000 in
theorem celled_any (p t : Int) (a : Option Addr) (cs : List Cl) (cap : Nat) (b : Option Addr) (row : List Int) (cb : Nat) (w : World) (hn : cs.length ≤ 1000000) (hlc : CLen cs) (hs : Cs w a cs) (hl : row.length ≤ 140737488351232) (hb : Sl w b row) :
    Calls Try.prog 74 #[.agg #[.int .i64 p, .int .i64 t], .slice a cs.length cap, .slice b row.length cb] w fun e w' => e = .returned (.int .i64 (celE p t cs row)) ∧ Below w.heap.size w w' := by
  have HF := Lib.hid (Fb.new w p t 23)
  have HS := Lib.hid hs; clear hs
  have HLC := Lib.hid hlc; clear hlc
  have HB := Lib.hid hb; clear hb
  cases hv : valsB p t cs
  · have HV := Lib.hid (show celE p t cs row = 1 by unfold celE celB; rw [hv]; rfl)
    go_enter Try.func74, Try.ntmps74
    go_wp2_with (go_at_call 22; refine (rvalid_any p t a cs cap _ hn HLC.out (HF.out.below_cs HS.out)).mono ?_; rintro e w1 ⟨rfl, hb1⟩; have F1 := Fb.next HF.out hb1; obtain ⟨k0, k1⟩ := And.intro F1.c0 F1.c1; rw [hv])
    go_ret
    exact ⟨by rw [HV.out]; rfl, F1.below⟩
  · have HQ := Lib.hid (vals_brow (row := row) hv)
    cases hw : browB p t row
    · have HV := Lib.hid (show celE p t cs row = 1 by unfold celE celB; rw [hv, hw]; rfl)
      rw [hw] at HQ
      go_enter Try.func74, Try.ntmps74
      go_wp2_with (first
        | (go_at_call 22; refine (rvalid_any p t a cs cap _ hn HLC.out (HF.out.below_cs HS.out)).mono ?_; rintro e w1 ⟨rfl, hb1⟩; have F1 := Fb.next HF.out hb1; obtain ⟨k0, k1⟩ := And.intro F1.c0 F1.c1; rw [hv])
        | (go_at_call 90; refine (rvrow_any p b row cb _ hl (F1.sl HB.out)).mono ?_; rintro e w2 ⟨rfl, rfl⟩; rw [← HQ.out]))
      go_ret
      exact ⟨by rw [HV.out]; rfl, F1.below⟩
    · have HV := Lib.hid (show celE p t cs row = 0 by unfold celE celB; rw [hv, hw]; rfl)
      rw [hw] at HQ
      go_enter Try.func74, Try.ntmps74
      go_wp2_with (first
        | (go_at_call 22; refine (rvalid_any p t a cs cap _ hn HLC.out (HF.out.below_cs HS.out)).mono ?_; rintro e w1 ⟨rfl, hb1⟩; have F1 := Fb.next HF.out hb1; obtain ⟨k0, k1⟩ := And.intro F1.c0 F1.c1; rw [hv])
        | (go_at_call 90; refine (rvrow_any p b row cb _ hl (F1.sl HB.out)).mono ?_; rintro e w2 ⟨rfl, rfl⟩; rw [← HQ.out]))
      go_ret
      exact ⟨by rw [HV.out]; rfl, F1.below⟩
set_option maxRecDepth 100000 in
set_option maxHeartbeats 2000000 in
theorem rParts_any (p t : Int) (a : Option Addr) (cs : List Cl) (cap : Nat) (b : Option Addr) (row : List Int) (cb : Nat) (th : Int) (w : World) (hn : cs.length ≤ 1000000) (hlc : CLen cs) (hs : Cs w a cs) (hl : row.length ≤ 140737488351232) (hb : Sl w b row) :
    Calls Try.prog 35 #[.agg #[.int .i64 p, .int .i64 t], .slice a cs.length cap, .slice b row.length cb, .int .i64 th] w fun e w' => e = .returned (.tuple #[.int .i64 (partsV p t cs row th).1.1, .int .i64 (partsV p t cs row th).1.2, .int .i64 (partsV p t cs row th).2]) ∧ Below w.heap.size w w' := by
  have HF := Lib.hid (Fb.new w p t 23)
  have HS := Lib.hid hs; clear hs
  have HLC := Lib.hid hlc; clear hlc
  have HB := Lib.hid hb; clear hb
  have HCE : Hid (∀ W, Fb w p t W → Calls Try.prog 74 #[.agg #[.int .i64 p, .int .i64 t], .slice a cs.length cap, .slice b row.length cb] W fun e w' => e = .returned (.int .i64 (celE p t cs row)) ∧ Fb w p t w') := fun W hf => (celled_any p t a cs cap b row cb W hn HLC.out (hf.below_cs HS.out) hl (hf.sl HB.out)).mono fun e w' ⟨k1, k2⟩ => ⟨k1, hf.next k2⟩
  cases hc : celB p t cs row
  · have HV := Lib.hid (show partsV p t cs row th = ((0, 0), 1) by unfold partsV; rw [hc]; rfl)
    have hce : celE p t cs row = 1 := by unfold celE; rw [hc]; rfl
    rw [hce] at HCE
    clear hce
    go_enter Try.func35, Try.ntmps35
    go_wp2_with (go_at_call 74; refine (HCE.out _ HF.out).mono ?_; rintro e w1 ⟨rfl, F1⟩; obtain ⟨k0, k1⟩ := And.intro F1.c0 F1.c1)
    go_ret3
    exact ⟨by rw [HV.out]; rfl, F1.below⟩
  · have hce : celE p t cs row = 0 := by unfold celE; rw [hc]; rfl
    rw [hce] at HCE
    clear hce
    cases ht : rangeB th (-100) 100
    · have HV := Lib.hid (show partsV p t cs row th = ((0, 0), 7) by unfold partsV; rw [if_pos hc, ht]; rfl)
      go_enter Try.func35, Try.ntmps35
      go_wp2_with (first
        | (go_at_call 74; refine (HCE.out _ HF.out).mono ?_; rintro e w1 ⟨rfl, F1⟩; obtain ⟨k0, k1⟩ := And.intro F1.c0 F1.c1)
        | (go_at_call 60; refine (bin_any _ _ _ _).mono ?_; rintro e w2 ⟨rfl, rfl⟩; rw [ht]))
      go_ret3
      exact ⟨by rw [HV.out]; rfl, F1.below⟩
    · obtain ⟨P, T, rfl, rfl, hP1, hP, hT, hv, hrl, hrk⟩ := cel_row hc
      have HV := Lib.hid (show partsV P T cs row th = (((cntLo (sumsB row (fitP T P cs)) th : Int), (cntHi (sumsB row (fitP T P cs)) th : Int)), 0) by unfold partsV; rw [if_pos hc, if_pos ht, Int.toNat_natCast, Int.toNat_natCast])
      have HVO := Lib.hid (vals_of hv).2
      have HRF : Hid (∀ W, Cs W a cs → Calls Try.prog 68 #[.agg #[.int .i64 P, .int .i64 T], .slice a cs.length cap] W fun e w' => ∃ va ads vc, e = .returned (.slice va (fitP T P cs).length vc) ∧ HR W.heap.size (.slice va (fitP T P cs).length vc) ads (fitP T P cs) w' ∧ Below W.heap.size W w') := fun W hW => rfitting_two P T hP hT a cs cap W hn HVO.out hW
      have HPA : Hid (∀ base va vc ads W, HR base (.slice va (fitP T P cs).length vc) ads (fitP T P cs) W → Sl W b row → Calls Try.prog 75 #[.slice va (fitP T P cs).length vc, .slice b row.length cb, .int .i64 th] W fun e w' => e = .returned (.tuple #[.int .i64 (cntLo (sumsB row (fitP T P cs)) th : Int), .int .i64 (cntHi (sumsB row (fitP T P cs)) th : Int)]) ∧ Below W.heap.size W w') := fun base va vc ads W h1 h2 => rparts_any hP base va vc ads (fitP T P cs) b row cb th W (by have := fitP_len hT hP cs; omega) (fun x hx => fitP_ok hT hx) ⟨hrl, hrk⟩ h1 h2
      obtain ⟨N, hN⟩ : ∃ N, (fitP T P cs).length = N := ⟨_, rfl⟩
      rw [hN] at HRF HPA
      clear hN hc hrl hrk hv
      go_enter Try.func35, Try.ntmps35
      go_wp2_with (first
        | (go_at_call 74; refine (HCE.out _ HF.out).mono ?_; rintro e w1 ⟨rfl, F1⟩; obtain ⟨k0, k1⟩ := And.intro F1.c0 F1.c1)
        | (go_at_call 60; refine (bin_any _ _ _ _).mono ?_; rintro e w2 ⟨rfl, rfl⟩; rw [ht])
        | (go_at_call 68; refine (HRF.out _ (F1.below_cs HS.out)).mono ?_; rintro e w3 ⟨va, ads, vc, rfl, hr3, hb3⟩; have F3 := F1.next hb3; have HR3 := Lib.hid hr3; clear hr3)
        | (go_at_call 75; refine (HPA.out _ _ _ _ _ HR3.out (F3.sl HB.out)).mono ?_; rintro e w4 ⟨rfl, hb4⟩; have F4 := F3.next hb4))
      go_ret3
      exact ⟨by rw [HV.out]; rfl, F4.below⟩
end Go.Proofs.Ytoedbbpjddjbnaa
/- A slice of cells of the call's own: cells appended. -/
namespace Go.Proofs.Ytoedbbpjddjbnaa
open Go.RowKit

theorem Try.infoCell : (Try.prog.info? 49).map (fun i => (i.zero, i.size, i.bytes)) = some (some (.agg #[.slice none 0 0, .int .i64 0, .int .i64 0]), 3, 40) := by kernel_rfl
/-- A cell's header: where its row lies, its capacity. -/
abbrev Hc := Option Addr × Nat
def flatC : List (Hc × Cl) → List Value
  | [] => []
  | p :: ps => .slice p.1.1 p.2.1.length p.1.2 :: .int .i64 p.2.2.1 :: .int .i64 p.2.2.2 :: flatC ps
theorem flatC_len : ∀ ps, (flatC ps).length = ps.length * 3
  | [] => rfl
  | p :: ps => by simp only [flatC, List.length_cons, flatC_len ps]; omega
theorem flatC_app : ∀ a b : List (Hc × Cl), flatC (a ++ b) = flatC a ++ flatC b
  | [], _ => rfl
  | p :: ps, b => by simp only [List.cons_append, flatC, flatC_app ps b]
theorem flatC_at : ∀ (ps : List (Hc × Cl)) {j : Nat} {p : Hc × Cl}, ps[j]? = some p → (flatC ps)[j * 3]? = some (.slice p.1.1 p.2.1.length p.1.2) ∧ (flatC ps)[j * 3 + 1]? = some (.int .i64 p.2.2.1) ∧ (flatC ps)[j * 3 + 2]? = some (.int .i64 p.2.2.2)
  | [], j, p, h => by simp at h
  | q :: ps, 0, p, h => by simp at h; subst h; exact ⟨rfl, rfl, rfl⟩
  | q :: ps, j + 1, p, h => by
    have h := flatC_at ps (j := j) (p := p) (by simpa using h)
    rw [show (j + 1) * 3 = j * 3 + 1 + 1 + 1 by omega]
    exact ⟨by simp only [flatC, List.getElem?_cons_succ]; exact h.1, by simp only [flatC, List.getElem?_cons_succ]; exact h.2.1, by simp only [flatC, List.getElem?_cons_succ]; exact h.2.2⟩
theorem flatC_one : ∀ (ps : List (Hc × Cl)), ∀ v ∈ flatC ps, v.oneCell' = true
  | [], v, h => by cases h
  | p :: ps, v, h => by
    simp only [flatC, List.mem_cons] at h
    rcases h with rfl | rfl | rfl | h
    · rfl
    · rfl
    · rfl
    · exact flatC_one ps v h
/-- A row that lies in old memory. -/
def SlB (W : World) (base : Nat) (ra : Option Addr) (xs : List Int) : Prop := ∀ k, k < xs.length → ∃ b off, ra = some ⟨b, off, none⟩ ∧ b < base ∧ W.cell? ⟨b, off + k, none⟩ = some (.int .i64 (xs[k]?.getD 0))
theorem SlB.sl {W : World} {base : Nat} {ra : Option Addr} {xs : List Int} (h : SlB W base ra xs) : Sl W ra xs := fun k hk => by
  obtain ⟨b, off, e, _, hc⟩ := h k hk
  exact ⟨b, off, e, hc⟩
theorem SlB.of {W : World} {base : Nat} {ra : Option Addr} {xs : List Int} (h : Sl W ra xs) (hb : W.heap.size ≤ base) : SlB W base ra xs := fun k hk => by
  obtain ⟨b, off, e, hc⟩ := h k hk
  exact ⟨b, off, e, Nat.lt_of_lt_of_le (cell_lt hc) hb, hc⟩
theorem SlB.below {W W' : World} {base : Nat} {ra : Option Addr} {xs : List Int} (h : SlB W base ra xs) (hb : Below base W W') : SlB W' base ra xs := fun k hk => by
  obtain ⟨b, off, e, hl, hc⟩ := h k hk
  exact ⟨b, off, e, hl, (hb.cell (p := ⟨b, off + k, none⟩) hl).trans hc⟩
/-- A slice of cells of the call's own, whose rows lie in old memory. -/
def OwnC (W : World) (base : Nat) (v : Value) (cs : List Cl) : Prop := ∃ hs : List (Hc × Cl), hs.map Prod.snd = cs ∧ W.ownsRow base 49 3 v cs.length (flatC hs) ∧ ∀ p ∈ hs, SlB W base p.1.1 p.2.1
theorem OwnC.cs {W : World} {base : Nat} {v : Value} {cs : List Cl} (h : OwnC W base v cs) : ∃ a cap, v = .slice a cs.length cap ∧ Cs W a cs := by
  obtain ⟨hs, rfl, ho, hr⟩ := h
  have hl : (hs.map Prod.snd).length = hs.length := List.length_map ..
  have key : ∀ g cap, v = .slice (some ⟨g, 0, none⟩) (hs.map Prod.snd).length cap → Cs W (some ⟨g, 0, none⟩) (hs.map Prod.snd) := by
    rintro g cap rfl j c hj
    rw [List.getElem?_map] at hj
    obtain ⟨p, hp, rfl⟩ := Option.map_eq_some_iff.1 hj
    have hj2 := (List.getElem?_eq_some_iff.1 hp).1
    obtain ⟨f0, f1, f2⟩ := flatC_at hs hp
    have c0 := World.ownsRow.cellAt ho (j * 3) (by omega)
    have c1 := World.ownsRow.cellAt ho (j * 3 + 1) (by omega)
    have c2 := World.ownsRow.cellAt ho (j * 3 + 2) (by omega)
    exact ⟨g, 0, p.1.1, p.1.2, rfl, by rw [Nat.zero_add]; exact c0.trans f0, by rw [Nat.zero_add]; exact c1.trans f1, by rw [Nat.zero_add]; exact c2.trans f2, (hr p (List.mem_of_getElem? hp)).sl⟩
  obtain ⟨_, ⟨e, h0⟩ | ⟨g, cap, cur, e, hg, hb, _⟩⟩ := id ho
  · refine ⟨none, 0, by rw [h0]; exact e, fun j c hj => ?_⟩
    have := (List.getElem?_eq_some_iff.1 hj).1
    omega
  · exact ⟨some ⟨g, 0, none⟩, cap, e, key g cap e⟩
theorem OwnC.nil (W : World) (base : Nat) : OwnC W base (.slice none 0 0) [] := ⟨[], rfl, World.ownsRow_nil _ _ _ _, fun p hp => by cases hp⟩
theorem OwnC.below {W W' : World} {base : Nat} {v : Value} {cs : List Cl} (h : OwnC W base v cs) (hb : Below W.heap.size W W') : OwnC W' base v cs := by
  obtain ⟨hs, e, ho, hr⟩ := h
  exact ⟨hs, e, row_below ho hb, fun p hp k hk => by
    obtain ⟨b, off, e2, hl, hc⟩ := hr p hp k hk
    exact ⟨b, off, e2, hl, (hb.cell (p := ⟨b, off + k, none⟩) (cell_lt hc)).trans hc⟩⟩
theorem own_lit0C (w : World) : OwnC (w.alloc (.cells #[] 49)) w.heap.size (.slice (some ⟨w.heap.size, 0, none⟩) 0 0) [] := by
  refine ⟨[], rfl, ⟨by simp [flatC], .inr ⟨w.heap.size, 0, #[], rfl, Nat.le_refl _, ?_, by simp, by unfold maxLen; omega, by simp, by simp [flatC]⟩⟩, fun p hp => by cases hp⟩
  show (w.heap.push (.cells #[] 49))[w.heap.size]? = _
  rw [Array.getElem?_push_size]
/-- Headers for cells that lie in memory. -/
theorem cs_heads {W : World} {b o base : Nat} : ∀ (ds : List Cl), (∀ j c, ds[j]? = some c → ∃ ra rc, W.cell? ⟨b, o + j * 3, none⟩ = some (.slice ra c.1.length rc) ∧ W.cell? ⟨b, o + j * 3 + 1, none⟩ = some (.int .i64 c.2.1) ∧ W.cell? ⟨b, o + j * 3 + 2, none⟩ = some (.int .i64 c.2.2) ∧ SlB W base ra c.1) →
    ∃ hs : List (Hc × Cl), hs.map Prod.snd = ds ∧ (∀ j u, (flatC hs)[j]? = some u → W.cell? ⟨b, o + j, none⟩ = some u) ∧ ∀ p ∈ hs, SlB W base p.1.1 p.2.1 := by
  intro ds
  induction ds generalizing o with
  | nil => intro _; exact ⟨[], rfl, fun j u h => by simp [flatC] at h, fun p hp => by cases hp⟩
  | cons c ds ih =>
    intro h
    obtain ⟨ra, rc, c0, c1, c2, hs0⟩ := h 0 c rfl
    obtain ⟨hs, e, hc, hr⟩ := ih (o := o + 3) fun j d hj => by
      obtain ⟨ra, rc, d0, d1, d2, d3⟩ := h (j + 1) d (by simpa using hj)
      rw [show o + (j + 1) * 3 = o + 3 + j * 3 by omega] at d0 d1 d2
      exact ⟨ra, rc, d0, d1, d2, d3⟩
    refine ⟨((ra, rc), c) :: hs, by simp [e], fun j u hj => ?_, fun p hp => ?_⟩
    · match j, hj with
      | 0, hj => simp [flatC] at hj; subst hj; exact c0
      | 1, hj => simp [flatC] at hj; subst hj; exact c1
      | 2, hj => simp [flatC] at hj; subst hj; exact c2
      | j + 3, hj =>
        have h3 := hc j u (by simpa [flatC] using hj)
        rw [show o + (j + 3) = o + 3 + j by omega]; exact h3
    · rcases List.mem_cons.1 hp with rfl | hp
      · exact hs0
      · exact hr p hp
/-- Cells in memory whose rows lie in old memory. -/
def CsB (W : World) (base : Nat) (a : Option Addr) (cs : List Cl) : Prop := ∀ j c, cs[j]? = some c → ∃ b o ra rc, a = some ⟨b, o, none⟩ ∧ W.cell? ⟨b, o + j * 3, none⟩ = some (.slice ra c.1.length rc) ∧ W.cell? ⟨b, o + j * 3 + 1, none⟩ = some (.int .i64 c.2.1) ∧ W.cell? ⟨b, o + j * 3 + 2, none⟩ = some (.int .i64 c.2.2) ∧ SlB W base ra c.1
theorem CsB.of {W0 W : World} {base : Nat} {a : Option Addr} {cs : List Cl} (h : Cs W0 a cs) (hb : Below W0.heap.size W0 W) (hB : W0.heap.size ≤ base) : CsB W base a cs := fun j c hj => by
  obtain ⟨b, o, ra, rc, e, c0, c1, c2, hs⟩ := h j c hj
  refine ⟨b, o, ra, rc, e, (hb.cell (p := ⟨b, o + j * 3, none⟩) (cell_lt c0)).trans c0, (hb.cell (p := ⟨b, o + j * 3 + 1, none⟩) (cell_lt c1)).trans c1, (hb.cell (p := ⟨b, o + j * 3 + 2, none⟩) (cell_lt c2)).trans c2, fun k hk => ?_⟩
  obtain ⟨b2, o2, e2, hc2⟩ := hs k hk
  exact ⟨b2, o2, e2, Nat.lt_of_lt_of_le (cell_lt hc2) hB, (hb.cell (p := ⟨b2, o2 + k, none⟩) (cell_lt hc2)).trans hc2⟩
/-- A part of them. -/
theorem CsB.drop {W : World} {base b o : Nat} {cs : List Cl} (h : CsB W base (some ⟨b, o, none⟩) cs) (k : Nat) : CsB W base (some ⟨b, o + k * 3, none⟩) (cs.drop k) := fun j c hj => by
  rw [List.getElem?_drop] at hj
  obtain ⟨b2, o2, ra, rc, e, c0, c1, c2, hs⟩ := h (k + j) c hj
  obtain ⟨rfl, rfl⟩ : b = b2 ∧ o = o2 := by simpa using e
  refine ⟨b, o + k * 3, ra, rc, rfl, ?_, ?_, ?_, hs⟩
  · rw [show o + k * 3 + j * 3 = o + (k + j) * 3 by omega]; exact c0
  · rw [show o + k * 3 + j * 3 = o + (k + j) * 3 by omega]; exact c1
  · rw [show o + k * 3 + j * 3 = o + (k + j) * 3 by omega]; exact c2
theorem CsB.take {W : World} {base : Nat} {a : Option Addr} {cs : List Cl} (h : CsB W base a cs) (k : Nat) : CsB W base a (cs.take k) := fun j c hj => by
  rw [List.getElem?_take] at hj
  split at hj
  · exact h j c hj
  · cases hj
theorem run_append_owned_emptyC {w : World} (base : Nat) (t ty e : TypeId) (i : TypeInfo) (size : Nat) (ht : Try.prog.underlying t = some (.slice e)) (hi : Try.prog.info? e = some i)
    (v : Value) (n : Nat) (xs : List Value) (hown : w.ownsRow base e size v n xs) (q : Option Addr) (c : Nat) :
    (Builtin.append_ #[t, t] ty #[v, .slice q 0 c]).run Try.prog w = .ok v w := by
  cases q with
  | none =>
    rcases hown.2 with ⟨rfl, rfl⟩ | ⟨g, cap, cur, rfl, _, _, hnc, _⟩
    · simp [Builtin.append_, run_underlying ht, sizeOf, typeInfo, hi, Builtin.lenOf, Builtin.firstCells]
    · simp [Builtin.append_, run_underlying ht, sizeOf, typeInfo, hi, Builtin.lenOf, Builtin.firstCells, hnc, storeCells]
  | some b =>
    rcases hown.2 with ⟨rfl, rfl⟩ | ⟨g, cap, cur, rfl, _, _, hnc, _⟩
    · simp [Builtin.append_, run_underlying ht, sizeOf, typeInfo, hi, Builtin.lenOf, Builtin.firstCells, loadCells, loadCellsFrom]
    · simp [Builtin.append_, run_underlying ht, sizeOf, typeInfo, hi, Builtin.lenOf, Builtin.firstCells, hnc, storeCells, loadCells, loadCellsFrom]
theorem wp_catC {o : Oper} {a : Act} {K : Act → World → Prop} {Q : Exit → Act → World → Prop} (s x : Operand)
    (ho : o.op = .call { callee := .builtin .append, args := #[s, x], argTypes := #[24, 24] }) (base : Nat) (v : Value) (cs ds : List Cl) (pa : Option Addr) (c : Nat) (W : World)
    (hs : a.eval s = v) (hx : a.eval x = .slice pa ds.length c) (hown : OwnC W base v cs) (hds : CsB W base pa ds) (hl : cs.length + ds.length ≤ 100000) (hbase : base ≤ W.heap.size)
    (h : ∀ v' w', OwnC w' base v' (cs ++ ds) → Below base W w' → W.grownBy w' v.ownBlock → K (a.put o.dst v') w') : o.wp Try.prog a W K Q := by
  obtain ⟨i0, hi, hz0, hz1, hz2⟩ := info_parts Try.infoCell
  obtain ⟨hh, rfl, hro, hrr⟩ := id hown
  cases ds with
  | nil =>
    have hrun := run_append_owned_emptyC (w := W) base 24 o.type 49 i0 3 Try.underlying24 hi v _ _ hro pa c
    unfold Oper.wp
    simp only [List.length_nil] at hx
    simp [execOp, ho, resolve, invoke, builtin, hs, hx, hrun, Result.andThen]
    exact h v W (by rw [List.append_nil]; exact hown) (Below.refl _ _) ⟨rfl, rfl, rfl, Nat.le_refl _, fun _ _ _ => rfl⟩
  | cons d ds =>
    obtain ⟨b, of, ra, rc, rfl, _⟩ := hds 0 d rfl
    obtain ⟨ks, ek, hk, hkr⟩ := cs_heads (W := W) (b := b) (o := of) (base := base) (d :: ds) fun j e hj => by
      obtain ⟨b2, o2, ra, rc, e2, c0, c1, c2, c3⟩ := hds j e hj
      obtain ⟨rfl, rfl⟩ : b = b2 ∧ of = o2 := by simpa using e2
      exact ⟨ra, rc, c0, c1, c2, c3⟩
    have hkl : ks.length = (d :: ds).length := by rw [← ek, List.length_map]
    refine wp_append_lies W s x 24 ho base 49 i0 (.agg #[.slice none 0 0, .int .i64 0, .int .i64 0]) 3 40 Try.underlying24 hi hz0 hz1 hz2 rfl (by decide) v _ _ hs hro ⟨b, of, none⟩ (d :: ds).length c (flatC ks) hx (by rw [flatC_len, hkl]) (fun j u hj => by rw [addr_add]; exact hk j u hj) (flatC_one ks) (by simp) (by unfold maxLen; omega) (by omega) hbase _ rfl ?_
    intro g cap w' h1 h2 h3 _
    have hbb : Below base W w' := (Below.refl base W).grown h2 hbase (fun k e => (World.ownsRow.lt hro k e).1)
    refine h _ w' ⟨hh ++ ks, by rw [List.map_append, ek], ?_, fun p hp => ?_⟩ hbb h2
    · rw [flatC_app, List.length_append]; exact h1
    · rcases List.mem_append.1 hp with hp | hp
      · exact (hrr p hp).below hbb
      · exact (hkr p hp).below hbb
/-- Cells appended as one step of a region that draws its order. -/
theorem step_catC {ops : Array Oper} {o : Oper} {a : Act} {K : Act → World → Prop} {Q : Exit → Act → World → Prop} {E : Prop} (hgd : o.guard = none) (s x : Operand)
    (ho : o.op = .call { callee := .builtin .append, args := #[s, x], argTypes := #[24, 24] }) (base : Nat) (v : Value) (cs ds : List Cl) (pa : Option Addr) (c : Nat) (W : World)
    (hs : a.eval s = v) (hx : a.eval x = .slice pa ds.length c) (hown : OwnC W base v cs) (hds : CsB W base pa ds) (hl : cs.length + ds.length ≤ 100000) (hbase : base ≤ W.heap.size)
    (h : ∀ v' w', OwnC w' base v' (cs ++ ds) → Below base W w' → W.grownBy w' v.ownBlock → K (a.put o.dst v') w') : if Region.wanted o (yielded ops a.tmps) = true then Oper.wp Try.prog o a W K Q else E := by
  have hw : Region.wanted o (yielded ops a.tmps) = true := by simp [Region.wanted, hgd]
  rw [if_pos hw]
  exact wp_catC s x ho base v cs ds pa c W hs hx hown hds hl hbase h
theorem wpList_catC {ops : Array Oper} {rest : List Oper} {o : Oper} {a : Act} {Q : Exit → Act → World → Prop} (hgd : o.guard = none) (s x : Operand)
    (ho : o.op = .call { callee := .builtin .append, args := #[s, x], argTypes := #[24, 24] }) (base : Nat) (v : Value) (cs ds : List Cl) (pa : Option Addr) (c : Nat) (W : World)
    (hs : a.eval s = v) (hx : a.eval x = .slice pa ds.length c) (hown : OwnC W base v cs) (hds : CsB W base pa ds) (hl : cs.length + ds.length ≤ 100000) (hbase : base ≤ W.heap.size)
    (h : ∀ v' w', OwnC w' base v' (cs ++ ds) → Below base W w' → W.grownBy w' v.ownBlock → wpList Try.prog ops Q rest (a.put o.dst v') w') : wpList Try.prog ops Q (o :: rest) a W :=
  wpList_plain hgd fun _ hK => wp_catC s x ho base v cs ds pa c W hs hx hown hds hl hbase fun v' w' h1 h2 h3 => hK _ _ (h v' w' h1 h2 h3)
/-- A region that draws its order: whatever the order, the same is told of its end. -/
theorem wp_post {P : Program} {c : Code} {Q : Exit → Act → World → Prop} {a : Act} {w : World} (R : Act → World → Prop) (h : c.wp P (fun e a' w' => match e with | .normal => R a' w' | _ => False) a w) (hq : ∀ a' w', R a' w' → Q .normal a' w') : c.wp P Q a w := by
  refine Code.wp_mono ?_ h
  intro e a' w' he
  cases e with
  | normal => exact hq _ _ he
  | _ => exact he.elim
section
variable {P : Program} {ops : Array Oper} {Q : Exit → Act → World → Prop} {md : Region.Mode}
/-- Two may come up. -/
theorem wpAnyG_twoC {S : Array Bool → World → Prop} {i j : Nat} {o p : Oper} {fuel : Nat} {listed : Array Bool} {a : Act} {w : World} (hr : Region.ready md ops listed = [i, j]) (ho : ops[i]? = some o) (hp : ops[j]? = some p) (hc : Shutdown md ops listed)
    (h1 : Shutdown md ops (listed.setIfInBounds i true) → ∀ K : Act → World → Prop, (∀ a' w', S (listed.setIfInBounds i true) w' → (S (listed.setIfInBounds i true) w' → wpAnyG P md ops Q S fuel (listed.setIfInBounds i true) a' w') → K a' w') → if Region.wanted o (yielded ops a.tmps) = true then Oper.wp P o a w K Q else K (a.put o.dst undef) w)
    (h2 : Shutdown md ops (listed.setIfInBounds j true) → ∀ K : Act → World → Prop, (∀ a' w', S (listed.setIfInBounds j true) w' → (S (listed.setIfInBounds j true) w' → wpAnyG P md ops Q S fuel (listed.setIfInBounds j true) a' w') → K a' w') → if Region.wanted p (yielded ops a.tmps) = true then Oper.wp P p a w K Q else K (a.put p.dst undef) w) : wpAnyG P md ops Q S (fuel + 1) listed a w :=
  ⟨fun h0 => (by rw [hr] at h0; cases h0), fun k hk => by
    rw [hr] at hk
    rcases (by simpa using hk : k = i ∨ k = j) with rfl | rfl
    · exact wpOp_step ho (fun K hK => h1 (hc.set (by rw [hr]; simp)) K (fun a' w' hS hW => hK a' w' ⟨hS, hW hS⟩))
    · exact wpOp_step hp (fun K hK => h2 (hc.set (by rw [hr]; simp)) K (fun a' w' hS hW => hK a' w' ⟨hS, hW hS⟩))⟩
end
theorem own_litC (w : World) {base : Nat} (hb : base ≤ w.heap.size) : OwnC (w.alloc (.cells #[] 49)) base (.slice (some ⟨w.heap.size, 0, none⟩) 0 0) [] := by
  refine ⟨[], rfl, ⟨by simp [flatC], .inr ⟨w.heap.size, 0, #[], rfl, hb, ?_, by simp, by unfold maxLen; omega, by simp, by simp [flatC]⟩⟩, fun p hp => by cases hp⟩
  show (w.heap.push (.cells #[] 49))[w.heap.size]? = _
  rw [Array.getElem?_push_size]
theorem csB_lit (W : World) (base : Nat) (ra : Option Addr) (xs : List Int) (rc : Nat) (lo hi : Int) (ty : TypeId) (hs : SlB W base ra xs) (hb : base ≤ W.heap.size) : CsB (W.alloc (.cells #[.slice ra xs.length rc, .int .i64 lo, .int .i64 hi] ty)) base (some ⟨W.heap.size, 0, none⟩) [(xs, lo, hi)] := by
  intro j c hj
  match j, hj with
  | 0, hj =>
    simp at hj; subst hj
    exact ⟨W.heap.size, 0, ra, rc, rfl, alloc_cell _ _ _ _ _ rfl, alloc_cell _ _ _ _ _ rfl, alloc_cell _ _ _ _ _ rfl, hs.below ((Below.refl _ _).alloc hb _)⟩
theorem CsB.grown {W W' : World} {base : Nat} {b o : Nat} {cs : List Cl} {row : Option Nat} (h : CsB W base (some ⟨b, o, none⟩) cs) (hg : W.grownBy W' row) (hr : row ≠ some b) (hb : Below base W W') : CsB W' base (some ⟨b, o, none⟩) cs := fun j c hj => by
  obtain ⟨b2, o2, ra, rc, e, c0, c1, c2, hs⟩ := h j c hj
  obtain ⟨rfl, rfl⟩ : b = b2 ∧ o = o2 := by simpa using e
  have hk : W'.heap[b]? = W.heap[b]? := hg.block b (cell_lt c0) (Ne.symm hr)
  exact ⟨b, o, ra, rc, rfl, (World.cell?_of_block hk).trans c0, (World.cell?_of_block hk).trans c1, (World.cell?_of_block hk).trans c2, hs.below hb⟩
theorem CsB.below {W W' : World} {base : Nat} {a : Option Addr} {cs : List Cl} (h : CsB W base a cs) (hb : Below W.heap.size W W') : CsB W' base a cs := fun j c hj => by
  obtain ⟨b, o, ra, rc, e, c0, c1, c2, hs⟩ := h j c hj
  refine ⟨b, o, ra, rc, e, (hb.cell (p := ⟨b, o + j * 3, none⟩) (cell_lt c0)).trans c0, (hb.cell (p := ⟨b, o + j * 3 + 1, none⟩) (cell_lt c1)).trans c1, (hb.cell (p := ⟨b, o + j * 3 + 2, none⟩) (cell_lt c2)).trans c2, fun k hk => ?_⟩
  obtain ⟨b2, o2, e2, hl, hc2⟩ := hs k hk
  exact ⟨b2, o2, e2, hl, (hb.cell (p := ⟨b2, o2 + k, none⟩) (cell_lt hc2)).trans hc2⟩
end Go.Proofs.Ytoedbbpjddjbnaa
/- BitFewer: the walk. Written by mk_bitfewer.py. -/
namespace Go.Proofs.Ytoedbbpjddjbnaa.bitFewer
open Go.RowKit

theorem vals_less {p t : Int} {cs : List Cl} {x : Cl} (h : valsB p t (cs ++ [x]) = true) : valsB p t cs = true := by
  unfold valsB at *
  simp only [Bool.and_eq_true, decide_eq_true_eq, List.length_append, List.all_append] at *
  obtain ⟨h1, h2, h3, _⟩ := h
  exact ⟨h1, by simp at h2; omega, h3⟩
theorem fit_more (T P : Nat) (cs : List Cl) (x : Cl) : fitP T P (cs ++ [x]) = (fitP T P cs).filter fun y => inC y x := by
  unfold fitP
  rw [List.filter_filter]
  refine List.filter_congr fun y _ => ?_
  simp [List.all_append, Bool.and_comm]
theorem count_fewer {p t : Int} {cs : List Cl} {x : Cl} (h1 : (countV p t cs).2 = 0) (h2 : (countV p t (cs ++ [x])).2 = 0) : (countV p t (cs ++ [x])).1 ≤ (countV p t cs).1 := by
  unfold countV at *
  split at h1
  · rename_i g1
    split at h2
    · rename_i g2
      rw [if_pos g1, if_pos g2, fit_more]
      have := List.length_filter_le (fun y => inC y x) (fitP t.toNat p.toNat cs)
      simp only; omega
    · cases h2
  · cases h1
theorem min_mono {j : Nat} (q : List Int → Bool) : ∀ (L : List (List Int)) (m m' : Int), m ≤ m' → L.foldl (fun m x => min m (gt x j)) m ≤ (L.filter q).foldl (fun m x => min m (gt x j)) m'
  | [], _, _, h => h
  | x :: L, m, m', h => by
    rw [List.foldl_cons, List.filter_cons]
    split
    · rw [List.foldl_cons]; exact min_mono q L _ _ (by omega)
    · exact min_mono q L _ _ (by omega)
theorem max_mono {j : Nat} (q : List Int → Bool) : ∀ (L : List (List Int)) (m m' : Int), m' ≤ m → (L.filter q).foldl (fun m x => max m (gt x j)) m' ≤ L.foldl (fun m x => max m (gt x j)) m
  | [], _, _, h => h
  | x :: L, m, m', h => by
    rw [List.foldl_cons, List.filter_cons]
    split
    · rw [List.foldl_cons]; exact max_mono q L _ _ (by omega)
    · exact max_mono q L _ _ (by omega)
theorem bounds_ok {p t : Int} {cs : List Cl} {px : Int} (h : (boundsV p t cs px).2 = 0) : valsB p t cs = true ∧ boundsV p t cs px = ((loJ t (fitP t.toNat p.toNat cs) px.toNat, hiJ (fitP t.toNat p.toNat cs) px.toNat), 0) := by
  unfold boundsV at *
  split at h
  · rename_i g1
    rw [if_pos g1]
    split at h
    · rename_i g2
      rw [if_pos g2]
      split at h
      · cases h
      · rename_i g3
        rw [if_neg g3]; exact ⟨g1, rfl⟩
    · cases h
  · cases h
theorem bounds_fewer {p t : Int} {cs : List Cl} {x : Cl} {px : Int} (h1 : (boundsV p t cs px).2 = 0) (h2 : (boundsV p t (cs ++ [x]) px).2 = 0) : (boundsV p t cs px).1.1 ≤ (boundsV p t (cs ++ [x]) px).1.1 ∧ (boundsV p t (cs ++ [x]) px).1.2 ≤ (boundsV p t cs px).1.2 := by
  rw [(bounds_ok h1).2, (bounds_ok h2).2, fit_more]
  exact ⟨min_mono _ _ _ _ (Int.le_refl _), max_mono _ _ _ _ (Int.le_refl _)⟩
theorem bounds_count {p t : Int} {cs : List Cl} {px : Int} (h : (boundsV p t cs px).2 = 0) : (countV p t cs).2 = 0 := by
  unfold countV; rw [if_pos (bounds_ok h).1]
theorem cnt_all (S : List Int) (th : Int) : cntLo S th + cntHi S th = S.length := by
  unfold cntLo cntHi
  induction S with
  | nil => rfl
  | cons s S ih =>
    rw [List.filter_cons, List.filter_cons]
    by_cases h : s < th <;> simp [h] <;> omega
theorem parts_count {p t : Int} {cs : List Cl} {row : List Int} {th : Int} (h : (partsV p t cs row th).2 = 0) : (countV p t cs).2 = 0 ∧ (partsV p t cs row th).1.1 + (partsV p t cs row th).1.2 = (countV p t cs).1 := by
  unfold partsV at *
  split at h
  · rename_i g1
    rw [if_pos g1]
    have gv : valsB p t cs = true := by unfold celB at g1; rw [Bool.and_eq_true] at g1; exact g1.1
    split at h
    · rename_i g2
      rw [if_pos g2]
      unfold countV
      rw [if_pos gv]
      have := cnt_all (sumsB row (fitP t.toNat p.toNat cs)) th
      unfold sumsB at this
      rw [List.length_map] at this
      refine ⟨rfl, ?_⟩
      simp only [sumsB]; omega
    · cases h
  · cases h
theorem parts_bd (p t : Int) (cs : List Cl) (row : List Int) (th : Int) : 0 ≤ (partsV p t cs row th).1.1 ∧ (partsV p t cs row th).1.1 ≤ 65536 ∧ 0 ≤ (partsV p t cs row th).1.2 ∧ (partsV p t cs row th).1.2 ≤ 65536 := by
  unfold partsV
  split
  · rename_i g1
    obtain ⟨P, T, rfl, rfl, hP1, hP, hT, _⟩ := cel_row g1
    split
    · have := cnt_all (sumsB row (fitP T P cs)) th
      unfold sumsB at this
      rw [List.length_map] at this
      have h2 := fitP_len hT hP cs
      simp only [Int.toNat_natCast, sumsB]; omega
    · simp
  · simp
/-- The boxes of the field and of the cell. -/
def FC (w : World) (x0 y0 : Int) (b2 : Option Addr) (n2 c2 : Nat) (lo2 hg2 : Int) (W : World) : Prop := Fb w x0 y0 W ∧ Cb (w.heap.size + 1) b2 n2 c2 lo2 hg2 W
theorem FC.next {w : World} {x0 y0 : Int} {b2 : Option Addr} {n2 c2 : Nat} {lo2 hg2 : Int} {W W' : World} (h : FC w x0 y0 b2 n2 c2 lo2 hg2 W) (hb : Below W.heap.size W W') : FC w x0 y0 b2 n2 c2 lo2 hg2 W' := ⟨h.1.next hb, h.2.next hb⟩
theorem FC.cells {w : World} {x0 y0 : Int} {b2 : Option Addr} {n2 c2 : Nat} {lo2 hg2 : Int} {W : World} (h : FC w x0 y0 b2 n2 c2 lo2 hg2 W) : W.cell? ⟨w.heap.size, 0, none⟩ = some (.int .i64 x0) ∧ W.cell? ⟨w.heap.size, 1, none⟩ = some (.int .i64 y0) ∧ W.cell? ⟨w.heap.size + 1, 0, none⟩ = some (.slice b2 n2 c2) ∧ W.cell? ⟨w.heap.size + 1, 1, none⟩ = some (.int .i64 lo2) ∧ W.cell? ⟨w.heap.size + 1, 2, none⟩ = some (.int .i64 hg2) := ⟨h.1.c0, h.1.c1, h.2.c0, h.2.c1, h.2.c2⟩
set_option maxRecDepth 1000000 in
set_option maxHeartbeats 12800000 in
theorem walk (x0 y0 : Int) (b1 : Option Addr) (cs1 : List Cl) (c1 : Nat) (b2 : Option Addr) (xs2 : List Int) (c2 : Nat) (lo2 hg2 : Int) (m3 : Int) (m4 : Int) (w : World) (_rx0 : I64 x0) (_ry0 : I64 y0) (h1 : Cs w b1 cs1) (l1 : cs1.length ≤ 9223372036854775807) (r1 : ∀ c ∈ cs1, c.1.length ≤ 9223372036854775807) (h2 : Sl w b2 xs2) (l2 : xs2.length ≤ 9223372036854775807) (_r2 : ∀ x ∈ xs2, I64 x) (_rl2 : I64 lo2) (_rh2 : I64 hg2) (_r3 : I64 m3) (_r4 : I64 m4) :
    Calls Try.prog 5 #[.agg #[.int .i64 x0, .int .i64 y0], .slice b1 cs1.length c1, .agg #[.slice b2 xs2.length c2, .int .i64 lo2, .int .i64 hg2], .int .i64 m3, .int .i64 m4] w fun e w' => e = .returned (.bool true) ∧ Below w.heap.size w w' := by
  have HF : Hid (FC w x0 y0 b2 xs2.length c2 lo2 hg2 ((w.alloc (.cells #[.int .i64 x0, .int .i64 y0] 23)).alloc (.cells #[.slice b2 xs2.length c2, .int .i64 lo2, .int .i64 hg2] 49))) := by
    have h := Cb.new (w.alloc (.cells #[.int .i64 x0, .int .i64 y0] 23)) b2 xs2.length c2 lo2 hg2 49
    rw [World.size_alloc] at h
    exact ⟨(Fb.new w x0 y0 _).next ((Below.refl _ _).alloc (Nat.le_refl _) _), h⟩
  have HAW : Hid (∀ V, FC w x0 y0 b2 xs2.length c2 lo2 hg2 V → Calls Try.prog 12 #[] V fun e w' => e = .returned (.bool true) ∧ FC w x0 y0 b2 xs2.length c2 lo2 hg2 w') := fun V h => (awake7_any V).mono fun e w' ⟨k1, k2⟩ => ⟨k1, h.next k2⟩
  have HFE : Hid (∀ V, FC w x0 y0 b2 xs2.length c2 lo2 hg2 V → Calls Try.prog 10 #[.agg #[.int .i64 x0, .int .i64 y0], .int .i64 1100] V fun e w' => e = .returned (.bool (fewB x0 y0 1100)) ∧ FC w x0 y0 b2 xs2.length c2 lo2 hg2 w') := fun V h => (few7_any x0 y0 1100 V).mono fun e w' ⟨k1, k2⟩ => ⟨k1, h.next k2⟩
  have HFI : Hid (∀ V, FC w x0 y0 b2 xs2.length c2 lo2 hg2 V → Calls Try.prog 11 #[.slice b1 cs1.length c1] V fun e w' => e = .returned (.bool (fitB cs1)) ∧ FC w x0 y0 b2 xs2.length c2 lo2 hg2 w') := fun V h => (fit7_any b1 cs1 c1 V l1 r1 (h.1.below_cs h1)).mono fun e w' ⟨k1, k2⟩ => ⟨k1, h.next k2⟩
  obtain ⟨a90, a91, a92, a93, a94⟩ := FC.cells HF.out
  by_cases hskip : fewB x0 y0 1100 = true ∧ fitB cs1 = true ∧ ¬ (20 : Int) < (xs2.length : Int)
  case neg =>
    cases hfe : fewB x0 y0 1100
    · rw [hfe] at HFE
      clear h1 r1 h2 hskip
      go_enter Try.func5, Try.ntmps5
      go_wp2_with (first
        | (go_at_call 10; refine (HFE.out _ HF.out).mono ?_; rintro e w0 ⟨rfl, F0⟩; obtain ⟨a00, a01, a02, a03, a04⟩ := FC.cells F0)
        | (go_at_call 12; refine (HAW.out _ F0).mono ?_; rintro e w99 ⟨rfl, F99⟩))
      all_goals go_ret
      all_goals exact ⟨rfl, F99.1.below⟩
    · rw [hfe] at HFE
      cases hfi : fitB cs1
      · rw [hfi] at HFI
        clear h1 r1 h2 hskip
        go_enter Try.func5, Try.ntmps5
        go_wp2_with (first
          | (go_at_call 10; refine (HFE.out _ HF.out).mono ?_; rintro e w0 ⟨rfl, F0⟩; obtain ⟨a00, a01, a02, a03, a04⟩ := FC.cells F0)
          | (go_at_call 11; refine (HFI.out _ F0).mono ?_; rintro e w1 ⟨rfl, F1⟩; obtain ⟨a10, a11, a12, a13, a14⟩ := FC.cells F1)
          | (go_at_call 12; refine (HAW.out _ F1).mono ?_; rintro e w99 ⟨rfl, F99⟩))
        all_goals go_ret
        all_goals exact ⟨rfl, F99.1.below⟩
      · rw [hfi] at HFI
        have hg2 : (20 : Int) < (xs2.length : Int) := by
          by_cases h : (20 : Int) < (xs2.length : Int)
          · exact h
          · exact absurd ⟨hfe, hfi, h⟩ hskip
        clear h1 r1 h2 hskip
        go_enter Try.func5, Try.ntmps5
        go_wp2_with (first
          | (go_at_call 10; refine (HFE.out _ HF.out).mono ?_; rintro e w0 ⟨rfl, F0⟩; obtain ⟨a00, a01, a02, a03, a04⟩ := FC.cells F0)
          | (go_at_call 11; refine (HFI.out _ F0).mono ?_; rintro e w1 ⟨rfl, F1⟩; obtain ⟨a10, a11, a12, a13, a14⟩ := FC.cells F1)
          | (go_at_call 12; refine (HAW.out _ F1).mono ?_; rintro e w99 ⟨rfl, F99⟩))
        all_goals go_ret
        all_goals exact ⟨rfl, F99.1.below⟩
  case pos =>
    obtain ⟨hfe, hfi, hgx⟩ := hskip
    rw [hfe] at HFE
    rw [hfi] at HFI
    have hcl : CLen cs1 ∧ cs1.length ≤ 35 := by
      unfold fitB at hfi
      simp only [Bool.and_eq_true, List.all_eq_true, decide_eq_true_eq] at hfi
      exact ⟨fun c hc => by have := hfi.1 c hc; omega, by omega⟩
    have H1 := Lib.hid h1
    have H2 := Lib.hid h2
    have HCL := Lib.hid hcl
    have HL2 : Hid (xs2.length ≤ 20) := by show _ ≤ _; omega
    clear h1 r1 h2 hfe hfi hcl
    go_enter Try.func5, Try.ntmps5
    go_wp2_with (first
      | (go_at_call 10; refine (HFE.out _ HF.out).mono ?_; rintro e w0 ⟨rfl, F0⟩; obtain ⟨a00, a01, a02, a03, a04⟩ := FC.cells F0)
      | (go_at_call 11; refine (HFI.out _ F0).mono ?_; rintro e w1 ⟨rfl, F1⟩; obtain ⟨a10, a11, a12, a13, a14⟩ := FC.cells F1))
    have HSX : Hid (SlB w1 w1.heap.size b2 xs2) := SlB.of (F1.1.sl H2.out) (Nat.le_refl _)
    refine wp_post (fun a' w' => ∃ u41 u43 u45 u46, a' = { tmps := #[.agg #[.int .i64 x0, .int .i64 y0], .slice b1 cs1.length c1, .agg #[.slice b2 xs2.length c2, .int .i64 lo2, .int .i64 hg2], .int .i64 m3, .int .i64 m4, .pointer (some ⟨w.heap.size, 0, none⟩), undef, .pointer (some ⟨w.heap.size + 1, 0, none⟩), undef, undef, .bool false, u46, undef, undef, undef, undef, undef, undef, undef, undef, undef, undef, undef, undef, undef, undef, .agg #[.int .i64 x0, .int .i64 y0], .bool true, .bool false, .bool false, .slice b1 cs1.length c1, .bool true, .bool false, .bool false, .bool false, .pointer (some ⟨w.heap.size + 1, 0, none⟩), .slice b2 xs2.length c2, .int .i64 xs2.length, .bool (decide ((20 : Int) < (xs2.length : Int))), .bool (decide ((20 : Int) < (xs2.length : Int))), undef, u41, .slice b1 cs1.length c1, u43, .agg #[.slice b2 xs2.length c2, .int .i64 lo2, .int .i64 hg2], u45, u46, undef, undef, undef, undef, undef, undef, undef, undef, undef, undef, undef, undef, undef, undef, undef, undef, undef, undef, undef, undef, undef, undef, undef, undef, undef, undef, undef, undef, undef, undef, undef, undef, undef, undef, undef, undef, undef, undef, undef, undef, undef, undef, undef, undef, undef, undef, undef, undef, undef, undef, undef, undef, undef, undef, undef, undef, undef, undef, undef, undef, undef, undef, undef, undef, undef, undef, undef, undef, undef, undef, undef, undef, undef, undef, undef, undef, undef, undef, undef, undef, undef, undef, undef, undef, undef, undef, undef, undef, undef, undef, undef, undef, undef, undef, undef, undef, undef, undef, undef, undef, undef, undef, undef, undef, undef, undef, undef, undef], defers := [] } ∧ OwnC w' w1.heap.size u46 (cs1 ++ [(xs2, lo2, hg2)]) ∧ Below w1.heap.size w1 w') ?_ ?_
    refine wp_region_G (S := fun _ W => Below w1.heap.size w1 W) (by kernel_rfl) ((Below.refl _ _).drew) ?_
    intro hc hS
    refine wpAnyG_take (i := 1) (oi := ?oir1) (v := ?vr1) ?hir1 (by kernel_rfl) (by kernel_rfl) (by kernel_rfl) ?hQr1 (fun _ _ => Iff.rfl) hc ?hyr1 hS ?restr1
    case hir1 => (simp only [List.getElem?_toArray, List.getElem?_cons_succ, List.getElem?_cons_zero]; exact rfl)
    case hQr1 => exact fun _ _ _ h => h
    case hyr1 => (refine Or.inl ⟨rfl, ?_⟩; (intro w _; go_simp; (try with_reducible rfl)))
    clear hc hS; intro hc hS
    simp only [Act.put, List.setIfInBounds_toArray, List.set_cons_zero, List.set_cons_succ]
    refine wpAnyG_take (i := 3) (oi := ?oir3) (v := ?vr3) ?hir3 (by kernel_rfl) (by kernel_rfl) (by kernel_rfl) ?hQr3 (fun _ _ => Iff.rfl) hc ?hyr3 hS ?restr3
    case hir3 => (simp only [List.getElem?_toArray, List.getElem?_cons_succ, List.getElem?_cons_zero]; exact rfl)
    case hQr3 => exact fun _ _ _ h => h
    case hyr3 => (refine Or.inl ⟨rfl, ?_⟩; (rintro w9 ⟨L, _, _, hB⟩; obtain ⟨_, _, _, _, _⟩ := FC.cells (F1.next hB); go_simp; (try with_reducible rfl)))
    clear hc hS; intro hc hS
    simp only [Act.put, List.setIfInBounds_toArray, List.set_cons_zero, List.set_cons_succ]
    refine wpAnyG_twoC (i := 0) (j := 4) (o := ?oiA) (p := ?ojA) (by kernel_rfl) ?hiA ?hjA hc ?raA ?rbA
    case hiA => (simp only [List.getElem?_toArray, List.getElem?_cons_zero]; exact rfl)
    case hjA => (simp only [List.getElem?_toArray, List.getElem?_cons_succ, List.getElem?_cons_zero]; exact rfl)
    case raA =>
      clear hc; intro hc K hK; have HK := Lib.hid hK; clear hK
      go_simp
      obtain ⟨V0, hV0⟩ : ∃ V, (World.alloc w1 (.cells #[] 49)).drew = V := ⟨_, rfl⟩
      have HB0 : Hid (Below w1.heap.size w1 V0) := by show Below _ _ _; rw [← hV0]; exact ((Below.refl _ _).alloc (Nat.le_refl _) _).drew
      have HO0 : Hid (OwnC V0 w1.heap.size (.slice (some ⟨w1.heap.size, 0, none⟩) 0 0) []) := by show OwnC _ _ _ _; rw [← hV0]; exact own_litC w1 (Nat.le_refl _)
      have HS0 : Hid ((V0).heap.size = w1.heap.size + 1) := by show _ = _; rw [← hV0]; exact World.size_alloc w1 _
      rw [hV0]
      clear hV0
      refine HK.out _ _ HB0.out ?_
      clear HK K hS; intro hS
      refine wpAnyG_twoC (i := 2) (j := 4) (o := ?oiB) (p := ?ojB) (by kernel_rfl) ?hiB ?hjB hc ?raB ?rbB
      case hiB => (simp only [List.getElem?_toArray, List.getElem?_cons_succ, List.getElem?_cons_zero]; exact rfl)
      case hjB => (simp only [List.getElem?_toArray, List.getElem?_cons_succ, List.getElem?_cons_zero]; exact rfl)
      case raB =>
        clear hc; intro hc K hK; have HK := Lib.hid hK; clear hK
        refine step_catC rfl (.tmp 41) (.tmp 42) rfl w1.heap.size (.slice (some ⟨w1.heap.size, 0, none⟩) 0 0) [] cs1 b1 c1 V0 rfl rfl HO0.out (CsB.of H1.out (F1.1.below.trans ((HB0.out).mono F1.1.below.size)) F1.1.below.size) (by have := HCL.out.2; simp; omega) ((HB0.out).size) ?_
        rintro v2 V2 ho2 hb2 hgr2
        have HO2 := Lib.hid ho2
        rw [List.nil_append] at HO2
        have HB2 : Hid (Below w1.heap.size w1 V2) := (HB0.out).trans hb2
        have HBL2 := Lib.hid hb2
        have HGR2 := Lib.hid hgr2
        clear ho2 hb2 hgr2
        refine HK.out _ _ HB2.out ?_
        clear HK K hS; intro hS
        refine wpAnyG_only (i := 4) (o := ?oic4) (by kernel_rfl) ?hic4 hc ?rac4
        case hic4 => (simp only [List.getElem?_toArray, List.getElem?_cons_succ, List.getElem?_cons_zero]; exact rfl)
        clear hc; intro hc K hK; have HK := Lib.hid hK; clear hK
        go_simp
        obtain ⟨V4, hV4⟩ : ∃ V, World.alloc V2 (.cells #[.slice b2 xs2.length c2, .int .i64 lo2, .int .i64 hg2] 49) = V := ⟨_, rfl⟩
        have HBX4 : Hid (Below (World.heap V2).size V2 V4) := by show Below _ _ _; rw [← hV4]; exact (Below.refl _ _).alloc (Nat.le_refl _) _
        have HB4 : Hid (Below w1.heap.size w1 V4) := (HB2.out).trans (HBX4.out.mono (HB2.out).size)
        have HX4 : Hid (CsB V4 w1.heap.size (some ⟨(World.heap V2).size, 0, none⟩) [(xs2, lo2, hg2)]) := by show CsB _ _ _ _; rw [← hV4]; exact csB_lit _ _ _ _ _ _ _ _ ((HSX.out).below (HB2.out)) ((HB2.out).size)
        have HS4 : Hid ((V4).heap.size = (World.heap V2).size + 1) := by show _ = _; rw [← hV4]; exact World.size_alloc _ _
        rw [hV4]
        clear hV4
        refine HK.out _ _ HB4.out ?_
        clear HK K hS; intro hS
        refine wpAnyG_only (i := 5) (o := ?oid5) (by kernel_rfl) ?hid5 hc ?rad5
        case hid5 => (simp only [List.getElem?_toArray, List.getElem?_cons_succ, List.getElem?_cons_zero]; exact rfl)
        clear hc; intro hc K hK; have HK := Lib.hid hK; clear hK
        refine step_catC rfl (.tmp 43) (.tmp 45) rfl w1.heap.size _ cs1 [(xs2, lo2, hg2)] _ 1 V4 rfl rfl (HO2.out.below HBX4.out) HX4.out (by have := HCL.out.2; simp; omega) ((HB4.out).size) ?_
        rintro v9 V9 ho9 hb9 -
        have HO9 := Lib.hid ho9
        have HB9 : Hid (Below w1.heap.size w1 V9) := (HB4.out).trans hb9
        clear ho9 hb9
        refine HK.out _ _ HB9.out ?_
        clear HK K hS; intro hS
        refine wpAnyG_only (i := 6) (o := ?oid6) (by kernel_rfl) ?hid6 hc ?rad6
        case hid6 => (simp only [List.getElem?_toArray, List.getElem?_cons_succ, List.getElem?_cons_zero]; exact rfl)
        clear hc; intro hc K hK; have HK := Lib.hid hK; clear hK
        go_simp
        refine HK.out _ _ HB9.out ?_
        clear HK K hS; intro hS
        refine wpAnyG_done (by kernel_rfl) ?_ _
        simp only [Act.put, List.setIfInBounds_toArray, List.set_cons_zero, List.set_cons_succ]
        exact ⟨_, _, _, _, rfl, HO9.out, HB9.out⟩
      case rbB =>
        clear hc; intro hc K hK; have HK := Lib.hid hK; clear hK
        go_simp
        obtain ⟨V4, hV4⟩ : ∃ V, World.alloc V0 (.cells #[.slice b2 xs2.length c2, .int .i64 lo2, .int .i64 hg2] 49) = V := ⟨_, rfl⟩
        have HBX4 : Hid (Below (World.heap V0).size V0 V4) := by show Below _ _ _; rw [← hV4]; exact (Below.refl _ _).alloc (Nat.le_refl _) _
        have HB4 : Hid (Below w1.heap.size w1 V4) := (HB0.out).trans (HBX4.out.mono (HB0.out).size)
        have HX4 : Hid (CsB V4 w1.heap.size (some ⟨(World.heap V0).size, 0, none⟩) [(xs2, lo2, hg2)]) := by show CsB _ _ _ _; rw [← hV4]; exact csB_lit _ _ _ _ _ _ _ _ ((HSX.out).below (HB0.out)) ((HB0.out).size)
        have HS4 : Hid ((V4).heap.size = (World.heap V0).size + 1) := by show _ = _; rw [← hV4]; exact World.size_alloc _ _
        rw [hV4]
        clear hV4
        refine HK.out _ _ HB4.out ?_
        clear HK K hS; intro hS
        refine wpAnyG_only (i := 2) (o := ?oie2) (by kernel_rfl) ?hie2 hc ?rae2
        case hie2 => (simp only [List.getElem?_toArray, List.getElem?_cons_succ, List.getElem?_cons_zero]; exact rfl)
        clear hc; intro hc K hK; have HK := Lib.hid hK; clear hK
        refine step_catC rfl (.tmp 41) (.tmp 42) rfl w1.heap.size (.slice (some ⟨w1.heap.size, 0, none⟩) 0 0) [] cs1 b1 c1 V4 rfl rfl (HO0.out.below HBX4.out) (CsB.of H1.out (F1.1.below.trans ((HB4.out).mono F1.1.below.size)) F1.1.below.size) (by have := HCL.out.2; simp; omega) ((HB4.out).size) ?_
        rintro v2 V2 ho2 hb2 hgr2
        have HO2 := Lib.hid ho2
        rw [List.nil_append] at HO2
        have HB2 : Hid (Below w1.heap.size w1 V2) := (HB4.out).trans hb2
        have HBL2 := Lib.hid hb2
        have HGR2 := Lib.hid hgr2
        clear ho2 hb2 hgr2
        refine HK.out _ _ HB2.out ?_
        clear HK K hS; intro hS
        refine wpAnyG_only (i := 5) (o := ?oif5) (by kernel_rfl) ?hif5 hc ?raf5
        case hif5 => (simp only [List.getElem?_toArray, List.getElem?_cons_succ, List.getElem?_cons_zero]; exact rfl)
        clear hc; intro hc K hK; have HK := Lib.hid hK; clear hK
        refine step_catC rfl (.tmp 43) (.tmp 45) rfl w1.heap.size _ cs1 [(xs2, lo2, hg2)] _ 1 V2 rfl rfl HO2.out (HX4.out.grown HGR2.out (by have h0 := HS0.out; simp [Value.ownBlock] at h0 ⊢; omega) HBL2.out) (by have := HCL.out.2; simp; omega) ((HB2.out).size) ?_
        rintro v9 V9 ho9 hb9 -
        have HO9 := Lib.hid ho9
        have HB9 : Hid (Below w1.heap.size w1 V9) := (HB2.out).trans hb9
        clear ho9 hb9
        refine HK.out _ _ HB9.out ?_
        clear HK K hS; intro hS
        refine wpAnyG_only (i := 6) (o := ?oif6) (by kernel_rfl) ?hif6 hc ?raf6
        case hif6 => (simp only [List.getElem?_toArray, List.getElem?_cons_succ, List.getElem?_cons_zero]; exact rfl)
        clear hc; intro hc K hK; have HK := Lib.hid hK; clear hK
        go_simp
        refine HK.out _ _ HB9.out ?_
        clear HK K hS; intro hS
        refine wpAnyG_done (by kernel_rfl) ?_ _
        simp only [Act.put, List.setIfInBounds_toArray, List.set_cons_zero, List.set_cons_succ]
        exact ⟨_, _, _, _, rfl, HO9.out, HB9.out⟩
    case rbA =>
      clear hc; intro hc K hK; have HK := Lib.hid hK; clear hK
      go_simp
      obtain ⟨V4, hV4⟩ : ∃ V, (World.alloc w1 (.cells #[.slice b2 xs2.length c2, .int .i64 lo2, .int .i64 hg2] 49)).drew = V := ⟨_, rfl⟩
      have HB4 : Hid (Below w1.heap.size w1 V4) := by show Below _ _ _; rw [← hV4]; exact ((Below.refl _ _).alloc (Nat.le_refl _) _).drew
      have HX4 : Hid (CsB V4 w1.heap.size (some ⟨w1.heap.size, 0, none⟩) [(xs2, lo2, hg2)]) := by show CsB _ _ _ _; rw [← hV4]; exact csB_lit w1 _ _ _ _ _ _ _ HSX.out (Nat.le_refl _)
      have HS4 : Hid ((V4).heap.size = w1.heap.size + 1) := by show _ = _; rw [← hV4]; exact World.size_alloc w1 _
      rw [hV4]
      clear hV4
      refine HK.out _ _ HB4.out ?_
      clear HK K hS; intro hS
      refine wpAnyG_only (i := 0) (o := ?oig0) (by kernel_rfl) ?hig0 hc ?rag0
      case hig0 => (simp only [List.getElem?_toArray, List.getElem?_cons_zero]; exact rfl)
      clear hc; intro hc K hK; have HK := Lib.hid hK; clear hK
      go_simp
      obtain ⟨V0, hV0⟩ : ∃ V, World.alloc V4 (.cells #[] 49) = V := ⟨_, rfl⟩
      have HBX0 : Hid (Below (World.heap V4).size V4 V0) := by show Below _ _ _; rw [← hV0]; exact (Below.refl _ _).alloc (Nat.le_refl _) _
      have HB0 : Hid (Below w1.heap.size w1 V0) := by show Below _ _ _; rw [← hV0]; exact (HB4.out).alloc ((HB4.out).size) _
      have HO0 : Hid (OwnC V0 w1.heap.size (.slice (some ⟨(World.heap V4).size, 0, none⟩) 0 0) []) := by show OwnC _ _ _ _; rw [← hV0]; exact own_litC _ ((HB4.out).size)
      have HS0 : Hid ((V0).heap.size = (World.heap V4).size + 1) := by show _ = _; rw [← hV0]; exact World.size_alloc _ _
      rw [hV0]
      clear hV0
      refine HK.out _ _ HB0.out ?_
      clear HK K hS; intro hS
      refine wpAnyG_only (i := 2) (o := ?oig2) (by kernel_rfl) ?hig2 hc ?rag2
      case hig2 => (simp only [List.getElem?_toArray, List.getElem?_cons_succ, List.getElem?_cons_zero]; exact rfl)
      clear hc; intro hc K hK; have HK := Lib.hid hK; clear hK
      refine step_catC rfl (.tmp 41) (.tmp 42) rfl w1.heap.size (.slice (some ⟨V4.heap.size, 0, none⟩) 0 0) [] cs1 b1 c1 V0 rfl rfl HO0.out (CsB.of H1.out (F1.1.below.trans ((HB0.out).mono F1.1.below.size)) F1.1.below.size) (by have := HCL.out.2; simp; omega) ((HB0.out).size) ?_
      rintro v2 V2 ho2 hb2 hgr2
      have HO2 := Lib.hid ho2
      rw [List.nil_append] at HO2
      have HB2 : Hid (Below w1.heap.size w1 V2) := (HB0.out).trans hb2
      have HBL2 := Lib.hid hb2
      have HGR2 := Lib.hid hgr2
      clear ho2 hb2 hgr2
      refine HK.out _ _ HB2.out ?_
      clear HK K hS; intro hS
      refine wpAnyG_only (i := 5) (o := ?oih5) (by kernel_rfl) ?hih5 hc ?rah5
      case hih5 => (simp only [List.getElem?_toArray, List.getElem?_cons_succ, List.getElem?_cons_zero]; exact rfl)
      clear hc; intro hc K hK; have HK := Lib.hid hK; clear hK
      refine step_catC rfl (.tmp 43) (.tmp 45) rfl w1.heap.size _ cs1 [(xs2, lo2, hg2)] _ 1 V2 rfl rfl HO2.out ((HX4.out.below HBX0.out).grown HGR2.out (by have h0 := HS4.out; simp [Value.ownBlock] at h0 ⊢; omega) HBL2.out) (by have := HCL.out.2; simp; omega) ((HB2.out).size) ?_
      rintro v9 V9 ho9 hb9 -
      have HO9 := Lib.hid ho9
      have HB9 : Hid (Below w1.heap.size w1 V9) := (HB2.out).trans hb9
      clear ho9 hb9
      refine HK.out _ _ HB9.out ?_
      clear HK K hS; intro hS
      refine wpAnyG_only (i := 6) (o := ?oih6) (by kernel_rfl) ?hih6 hc ?rah6
      case hih6 => (simp only [List.getElem?_toArray, List.getElem?_cons_succ, List.getElem?_cons_zero]; exact rfl)
      clear hc; intro hc K hK; have HK := Lib.hid hK; clear hK
      go_simp
      refine HK.out _ _ HB9.out ?_
      clear HK K hS; intro hS
      refine wpAnyG_done (by kernel_rfl) ?_ _
      simp only [Act.put, List.setIfInBounds_toArray, List.set_cons_zero, List.set_cons_succ]
      exact ⟨_, _, _, _, rfl, HO9.out, HB9.out⟩
    rintro a' w2 ⟨u41, u43, u45, u46, rfl, hoc, hb2⟩
    dsimp only
    obtain ⟨ma, mc, rfl, hmc⟩ := hoc.cs
    have HMC := Lib.hid hmc
    have F2 := F1.next hb2
    obtain ⟨a20, a21, a22, a23, a24⟩ := FC.cells F2
    have HM : Hid (CLen (cs1 ++ [(xs2, lo2, hg2)]) ∧ (cs1 ++ [(xs2, lo2, hg2)]).length ≤ 36) := ⟨fun c hc => by
      rcases List.mem_append.1 hc with hc | hc
      · exact HCL.out.1 c hc
      · rw [List.mem_singleton.1 hc]; have := HL2.out; show xs2.length ≤ _; omega, by have := HCL.out.2; simp; omega⟩
    have hA := count_fewer (p := x0) (t := y0) (cs := cs1) (x := (xs2, lo2, hg2))
    have hB := bounds_fewer (p := x0) (t := y0) (cs := cs1) (x := (xs2, lo2, hg2)) (px := m3)
    have hC := bounds_count (p := x0) (t := y0) (cs := cs1) (px := m3)
    have hD := parts_count (p := x0) (t := y0) (cs := cs1) (row := xs2) (th := m4)
    have hP := parts_bd x0 y0 cs1 xs2 m4
    obtain ⟨M, hM⟩ : ∃ M, cs1 ++ [(xs2, lo2, hg2)] = M := ⟨_, rfl⟩
    rw [hM] at HM HMC hA hB
    rw [hM]
    obtain ⟨⟨cn, ce⟩, hcv⟩ : ∃ r, countV x0 y0 cs1 = r := ⟨_, rfl⟩
    obtain ⟨⟨cm, ge⟩, hmv⟩ : ∃ r, countV x0 y0 M = r := ⟨_, rfl⟩
    obtain ⟨⟨⟨sl, sh⟩, he⟩, hsv⟩ : ∃ r, boundsV x0 y0 cs1 m3 = r := ⟨_, rfl⟩
    obtain ⟨⟨⟨tl, th⟩, ie⟩, htv⟩ : ∃ r, boundsV x0 y0 M m3 = r := ⟨_, rfl⟩
    obtain ⟨⟨⟨pm, pn⟩, je⟩, hpv⟩ : ∃ r, partsV x0 y0 cs1 xs2 m4 = r := ⟨_, rfl⟩
    rw [hcv, hmv] at hA
    rw [hsv, htv] at hB
    rw [hsv, hcv] at hC
    rw [hpv, hcv] at hD
    rw [hpv] at hP
    dsimp only at hA hB hC hD hP
    have HC1 : Hid (∀ V, FC w x0 y0 b2 xs2.length c2 lo2 hg2 V → Calls Try.prog 25 #[.agg #[.int .i64 x0, .int .i64 y0], .slice b1 cs1.length c1] V fun e w' => e = .returned (.tuple #[.int .i64 cn, .int .i64 ce]) ∧ Below V.heap.size V w') := fun V h => by
      have k := bcount_any x0 y0 b1 cs1 c1 V (by have := HCL.out.2; omega) HCL.out.1 (h.1.below_cs H1.out)
      rw [hcv] at k; exact k
    have HC2 : Hid (∀ V, Cs V ma M → Calls Try.prog 25 #[.agg #[.int .i64 x0, .int .i64 y0], .slice ma M.length mc] V fun e w' => e = .returned (.tuple #[.int .i64 cm, .int .i64 ge]) ∧ Below V.heap.size V w') := fun V h => by
      have k := bcount_any x0 y0 ma M mc V (by have := HM.out.2; omega) HM.out.1 h
      rw [hmv] at k; exact k
    have HB1 : Hid (∀ V, FC w x0 y0 b2 xs2.length c2 lo2 hg2 V → Calls Try.prog 30 #[.agg #[.int .i64 x0, .int .i64 y0], .slice b1 cs1.length c1, .int .i64 m3] V fun e w' => e = .returned (.tuple #[.agg #[.int .i64 sl, .int .i64 sh], .int .i64 he]) ∧ Below V.heap.size V w') := fun V h => by
      have k := bBounds_any x0 y0 b1 cs1 c1 m3 V (by have := HCL.out.2; omega) HCL.out.1 (h.1.below_cs H1.out)
      rw [hsv] at k; exact k
    have HB2 : Hid (∀ V, Cs V ma M → Calls Try.prog 30 #[.agg #[.int .i64 x0, .int .i64 y0], .slice ma M.length mc, .int .i64 m3] V fun e w' => e = .returned (.tuple #[.agg #[.int .i64 tl, .int .i64 th], .int .i64 ie]) ∧ Below V.heap.size V w') := fun V h => by
      have k := bBounds_any x0 y0 ma M mc m3 V (by have := HM.out.2; omega) HM.out.1 h
      rw [htv] at k; exact k
    have HP1 : Hid (∀ V, FC w x0 y0 b2 xs2.length c2 lo2 hg2 V → Calls Try.prog 34 #[.agg #[.int .i64 x0, .int .i64 y0], .slice b1 cs1.length c1, .slice b2 xs2.length c2, .int .i64 m4] V fun e w' => e = .returned (.tuple #[.int .i64 pm, .int .i64 pn, .int .i64 je]) ∧ FC w x0 y0 b2 xs2.length c2 lo2 hg2 w') := fun V h => by
      have k := bparts_any x0 y0 b1 cs1 c1 b2 xs2 c2 m4 V (by have := HCL.out.2; omega) HCL.out.1 (h.1.below_cs H1.out) (by have := HL2.out; omega) (h.1.sl H2.out)
      rw [hpv] at k; exact k.mono fun e w' ⟨k1, k2⟩ => ⟨k1, h.next k2⟩
    have HP2 : Hid (∀ V, FC w x0 y0 b2 xs2.length c2 lo2 hg2 V → Calls Try.prog 35 #[.agg #[.int .i64 x0, .int .i64 y0], .slice b1 cs1.length c1, .slice b2 xs2.length c2, .int .i64 m4] V fun e w' => e = .returned (.tuple #[.int .i64 pm, .int .i64 pn, .int .i64 je]) ∧ FC w x0 y0 b2 xs2.length c2 lo2 hg2 w') := fun V h => by
      have k := rParts_any x0 y0 b1 cs1 c1 b2 xs2 c2 m4 V (by have := HCL.out.2; omega) HCL.out.1 (h.1.below_cs H1.out) (by have := HL2.out; omega) (h.1.sl H2.out)
      rw [hpv] at k; exact k.mono fun e w' ⟨k1, k2⟩ => ⟨k1, h.next k2⟩
    clear hcv hmv hsv htv hpv hM hoc hmc
    have HA' := Lib.hid hA
    have HB' := Lib.hid hB
    have HC' := Lib.hid hC
    have HD' := Lib.hid hD
    clear hA hB hC hD
    clear F0 F1 hb2 a00 a01 a02 a03 a04 a10 a11 a12 a13 a14 a90 a91 a92 a93 a94
    by_cases hce : ce = 0
    case neg =>
      have hhe : ¬ he = 0 := fun e => hce (HC'.out e)
      have hje : ¬ je = 0 := fun e => hce (HD'.out e).1
      go_wp2_with (first
        | (go_at_call 25; with_reducible refine (HC1.out _ F2).mono ?_; rintro e w3 ⟨rfl, hb3⟩; have F3 := F2.next hb3; have M3 := HMC.out.below hb3; obtain ⟨a30, a31, a32, a33, a34⟩ := FC.cells F3)
        | (go_at_call 25; with_reducible refine (HC2.out _ M3).mono ?_; rintro e w4 ⟨rfl, hb4⟩; have F4 := F3.next hb4; have M4 := M3.below hb4; obtain ⟨a40, a41, a42, a43, a44⟩ := FC.cells F4)
        | (go_at_call 30; with_reducible refine (HB1.out _ F4).mono ?_; rintro e w5 ⟨rfl, hb5⟩; have hA5 : Below w5.heap.size w5 (w5.alloc (.cells #[.int .i64 sl, .int .i64 sh] 34)) := (Below.refl _ _).alloc (Nat.le_refl _) _; have F5 := (F4.next hb5).next hA5; have M5 := (M4.below hb5).below hA5; have P5 := Bp.new w5 (.int .i64 sl) (.int .i64 sh) 34; obtain ⟨a50, a51, a52, a53, a54⟩ := FC.cells F5)
        | (go_at_call 30; with_reducible refine (HB2.out _ M5).mono ?_; rintro e w6 ⟨rfl, hb6⟩; have hA6 : Below w6.heap.size w6 (w6.alloc (.cells #[.int .i64 tl, .int .i64 th] 34)) := (Below.refl _ _).alloc (Nat.le_refl _) _; have F6 := (F5.next hb6).next hA6; have P6 := Bp.new w6 (.int .i64 tl) (.int .i64 th) 34; have P56 := (P5.next hb6).next hA6; obtain ⟨p0, p1⟩ := And.intro P6.c0 P6.c1; obtain ⟨p2, p3⟩ := And.intro P56.c0 P56.c1; obtain ⟨a60, a61, a62, a63, a64⟩ := FC.cells F6)
        | (go_at_call 34; refine (HP1.out _ F6).mono ?_; rintro e w7 ⟨rfl, F7⟩; obtain ⟨a70, a71, a72, a73, a74⟩ := FC.cells F7)
        | (go_at_call 35; refine (HP2.out _ F7).mono ?_; rintro e w8 ⟨rfl, F8⟩; obtain ⟨a80, a81, a82, a83, a84⟩ := FC.cells F8)
        | (go_at_call 12; refine (HAW.out _ F8).mono ?_; rintro e w99 ⟨rfl, F99⟩))
      all_goals go_ret
      all_goals exact ⟨rfl, F99.1.below⟩
    case pos =>
      subst hce
      by_cases hge : ge = 0
      · subst hge
        have hle := HA'.out rfl rfl
        have hle2 : ¬ cn < cm := by omega
        clear hle
        by_cases hhe : he = 0
        · subst hhe
          by_cases hie : ie = 0
          · subst hie
            obtain ⟨hq1, hq2⟩ := HB'.out rfl rfl
            have hq3 : ¬ tl < sl := by omega
            have hq4 : ¬ sh < th := by omega
            clear hq1 hq2
            by_cases hje : je = 0
            · subst hje
              have hsum := (HD'.out rfl).2
              go_wp2_with (first
                | (go_at_call 25; with_reducible refine (HC1.out _ F2).mono ?_; rintro e w3 ⟨rfl, hb3⟩; have F3 := F2.next hb3; have M3 := HMC.out.below hb3; obtain ⟨a30, a31, a32, a33, a34⟩ := FC.cells F3)
                | (go_at_call 25; with_reducible refine (HC2.out _ M3).mono ?_; rintro e w4 ⟨rfl, hb4⟩; have F4 := F3.next hb4; have M4 := M3.below hb4; obtain ⟨a40, a41, a42, a43, a44⟩ := FC.cells F4)
                | (go_at_call 30; with_reducible refine (HB1.out _ F4).mono ?_; rintro e w5 ⟨rfl, hb5⟩; have hA5 : Below w5.heap.size w5 (w5.alloc (.cells #[.int .i64 sl, .int .i64 sh] 34)) := (Below.refl _ _).alloc (Nat.le_refl _) _; have F5 := (F4.next hb5).next hA5; have M5 := (M4.below hb5).below hA5; have P5 := Bp.new w5 (.int .i64 sl) (.int .i64 sh) 34; obtain ⟨a50, a51, a52, a53, a54⟩ := FC.cells F5)
                | (go_at_call 30; with_reducible refine (HB2.out _ M5).mono ?_; rintro e w6 ⟨rfl, hb6⟩; have hA6 : Below w6.heap.size w6 (w6.alloc (.cells #[.int .i64 tl, .int .i64 th] 34)) := (Below.refl _ _).alloc (Nat.le_refl _) _; have F6 := (F5.next hb6).next hA6; have P6 := Bp.new w6 (.int .i64 tl) (.int .i64 th) 34; have P56 := (P5.next hb6).next hA6; obtain ⟨p0, p1⟩ := And.intro P6.c0 P6.c1; obtain ⟨p2, p3⟩ := And.intro P56.c0 P56.c1; obtain ⟨a60, a61, a62, a63, a64⟩ := FC.cells F6)
                | (go_at_call 34; refine (HP1.out _ F6).mono ?_; rintro e w7 ⟨rfl, F7⟩; obtain ⟨a70, a71, a72, a73, a74⟩ := FC.cells F7)
                | (go_at_call 35; refine (HP2.out _ F7).mono ?_; rintro e w8 ⟨rfl, F8⟩; obtain ⟨a80, a81, a82, a83, a84⟩ := FC.cells F8)
                | (go_at_call 12; refine (HAW.out _ F8).mono ?_; rintro e w99 ⟨rfl, F99⟩))
              all_goals go_ret
              all_goals exact ⟨rfl, F99.1.below⟩
            · have hje2 := hje
              clear hje2
              go_wp2_with (first
                | (go_at_call 25; with_reducible refine (HC1.out _ F2).mono ?_; rintro e w3 ⟨rfl, hb3⟩; have F3 := F2.next hb3; have M3 := HMC.out.below hb3; obtain ⟨a30, a31, a32, a33, a34⟩ := FC.cells F3)
                | (go_at_call 25; with_reducible refine (HC2.out _ M3).mono ?_; rintro e w4 ⟨rfl, hb4⟩; have F4 := F3.next hb4; have M4 := M3.below hb4; obtain ⟨a40, a41, a42, a43, a44⟩ := FC.cells F4)
                | (go_at_call 30; with_reducible refine (HB1.out _ F4).mono ?_; rintro e w5 ⟨rfl, hb5⟩; have hA5 : Below w5.heap.size w5 (w5.alloc (.cells #[.int .i64 sl, .int .i64 sh] 34)) := (Below.refl _ _).alloc (Nat.le_refl _) _; have F5 := (F4.next hb5).next hA5; have M5 := (M4.below hb5).below hA5; have P5 := Bp.new w5 (.int .i64 sl) (.int .i64 sh) 34; obtain ⟨a50, a51, a52, a53, a54⟩ := FC.cells F5)
                | (go_at_call 30; with_reducible refine (HB2.out _ M5).mono ?_; rintro e w6 ⟨rfl, hb6⟩; have hA6 : Below w6.heap.size w6 (w6.alloc (.cells #[.int .i64 tl, .int .i64 th] 34)) := (Below.refl _ _).alloc (Nat.le_refl _) _; have F6 := (F5.next hb6).next hA6; have P6 := Bp.new w6 (.int .i64 tl) (.int .i64 th) 34; have P56 := (P5.next hb6).next hA6; obtain ⟨p0, p1⟩ := And.intro P6.c0 P6.c1; obtain ⟨p2, p3⟩ := And.intro P56.c0 P56.c1; obtain ⟨a60, a61, a62, a63, a64⟩ := FC.cells F6)
                | (go_at_call 34; refine (HP1.out _ F6).mono ?_; rintro e w7 ⟨rfl, F7⟩; obtain ⟨a70, a71, a72, a73, a74⟩ := FC.cells F7)
                | (go_at_call 35; refine (HP2.out _ F7).mono ?_; rintro e w8 ⟨rfl, F8⟩; obtain ⟨a80, a81, a82, a83, a84⟩ := FC.cells F8)
                | (go_at_call 12; refine (HAW.out _ F8).mono ?_; rintro e w99 ⟨rfl, F99⟩))
              all_goals go_ret
              all_goals exact ⟨rfl, F99.1.below⟩
          · have hie2 := hie
            clear hie2
            by_cases hje : je = 0
            · subst hje
              have hsum := (HD'.out rfl).2
              go_wp2_with (first
                | (go_at_call 25; with_reducible refine (HC1.out _ F2).mono ?_; rintro e w3 ⟨rfl, hb3⟩; have F3 := F2.next hb3; have M3 := HMC.out.below hb3; obtain ⟨a30, a31, a32, a33, a34⟩ := FC.cells F3)
                | (go_at_call 25; with_reducible refine (HC2.out _ M3).mono ?_; rintro e w4 ⟨rfl, hb4⟩; have F4 := F3.next hb4; have M4 := M3.below hb4; obtain ⟨a40, a41, a42, a43, a44⟩ := FC.cells F4)
                | (go_at_call 30; with_reducible refine (HB1.out _ F4).mono ?_; rintro e w5 ⟨rfl, hb5⟩; have hA5 : Below w5.heap.size w5 (w5.alloc (.cells #[.int .i64 sl, .int .i64 sh] 34)) := (Below.refl _ _).alloc (Nat.le_refl _) _; have F5 := (F4.next hb5).next hA5; have M5 := (M4.below hb5).below hA5; have P5 := Bp.new w5 (.int .i64 sl) (.int .i64 sh) 34; obtain ⟨a50, a51, a52, a53, a54⟩ := FC.cells F5)
                | (go_at_call 30; with_reducible refine (HB2.out _ M5).mono ?_; rintro e w6 ⟨rfl, hb6⟩; have hA6 : Below w6.heap.size w6 (w6.alloc (.cells #[.int .i64 tl, .int .i64 th] 34)) := (Below.refl _ _).alloc (Nat.le_refl _) _; have F6 := (F5.next hb6).next hA6; have P6 := Bp.new w6 (.int .i64 tl) (.int .i64 th) 34; have P56 := (P5.next hb6).next hA6; obtain ⟨p0, p1⟩ := And.intro P6.c0 P6.c1; obtain ⟨p2, p3⟩ := And.intro P56.c0 P56.c1; obtain ⟨a60, a61, a62, a63, a64⟩ := FC.cells F6)
                | (go_at_call 34; refine (HP1.out _ F6).mono ?_; rintro e w7 ⟨rfl, F7⟩; obtain ⟨a70, a71, a72, a73, a74⟩ := FC.cells F7)
                | (go_at_call 35; refine (HP2.out _ F7).mono ?_; rintro e w8 ⟨rfl, F8⟩; obtain ⟨a80, a81, a82, a83, a84⟩ := FC.cells F8)
                | (go_at_call 12; refine (HAW.out _ F8).mono ?_; rintro e w99 ⟨rfl, F99⟩))
              all_goals go_ret
              all_goals exact ⟨rfl, F99.1.below⟩
            · have hje2 := hje
              clear hje2
              go_wp2_with (first
                | (go_at_call 25; with_reducible refine (HC1.out _ F2).mono ?_; rintro e w3 ⟨rfl, hb3⟩; have F3 := F2.next hb3; have M3 := HMC.out.below hb3; obtain ⟨a30, a31, a32, a33, a34⟩ := FC.cells F3)
                | (go_at_call 25; with_reducible refine (HC2.out _ M3).mono ?_; rintro e w4 ⟨rfl, hb4⟩; have F4 := F3.next hb4; have M4 := M3.below hb4; obtain ⟨a40, a41, a42, a43, a44⟩ := FC.cells F4)
                | (go_at_call 30; with_reducible refine (HB1.out _ F4).mono ?_; rintro e w5 ⟨rfl, hb5⟩; have hA5 : Below w5.heap.size w5 (w5.alloc (.cells #[.int .i64 sl, .int .i64 sh] 34)) := (Below.refl _ _).alloc (Nat.le_refl _) _; have F5 := (F4.next hb5).next hA5; have M5 := (M4.below hb5).below hA5; have P5 := Bp.new w5 (.int .i64 sl) (.int .i64 sh) 34; obtain ⟨a50, a51, a52, a53, a54⟩ := FC.cells F5)
                | (go_at_call 30; with_reducible refine (HB2.out _ M5).mono ?_; rintro e w6 ⟨rfl, hb6⟩; have hA6 : Below w6.heap.size w6 (w6.alloc (.cells #[.int .i64 tl, .int .i64 th] 34)) := (Below.refl _ _).alloc (Nat.le_refl _) _; have F6 := (F5.next hb6).next hA6; have P6 := Bp.new w6 (.int .i64 tl) (.int .i64 th) 34; have P56 := (P5.next hb6).next hA6; obtain ⟨p0, p1⟩ := And.intro P6.c0 P6.c1; obtain ⟨p2, p3⟩ := And.intro P56.c0 P56.c1; obtain ⟨a60, a61, a62, a63, a64⟩ := FC.cells F6)
                | (go_at_call 34; refine (HP1.out _ F6).mono ?_; rintro e w7 ⟨rfl, F7⟩; obtain ⟨a70, a71, a72, a73, a74⟩ := FC.cells F7)
                | (go_at_call 35; refine (HP2.out _ F7).mono ?_; rintro e w8 ⟨rfl, F8⟩; obtain ⟨a80, a81, a82, a83, a84⟩ := FC.cells F8)
                | (go_at_call 12; refine (HAW.out _ F8).mono ?_; rintro e w99 ⟨rfl, F99⟩))
              all_goals go_ret
              all_goals exact ⟨rfl, F99.1.below⟩
        · have hhe2 := hhe
          clear hhe2
          by_cases hje : je = 0
          · subst hje
            have hsum := (HD'.out rfl).2
            go_wp2_with (first
              | (go_at_call 25; with_reducible refine (HC1.out _ F2).mono ?_; rintro e w3 ⟨rfl, hb3⟩; have F3 := F2.next hb3; have M3 := HMC.out.below hb3; obtain ⟨a30, a31, a32, a33, a34⟩ := FC.cells F3)
              | (go_at_call 25; with_reducible refine (HC2.out _ M3).mono ?_; rintro e w4 ⟨rfl, hb4⟩; have F4 := F3.next hb4; have M4 := M3.below hb4; obtain ⟨a40, a41, a42, a43, a44⟩ := FC.cells F4)
              | (go_at_call 30; with_reducible refine (HB1.out _ F4).mono ?_; rintro e w5 ⟨rfl, hb5⟩; have hA5 : Below w5.heap.size w5 (w5.alloc (.cells #[.int .i64 sl, .int .i64 sh] 34)) := (Below.refl _ _).alloc (Nat.le_refl _) _; have F5 := (F4.next hb5).next hA5; have M5 := (M4.below hb5).below hA5; have P5 := Bp.new w5 (.int .i64 sl) (.int .i64 sh) 34; obtain ⟨a50, a51, a52, a53, a54⟩ := FC.cells F5)
              | (go_at_call 30; with_reducible refine (HB2.out _ M5).mono ?_; rintro e w6 ⟨rfl, hb6⟩; have hA6 : Below w6.heap.size w6 (w6.alloc (.cells #[.int .i64 tl, .int .i64 th] 34)) := (Below.refl _ _).alloc (Nat.le_refl _) _; have F6 := (F5.next hb6).next hA6; have P6 := Bp.new w6 (.int .i64 tl) (.int .i64 th) 34; have P56 := (P5.next hb6).next hA6; obtain ⟨p0, p1⟩ := And.intro P6.c0 P6.c1; obtain ⟨p2, p3⟩ := And.intro P56.c0 P56.c1; obtain ⟨a60, a61, a62, a63, a64⟩ := FC.cells F6)
              | (go_at_call 34; refine (HP1.out _ F6).mono ?_; rintro e w7 ⟨rfl, F7⟩; obtain ⟨a70, a71, a72, a73, a74⟩ := FC.cells F7)
              | (go_at_call 35; refine (HP2.out _ F7).mono ?_; rintro e w8 ⟨rfl, F8⟩; obtain ⟨a80, a81, a82, a83, a84⟩ := FC.cells F8)
              | (go_at_call 12; refine (HAW.out _ F8).mono ?_; rintro e w99 ⟨rfl, F99⟩))
            all_goals go_ret
            all_goals exact ⟨rfl, F99.1.below⟩
          · have hje2 := hje
            clear hje2
            go_wp2_with (first
              | (go_at_call 25; with_reducible refine (HC1.out _ F2).mono ?_; rintro e w3 ⟨rfl, hb3⟩; have F3 := F2.next hb3; have M3 := HMC.out.below hb3; obtain ⟨a30, a31, a32, a33, a34⟩ := FC.cells F3)
              | (go_at_call 25; with_reducible refine (HC2.out _ M3).mono ?_; rintro e w4 ⟨rfl, hb4⟩; have F4 := F3.next hb4; have M4 := M3.below hb4; obtain ⟨a40, a41, a42, a43, a44⟩ := FC.cells F4)
              | (go_at_call 30; with_reducible refine (HB1.out _ F4).mono ?_; rintro e w5 ⟨rfl, hb5⟩; have hA5 : Below w5.heap.size w5 (w5.alloc (.cells #[.int .i64 sl, .int .i64 sh] 34)) := (Below.refl _ _).alloc (Nat.le_refl _) _; have F5 := (F4.next hb5).next hA5; have M5 := (M4.below hb5).below hA5; have P5 := Bp.new w5 (.int .i64 sl) (.int .i64 sh) 34; obtain ⟨a50, a51, a52, a53, a54⟩ := FC.cells F5)
              | (go_at_call 30; with_reducible refine (HB2.out _ M5).mono ?_; rintro e w6 ⟨rfl, hb6⟩; have hA6 : Below w6.heap.size w6 (w6.alloc (.cells #[.int .i64 tl, .int .i64 th] 34)) := (Below.refl _ _).alloc (Nat.le_refl _) _; have F6 := (F5.next hb6).next hA6; have P6 := Bp.new w6 (.int .i64 tl) (.int .i64 th) 34; have P56 := (P5.next hb6).next hA6; obtain ⟨p0, p1⟩ := And.intro P6.c0 P6.c1; obtain ⟨p2, p3⟩ := And.intro P56.c0 P56.c1; obtain ⟨a60, a61, a62, a63, a64⟩ := FC.cells F6)
              | (go_at_call 34; refine (HP1.out _ F6).mono ?_; rintro e w7 ⟨rfl, F7⟩; obtain ⟨a70, a71, a72, a73, a74⟩ := FC.cells F7)
              | (go_at_call 35; refine (HP2.out _ F7).mono ?_; rintro e w8 ⟨rfl, F8⟩; obtain ⟨a80, a81, a82, a83, a84⟩ := FC.cells F8)
              | (go_at_call 12; refine (HAW.out _ F8).mono ?_; rintro e w99 ⟨rfl, F99⟩))
            all_goals go_ret
            all_goals exact ⟨rfl, F99.1.below⟩
      · by_cases hhe : he = 0
        · subst hhe
          by_cases hie : ie = 0
          · subst hie
            obtain ⟨hq1, hq2⟩ := HB'.out rfl rfl
            have hq3 : ¬ tl < sl := by omega
            have hq4 : ¬ sh < th := by omega
            clear hq1 hq2
            by_cases hje : je = 0
            · subst hje
              have hsum := (HD'.out rfl).2
              go_wp2_with (first
                | (go_at_call 25; with_reducible refine (HC1.out _ F2).mono ?_; rintro e w3 ⟨rfl, hb3⟩; have F3 := F2.next hb3; have M3 := HMC.out.below hb3; obtain ⟨a30, a31, a32, a33, a34⟩ := FC.cells F3)
                | (go_at_call 25; with_reducible refine (HC2.out _ M3).mono ?_; rintro e w4 ⟨rfl, hb4⟩; have F4 := F3.next hb4; have M4 := M3.below hb4; obtain ⟨a40, a41, a42, a43, a44⟩ := FC.cells F4)
                | (go_at_call 30; with_reducible refine (HB1.out _ F4).mono ?_; rintro e w5 ⟨rfl, hb5⟩; have hA5 : Below w5.heap.size w5 (w5.alloc (.cells #[.int .i64 sl, .int .i64 sh] 34)) := (Below.refl _ _).alloc (Nat.le_refl _) _; have F5 := (F4.next hb5).next hA5; have M5 := (M4.below hb5).below hA5; have P5 := Bp.new w5 (.int .i64 sl) (.int .i64 sh) 34; obtain ⟨a50, a51, a52, a53, a54⟩ := FC.cells F5)
                | (go_at_call 30; with_reducible refine (HB2.out _ M5).mono ?_; rintro e w6 ⟨rfl, hb6⟩; have hA6 : Below w6.heap.size w6 (w6.alloc (.cells #[.int .i64 tl, .int .i64 th] 34)) := (Below.refl _ _).alloc (Nat.le_refl _) _; have F6 := (F5.next hb6).next hA6; have P6 := Bp.new w6 (.int .i64 tl) (.int .i64 th) 34; have P56 := (P5.next hb6).next hA6; obtain ⟨p0, p1⟩ := And.intro P6.c0 P6.c1; obtain ⟨p2, p3⟩ := And.intro P56.c0 P56.c1; obtain ⟨a60, a61, a62, a63, a64⟩ := FC.cells F6)
                | (go_at_call 34; refine (HP1.out _ F6).mono ?_; rintro e w7 ⟨rfl, F7⟩; obtain ⟨a70, a71, a72, a73, a74⟩ := FC.cells F7)
                | (go_at_call 35; refine (HP2.out _ F7).mono ?_; rintro e w8 ⟨rfl, F8⟩; obtain ⟨a80, a81, a82, a83, a84⟩ := FC.cells F8)
                | (go_at_call 12; refine (HAW.out _ F8).mono ?_; rintro e w99 ⟨rfl, F99⟩))
              all_goals go_ret
              all_goals exact ⟨rfl, F99.1.below⟩
            · have hje2 := hje
              clear hje2
              go_wp2_with (first
                | (go_at_call 25; with_reducible refine (HC1.out _ F2).mono ?_; rintro e w3 ⟨rfl, hb3⟩; have F3 := F2.next hb3; have M3 := HMC.out.below hb3; obtain ⟨a30, a31, a32, a33, a34⟩ := FC.cells F3)
                | (go_at_call 25; with_reducible refine (HC2.out _ M3).mono ?_; rintro e w4 ⟨rfl, hb4⟩; have F4 := F3.next hb4; have M4 := M3.below hb4; obtain ⟨a40, a41, a42, a43, a44⟩ := FC.cells F4)
                | (go_at_call 30; with_reducible refine (HB1.out _ F4).mono ?_; rintro e w5 ⟨rfl, hb5⟩; have hA5 : Below w5.heap.size w5 (w5.alloc (.cells #[.int .i64 sl, .int .i64 sh] 34)) := (Below.refl _ _).alloc (Nat.le_refl _) _; have F5 := (F4.next hb5).next hA5; have M5 := (M4.below hb5).below hA5; have P5 := Bp.new w5 (.int .i64 sl) (.int .i64 sh) 34; obtain ⟨a50, a51, a52, a53, a54⟩ := FC.cells F5)
                | (go_at_call 30; with_reducible refine (HB2.out _ M5).mono ?_; rintro e w6 ⟨rfl, hb6⟩; have hA6 : Below w6.heap.size w6 (w6.alloc (.cells #[.int .i64 tl, .int .i64 th] 34)) := (Below.refl _ _).alloc (Nat.le_refl _) _; have F6 := (F5.next hb6).next hA6; have P6 := Bp.new w6 (.int .i64 tl) (.int .i64 th) 34; have P56 := (P5.next hb6).next hA6; obtain ⟨p0, p1⟩ := And.intro P6.c0 P6.c1; obtain ⟨p2, p3⟩ := And.intro P56.c0 P56.c1; obtain ⟨a60, a61, a62, a63, a64⟩ := FC.cells F6)
                | (go_at_call 34; refine (HP1.out _ F6).mono ?_; rintro e w7 ⟨rfl, F7⟩; obtain ⟨a70, a71, a72, a73, a74⟩ := FC.cells F7)
                | (go_at_call 35; refine (HP2.out _ F7).mono ?_; rintro e w8 ⟨rfl, F8⟩; obtain ⟨a80, a81, a82, a83, a84⟩ := FC.cells F8)
                | (go_at_call 12; refine (HAW.out _ F8).mono ?_; rintro e w99 ⟨rfl, F99⟩))
              all_goals go_ret
              all_goals exact ⟨rfl, F99.1.below⟩
          · have hie2 := hie
            clear hie2
            by_cases hje : je = 0
            · subst hje
              have hsum := (HD'.out rfl).2
              go_wp2_with (first
                | (go_at_call 25; with_reducible refine (HC1.out _ F2).mono ?_; rintro e w3 ⟨rfl, hb3⟩; have F3 := F2.next hb3; have M3 := HMC.out.below hb3; obtain ⟨a30, a31, a32, a33, a34⟩ := FC.cells F3)
                | (go_at_call 25; with_reducible refine (HC2.out _ M3).mono ?_; rintro e w4 ⟨rfl, hb4⟩; have F4 := F3.next hb4; have M4 := M3.below hb4; obtain ⟨a40, a41, a42, a43, a44⟩ := FC.cells F4)
                | (go_at_call 30; with_reducible refine (HB1.out _ F4).mono ?_; rintro e w5 ⟨rfl, hb5⟩; have hA5 : Below w5.heap.size w5 (w5.alloc (.cells #[.int .i64 sl, .int .i64 sh] 34)) := (Below.refl _ _).alloc (Nat.le_refl _) _; have F5 := (F4.next hb5).next hA5; have M5 := (M4.below hb5).below hA5; have P5 := Bp.new w5 (.int .i64 sl) (.int .i64 sh) 34; obtain ⟨a50, a51, a52, a53, a54⟩ := FC.cells F5)
                | (go_at_call 30; with_reducible refine (HB2.out _ M5).mono ?_; rintro e w6 ⟨rfl, hb6⟩; have hA6 : Below w6.heap.size w6 (w6.alloc (.cells #[.int .i64 tl, .int .i64 th] 34)) := (Below.refl _ _).alloc (Nat.le_refl _) _; have F6 := (F5.next hb6).next hA6; have P6 := Bp.new w6 (.int .i64 tl) (.int .i64 th) 34; have P56 := (P5.next hb6).next hA6; obtain ⟨p0, p1⟩ := And.intro P6.c0 P6.c1; obtain ⟨p2, p3⟩ := And.intro P56.c0 P56.c1; obtain ⟨a60, a61, a62, a63, a64⟩ := FC.cells F6)
                | (go_at_call 34; refine (HP1.out _ F6).mono ?_; rintro e w7 ⟨rfl, F7⟩; obtain ⟨a70, a71, a72, a73, a74⟩ := FC.cells F7)
                | (go_at_call 35; refine (HP2.out _ F7).mono ?_; rintro e w8 ⟨rfl, F8⟩; obtain ⟨a80, a81, a82, a83, a84⟩ := FC.cells F8)
                | (go_at_call 12; refine (HAW.out _ F8).mono ?_; rintro e w99 ⟨rfl, F99⟩))
              all_goals go_ret
              all_goals exact ⟨rfl, F99.1.below⟩
            · have hje2 := hje
              clear hje2
              go_wp2_with (first
                | (go_at_call 25; with_reducible refine (HC1.out _ F2).mono ?_; rintro e w3 ⟨rfl, hb3⟩; have F3 := F2.next hb3; have M3 := HMC.out.below hb3; obtain ⟨a30, a31, a32, a33, a34⟩ := FC.cells F3)
                | (go_at_call 25; with_reducible refine (HC2.out _ M3).mono ?_; rintro e w4 ⟨rfl, hb4⟩; have F4 := F3.next hb4; have M4 := M3.below hb4; obtain ⟨a40, a41, a42, a43, a44⟩ := FC.cells F4)
                | (go_at_call 30; with_reducible refine (HB1.out _ F4).mono ?_; rintro e w5 ⟨rfl, hb5⟩; have hA5 : Below w5.heap.size w5 (w5.alloc (.cells #[.int .i64 sl, .int .i64 sh] 34)) := (Below.refl _ _).alloc (Nat.le_refl _) _; have F5 := (F4.next hb5).next hA5; have M5 := (M4.below hb5).below hA5; have P5 := Bp.new w5 (.int .i64 sl) (.int .i64 sh) 34; obtain ⟨a50, a51, a52, a53, a54⟩ := FC.cells F5)
                | (go_at_call 30; with_reducible refine (HB2.out _ M5).mono ?_; rintro e w6 ⟨rfl, hb6⟩; have hA6 : Below w6.heap.size w6 (w6.alloc (.cells #[.int .i64 tl, .int .i64 th] 34)) := (Below.refl _ _).alloc (Nat.le_refl _) _; have F6 := (F5.next hb6).next hA6; have P6 := Bp.new w6 (.int .i64 tl) (.int .i64 th) 34; have P56 := (P5.next hb6).next hA6; obtain ⟨p0, p1⟩ := And.intro P6.c0 P6.c1; obtain ⟨p2, p3⟩ := And.intro P56.c0 P56.c1; obtain ⟨a60, a61, a62, a63, a64⟩ := FC.cells F6)
                | (go_at_call 34; refine (HP1.out _ F6).mono ?_; rintro e w7 ⟨rfl, F7⟩; obtain ⟨a70, a71, a72, a73, a74⟩ := FC.cells F7)
                | (go_at_call 35; refine (HP2.out _ F7).mono ?_; rintro e w8 ⟨rfl, F8⟩; obtain ⟨a80, a81, a82, a83, a84⟩ := FC.cells F8)
                | (go_at_call 12; refine (HAW.out _ F8).mono ?_; rintro e w99 ⟨rfl, F99⟩))
              all_goals go_ret
              all_goals exact ⟨rfl, F99.1.below⟩
        · have hhe2 := hhe
          clear hhe2
          by_cases hje : je = 0
          · subst hje
            have hsum := (HD'.out rfl).2
            go_wp2_with (first
              | (go_at_call 25; with_reducible refine (HC1.out _ F2).mono ?_; rintro e w3 ⟨rfl, hb3⟩; have F3 := F2.next hb3; have M3 := HMC.out.below hb3; obtain ⟨a30, a31, a32, a33, a34⟩ := FC.cells F3)
              | (go_at_call 25; with_reducible refine (HC2.out _ M3).mono ?_; rintro e w4 ⟨rfl, hb4⟩; have F4 := F3.next hb4; have M4 := M3.below hb4; obtain ⟨a40, a41, a42, a43, a44⟩ := FC.cells F4)
              | (go_at_call 30; with_reducible refine (HB1.out _ F4).mono ?_; rintro e w5 ⟨rfl, hb5⟩; have hA5 : Below w5.heap.size w5 (w5.alloc (.cells #[.int .i64 sl, .int .i64 sh] 34)) := (Below.refl _ _).alloc (Nat.le_refl _) _; have F5 := (F4.next hb5).next hA5; have M5 := (M4.below hb5).below hA5; have P5 := Bp.new w5 (.int .i64 sl) (.int .i64 sh) 34; obtain ⟨a50, a51, a52, a53, a54⟩ := FC.cells F5)
              | (go_at_call 30; with_reducible refine (HB2.out _ M5).mono ?_; rintro e w6 ⟨rfl, hb6⟩; have hA6 : Below w6.heap.size w6 (w6.alloc (.cells #[.int .i64 tl, .int .i64 th] 34)) := (Below.refl _ _).alloc (Nat.le_refl _) _; have F6 := (F5.next hb6).next hA6; have P6 := Bp.new w6 (.int .i64 tl) (.int .i64 th) 34; have P56 := (P5.next hb6).next hA6; obtain ⟨p0, p1⟩ := And.intro P6.c0 P6.c1; obtain ⟨p2, p3⟩ := And.intro P56.c0 P56.c1; obtain ⟨a60, a61, a62, a63, a64⟩ := FC.cells F6)
              | (go_at_call 34; refine (HP1.out _ F6).mono ?_; rintro e w7 ⟨rfl, F7⟩; obtain ⟨a70, a71, a72, a73, a74⟩ := FC.cells F7)
              | (go_at_call 35; refine (HP2.out _ F7).mono ?_; rintro e w8 ⟨rfl, F8⟩; obtain ⟨a80, a81, a82, a83, a84⟩ := FC.cells F8)
              | (go_at_call 12; refine (HAW.out _ F8).mono ?_; rintro e w99 ⟨rfl, F99⟩))
            all_goals go_ret
            all_goals exact ⟨rfl, F99.1.below⟩
          · have hje2 := hje
            clear hje2
            go_wp2_with (first
              | (go_at_call 25; with_reducible refine (HC1.out _ F2).mono ?_; rintro e w3 ⟨rfl, hb3⟩; have F3 := F2.next hb3; have M3 := HMC.out.below hb3; obtain ⟨a30, a31, a32, a33, a34⟩ := FC.cells F3)
              | (go_at_call 25; with_reducible refine (HC2.out _ M3).mono ?_; rintro e w4 ⟨rfl, hb4⟩; have F4 := F3.next hb4; have M4 := M3.below hb4; obtain ⟨a40, a41, a42, a43, a44⟩ := FC.cells F4)
              | (go_at_call 30; with_reducible refine (HB1.out _ F4).mono ?_; rintro e w5 ⟨rfl, hb5⟩; have hA5 : Below w5.heap.size w5 (w5.alloc (.cells #[.int .i64 sl, .int .i64 sh] 34)) := (Below.refl _ _).alloc (Nat.le_refl _) _; have F5 := (F4.next hb5).next hA5; have M5 := (M4.below hb5).below hA5; have P5 := Bp.new w5 (.int .i64 sl) (.int .i64 sh) 34; obtain ⟨a50, a51, a52, a53, a54⟩ := FC.cells F5)
              | (go_at_call 30; with_reducible refine (HB2.out _ M5).mono ?_; rintro e w6 ⟨rfl, hb6⟩; have hA6 : Below w6.heap.size w6 (w6.alloc (.cells #[.int .i64 tl, .int .i64 th] 34)) := (Below.refl _ _).alloc (Nat.le_refl _) _; have F6 := (F5.next hb6).next hA6; have P6 := Bp.new w6 (.int .i64 tl) (.int .i64 th) 34; have P56 := (P5.next hb6).next hA6; obtain ⟨p0, p1⟩ := And.intro P6.c0 P6.c1; obtain ⟨p2, p3⟩ := And.intro P56.c0 P56.c1; obtain ⟨a60, a61, a62, a63, a64⟩ := FC.cells F6)
              | (go_at_call 34; refine (HP1.out _ F6).mono ?_; rintro e w7 ⟨rfl, F7⟩; obtain ⟨a70, a71, a72, a73, a74⟩ := FC.cells F7)
              | (go_at_call 35; refine (HP2.out _ F7).mono ?_; rintro e w8 ⟨rfl, F8⟩; obtain ⟨a80, a81, a82, a83, a84⟩ := FC.cells F8)
              | (go_at_call 12; refine (HAW.out _ F8).mono ?_; rintro e w99 ⟨rfl, F99⟩))
            all_goals go_ret
            all_goals exact ⟨rfl, F99.1.below⟩
end Go.Proofs.Ytoedbbpjddjbnaa.bitFewer
