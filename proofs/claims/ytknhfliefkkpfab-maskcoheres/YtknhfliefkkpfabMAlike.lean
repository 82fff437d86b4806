
/- Alike of layer 2: a contract. -/
import Derived.Test.YtknhfliefkkpfabMCoh
import Derived.Test.YtknhfliefkkpfabRAlk
namespace Go.Proofs.Ytknhfliefkkpfab
open Go.RowKit Go.Shelf
attribute [local go_sem] Oper.semAt_some

/-- What holds of the world ahead of each round. -/
structure AlkI (w : World) (a : Option Addr) (m : List (List Int)) (cap G : Nat) (pre : List (PN (colsM m))) (V : World) : Prop where
  box : V.cell? ⟨w.heap.size, 0, none⟩ = some (.slice a m.length cap)
  box2 : V.cell? ⟨G + 1, 0, none⟩ = some (.slice a m.length cap)
  own : ∃ v, V.cell? ⟨G, 0, none⟩ = some v ∧ V.frozen? ⟨G, 0, none⟩ = false ∧ OwnQ V (G + 2) v (alkL m pre)
  gw : w.heap.size + 1 ≤ G
  gv : G + 2 ≤ V.heap.size
  below : Below w.heap.size w V
/-- A row of the call's own is not what is no cells. -/
theorem ownsRow_not {w : World} {base : Nat} {e : TypeId} {size : Nat} {v : Value} {n : Nat} {xs : List Value} (h : w.ownsRow base e size v n xs) {r : Nat} {o : Obj} (ho : w.heap[r]? = some o) (hc : o.isCells = false) : v.ownBlock ≠ some r := by
  intro e
  obtain ⟨_, ⟨rfl, _⟩ | ⟨g, cap, cur, rfl, _, hh, _⟩⟩ := h
  · cases e
  · obtain rfl : g = r := by simpa [Value.ownBlock] using e
    rw [hh] at ho
    cases ho
    cases hc
theorem OwnQ.turned {w w' : World} {base : Nat} {v : Value} {ps : List (Int × Int)} {row : Option Nat} (h : OwnQ w base v ps) (hg : w.grownBy w' row) (hr : ∀ r, row = some r → ∃ o : Obj, w.heap[r]? = some o ∧ o.isCells = false) : OwnQ w' base v ps := by
  refine World.ownsRow.kept h hg ?_
  cases row with
  | none => cases v.ownBlock <;> simp
  | some r =>
    obtain ⟨o, ho, hc⟩ := hr r rfl
    exact .inr (ownsRow_not h ho hc)
/-- What an append to a row of the call's own leaves. -/
theorem keepsOthers_push {V w' : World} {base : Nat} {e : TypeId} {size : Nat} {v : Value} {n : Nat} {xs : List Value} {o : Obj} (h : V.ownsRow base e size v n xs) (hg : (V.alloc o).grownBy w' v.ownBlock) : KeepsOthers V w' := by
  refine ⟨by have := hg.size; rw [World.size_alloc] at this; omega, fun k ob hk hc => ?_⟩
  have hlt := (Array.getElem?_eq_some_iff.1 hk).1
  have hk' : (V.alloc o).heap[k]? = some ob := (Below.heap_alloc V _ k hlt).trans hk
  exact (hg.block k (by rw [World.size_alloc]; omega) (fun e => ownsRow_not h hk hc e.symm)).trans hk'
theorem AlkI.turn {w : World} {a : Option Addr} {m : List (List Int)} {cap G : Nat} {pre : List (PN (colsM m))} {V V' : World} {row : Option Nat} (h : AlkI w a m cap G pre V) (hg : V.grownBy V' row) (hr : ∀ r, row = some r → G + 2 ≤ r ∧ ∃ o : Obj, V.heap[r]? = some o ∧ o.isCells = false) : AlkI w a m cap G pre V' := by
  have g := h.gw
  have hb : Below (G + 2) V V' := grown_from hg h.gv (fun r e => (hr r e).1)
  obtain ⟨v, h1, h2, h3⟩ := h.own
  exact ⟨(hb.cell (p := ⟨w.heap.size, 0, none⟩) (by show w.heap.size < _; omega)).trans h.box, (hb.cell (p := ⟨G + 1, 0, none⟩) (by show G + 1 < _; omega)).trans h.box2,
    ⟨v, (hb.cell (p := ⟨G, 0, none⟩) (by show G < _; omega)).trans h1, (hb.frozen (p := ⟨G, 0, none⟩) (by show G < _; omega)).trans h2, h3.turned hg (fun r e => (hr r e).2)⟩, h.gw, Nat.le_trans h.gv hb.size, h.below.trans (hb.mono (by omega))⟩
theorem AlkI.later {w : World} {a : Option Addr} {m : List (List Int)} {cap G : Nat} {pre pre' : List (PN (colsM m))} {V V' : World} (h : AlkI w a m cap G pre V) (hb : Below V.heap.size V V') (hp : alkL m pre' = alkL m pre) : AlkI w a m cap G pre' V' := by
  have g := h.gw
  have gv := h.gv
  obtain ⟨v, h1, h2, h3⟩ := h.own
  exact ⟨(hb.cell (p := ⟨w.heap.size, 0, none⟩) (by show w.heap.size < _; omega)).trans h.box, (hb.cell (p := ⟨G + 1, 0, none⟩) (by show G + 1 < _; omega)).trans h.box2,
    ⟨v, (hb.cell (p := ⟨G, 0, none⟩) (by show G < _; omega)).trans h1, (hb.frozen (p := ⟨G, 0, none⟩) (by show G < _; omega)).trans h2, by rw [hp]; exact h3.below hb⟩, h.gw, Nat.le_trans h.gv hb.size, h.below.trans (hb.mono (by have := h.below.size; omega))⟩
theorem AlkI.put {w : World} {a : Option Addr} {m : List (List Int)} {cap G : Nat} {pre pre' : List (PN (colsM m))} {V V' : World} {v' : Value} (h : AlkI w a m cap G pre V) (hb : Below (G + 2) V V') (ho : OwnQ V' (G + 2) v' (alkL m pre')) : AlkI w a m cap G pre' (V'.setCell ⟨G, 0, none⟩ v') := by
  have g := h.gw
  have gv := h.gv
  have gs := hb.size
  obtain ⟨v, h1, h2, h3⟩ := h.own
  have c0 : V'.cell? ⟨G, 0, none⟩ = some v := (hb.cell (p := ⟨G, 0, none⟩) (by show G < _; omega)).trans h1
  have f0 : V'.frozen? ⟨G, 0, none⟩ = false := (hb.frozen (p := ⟨G, 0, none⟩) (by show G < _; omega)).trans h2
  refine ⟨(cell_other _ _ _ _ (by show w.heap.size ≠ G; omega)).trans ((hb.cell (p := ⟨w.heap.size, 0, none⟩) (by show w.heap.size < _; omega)).trans h.box), (cell_other _ _ _ _ (by show G + 1 ≠ G; omega)).trans ((hb.cell (p := ⟨G + 1, 0, none⟩) (by show G + 1 < _; omega)).trans h.box2),
    ⟨v', ?_, ?_, ownsRow_setCell_below ho (by show G < G + 2; omega) _⟩, h.gw, by rw [World.size_setCell]; omega, (h.below.trans (hb.mono (by omega))).setCell (by show w.heap.size ≤ G; omega) _⟩
  · go_simp
  · go_simp
/-- At the return. -/
theorem alk_leaves {F : Fence} {n : Nat} {w : World} {r : List (Int × Int) × Int} {fn : Func} {tmps : Array Value} {ms : List Nat} {V : World} (B : Nat) (hB : w.heap.size ≤ B) {a : Option Addr} {cap : Nat}
    (hres : ∀ W : World, (results fn tmps).run Try.prog W = .ok (.tuple #[.slice a r.1.length cap, .int .i64 r.2]) W)
    (hM : Marks B ms V) (hb : Below w.heap.size w V) (hq : ∀ V', (∀ (k : Nat) (o : Obj), V.heap[k]? = some o → o.isCells = true → V'.heap[k]? = some o) → Qs V' a r.1) : LeavesInM F n Try.prog fn tmps (PsPost r w) (ms.map mark) .returning V := by
  refine leaves_marks (B := B) (fun W => Below w.heap.size w W ∧ ∀ V', (∀ (k : Nat) (o : Obj), W.heap[k]? = some o → o.isCells = true → V'.heap[k]? = some o) → Qs V' a r.1) ?_ (fun W h => ⟨_, hres W, h.1, a, cap, rfl, h.2 W (fun k o hk _ => hk)⟩) ms V hM ⟨hb, hq⟩
  intro W D hD hh ⟨h1, h2⟩
  refine ⟨h1.grown (grownBy_putObj' W D _) h1.size (fun r e => by cases e; omega), fun V' hV' => h2 V' fun k o hk hc => hV' k o ?_ hc⟩
  have hne : k ≠ D := by rintro rfl; rw [hh] at hk; cases hk; cases hc
  exact (World.putObj_heap_other hne).trans hk
theorem qs_keep {V V' : World} {a : Option Addr} {ps : List (Int × Int)} (h : Qs V a ps) (hk : ∀ (k : Nat) (o : Obj), V.heap[k]? = some o → o.isCells = true → V'.heap[k]? = some o) : Qs V' a ps := by
  intro k p e
  obtain ⟨b, off, ha, h1, h2⟩ := h k p e
  have key : ∀ o v, V.cell? ⟨b, o, none⟩ = some v → V'.cell? ⟨b, o, none⟩ = some v := by
    intro o v hv
    unfold World.cell? at hv ⊢
    cases hh : V.heap[b]? with
    | none => simp [hh] at hv
    | some ob =>
      have hob : ob.isCells = true := by
        cases ob <;> simp [hh] at hv <;> rfl
      rw [hk b ob hh hob]
      simpa [hh] using hv
  exact ⟨b, off, ha, key _ _ h1, key _ _ h2⟩
/-- One pair appended, inside a fence. -/
theorem wpListIn_pushQ {F : Fence} {n : Nat} {ops : Array Oper} {rest : List Oper} {o : Oper} {a : Act} {Q : Exit → Act → World → Prop} (hgd : o.guard = none) (s x : Operand)
    (ho : o.op = .call { callee := .builtin .append, args := #[s, x], argTypes := #[52, 52] }) (base : Nat) (v : Value) (ps : List (Int × Int)) (i j : Int) (V : World) (B : Nat) (t : TypeId)
    (hs : a.eval s = v) (hx : a.eval x = .slice (some ⟨B, 0, none⟩) 1 1) (hB : B = V.heap.size) (hown : OwnQ V base v ps) (hl : ps.length ≤ 100000) (hbase : base ≤ V.heap.size)
    (h : ∀ v' w', OwnQ w' base v' (ps ++ [(i, j)]) → V.heap.size < w'.heap.size → (V.alloc (.cells #[.int .i64 i, .int .i64 j] t)).grownBy w' v.ownBlock → wpListIn F n Try.prog ops Q rest (a.put o.dst v') w') : wpListIn F n Try.prog ops Q (o :: rest) a (V.alloc (.cells #[.int .i64 i, .int .i64 j] t)) := by
  obtain ⟨i0, hi, hz0, hz1, hz2⟩ := info_parts Try.infoPair
  subst hB
  refine wpListIn_append_own (V.alloc (.cells #[.int .i64 i, .int .i64 j] t)) hgd s x 52 ho base 55 i0 (.agg #[.int .i64 0, .int .i64 0]) 2 16 Try.underlying52 hi hz0 hz1 hz2 rfl (by decide) v ps.length (pcs ps) hs (World.ownsRow.alloc hown _) ⟨V.heap.size, 0, none⟩ 1 1 [.int .i64 i, .int .i64 j] hx rfl ?_ ?_ (by unfold maxLen; omega) (by omega) (by rw [World.size_alloc]; omega) ?_
  · intro k u hj
    match k, hj with
    | 0, hj =>
      simp at hj; subst hj
      rw [addr_add]
      exact alloc_cell V #[.int .i64 i, .int .i64 j] t 0 _ rfl
    | 1, hj =>
      simp at hj; subst hj
      rw [addr_add]
      exact alloc_cell V #[.int .i64 i, .int .i64 j] t 1 _ rfl
    | k + 2, hj => simp at hj
  · intro u hu; simp at hu; rcases hu with rfl | rfl <;> rfl
  · intro v' w' h1 h2 h3
    refine h v' w' ?_ ?_ h2
    · have e : (ps ++ [(i, j)]).length = ps.length + 1 := by simp
      unfold OwnQ; rw [e, pcs_snoc]; exact h1
    · have := h2.size; rw [World.size_alloc] at this; omega
set_option maxRecDepth 100000 in
set_option maxHeartbeats 2000000 in
theorem alike_in (a : Option Addr) (m : List (List Int)) (cap : Nat) (w : World) (n : Nat) (hn : 4 ≤ n) (hm : MOk m) (hs : Ms w a m) :
    CallsIn Fence.wide n Try.prog 33 #[.slice a m.length cap] w (PsPost (alkV m) w) := by
  have HM := Lib.hid hm; clear hm
  have HS := Lib.hid hs; clear hs
  have h1 : 1 ≤ n := by omega
  obtain ⟨W0, hW0⟩ : ∃ W0, w.alloc (.cells #[.slice a m.length cap] 46) = W0 := ⟨_, rfl⟩
  have hb0 : Below w.heap.size w W0 := by rw [← hW0]; exact (Below.refl _ _).alloc (Nat.le_refl _) _
  have hc0 : W0.cell? ⟨w.heap.size, 0, none⟩ = some (.slice a m.length cap) := by rw [← hW0]; exact alloc_cell _ _ _ _ _ rfl
  have hz0 : W0.heap.size = w.heap.size + 1 := by rw [← hW0]; exact World.size_alloc _ _
  have HW0 := Lib.hid hW0; clear hW0
  have HB0 := Lib.hid hb0; clear hb0
  have HC0 := Lib.hid hc0; clear hc0
  have HZ0 := Lib.hid hz0; clear hz0
  cases hv : validM m
  case false =>
    have HV := Lib.hid hv
    have HC : Hid (alkV m = ([], 1)) := by show alkV m = _; simp [alkV, hv]
    clear hv
    refine callsIn_of_wp_marks Try.func33 rfl trivial ?_ rfl
    simp only [Try.ntmps33, List.size_toArray, List.length_cons, List.length_nil, Nat.reduceAdd, Nat.reduceSub, Array.replicate_succ, Array.replicate_zero, List.push_toArray, List.append_toArray, List.nil_append, List.cons_append]
    gi_wp2_with (refine ⟨trivial, ?_⟩; gi_at_call 58; rw [HW0.out]; refine (callsIn_wide.2 (mvalid_any a m cap _ HM.out (HS.out.below HB0.out))).mono ?_; rintro e w1 ⟨rfl, hb⟩; rw [HV.out]; have HB1 := Lib.hid hb; clear hb)
    rw [HC.out]
    exact alk_leaves (r := ([], 1)) (ms := []) w.heap.size (Nat.le_refl _) (by intro W; simp [results, Try.results33, go_sem]; rfl) ⟨List.nodup_nil, fun D hD => by cases hD⟩ (Below.next HB0.out HB1.out (Nat.le_refl _)) (fun V' _ => qs_none V')
  case true =>
  obtain ⟨hm1, hm6, hc1, hc10, hrows⟩ := validM_of hv
  obtain ⟨b, o, a0, c0, rfl, hcell⟩ := row0 HS.out hm1
  have HV := Lib.hid hv
  have hbw := cell_lt hcell
  have HCELL := Lib.hid hcell; clear hcell
  refine callsIn_of_wp_marks Try.func33 rfl trivial ?_ rfl
  simp only [Try.ntmps33, List.size_toArray, List.length_cons, List.length_nil, Nat.reduceAdd, Nat.reduceSub, Array.replicate_succ, Array.replicate_zero, List.push_toArray, List.append_toArray, List.nil_append, List.cons_append]
  gi_wp2_with (first | (refine ⟨trivial, ?_⟩; gi_at_call 58; rw [HW0.out]; refine (callsIn_wide.2 (mvalid_any _ m cap _ HM.out (HS.out.below HB0.out))).mono ?_; rintro e w1 ⟨rfl, hb⟩; rw [HV.out]; have HB1 := Lib.hid hb; clear hb; have hz1 : w.heap.size + 1 ≤ w1.heap.size := (by have h1 := HB1.out.size; have h2 := HZ0.out; omega); have k0 := (HB1.out.cell (p := ⟨w.heap.size, 0, none⟩) (by show w.heap.size < W0.heap.size; have h2 := HZ0.out; omega)).trans HC0.out; have kal : ∀ ob, (w1.alloc ob).cell? ⟨w.heap.size, 0, none⟩ = some (.slice (some ⟨b, o, none⟩) m.length cap) := fun ob => (alloc_old _ _ _ _ (by omega)).trans k0) | (refine ⟨trivial, ?_⟩; gi_at_call 59; refine (callsIn_wide.2 (mpairs_any _ m.length cap _)).mono ?_; rintro e w2 ⟨rfl, rfl⟩))
  obtain ⟨V0, hV0⟩ : ∃ V0, (w1.alloc (.cells #[.slice none 0 0] 52)).alloc (.cells #[.slice (some ⟨b, o, none⟩) m.length cap] 46) = V0 := ⟨_, rfl⟩
  have hg1 : (w1.alloc (.cells #[.slice none 0 0] 52)).heap.size = w1.heap.size + 1 := World.size_alloc _ _
  have hsz : V0.heap.size = w1.heap.size + 2 := by rw [← hV0, World.size_alloc, hg1]
  have hBV : Below w1.heap.size w1 V0 := by rw [← hV0]; exact ((Below.refl _ _).alloc (Nat.le_refl _) _).alloc (by omega) _
  have HBw : Hid (Below w.heap.size w w1) := Below.next HB0.out HB1.out (Nat.le_refl _)
  have hI0 : AlkI w (some ⟨b, o, none⟩) m cap w1.heap.size [] V0 := by
    refine ⟨(hBV.cell (p := ⟨w.heap.size, 0, none⟩) (by show w.heap.size < _; omega)).trans k0, ?_, ⟨.slice none 0 0, ?_, ?_, OwnQ.nil _ _⟩, hz1, by omega, HBw.out.trans (hBV.mono (by omega))⟩
    · rw [← hV0, ← hg1]; exact alloc_cell _ _ _ _ _ rfl
    · rw [← hV0, alloc_old _ _ _ _ (by omega)]; exact alloc_cell _ _ _ _ _ rfl
    · rw [← hV0, frozen_alloc _ _ (by omega)]; exact frozen_new _ _ _ _
  rw [hV0]
  have hb2 := hI0.box2
  have hbw1 : b < w1.heap.size := by have := HBw.out.size; have h : b < w.heap.size := hbw; omega
  have hkc := (hBV.cell (p := ⟨b, o, none⟩) hbw1).trans ((HBw.out.cell (p := ⟨b, o, none⟩) hbw).trans HCELL.out)
  have HI0 := Lib.hid hI0
  have HSZ := Lib.hid hsz
  have HG := Lib.hid hz1
  have HHV := Lib.hid hv
  have HBW1 := Lib.hid hbw1
  refine wpIn_rangeFunc_ownF rfl h1 (gf := 92) (lb := #[.pointer (some ⟨w1.heap.size + 1, 0, none⟩)]) rfl trivial (enters_of Try.func92 (by kernel_rfl) rfl)
    (mpairs_stops Fence.wide (n - 1) trivial rfl (by omega) (w1.heap.size + 1) b o m.length cap (colsM m) c0 a0 hm1 hc10 V0 hb2 hkc) keepM_t (keepM_b (by omega) (by omega)) (Below.refl _ _) (fun _ => rfl)
    (fun pre V => AlkI w (some ⟨b, o, none⟩) m cap w1.heap.size pre V)
    (fun _ _ _ => False) ?hI ?hIx hI0
    (fun x => { tmps := #[.slice (some ⟨b, o, none⟩) m.length cap, .pointer (some ⟨w.heap.size, 0, none⟩), .slice none 0 0, .int .i64 0, .pointer (some ⟨w1.heap.size, 0, none⟩), .int .i64 (x.1.1 : Int), .int .i64 (x.1.2 : Int), .slice (some ⟨b, o, none⟩) m.length cap, .bool true, .bool false, .slice (some ⟨b, o, none⟩) m.length cap, .func (.func 92) #[] #[.pointer (some ⟨w1.heap.size + 1, 0, none⟩)], .int .i64 (x.1.1 : Int), .int .i64 (x.1.2 : Int), undef, undef, undef, undef, undef, undef, undef, undef, undef, undef, undef, undef, undef, undef], defers := [] }) ?assign ?body ?done ?stop
  case hI =>
    intro pre V V' row h hg hr
    exact h.turn hg (fun r e => by obtain ⟨h1, h2⟩ := hr r e; exact ⟨by omega, h2⟩)
  case hIx =>
    intro c pre V V' row h hg hr
    exact h
  case assign =>
    intro l x V K hK
    gi_wp2
    exact hK
  case stop =>
    rintro D c pre V hD _ h hK
    exact h.elim
  case done =>
    rintro D ys V hD rfl h hK
    have HC : Hid (alkV m = (alkL m (upPN (colsM m) (colsM m)), 0)) := by show alkV m = _; simp [alkV, HHV.out]
    have HH := Lib.hid h
    obtain ⟨v, z0, z1, ho⟩ := h.own
    obtain ⟨av, cv, rfl, hqs⟩ := ho.any
    have HQ := Lib.hid hqs
    have HK := Lib.hid hK
    clear h hK hb2 hkc hV0 hBV hI0 k0 kal ho hqs
    generalize hL : alkL m (upPN (colsM m) (colsM m)) = L at *
    clear hL
    gi_wp2
    rw [HC.out]
    exact alk_leaves (r := (L, 0)) (ms := [D]) (w1.heap.size) (by have := HG.out; omega) (by intro W; simp [results, Try.results33, go_sem]; rfl) ⟨by simp, fun E hE => by
      obtain rfl : E = D := by simpa using hE
      exact ⟨by have := HSZ.out; omega, HK.out⟩⟩ HH.out.below (fun V' hk => qs_keep HQ.out hk)
  case body =>
    intro l pre x V hI hlen
    obtain ⟨⟨i, j⟩, hij, hj⟩ := x
    have hjl : j < colsM m := hj
    have hil : i < colsM m := Nat.lt_trans hij hj
    have HI := Lib.hid hI
    obtain ⟨R, hR⟩ : ∃ R, alikeB (colM m i) (colM m j) = R := ⟨_, rfl⟩
    have HR := Lib.hid hR
    have HSN : Hid (alkL m (pre ++ [(⟨(i, j), hij, hj⟩ : PN (colsM m))]) = alkL m pre ++ (if R = true then [((i : Int), (j : Int))] else [])) := by
      show _ = _
      rw [alkL_snoc, ← hR]
    have hwV : w.heap.size < V.heap.size := by have h1 := hI.gw; have h2 := hI.gv; omega
    have HK0 := Lib.hid hI.box
    have HBW := Lib.hid hI.below
    have k0' := hI.box
    clear hI hR hb2 hkc hV0 hBV hI0 k0 kal
    dsimp only
    gi_wp2
    have BB : Hid (Below V.heap.size V V.drew) := (Below.refl _ _).drew
    refine wpIn_region_G_round (S := untilS 99 (fun w' => w'.cell? ⟨w.heap.size, 0, none⟩ = some (.slice (some ⟨b, o, none⟩) m.length cap)) (fun _ => True)) (by kernel_rfl) (by kernel_rfl) ?hq (untilS_all ⟨k0', trivial⟩ _) (fun hc hS => ?_)
    case hq => rintro ⟨_, _, h⟩; exact h
    refine wpAnyG_take (i := 0) (oi := ?oi0) (v := ?v0) ?hi0 (by kernel_rfl) (by kernel_rfl) (by kernel_rfl) ?hQ0 (untilS_set (by decide)) hc ?hy0 hS ?rest0
    case hi0 => (simp only [List.getElem?_toArray, List.getElem?_cons_zero]; exact rfl)
    case hQ0 => exact fun _ _ _ h => h
    case hy0 => (refine Or.inl ⟨rfl, ?_⟩; (rintro w ⟨L, hsd, hL, hA, hB⟩; clear hsd hL hB; (try dsimp only at hA); go_simp; (try with_reducible rfl)))
    clear hc hS; intro hc hS
    simp only [Act.put, List.setIfInBounds_toArray, List.set_cons_zero, List.set_cons_succ]
    refine wpAnyG_take (i := 1) (oi := ?oi1) (v := ?v1) ?hi1 (by kernel_rfl) (by kernel_rfl) (by kernel_rfl) ?hQ1 (untilS_set (by decide)) hc ?hy1 hS ?rest1
    case hi1 => (simp only [List.getElem?_toArray, List.getElem?_cons_succ, List.getElem?_cons_zero]; exact rfl)
    case hQ1 => exact fun _ _ _ h => h
    case hy1 => (refine Or.inl ⟨rfl, ?_⟩; (intro w _; go_simp; (try with_reducible rfl)))
    clear hc hS; intro hc hS
    simp only [Act.put, List.setIfInBounds_toArray, List.set_cons_zero, List.set_cons_succ]
    refine wpAnyG_take (i := 3) (oi := ?oi3) (v := ?v3) ?hi3 (by kernel_rfl) (by kernel_rfl) (by kernel_rfl) ?hQ3 (untilS_set (by decide)) hc ?hy3 hS ?rest3
    case hi3 => (simp only [List.getElem?_toArray, List.getElem?_cons_succ, List.getElem?_cons_zero]; exact rfl)
    case hQ3 => exact fun _ _ _ h => h
    case hy3 => (refine Or.inl ⟨rfl, ?_⟩; (rintro w ⟨L, hsd, hL, hA, hB⟩; clear hsd hL hB; (try dsimp only at hA); go_simp; (try with_reducible rfl)))
    clear hc hS; intro hc hS
    simp only [Act.put, List.setIfInBounds_toArray, List.set_cons_zero, List.set_cons_succ]
    refine wpAnyG_take (i := 4) (oi := ?oi4) (v := ?v4) ?hi4 (by kernel_rfl) (by kernel_rfl) (by kernel_rfl) ?hQ4 (untilS_set (by decide)) hc ?hy4 hS ?rest4
    case hi4 => (simp only [List.getElem?_toArray, List.getElem?_cons_succ, List.getElem?_cons_zero]; exact rfl)
    case hQ4 => exact fun _ _ _ h => h
    case hy4 => (refine Or.inl ⟨rfl, ?_⟩; (intro w _; go_simp; (try with_reducible rfl)))
    clear hc hS; intro hc hS
    simp only [Act.put, List.setIfInBounds_toArray, List.set_cons_zero, List.set_cons_succ]
    refine wpAnyG_only (i := 2) (o := ?oi2) (by kernel_rfl) ?hi2 hc ?rest2
    case hi2 => (simp only [List.getElem?_toArray, List.getElem?_cons_succ, List.getElem?_cons_zero]; exact rfl)
    clear hc; intro hc K hK; have HK := Lib.hid hK; clear hK
    go_simp
    refine (mcolumn_any (some ⟨b, o, none⟩) m cap i _ HHV.out hil (HS.out.below (HBW.out.trans (BB.out.mono HBW.out.size)))).mono ?_
    rintro e wA ⟨hb, aA, cA, rfl, sl⟩
    (try dsimp only)
    have SLA := Lib.hid sl
    have BB := Lib.hid (BB.out.trans (hb.mono BB.out.size))
    clear hb sl
    refine HK.out _ _ (untilS_all ⟨(BB.out.cell (p := ⟨w.heap.size, 0, none⟩) hwV).trans HK0.out, trivial⟩ _) ?_
    clear HK K hS; intro hS
    (try simp only [Act.put, List.setIfInBounds_toArray, List.set_cons_zero, List.set_cons_succ])
    refine wpAnyG_only (i := 5) (o := ?oi5) (by kernel_rfl) ?hi5 hc ?rest5
    case hi5 => (simp only [List.getElem?_toArray, List.getElem?_cons_succ, List.getElem?_cons_zero]; exact rfl)
    clear hc; intro hc K hK; have HK := Lib.hid hK; clear hK
    go_simp
    refine (mcolumn_any (some ⟨b, o, none⟩) m cap j _ HHV.out hjl (HS.out.below (HBW.out.trans (BB.out.mono HBW.out.size)))).mono ?_
    rintro e wB ⟨hb, aB, cB, rfl, sl⟩
    (try dsimp only)
    have SLA := Lib.hid (SLA.out.below hb)
    have SLB := Lib.hid sl
    have BB := Lib.hid (BB.out.trans (hb.mono BB.out.size))
    clear hb sl
    refine HK.out _ _ (untilS_all ⟨(BB.out.cell (p := ⟨w.heap.size, 0, none⟩) hwV).trans HK0.out, trivial⟩ _) ?_
    clear HK K hS; intro hS
    (try simp only [Act.put, List.setIfInBounds_toArray, List.set_cons_zero, List.set_cons_succ])
    refine wpAnyG_only (i := 6) (o := ?oi6) (by kernel_rfl) ?hi6 hc ?rest6
    case hi6 => (simp only [List.getElem?_toArray, List.getElem?_cons_succ, List.getElem?_cons_zero]; exact rfl)
    clear hc; intro hc K hK; have HK := Lib.hid hK; clear hK
    go_simp
    refine (alike_any aA (colM m i) cA aB (colM m j) cB _ (by rw [colM_length]; omega) (by rw [colM_length, colM_length]) (colM_all HHV.out hjl) SLA.out SLB.out).mono ?_
    rintro e wC ⟨rfl, nC, hwC⟩
    (try dsimp only)
    rw [HR.out]
    have hb := drew_below hwC; clear hwC
    have BB := Lib.hid (BB.out.trans (hb.mono BB.out.size))
    clear hb
    refine HK.out _ _ (untilS_all ⟨(BB.out.cell (p := ⟨w.heap.size, 0, none⟩) hwV).trans HK0.out, trivial⟩ _) ?_
    clear HK K hS; intro hS
    (try simp only [Act.put, List.setIfInBounds_toArray, List.set_cons_zero, List.set_cons_succ])
    refine wpAnyG_done (by kernel_rfl) ?_ _
    clear hc hS
    have HKM : Hid (keepM (w1.heap.size + 1) b o V wC) := ⟨BB.out.cell (p := ⟨w1.heap.size + 1, 0, none⟩) (by show w1.heap.size + 1 < _; have := HI.out.gv; omega), BB.out.cell (p := ⟨b, o, none⟩) (by show b < _; have := HI.out.gv; have := HBW1.out; omega)⟩
    cases R
    · gi_wp2
      exact ⟨keepsOthers_below BB.out, HKM.out, HI.out.later BB.out (by rw [HSN.out]; simp)⟩
    · have HIC := Lib.hid (HI.out.later BB.out (pre' := pre) rfl)
      obtain ⟨v, z0, z1, ho⟩ := HIC.out.own
      have HO := Lib.hid ho; clear ho
      have HLL : Hid ((alkL m pre).length ≤ 100000) := by
        show _ ≤ _
        have := alkL_length m pre
        omega
      have hgc := HIC.out.gv
      gi_wp2_with (gi_at_builtin; go_must (refine wpListIn_pushQ rfl (.tmp 21) (.tmp 25) rfl (w1.heap.size + 2) v (alkL m pre) i j _ _ _ rfl rfl rfl HO.out HLL.out hgc ?_); intro v' w9 ho' hz9 hg9; have HB9 := Lib.hid (pushQ_below HO.out hgc hg9); have HO9 := Lib.hid ho'; clear ho'; obtain ⟨aN, nN, cN, hv9⟩ : ∃ aN nN cN, v' = .slice aN nN cN := (by obtain ⟨aN, cN, h, -⟩ := HO9.out.any; exact ⟨_, _, _, h⟩); subst hv9; have HKO9 := Lib.hid (keepsOthers_push HO.out hg9); clear hg9; have c9 := (HB9.out.cell (p := ⟨w1.heap.size, 0, none⟩) (by show w1.heap.size < _; omega)).trans z0; have f9 := (HB9.out.frozen (p := ⟨w1.heap.size, 0, none⟩) (by show w1.heap.size < _; omega)).trans z1)
      have hbl : b < w1.heap.size := HBW1.out
      refine ⟨((keepsOthers_below BB.out).trans HKO9.out).trans (KeepsOthers.setCell _ _ _), ⟨?_, ?_⟩, HIC.out.put HB9.out (by rw [HSN.out]; exact HO9.out)⟩
      · exact (cell_other _ _ _ _ (by show w1.heap.size + 1 ≠ w1.heap.size; omega)).trans ((HB9.out.cell (p := ⟨w1.heap.size + 1, 0, none⟩) (by show w1.heap.size + 1 < _; omega)).trans HKM.out.1)
      · exact (cell_other _ _ _ _ (by show b ≠ w1.heap.size; omega)).trans ((HB9.out.cell (p := ⟨b, o, none⟩) (by show b < _; omega)).trans HKM.out.2)

/-- **Alike**: what layer 2 returns; nothing older is written. -/
theorem mAlike_any (a : Option Addr) (m : List (List Int)) (cap : Nat) (w : World) (hm : MOk m) (hs : Ms w a m) :
    Calls Try.prog 33 #[.slice a m.length cap] w (PsPost (alkV m) w) := callsIn_wide.1 (alike_in a m cap w 4 (Nat.le_refl _) hm hs)
end Go.Proofs.Ytknhfliefkkpfab
