/- Added of the answers: a contract. -/
import Derived.Test.YtibopjfmcdcgbaaSums2
namespace Go.Proofs.Ytibopjfmcdcgbaa
open Go.RowKit

theorem wp_push {o : Oper} {a : Act} {K : Act → World → Prop} {Q : Exit → Act → World → Prop} (s x : Operand)
    (ho : o.op = .call { callee := .builtin .append, args := #[s, x], argTypes := #[22, 22] }) (base : Nat) (v : Value) (zs : List Int) (y : Int) (V : World) (B : Nat) (t : TypeId)
    (hs : a.eval s = v) (hx : a.eval x = .slice (some ⟨B, 0, none⟩) 1 1) (hB : B = V.heap.size) (hown : OwnI V base v zs) (hl : zs.length ≤ 100000) (hbase : base ≤ V.heap.size)
    (h : ∀ v' w', OwnI w' base v' (zs ++ [y]) → Below base V w' → K (a.put o.dst v') w') : o.wp Try.prog a (V.alloc (.cells #[.int .i64 y] t)) K Q := by
  obtain ⟨i0, hi, hz0, hz1, hz2⟩ := info_parts Try.infoInt
  subst hB
  refine wp_append_own (V.alloc (.cells #[.int .i64 y] t)) s x 22 ho base 3 i0 (.int .i64 0) 1 8 Try.underlying22 hi hz0 hz1 hz2 rfl (by decide) v zs.length (zs.map (Value.int .i64)) hs (hown.alloc _) ⟨V.heap.size, 0, none⟩ 1 1 [.int .i64 y] hx rfl ?_ ?_ (by unfold maxLen; omega) (by omega) (by rw [World.size_alloc]; omega) ?_
  · intro j u hj
    match j, hj with
    | 0, hj =>
      simp at hj; subst hj
      rw [addr_add]
      exact alloc_cell V #[.int .i64 y] t 0 _ rfl
    | j + 1, hj => simp at hj
  · intro u hu; simp at hu; subst hu; rfl
  · intro v' w' h1 h2 h3
    refine h v' w' ?_ ?_
    · simpa [OwnI] using h1
    · exact ((Below.refl base V).alloc hbase _).grown h2 (by rw [World.size_alloc]; omega) (fun k e => (World.ownsRow.lt hown k e).1)

/-- What the region of a round needs of a world: the pictures' lists, two numbers, and the list so far until it is stored. -/
def addS (O A B : Nat) (v va vb : Value) (px py : Addr) (x y : Value) (L : Array Bool) (W : World) : Prop :=
  W.cell? ⟨A, 2, none⟩ = some va ∧ W.cell? ⟨B, 2, none⟩ = some vb ∧ W.cell? px = some x ∧ W.cell? py = some y ∧ (L.getD 16 false = false → W.cell? ⟨O, 2, none⟩ = some v)
theorem addS_set {O A B : Nat} {v va vb : Value} {px py : Addr} {x y : Value} {k : Nat} (h : k ≠ 16) (L : Array Bool) (W : World) : addS O A B v va vb px py x y (L.setIfInBounds k true) W ↔ addS O A B v va vb px py x y L W := by
  unfold addS; rw [getD_set_ne false h]

theorem drew_alloc (V : World) (o : Obj) : (V.alloc o).drew = V.drew.alloc o := rfl
theorem addS_later {O A B : Nat} {v va vb : Value} {ba bb : Nat} {oa ob : Nat} {x y : Value} {W W' : World} {n : Nat} (h : ∀ L, addS O A B v va vb ⟨ba, oa, none⟩ ⟨bb, ob, none⟩ x y L W) {L : Array Bool} (hb : Below n W W') (h1 : A < n) (h2 : B < n) (h3 : ba < n) (h4 : bb < n) (h5 : O < n) : addS O A B v va vb ⟨ba, oa, none⟩ ⟨bb, ob, none⟩ x y L W' :=
  let ⟨q0, q1, q2, q3, q4⟩ := h L
  ⟨(hb.cell (p := ⟨A, 2, none⟩) h1).trans q0, (hb.cell (p := ⟨B, 2, none⟩) h2).trans q1, (hb.cell (p := ⟨ba, oa, none⟩) h3).trans q2, (hb.cell (p := ⟨bb, ob, none⟩) h4).trans q3, fun e => (hb.cell (p := ⟨O, 2, none⟩) h5).trans (q4 e)⟩
theorem addS_below {O A B : Nat} {v va vb : Value} {ba bb : Nat} {oa ob : Nat} {x y : Value} {W W' : World} {L L' : Array Bool} {n : Nat} (h : addS O A B v va vb ⟨ba, oa, none⟩ ⟨bb, ob, none⟩ x y L W) (hb : Below n W W') (h1 : A < n) (h2 : B < n) (h3 : ba < n) (h4 : bb < n) (h5 : O < n) (hL : L.getD 16 false = false := by first | rfl | decide) : addS O A B v va vb ⟨ba, oa, none⟩ ⟨bb, ob, none⟩ x y L' W' :=
  let ⟨q0, q1, q2, q3, q4⟩ := h
  ⟨(hb.cell (p := ⟨A, 2, none⟩) h1).trans q0, (hb.cell (p := ⟨B, 2, none⟩) h2).trans q1, (hb.cell (p := ⟨ba, oa, none⟩) h3).trans q2, (hb.cell (p := ⟨bb, ob, none⟩) h4).trans q3, fun _ => (hb.cell (p := ⟨O, 2, none⟩) h5).trans (q4 hL)⟩
theorem addS_stored {O A B : Nat} {v va vb : Value} {ba bb : Nat} {oa ob : Nat} {x y : Value} {W : World} {L L' : Array Bool} (h : addS O A B v va vb ⟨ba, oa, none⟩ ⟨bb, ob, none⟩ x y L W) (u : Value) (h1 : A ≠ O) (h2 : B ≠ O) (h3 : ba ≠ O) (h4 : bb ≠ O) (hL : L'.getD 16 false = true := by first | rfl | decide) : addS O A B v va vb ⟨ba, oa, none⟩ ⟨bb, ob, none⟩ x y L' (W.setCell ⟨O, 2, none⟩ u) :=
  let ⟨q0, q1, q2, q3, _⟩ := h
  ⟨(cell_other _ _ _ _ h1).trans q0, (cell_other _ _ _ _ h2).trans q1, (cell_other _ _ _ _ h3).trans q2, (cell_other _ _ _ _ h4).trans q3, fun e => by rw [hL] at e; cases e⟩
/-- A picture in the making: its sides and its list so far. -/
structure OutBox (O : Nat) (w1 h1 : Int) (v : Value) (W : World) : Prop where
  o0 : W.cell? ⟨O, 0, none⟩ = some (.int .i64 w1)
  o1 : W.cell? ⟨O, 1, none⟩ = some (.int .i64 h1)
  o2 : W.cell? ⟨O, 2, none⟩ = some v
  fr : W.frozen? ⟨O, 2, none⟩ = false
theorem OutBox.later {O : Nat} {w1 h1 : Int} {v : Value} {W W' : World} (h : OutBox O w1 h1 v W) {n : Nat} (hb : Below n W W') (hO : O < n) : OutBox O w1 h1 v W' :=
  ⟨(hb.cell (p := ⟨O, 0, none⟩) hO).trans h.o0, (hb.cell (p := ⟨O, 1, none⟩) hO).trans h.o1, (hb.cell (p := ⟨O, 2, none⟩) hO).trans h.o2, (hb.frozen (p := ⟨O, 2, none⟩) hO).trans h.fr⟩
theorem OutBox.stored {O : Nat} {w1 h1 : Int} {v : Value} {W : World} (h : OutBox O w1 h1 v W) (u : Value) : OutBox O w1 h1 u (W.setCell ⟨O, 2, none⟩ u) := by
  have a0 := h.o0
  have a1 := h.o1
  have a2 := h.o2
  have a3 := h.fr
  refine ⟨?_, ?_, ?_, ?_⟩ <;> go_simp
theorem OwnI.setBelow {w : World} {base : Nat} {v : Value} {xs : List Int} (h : OwnI w base v xs) {p : Addr} (hp : p.block < base) (u : Value) : OwnI (w.setCell p u) base v xs := ownsRow_setCell_below h hp u
theorem valid_same {w1 h1 : Int} {xs zs : List Int} (h : validPicB w1 h1 xs = true) (hl : zs.length = xs.length) : validPicB w1 h1 zs = allB 1000000 zs := by
  simp [validPicB] at h
  obtain ⟨⟨⟨h1', h2⟩, h3⟩, h4⟩ := h
  simp [validPicB, h1', h2, hl, h3]

set_option maxRecDepth 100000 in
set_option maxHeartbeats 300000 in
theorem radded_any (w1 h1 : Int) (a : Option Addr) (xs : List Int) (ca : Nat) (w2 h2 : Int) (b : Option Addr) (ys : List Int) (cb : Nat) (w : World) (hx : xs.length ≤ 140737488351232) (hy : ys.length ≤ 140737488351232) (ha : Sl w a xs) (hb : Sl w b ys) :
    Calls Try.prog 33 #[.agg #[.int .i64 w1, .int .i64 h1, .slice a xs.length ca], .agg #[.int .i64 w2, .int .i64 h2, .slice b ys.length cb]] w (PPost (addV w1 h1 xs w2 h2 ys) w) := by
  have HA := Lib.hid ha; clear ha
  have HB := Lib.hid hb; clear hb
  have HD : Hid (∀ x, bothV w1 h1 xs w2 h2 ys = x → addV w1 h1 xs w2 h2 ys = if x = 0 then (if allB 1000000 (addL xs ys xs.length) = true then ((w1, h1, addL xs ys xs.length), 0) else ((0, 0, []), 4)) else ((0, 0, []), x)) := by rintro x rfl; rfl
  go_enter Try.func33, Try.ntmps33
  go_wp2_with fail
  have T3 := Lib.hid (Three.mk0 w (.int .i64 w1) (.int .i64 h1) (.slice a xs.length ca) (.int .i64 w2) (.int .i64 h2) (.slice b ys.length cb) (.int .i64 0) (.int .i64 0) (.slice none 0 0) 24 24 24)
  generalize ((w.alloc (.cells #[.int .i64 w1, .int .i64 h1, .slice a xs.length ca] 24)).alloc (.cells #[.int .i64 w2, .int .i64 h2, .slice b ys.length cb] 24)).alloc (.cells #[.int .i64 0, .int .i64 0, .slice none 0 0] 24) = V0 at *
  refine (both_any w1 h1 a xs ca w2 h2 b ys cb _ hx hy (HA.out.below T3.out.two.below) (HB.out.below T3.out.two.below)).mono ?_
  rintro e w3 ⟨rfl, hb1⟩
  have T1 := Lib.hid (T3.out.next hb1 T3.out.size)
  clear hb1 T3
  obtain ⟨⟨c0, c1, c2, d0, d1, d2, _, _⟩, hsz, e0, e1, e2, f0, f1, f2⟩ := T1.out
  obtain ⟨x, hx0⟩ : ∃ x, bothV w1 h1 xs w2 h2 ys = x := ⟨_, rfl⟩
  rw [hx0]
  by_cases hz : x = 0
  · subst hz
    obtain ⟨va, vb, rfl, rfl⟩ := bothV_0 hx0
    have hlx := validPic_of va
    have hly := validPic_of vb
    have hm := (mul_bd ⟨hlx.1, hlx.2.1⟩ ⟨hlx.2.2.1, hlx.2.2.2.1⟩).2
    have hl256 : xs.length ≤ 256 := by omega
    have hle : ys.length = xs.length := by omega
    have AX := Lib.hid hlx.2.2.2.2.2
    have AY := Lib.hid hly.2.2.2.2.2
    have HVA := Lib.hid va
    have HP1 : Hid (1 ≤ xs.length) := by show 1 ≤ xs.length; have := (mul_bd ⟨hlx.1, hlx.2.1⟩ ⟨hlx.2.2.1, hlx.2.2.2.1⟩).1; omega
    have HLE := Lib.hid hle
    have HX0 := Lib.hid hx0
    clear va vb hlx hly hm hx0 hle
    have g2 : (w3.alloc (.cells #[.int .i64 w1, .int .i64 h1, .slice none 0 0] 24)).cell? ⟨w.heap.size, 2, none⟩ = some (.slice a xs.length ca) := (alloc_old _ _ _ _ (by omega)).trans c2
    go_wp2
    have T5 := Lib.hid (T1.out.next ((Below.refl w3.heap.size w3).alloc (Nat.le_refl _) (.cells #[.int .i64 w1, .int .i64 h1, .slice none 0 0] 24)) T1.out.size)
    have OB : Hid (OutBox w3.heap.size w1 h1 (.slice none 0 0) (w3.alloc (.cells #[.int .i64 w1, .int .i64 h1, .slice none 0 0] 24)) ∧ Below w3.heap.size w3 (w3.alloc (.cells #[.int .i64 w1, .int .i64 h1, .slice none 0 0] 24)) ∧ w3.heap.size + 1 ≤ (w3.alloc (.cells #[.int .i64 w1, .int .i64 h1, .slice none 0 0] 24)).heap.size) :=
      ⟨⟨alloc_cell _ _ _ _ _ rfl, alloc_cell _ _ _ _ _ rfl, alloc_cell _ _ _ _ _ rfl, by simp⟩, (Below.refl w3.heap.size w3).alloc (Nat.le_refl _) _, by rw [World.size_alloc]; exact Nat.le_refl _⟩
    generalize w3.alloc (.cells #[.int .i64 w1, .int .i64 h1, .slice none 0 0] 24) = V5 at *
    clear g2 c0 c1 c2 d0 d1 d2 e0 e1 e2 f0 f1 f2
    go_loopw [24] (fun i wr => ∃ (k : Nat) (a' : Option Addr) (cap' : Nat), k ≤ xs.length ∧ i = .int .i64 k ∧ OwnI wr (w3.heap.size + 1) (.slice a' k cap') (addL xs ys k) ∧ OutBox w3.heap.size w1 h1 (.slice a' k cap') wr ∧ Below w3.heap.size w3 wr ∧ w3.heap.size + 1 ≤ wr.heap.size) (fun i _ => xs.length - (intOf i).toNat)
    case atStart => exact ⟨0, none, 0, Nat.zero_le _, rfl, OwnI.nil _ _, OB.out.1, OB.out.2.1, OB.out.2.2⟩
    case round =>
      obtain ⟨k, a', cap', hk, rfl, hO, hOB, hB, hSZ⟩ := hrel
      have HO := Lib.hid hO; clear hO
      have HOB := Lib.hid hOB; clear hOB
      have HB3 := Lib.hid hB; clear hB
      have HSZ := Lib.hid hSZ; clear hSZ
      have T2 := Lib.hid (T1.out.next HB3.out T1.out.size)
      by_cases hlt : k < xs.length
      · have hlt2 : k < ys.length := by rw [HLE.out]; exact hlt
        have sa := HA.out.below T1.out.two.below
        have sb := HB.out.below T1.out.two.below
        obtain ⟨ba, oa, x, rfl, hcx0, HX⟩ := sa.at hlt
        obtain ⟨bb, ob, y, rfl, hcy0, HY⟩ := sb.at hlt2
        have lba := cell_lt hcx0
        have lbb := cell_lt hcy0
        have hcx := (HB3.out.cell (p := ⟨ba, oa + k, none⟩) lba).trans hcx0
        have hcy := (HB3.out.cell (p := ⟨bb, ob + k, none⟩) lbb).trans hcy0
        clear sa sb hcx0 hcy0
        dsimp only at lba lbb
        obtain ⟨x1, x2⟩ := allB_get AX.out HX.out
        obtain ⟨y1, y2⟩ := allB_get AY.out HY.out
        have GX := Lib.hid (gt_some' HX.out)
        have GY := Lib.hid (gt_some' HY.out)
        have fo := HOB.out.fr
        have hsz5 := HSZ.out
        have LT : Hid (w.heap.size < wr.heap.size ∧ w.heap.size + 1 < wr.heap.size ∧ ba < wr.heap.size ∧ bb < wr.heap.size ∧ w3.heap.size < wr.heap.size) := ⟨by omega, by omega, by omega, by omega, by omega⟩
        have LT2 : Hid (w.heap.size < w3.heap.size + 1 ∧ w.heap.size + 1 < w3.heap.size + 1 ∧ ba < w3.heap.size + 1 ∧ bb < w3.heap.size + 1 ∧ w3.heap.size < w3.heap.size + 1) := ⟨by omega, by omega, by omega, by omega, by omega⟩
        have NE : Hid (w.heap.size ≠ w3.heap.size ∧ w.heap.size + 1 ≠ w3.heap.size ∧ ba ≠ w3.heap.size ∧ bb ≠ w3.heap.size) := ⟨by omega, by omega, by omega, by omega⟩
        have hSd : Hid (∀ L, addS w3.heap.size w.heap.size (w.heap.size + 1) (.slice a' k cap') (.slice (some ⟨ba, oa, none⟩) xs.length ca) (.slice (some ⟨bb, ob, none⟩) ys.length cb) ⟨ba, oa + k, none⟩ ⟨bb, ob + k, none⟩ (.int .i64 x) (.int .i64 y) L wr.drew) := fun L => ⟨T2.out.two.c2, T2.out.two.d2, hcx, hcy, fun _ => HOB.out.o2⟩
        clear hcx hcy
        have hsum : IntKind.i64.wrap (x + y) = x + y := IntWalk.i64_in _ (by omega)
        go_wp2
        · refine wp_region_G (S := addS w3.heap.size w.heap.size (w.heap.size + 1) (.slice a' k cap') (.slice (some ⟨ba, oa, none⟩) xs.length ca) (.slice (some ⟨bb, ob, none⟩) ys.length cb) ⟨ba, oa + k, none⟩ ⟨bb, ob + k, none⟩ (.int .i64 x) (.int .i64 y)) (by kernel_rfl) (hSd.out _) ?_
          intro hc hS
          refine wpAnyG_take (i := 0) (oi := ?oi8x0) (v := ?v8x0) ?hi8x0 (by kernel_rfl) (by kernel_rfl) (by kernel_rfl) ?hQ8x0 (addS_set (by decide)) hc ?hy8x0 hS ?rest8x0
          case hi8x0 => (simp only [List.getElem?_toArray, List.getElem?_cons_zero]; exact rfl)
          case hQ8x0 => exact fun _ _ _ h => h
          case hy8x0 => (refine Or.inl ⟨rfl, ?_⟩; (intro w _; go_simp; (try with_reducible rfl)))
          clear hc hS; intro hc hS
          simp only [Act.put, List.setIfInBounds_toArray, List.set_cons_zero, List.set_cons_succ]
          refine wpAnyG_take (i := 1) (oi := ?oi8x1) (v := ?v8x1) ?hi8x1 (by kernel_rfl) (by kernel_rfl) (by kernel_rfl) ?hQ8x1 (addS_set (by decide)) hc ?hy8x1 hS ?rest8x1
          case hi8x1 => (simp only [List.getElem?_toArray, List.getElem?_cons_succ, List.getElem?_cons_zero]; exact rfl)
          case hQ8x1 => exact fun _ _ _ h => h
          case hy8x1 => (refine Or.inl ⟨rfl, ?_⟩; (rintro w ⟨L, hsd, hL, q0, q1, q2, q3, hcl⟩; have q4 := hcl (hsd.not (i := 1) (by kernel_rfl) hL); clear hcl; go_simp; (try with_reducible rfl)))
          clear hc hS; intro hc hS
          simp only [Act.put, List.setIfInBounds_toArray, List.set_cons_zero, List.set_cons_succ]
          refine wpAnyG_take (i := 2) (oi := ?oi8x2) (v := ?v8x2) ?hi8x2 (by kernel_rfl) (by kernel_rfl) (by kernel_rfl) ?hQ8x2 (addS_set (by decide)) hc ?hy8x2 hS ?rest8x2
          case hi8x2 => (simp only [List.getElem?_toArray, List.getElem?_cons_succ, List.getElem?_cons_zero]; exact rfl)
          case hQ8x2 => exact fun _ _ _ h => h
          case hy8x2 => (refine Or.inl ⟨rfl, ?_⟩; (intro w _; go_simp; (try with_reducible rfl)))
          clear hc hS; intro hc hS
          simp only [Act.put, List.setIfInBounds_toArray, List.set_cons_zero, List.set_cons_succ]
          refine wpAnyG_take (i := 3) (oi := ?oi8x3) (v := ?v8x3) ?hi8x3 (by kernel_rfl) (by kernel_rfl) (by kernel_rfl) ?hQ8x3 (addS_set (by decide)) hc ?hy8x3 hS ?rest8x3
          case hi8x3 => (simp only [List.getElem?_toArray, List.getElem?_cons_succ, List.getElem?_cons_zero]; exact rfl)
          case hQ8x3 => exact fun _ _ _ h => h
          case hy8x3 => (refine Or.inl ⟨rfl, ?_⟩; (rintro w ⟨L, _, _, q0, q1, q2, q3, _⟩; go_simp; (try with_reducible rfl)))
          clear hc hS; intro hc hS
          simp only [Act.put, List.setIfInBounds_toArray, List.set_cons_zero, List.set_cons_succ]
          refine wpAnyG_take (i := 4) (oi := ?oi8x4) (v := ?v8x4) ?hi8x4 (by kernel_rfl) (by kernel_rfl) (by kernel_rfl) ?hQ8x4 (addS_set (by decide)) hc ?hy8x4 hS ?rest8x4
          case hi8x4 => (simp only [List.getElem?_toArray, List.getElem?_cons_succ, List.getElem?_cons_zero]; exact rfl)
          case hQ8x4 => exact fun _ _ _ h => h
          case hy8x4 => (refine Or.inl ⟨rfl, ?_⟩; (intro w _; go_simp; (try with_reducible rfl)))
          clear hc hS; intro hc hS
          simp only [Act.put, List.setIfInBounds_toArray, List.set_cons_zero, List.set_cons_succ]
          refine wpAnyG_take (i := 5) (oi := ?oi8x5) (v := ?v8x5) ?hi8x5 (by kernel_rfl) (by kernel_rfl) (by kernel_rfl) ?hQ8x5 (addS_set (by decide)) hc ?hy8x5 hS ?rest8x5
          case hi8x5 => (simp only [List.getElem?_toArray, List.getElem?_cons_succ, List.getElem?_cons_zero]; exact rfl)
          case hQ8x5 => exact fun _ _ _ h => h
          case hy8x5 => (refine Or.inl ⟨rfl, ?_⟩; (intro w _; go_simp; (try with_reducible rfl)))
          clear hc hS; intro hc hS
          simp only [Act.put, List.setIfInBounds_toArray, List.set_cons_zero, List.set_cons_succ]
          refine wpAnyG_take (i := 6) (oi := ?oi8x6) (v := ?v8x6) ?hi8x6 (by kernel_rfl) (by kernel_rfl) (by kernel_rfl) ?hQ8x6 (addS_set (by decide)) hc ?hy8x6 hS ?rest8x6
          case hi8x6 => (simp only [List.getElem?_toArray, List.getElem?_cons_succ, List.getElem?_cons_zero]; exact rfl)
          case hQ8x6 => exact fun _ _ _ h => h
          case hy8x6 => (refine Or.inl ⟨rfl, ?_⟩; (rintro w ⟨L, _, _, q0, q1, q2, q3, _⟩; go_simp; (try with_reducible rfl)))
          clear hc hS; intro hc hS
          simp only [Act.put, List.setIfInBounds_toArray, List.set_cons_zero, List.set_cons_succ]
          refine wpAnyG_take (i := 7) (oi := ?oi8x7) (v := ?v8x7) ?hi8x7 (by kernel_rfl) (by kernel_rfl) (by kernel_rfl) ?hQ8x7 (addS_set (by decide)) hc ?hy8x7 hS ?rest8x7
          case hi8x7 => (simp only [List.getElem?_toArray, List.getElem?_cons_succ, List.getElem?_cons_zero]; exact rfl)
          case hQ8x7 => exact fun _ _ _ h => h
          case hy8x7 => (refine Or.inl ⟨rfl, ?_⟩; (intro w _; go_simp; (try with_reducible rfl)))
          clear hc hS; intro hc hS
          simp only [Act.put, List.setIfInBounds_toArray, List.set_cons_zero, List.set_cons_succ]
          refine wpAnyG_take (i := 8) (oi := ?oi8x8) (v := ?v8x8) ?hi8x8 (by kernel_rfl) (by kernel_rfl) (by kernel_rfl) ?hQ8x8 (addS_set (by decide)) hc ?hy8x8 hS ?rest8x8
          case hi8x8 => (simp only [List.getElem?_toArray, List.getElem?_cons_succ, List.getElem?_cons_zero]; exact rfl)
          case hQ8x8 => exact fun _ _ _ h => h
          case hy8x8 => (refine Or.inl ⟨rfl, ?_⟩; (rintro w ⟨L, _, _, q0, q1, q2, q3, _⟩; go_simp; (try with_reducible rfl)))
          clear hc hS; intro hc hS
          simp only [Act.put, List.setIfInBounds_toArray, List.set_cons_zero, List.set_cons_succ]
          refine wpAnyG_take (i := 9) (oi := ?oi8x9) (v := ?v8x9) ?hi8x9 (by kernel_rfl) (by kernel_rfl) (by kernel_rfl) ?hQ8x9 (addS_set (by decide)) hc ?hy8x9 hS ?rest8x9
          case hi8x9 => (simp only [List.getElem?_toArray, List.getElem?_cons_succ, List.getElem?_cons_zero]; exact rfl)
          case hQ8x9 => exact fun _ _ _ h => h
          case hy8x9 => (refine Or.inl ⟨rfl, ?_⟩; (intro w _; go_simp; (try with_reducible rfl)))
          clear hc hS; intro hc hS
          simp only [Act.put, List.setIfInBounds_toArray, List.set_cons_zero, List.set_cons_succ]
          refine wpAnyG_take (i := 10) (oi := ?oi8x10) (v := ?v8x10) ?hi8x10 (by kernel_rfl) (by kernel_rfl) (by kernel_rfl) ?hQ8x10 (addS_set (by decide)) hc ?hy8x10 hS ?rest8x10
          case hi8x10 => (simp only [List.getElem?_toArray, List.getElem?_cons_succ, List.getElem?_cons_zero]; exact rfl)
          case hQ8x10 => exact fun _ _ _ h => h
          case hy8x10 => (refine Or.inl ⟨rfl, ?_⟩; (intro w _; go_simp; (try with_reducible rfl)))
          clear hc hS; intro hc hS
          simp only [Act.put, List.setIfInBounds_toArray, List.set_cons_zero, List.set_cons_succ]
          refine wpAnyG_take (i := 11) (oi := ?oi8x11) (v := ?v8x11) ?hi8x11 (by kernel_rfl) (by kernel_rfl) (by kernel_rfl) ?hQ8x11 (addS_set (by decide)) hc ?hy8x11 hS ?rest8x11
          case hi8x11 => (simp only [List.getElem?_toArray, List.getElem?_cons_succ, List.getElem?_cons_zero]; exact rfl)
          case hQ8x11 => exact fun _ _ _ h => h
          case hy8x11 => (refine Or.inl ⟨rfl, ?_⟩; (rintro w ⟨L, _, _, q0, q1, q2, q3, _⟩; go_simp; (try with_reducible rfl)))
          clear hc hS; intro hc hS
          simp only [Act.put, List.setIfInBounds_toArray, List.set_cons_zero, List.set_cons_succ]
          refine wpAnyG_take (i := 12) (oi := ?oi8x12) (v := ?v8x12) ?hi8x12 (by kernel_rfl) (by kernel_rfl) (by kernel_rfl) ?hQ8x12 (addS_set (by decide)) hc ?hy8x12 hS ?rest8x12
          case hi8x12 => (simp only [List.getElem?_toArray, List.getElem?_cons_succ, List.getElem?_cons_zero]; exact rfl)
          case hQ8x12 => exact fun _ _ _ h => h
          case hy8x12 => (refine Or.inl ⟨rfl, ?_⟩; (intro w _; go_simp; (try with_reducible rfl)))
          clear hc hS; intro hc hS
          simp only [Act.put, List.setIfInBounds_toArray, List.set_cons_zero, List.set_cons_succ]
          refine wpAnyG_only (i := 13) (o := ?oi13) (by kernel_rfl) ?hi13 hc ?rest13
          case hi13 => (simp only [List.getElem?_toArray, List.getElem?_cons_succ, List.getElem?_cons_zero]; exact rfl)
          clear hc; intro hc K hK; have HK := Lib.hid hK; clear hK
          go_simp
          refine HK.out _ _ (addS_below hS ((Below.refl _ _).alloc (Nat.le_refl _) _) LT.out.1 LT.out.2.1 LT.out.2.2.1 LT.out.2.2.2.1 LT.out.2.2.2.2) ?_
          clear HK K hS; intro hS
          refine wpAnyG_only (i := 14) (o := ?oi14) (by kernel_rfl) ?hi14 hc ?rest14
          case hi14 => (simp only [List.getElem?_toArray, List.getElem?_cons_succ, List.getElem?_cons_zero]; exact rfl)
          clear hc; intro hc K hK; have HK := Lib.hid hK; clear hK
          rw [if_pos (by rfl), drew_alloc]
          refine wp_push (.tmp 28) (.tmp 40) ?ho (w3.heap.size + 1) (.slice a' k cap') (addL xs ys k) (x + y) wr.drew wr.heap.size 3 ?hs ?hx ?hB ?hown ?hl ?hbase ?hh
          case ho => rfl
          case hs => rfl
          case hx => rfl
          case hB => rfl
          case hown => exact HO.out.drew
          case hl => rw [addL_length]; omega
          case hbase => exact HSZ.out
          intro v9 w9 ho9 hb9
          obtain ⟨a9, cap9, hv9, _⟩ := ho9.any
          rw [List.length_append, addL_length, show [x + y].length = 1 from rfl] at hv9
          subst hv9
          have HO9 := Lib.hid ho9; clear ho9
          have HB9 := Lib.hid hb9; clear hb9
          refine HK.out _ _ (addS_later hSd.out HB9.out LT2.out.1 LT2.out.2.1 LT2.out.2.2.1 LT2.out.2.2.2.1 LT2.out.2.2.2.2) ?_
          clear HK K hS; intro hS
          refine wpAnyG_take (i := 15) (oi := ?oi8x15) (v := ?v8x15) ?hi8x15 (by kernel_rfl) (by kernel_rfl) (by kernel_rfl) ?hQ8x15 (addS_set (by decide)) hc ?hy8x15 hS ?rest8x15
          case hi8x15 => (simp only [List.getElem?_toArray, List.getElem?_cons_succ, List.getElem?_cons_zero]; exact rfl)
          case hQ8x15 => exact fun _ _ _ h => h
          case hy8x15 => (refine Or.inl ⟨rfl, ?_⟩; (intro w _; go_simp; (try with_reducible rfl)))
          clear hc hS; intro hc hS
          simp only [Act.put, List.setIfInBounds_toArray, List.set_cons_zero, List.set_cons_succ]
          have fo9 : w9.frozen? ⟨w3.heap.size, 2, none⟩ = false := (HB9.out.frozen (p := ⟨w3.heap.size, 2, none⟩) (by show w3.heap.size < _; omega)).trans fo
          have co9 : w9.cell? ⟨w3.heap.size, 2, none⟩ = some (.slice a' k cap') := (HB9.out.cell (p := ⟨w3.heap.size, 2, none⟩) (by show w3.heap.size < _; omega)).trans HOB.out.o2
          refine wpAnyG_only (i := 16) (o := ?oi16) (by kernel_rfl) ?hi16 hc ?rest16
          case hi16 => (simp only [List.getElem?_toArray, List.getElem?_cons_succ, List.getElem?_cons_zero]; exact rfl)
          clear hc; intro hc K hK; have HK := Lib.hid hK; clear hK
          go_simp
          refine HK.out _ _ (addS_stored hS (.slice a9 (k + 1) cap9) NE.out.1 NE.out.2.1 NE.out.2.2.1 NE.out.2.2.2) ?_
          clear HK K hS; intro hS
          refine wpAnyG_done (by kernel_rfl) ?_ _
          clear hc hS
          go_wp2
          go_roundw
          case rel =>
            refine ⟨k + 1, a9, cap9, by omega, by go_num, ?_, (OutBox.later (W := wr.drew) ⟨HOB.out.o0, HOB.out.o1, HOB.out.o2, HOB.out.fr⟩ HB9.out (Nat.lt_succ_self _)).stored _, ?_, ?_⟩
            · have h := HO9.out
              rw [show addL xs ys (k + 1) = addL xs ys k ++ [x + y] by rw [addL_succ, GX.out, GY.out]]
              exact h.setBelow (p := ⟨w3.heap.size, 2, none⟩) (by show w3.heap.size < _; omega) _
            · exact ((HB3.out.drew).trans (HB9.out.mono (Nat.le_succ _))).setCell (p := ⟨w3.heap.size, 2, none⟩) (Nat.le_refl _) _
            · have := HB9.out.size
              have e : wr.drew.heap.size = wr.heap.size := rfl
              show _ ≤ (w9.setCell _ _).heap.size
              rw [World.size_setCell]; omega
          case measure => simp [intOf]; omega
      · obtain rfl : k = xs.length := by omega
        have HV := Lib.hid (HD.out _ HX0.out)
        obtain ⟨⟨c0, c1, c2, d0, d1, d2, _, _⟩, hsz2, e0, e1, e2, f0, f1, f2⟩ := T2.out
        obtain ⟨o0, o1, o2, _⟩ := HOB.out
        have hzl : (addL xs ys xs.length).length = xs.length := addL_length _ _ _
        have hvs := Lib.hid (valid_same HVA.out hzl)
        have hsl := HO.out.sl
        have hrv := rvalid_any w1 h1 a' (addL xs ys xs.length) cap' wr (by rw [hzl]; exact hx) hsl
        rw [hzl, hvs.out] at hrv
        have HRV := Lib.hid hrv; clear hrv hsl
        have hsz6 := HSZ.out
        cases hal : allB 1000000 (addL xs ys xs.length)
        · have HAL := Lib.hid hal; clear hal
          go_wp2_with fail
          refine HRV.out.mono ?_
          rintro e w5 ⟨rfl, hb5⟩
          have T6 := Lib.hid (T2.out.next hb5 T2.out.size)
          clear c0 c1 c2 d0 d1 d2 e0 e1 e2 f0 f1 f2 o0 o1 o2
          obtain ⟨⟨c0, c1, c2, d0, d1, d2, _, _⟩, hsz3, e0, e1, e2, f0, f1, f2⟩ := T6.out
          rw [HAL.out]
          go_wp2
          (try simp only [Exit.inBlock, Exit.then])
          refine bodyPost_ret (v := .tuple #[.agg #[.int .i64 0, .int .i64 0, .slice none 0 0], .int .i64 4]) (by rw [results_cell_tmp rfl]; go_simp) rfl ?_
          exact PPost.err 4 (by rw [HV.out, HAL.out]; simp) (set3 T6.out.two.below (by omega) _ _ _)
        · have HAL := Lib.hid hal; clear hal
          obtain ⟨g, cap9, hv9, hgb⟩ := HO.out.shape (by rw [hzl]; exact HP1.out)
          obtain ⟨rfl, rfl⟩ : a' = some ⟨g, 0, none⟩ ∧ cap' = cap9 := by simpa [hzl] using hv9
          clear hv9
          go_wp2_with fail
          refine HRV.out.mono ?_
          rintro e w5 ⟨rfl, hb5⟩
          have T6 := Lib.hid (T2.out.next hb5 T2.out.size)
          have HO5 := Lib.hid (HO.out.below hb5)
          have OB5 := Lib.hid (HOB.out.later hb5 (by omega))
          clear c0 c1 c2 d0 d1 d2 e0 e1 e2 f0 f1 f2 o0 o1 o2
          obtain ⟨⟨c0, c1, c2, d0, d1, d2, _, _⟩, hsz3, e0, e1, e2, f0, f1, f2⟩ := T6.out
          obtain ⟨o0, o1, o2, _⟩ := OB5.out
          rw [HAL.out]
          go_wp2
          (try simp only [Exit.inBlock, Exit.then])
          refine bodyPost_ret (v := .tuple #[.agg #[.int .i64 w1, .int .i64 h1, .slice (some ⟨g, 0, none⟩) xs.length cap'], .int .i64 0]) (by rw [results_cell_tmp rfl]; go_simp) rfl ?_
          refine PPost.ok (base := w3.heap.size + 1) (ys := addL xs ys xs.length) (by rw [HV.out, HAL.out]; simp) (set3 T6.out.two.below (by omega) _ _ _) ?_ hzl.symm
          exact HO5.out.sameBlock (set3_heap _ (by omega) _ _ _)
  · have HX0 := Lib.hid hx0; clear hx0
    have hz' : (x == 0) = false := by simpa using hz
    have hz'' : (x != 0) = true := by simpa using hz
    go_wp2
    (try simp only [Exit.inBlock, Exit.then])
    refine bodyPost_ret (v := .tuple #[.agg #[.int .i64 0, .int .i64 0, .slice none 0 0], .int .i64 x]) (by rw [results_cell_tmp rfl]; go_simp) rfl ?_
    exact PPost.err x (by rw [HD.out _ HX0.out, if_neg hz]) (set3 T1.out.two.below (by omega) _ _ _)
end Go.Proofs.Ytibopjfmcdcgbaa
