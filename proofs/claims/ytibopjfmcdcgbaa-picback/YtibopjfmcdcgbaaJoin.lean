/- join of layer 1: one step of lifting undone: a contract. -/
import Derived.Test.YtibopjfmcdcgbaaLift
import Derived.Test.YtibopjfmcdcgbaaLong
namespace Go.Proofs.Ytibopjfmcdcgbaa
open Go.RowKit Go.Shelf
attribute [local go_sem] Oper.semAt_some

theorem halves_tail (g off m cap : Nat) (w : World) (h1 : 1 ≤ m) (h2 : m ≤ 65536) (hc : 2 * m ≤ cap) :
    Calls Try.prog 88 #[.slice (some ⟨g, off, none⟩) (2 * m) cap] w fun e w' =>
      e = .returned (.tuple #[.slice (some ⟨g, off, none⟩) m m, .slice (some ⟨g, off + m, none⟩) m m]) ∧ Below w.heap.size w w' := by
  go_enter Try.func88, Try.ntmps88
  go_wp2
  go_quiet (fail)
  go_wp2
  go_ret2
  have e : 2 * m - m = m := by omega
  exact ⟨by simp [e], below_drewN (Below.refl _ _) _⟩

/-- One pair of an undone lift. -/
def joinP (old : List Int) (m : Nat) (ys : List Int) (p : Nat × Nat) : List Int :=
  (ys.set p.2 (IntKind.i64.wrap (old[p.1 / 2]?.getD 0 - old[m + p.1 / 2]?.getD 0 / 2))).set p.1 (IntKind.i64.wrap (IntKind.i64.wrap (old[p.1 / 2]?.getD 0 - old[m + p.1 / 2]?.getD 0 / 2) + old[m + p.1 / 2]?.getD 0))
def joins {N : Nat} (old : List Int) (m : Nat) (ys : List Int) (ps : List (PN N)) : List Int := ps.foldl (fun ys p => joinP old m ys p.1) ys
def joinL (m : Nat) (ys : List Int) : List Int := joins (ys.take (2 * m)) m ys (pairsTo (2 * m) 1 (2 * m))
theorem joinP_length (old : List Int) (m : Nat) (ys : List Int) (p : Nat × Nat) : (joinP old m ys p).length = ys.length := by simp [joinP]
theorem joins_length {N : Nat} (old : List Int) (m : Nat) (ps : List (PN N)) : ∀ ys : List Int, (joins old m ys ps).length = ys.length := by
  induction ps with
  | nil => intro ys; rfl
  | cons p ps ih => intro ys; show (joins old m (joinP old m ys p.1) ps).length = _; rw [ih, joinP_length]
theorem joins_snoc {N : Nat} (old : List Int) (m : Nat) (ys : List Int) (ps : List (PN N)) (p : PN N) : joins old m ys (ps ++ [p]) = joinP old m (joins old m ys ps) p.1 := by simp [joins]

set_option maxRecDepth 100000 in
set_option maxHeartbeats 2000000 in
theorem join_in (base g N cap m : Nat) (ys : List Int) (w : World) (n : Nat) (hn : 4 ≤ n) (h1 : 1 ≤ m) (h2 : m ≤ 128) (hN : 2 * m ≤ ys.length) (hB : base ≤ w.heap.size) (hO : OwnI w base (.slice (some ⟨g, 0, none⟩) N cap) ys) :
    CallsIn Fence.wide n Try.prog 73 #[.slice (some ⟨g, 0, none⟩) (2 * m) (2 * m)] w fun e w' =>
      (∃ v, e = .returned v) ∧ OwnI w' base (.slice (some ⟨g, 0, none⟩) N cap) (joinL m ys) ∧ Below base w w' := by
  have hgw := hO.lt
  have hs : Sl w (some ⟨g, 0, none⟩) (ys.take (2 * m)) := by
    intro k hk
    have hk' : k < 2 * m := by simp at hk; omega
    have := (hO.cell (j := k) (by omega)).1
    exact ⟨g, 0, rfl, by rw [Nat.zero_add, this]; simp [hk']⟩
  have hl : (ys.take (2 * m)).length = 2 * m := by simp; omega
  have HO := Lib.hid hO; clear hO
  have hn1 : 1 ≤ n := by omega
  have hLA : Hid (Below w.heap.size w (w.alloc (.cells #[.slice (some ⟨g, 0, none⟩) (2 * m) (2 * m)] 22))) := .alloc (Below.refl _ _) (Nat.le_refl _) _
  have HC := Lib.hid (clone_any g 0 (ys.take (2 * m)) (2 * m) (w.alloc (.cells #[.slice (some ⟨g, 0, none⟩) (2 * m) (2 * m)] 22)) (by omega) (by omega) (hs.alloc _))
  have hbx : Hid (Box w.heap.size #[.slice (some ⟨g, 0, none⟩) (2 * m) (2 * m)] (w.alloc (.cells #[.slice (some ⟨g, 0, none⟩) (2 * m) (2 * m)] 22))) := ⟨alloc_lt' rfl, fun k v h => alloc_cell _ _ _ _ _ h⟩
  have hsA : Hid ((w.alloc (.cells #[.slice (some ⟨g, 0, none⟩) (2 * m) (2 * m)] 22)).heap.size = w.heap.size + 1) := World.size_alloc _ _
  rw [hl] at HC
  clear hs
  have HL := Lib.hid hl; clear hl
  refine callsIn_of_wp_marks Try.func73 rfl trivial ?_ rfl
  simp only [Try.ntmps73, List.size_toArray, List.length_cons, List.length_nil, Nat.reduceAdd, Nat.reduceSub, Array.replicate_succ, Array.replicate_zero, List.push_toArray, List.append_toArray, List.nil_append, List.cons_append]
  gi_wp2_with (first
    | (refine ⟨trivial, ?_⟩; gi_at_call 70; refine (callsIn_wide.2 HC.out).mono ?_; rintro e w1 ⟨go, capo, rfl, ho, hb⟩; have HOO := Lib.hid ho; clear ho; have HB1 := Lib.hid hb; clear hb)
    | (refine ⟨trivial, ?_⟩; gi_at_call 88; refine (callsIn_wide.2 (halves_tail go 0 m capo _ h1 (by omega) HOO.out.cap_le)).mono ?_; rintro e w2 ⟨rfl, hb2⟩; have hbo : w2.cell? ⟨w.heap.size, 0, none⟩ = some (.slice (some ⟨g, 0, none⟩) (2 * m) (2 * m)) := ((hbx.out.next HB1.out).next hb2).2 0 _ rfl; have hs2 := hb2.size; have hs1 := HB1.out.size; rw [hsA.out] at hs1; have hs3 : w.heap.size < w2.heap.size := (by omega); have hs4 : w.heap.size < w2.heap.size + 1 := (by omega); have HB2 := Lib.hid hb2; clear hb2)
    | (refine ⟨trivial, ?_⟩; gi_at_call 86; refine (callsIn_wide.2 (pairs_any (2 * m) 1 _)).mono ?_; rintro e w3 ⟨rfl, rfl⟩))

  obtain ⟨V0, hV0⟩ : ∃ V0, ((((w2.alloc (.cells #[.slice (some ⟨go, 0, none⟩) m m] 22)).alloc (.cells #[.slice (some ⟨go, m, none⟩) m m] 22)).alloc (.cells #[.int .i64 (2 * (m : Int))] 3)).alloc (.cells #[.int .i64 1] 3)) = V0 := ⟨_, rfl⟩
  have hsz : V0.heap.size = w2.heap.size + 4 := by rw [← hV0]; simp
  have hBV : Below w2.heap.size w2 V0 := by rw [← hV0]; exact ((((Below.refl _ _).alloc (Nat.le_refl _) _).alloc (by simp) _).alloc (by simp; omega) _).alloc (by simp; omega) _
  have hc1 : V0.cell? ⟨w2.heap.size + 2, 0, none⟩ = some (.int .i64 ((2 * m : Nat) : Int)) := by rw [← hV0]; exact cell_of_heap (heap4 w2 _ _ _ _).2.2.1 0
  have hc2 : V0.cell? ⟨w2.heap.size + 3, 0, none⟩ = some (.int .i64 ((1 : Nat) : Int)) := by rw [← hV0]; exact cell_of_heap (heap4 w2 _ _ _ _).2.2.2 0
  have hc3 : V0.cell? ⟨w2.heap.size, 0, none⟩ = some (.slice (some ⟨go, 0, none⟩) m m) := by rw [← hV0]; exact cell_of_heap (heap4 w2 _ _ _ _).1 0
  have hc4 : V0.cell? ⟨w2.heap.size + 1, 0, none⟩ = some (.slice (some ⟨go, m, none⟩) m m) := by rw [← hV0]; exact cell_of_heap (heap4 w2 _ _ _ _).2.1 0
  have hc5 : V0.cell? ⟨w.heap.size, 0, none⟩ = some (.slice (some ⟨g, 0, none⟩) (2 * m) (2 * m)) := (hBV.cell (p := ⟨w.heap.size, 0, none⟩) (cell_lt hbo)).trans hbo
  have hBA1 : Below w.heap.size w w1 := hLA.out.trans (HB1.out.mono (by rw [hsA.out]; omega))
  have hBw2 : Below w.heap.size w w2 := hBA1.trans (HB2.out.mono (by omega))
  have hBwV : Below w.heap.size w V0 := hBw2.trans (hBV.mono hBw2.size)
  have hO0 : OwnI V0 base (.slice (some ⟨g, 0, none⟩) N cap) ys := HO.out.below hBwV
  have hO1 : OwnI V0 w.heap.size (.slice (some ⟨go, 0, none⟩) (2 * m) capo) (ys.take (2 * m)) := ((HOO.out.mono (by rw [hsA.out]; omega)).below HB2.out).below hBV
  have hgo := HOO.out.lt
  rw [hsA.out] at hgo
  have hbase : Below base w V0 := hBwV.mono hB
  have hszw := hBw2.size
  rw [hV0]
  refine wpIn_rangeFunc_ownF rfl hn1 (gf := 105) (lb := #[.pointer (some ⟨w2.heap.size + 2, 0, none⟩), .pointer (some ⟨w2.heap.size + 3, 0, none⟩)]) rfl trivial (enters_of Try.func105 (by kernel_rfl) rfl)
    (pairs_stops Fence.wide (n - 1) trivial rfl (by omega) (w2.heap.size + 2) (w2.heap.size + 3) (2 * m) 1 (by omega) (by omega) (pairs_one h2) V0 hc1 hc2) keepC_t (keepC_b (by omega)) (Below.refl _ _) (fun _ => rfl)
    (fun pre V => OwnI V base (.slice (some ⟨g, 0, none⟩) N cap) (joins (ys.take (2 * m)) m ys pre) ∧ OwnI V w.heap.size (.slice (some ⟨go, 0, none⟩) (2 * m) capo) (ys.take (2 * m)) ∧ Below base w V ∧ V.cell? ⟨w.heap.size, 0, none⟩ = some (.slice (some ⟨g, 0, none⟩) (2 * m) (2 * m)) ∧ V.cell? ⟨w2.heap.size, 0, none⟩ = some (.slice (some ⟨go, 0, none⟩) m m) ∧ V.cell? ⟨w2.heap.size + 1, 0, none⟩ = some (.slice (some ⟨go, m, none⟩) m m))
    (fun _ _ _ => False) ?hI (fun _ _ _ _ _ hs _ _ => hs) ⟨hO0, hO1, hbase, hc5, hc3, hc4⟩
    (fun x => { tmps := #[Value.slice (some { block := g, off := 0 }) (2 * m) (2 * m), Value.pointer (some { block := w.heap.size, off := 0 }), Value.slice (some { block := go, off := 0 }) (2 * m) capo, Value.pointer (some { block := w2.heap.size, off := 0 }), Value.pointer (some { block := w2.heap.size + 1, off := 0 }), .int .i64 (x.1.1 : Int), .int .i64 (x.1.2 : Int), undef, undef, Value.slice (some { block := g, off := 0 }) (2 * m) (2 * m), Value.slice (some { block := go, off := 0 }) (2 * m) capo, Value.tuple #[Value.slice (some { block := go, off := 0 }) m m, Value.slice (some { block := go, off := m }) m m], Value.slice (some { block := go, off := 0 }) (2 * m) capo, Value.tuple #[Value.slice (some { block := go, off := 0 }) m m, Value.slice (some { block := go, off := m }) m m], Value.slice (some { block := go, off := 0 }) m m, Value.slice (some { block := go, off := m }) m m, Value.slice (some { block := g, off := 0 }) (2 * m) (2 * m), Value.int IntKind.i64 (2 * ↑m), Value.func (Fn.func 105) #[] #[Value.pointer (some { block := w2.heap.size + 1 + 1, off := 0 }), Value.pointer (some { block := w2.heap.size + 1 + 1 + 1, off := 0 })], .int .i64 (x.1.1 : Int), .int .i64 (x.1.2 : Int), undef, undef, undef, undef, undef, undef, undef, undef, undef, undef, undef, undef, undef, undef, undef, undef, undef, undef, undef, undef, undef, undef, undef, undef, undef, undef], defers := [] }) ?assign ?body ?done ?stop
  case hI =>
    intro pre A C row hs hg hr
    obtain ⟨q1, q2, q3, q4, q5, q6⟩ := hs
    refine ⟨q1.kept hg (.inr fun e => ?_), q2.kept hg (.inr fun e => ?_), q3.grown hg (by have := q3.size; omega) (fun r e => by have := (hr r e).1; omega), cell_kept q4 hg (fun r e => (hr r e).2), cell_kept q5 hg (fun r e => (hr r e).2), cell_kept q6 hg (fun r e => (hr r e).2)⟩
    · have := (hr g e.symm).1; omega
    · have := (hr go e.symm).1; omega
  case stop => rintro D c pre V _ _ h _; exact h.elim
  case assign =>
    intro l x V K hK
    gi_wp2
    exact hK
  case done =>
    rintro D xs V hD rfl ⟨q1, q2, q3, q4, q5, q6⟩ hK
    gi_wp2
    refine ⟨by simp, .inl ⟨_, _, rfl, run_takeDeferred hK, ?_⟩⟩
    exact ⟨_, results_none rfl _ _ _, ⟨_, rfl⟩, q1.putObj _ hK rfl, q3.grown (grownBy_putObj' V D _) (by have := q3.size; omega) (fun r e => by cases e; omega)⟩
  case body =>
    rintro l pre x V ⟨q1, q2, q3, q4, q5, q6⟩ _
    obtain ⟨⟨i, j⟩, hi, hj⟩ := x
    have hsn := joins_snoc (ys.take (2 * m)) m ys pre ⟨(i, j), hi, hj⟩
    have hln : (joins (ys.take (2 * m)) m ys pre).length = ys.length := joins_length _ _ _ _
    dsimp only at hi hj
    have hlt := HL.out
    obtain ⟨ci, _⟩ := q2.cell (j := i / 2) (by omega)
    obtain ⟨cj, _⟩ := q2.cell (j := m + i / 2) (by omega)
    obtain ⟨ca, fa⟩ := q1.cell (j := i) (by omega)
    obtain ⟨cb, fb⟩ := q1.cell (j := j) (by omega)
    rw [show joinP (ys.take (2 * m)) m (joins (ys.take (2 * m)) m ys pre) (i, j) = ((joins (ys.take (2 * m)) m ys pre).set j (IntKind.i64.wrap ((ys.take (2 * m))[i / 2]?.getD 0 - (ys.take (2 * m))[m + i / 2]?.getD 0 / 2))).set i (IntKind.i64.wrap (IntKind.i64.wrap ((ys.take (2 * m))[i / 2]?.getD 0 - (ys.take (2 * m))[m + i / 2]?.getD 0 / 2) + (ys.take (2 * m))[m + i / 2]?.getD 0)) from rfl] at hsn
    have HSN := Lib.hid hsn; clear hsn
    generalize (ys.take (2 * m))[i / 2]?.getD 0 = yi at ci HSN
    generalize (ys.take (2 * m))[m + i / 2]?.getD 0 = yj at cj HSN
    generalize (joins (ys.take (2 * m)) m ys pre)[i]?.getD 0 = za at ca
    generalize (joins (ys.take (2 * m)) m ys pre)[j]?.getD 0 = zb at cb
    have Q1 := Lib.hid q1; clear q1
    have Q2 := Lib.hid q2; clear q2
    have Q3 := Lib.hid q3; clear q3
    have hgV := Q1.out.lt
    clear hc1 hc2 hc3 hc4 hc5 hBV hBA1 hBw2 hBwV hO0 hO1 hbase hV0 hlt hln hbo
    have hi2 : i / 2 < m := by omega
    have hi3 : (0 : Int) ≤ (i : Int) / 2 := by omega
    have hi4 : (i : Int) / 2 < (m : Int) := by omega
    have hj2 : j < 2 * m := hj
    have hwr : IntKind.i64.wrap ((i : Int) / 2) = (i : Int) / 2 := IntWalk.i64_in _ (by omega)
    have htn : ((i : Int) / 2).toNat = i / 2 := by omega
    have hi5 : (i : Int) < 2 * (m : Int) := by omega
    have hj5 : (j : Int) < 2 * (m : Int) := by omega
    have hil : i < 2 * m := by omega
    have hne : ¬ i = j := by omega
    have hne' : ¬ j = i := by omega
    have e1 : ¬ g = w.heap.size := by omega
    have e2 : ¬ g = w2.heap.size := by omega
    have e3 : ¬ g = w2.heap.size + 1 := by omega
    have e4 : ¬ w.heap.size = g := by omega
    have e5 : ¬ w2.heap.size = g := by omega
    have e6 : ¬ w2.heap.size + 1 = g := by omega
    have e7 : ¬ g = go := by omega
    have e8 : ¬ go = g := by omega
    gi_wp2
    refine wpIn_region_G_round (S := fun _ W => W.cell? ⟨w2.heap.size, 0, none⟩ = some (.slice (some ⟨go, 0, none⟩) m m) ∧ W.cell? ⟨w2.heap.size + 1, 0, none⟩ = some (.slice (some ⟨go, m, none⟩) m m) ∧ W.cell? ⟨go, i / 2, none⟩ = some (.int .i64 yi) ∧ W.cell? ⟨go, m + i / 2, none⟩ = some (.int .i64 yj)) (by kernel_rfl) (by kernel_rfl) ?hq ⟨q5, q6, ci, cj⟩ (fun hc hS => ?_)
    case hq => rintro ⟨_, _, h⟩; exact h
    refine wpAnyG_take (i := 0) (oi := ?oi6x0) (v := ?v6x0) ?hi6x0 (by kernel_rfl) (by kernel_rfl) (by kernel_rfl) ?hQ6x0 (fun _ _ => Iff.rfl) hc ?hy6x0 hS ?rest6x0
    case hi6x0 => (simp only [List.getElem?_toArray, List.getElem?_cons_zero]; exact rfl)
    case hQ6x0 => exact fun _ _ _ h => h
    case hy6x0 => (refine Or.inl ⟨rfl, ?_⟩; (rintro w ⟨L, _, _, q0, q1, q2, q3⟩; go_simp; (try with_reducible rfl)))
    clear hc hS; intro hc hS
    simp only [Act.put, List.setIfInBounds_toArray, List.set_cons_zero, List.set_cons_succ]
    refine wpAnyG_take (i := 1) (oi := ?oi6x1) (v := ?v6x1) ?hi6x1 (by kernel_rfl) (by kernel_rfl) (by kernel_rfl) ?hQ6x1 (fun _ _ => Iff.rfl) hc ?hy6x1 hS ?rest6x1
    case hi6x1 => (simp only [List.getElem?_toArray, List.getElem?_cons_succ, List.getElem?_cons_zero]; exact rfl)
    case hQ6x1 => exact fun _ _ _ h => h
    case hy6x1 => (refine Or.inl ⟨rfl, ?_⟩; (intro w _; go_simp; (try with_reducible rfl)))
    clear hc hS; intro hc hS
    simp only [Act.put, List.setIfInBounds_toArray, List.set_cons_zero, List.set_cons_succ]
    refine wpAnyG_take (i := 2) (oi := ?oi6x2) (v := ?v6x2) ?hi6x2 (by kernel_rfl) (by kernel_rfl) (by kernel_rfl) ?hQ6x2 (fun _ _ => Iff.rfl) hc ?hy6x2 hS ?rest6x2
    case hi6x2 => (simp only [List.getElem?_toArray, List.getElem?_cons_succ, List.getElem?_cons_zero]; exact rfl)
    case hQ6x2 => exact fun _ _ _ h => h
    case hy6x2 => (refine Or.inl ⟨rfl, ?_⟩; (intro w _; go_simp; (try with_reducible rfl)))
    clear hc hS; intro hc hS
    simp only [Act.put, List.setIfInBounds_toArray, List.set_cons_zero, List.set_cons_succ]
    refine wpAnyG_take (i := 3) (oi := ?oi6x3) (v := ?v6x3) ?hi6x3 (by kernel_rfl) (by kernel_rfl) (by kernel_rfl) ?hQ6x3 (fun _ _ => Iff.rfl) hc ?hy6x3 hS ?rest6x3
    case hi6x3 => (simp only [List.getElem?_toArray, List.getElem?_cons_succ, List.getElem?_cons_zero]; exact rfl)
    case hQ6x3 => exact fun _ _ _ h => h
    case hy6x3 => (refine Or.inl ⟨rfl, ?_⟩; (intro w _; go_simp; (try with_reducible rfl)))
    clear hc hS; intro hc hS
    simp only [Act.put, List.setIfInBounds_toArray, List.set_cons_zero, List.set_cons_succ]
    refine wpAnyG_take (i := 4) (oi := ?oi6x4) (v := ?v6x4) ?hi6x4 (by kernel_rfl) (by kernel_rfl) (by kernel_rfl) ?hQ6x4 (fun _ _ => Iff.rfl) hc ?hy6x4 hS ?rest6x4
    case hi6x4 => (simp only [List.getElem?_toArray, List.getElem?_cons_succ, List.getElem?_cons_zero]; exact rfl)
    case hQ6x4 => exact fun _ _ _ h => h
    case hy6x4 => (refine Or.inl ⟨rfl, ?_⟩; (rintro w ⟨L, _, _, q0, q1, q2, q3⟩; go_simp; (try with_reducible rfl)))
    clear hc hS; intro hc hS
    simp only [Act.put, List.setIfInBounds_toArray, List.set_cons_zero, List.set_cons_succ]
    refine wpAnyG_take (i := 5) (oi := ?oi6x5) (v := ?v6x5) ?hi6x5 (by kernel_rfl) (by kernel_rfl) (by kernel_rfl) ?hQ6x5 (fun _ _ => Iff.rfl) hc ?hy6x5 hS ?rest6x5
    case hi6x5 => (simp only [List.getElem?_toArray, List.getElem?_cons_succ, List.getElem?_cons_zero]; exact rfl)
    case hQ6x5 => exact fun _ _ _ h => h
    case hy6x5 => (refine Or.inl ⟨rfl, ?_⟩; (rintro w ⟨L, _, _, q0, q1, q2, q3⟩; go_simp; (try with_reducible rfl)))
    clear hc hS; intro hc hS
    simp only [Act.put, List.setIfInBounds_toArray, List.set_cons_zero, List.set_cons_succ]
    refine wpAnyG_take (i := 6) (oi := ?oi6x6) (v := ?v6x6) ?hi6x6 (by kernel_rfl) (by kernel_rfl) (by kernel_rfl) ?hQ6x6 (fun _ _ => Iff.rfl) hc ?hy6x6 hS ?rest6x6
    case hi6x6 => (simp only [List.getElem?_toArray, List.getElem?_cons_succ, List.getElem?_cons_zero]; exact rfl)
    case hQ6x6 => exact fun _ _ _ h => h
    case hy6x6 => (refine Or.inl ⟨rfl, ?_⟩; (intro w _; go_simp; (try with_reducible rfl)))
    clear hc hS; intro hc hS
    simp only [Act.put, List.setIfInBounds_toArray, List.set_cons_zero, List.set_cons_succ]
    refine wpAnyG_take (i := 7) (oi := ?oi6x7) (v := ?v6x7) ?hi6x7 (by kernel_rfl) (by kernel_rfl) (by kernel_rfl) ?hQ6x7 (fun _ _ => Iff.rfl) hc ?hy6x7 hS ?rest6x7
    case hi6x7 => (simp only [List.getElem?_toArray, List.getElem?_cons_succ, List.getElem?_cons_zero]; exact rfl)
    case hQ6x7 => exact fun _ _ _ h => h
    case hy6x7 => (refine Or.inl ⟨rfl, ?_⟩; (intro w _; go_simp; (try with_reducible rfl)))
    clear hc hS; intro hc hS
    simp only [Act.put, List.setIfInBounds_toArray, List.set_cons_zero, List.set_cons_succ]
    refine wpAnyG_take (i := 8) (oi := ?oi6x8) (v := ?v6x8) ?hi6x8 (by kernel_rfl) (by kernel_rfl) (by kernel_rfl) ?hQ6x8 (fun _ _ => Iff.rfl) hc ?hy6x8 hS ?rest6x8
    case hi6x8 => (simp only [List.getElem?_toArray, List.getElem?_cons_succ, List.getElem?_cons_zero]; exact rfl)
    case hQ6x8 => exact fun _ _ _ h => h
    case hy6x8 => (refine Or.inl ⟨rfl, ?_⟩; (intro w _; go_simp; (try with_reducible rfl)))
    clear hc hS; intro hc hS
    simp only [Act.put, List.setIfInBounds_toArray, List.set_cons_zero, List.set_cons_succ]
    refine wpAnyG_take (i := 9) (oi := ?oi6x9) (v := ?v6x9) ?hi6x9 (by kernel_rfl) (by kernel_rfl) (by kernel_rfl) ?hQ6x9 (fun _ _ => Iff.rfl) hc ?hy6x9 hS ?rest6x9
    case hi6x9 => (simp only [List.getElem?_toArray, List.getElem?_cons_succ, List.getElem?_cons_zero]; exact rfl)
    case hQ6x9 => exact fun _ _ _ h => h
    case hy6x9 => (refine Or.inl ⟨rfl, ?_⟩; (rintro w ⟨L, _, _, q0, q1, q2, q3⟩; go_simp; (try with_reducible rfl)))
    clear hc hS; intro hc hS
    simp only [Act.put, List.setIfInBounds_toArray, List.set_cons_zero, List.set_cons_succ]
    refine wpAnyG_take (i := 10) (oi := ?oi6x10) (v := ?v6x10) ?hi6x10 (by kernel_rfl) (by kernel_rfl) (by kernel_rfl) ?hQ6x10 (fun _ _ => Iff.rfl) hc ?hy6x10 hS ?rest6x10
    case hi6x10 => (simp only [List.getElem?_toArray, List.getElem?_cons_succ, List.getElem?_cons_zero]; exact rfl)
    case hQ6x10 => exact fun _ _ _ h => h
    case hy6x10 => (refine Or.inl ⟨rfl, ?_⟩; (intro w _; go_simp; (try with_reducible rfl)))
    clear hc hS; intro hc hS
    simp only [Act.put, List.setIfInBounds_toArray, List.set_cons_zero, List.set_cons_succ]
    refine wpAnyG_take (i := 11) (oi := ?oi6x11) (v := ?v6x11) ?hi6x11 (by kernel_rfl) (by kernel_rfl) (by kernel_rfl) ?hQ6x11 (fun _ _ => Iff.rfl) hc ?hy6x11 hS ?rest6x11
    case hi6x11 => (simp only [List.getElem?_toArray, List.getElem?_cons_succ, List.getElem?_cons_zero]; exact rfl)
    case hQ6x11 => exact fun _ _ _ h => h
    case hy6x11 => (refine Or.inl ⟨rfl, ?_⟩; (intro w _; go_simp; (try with_reducible rfl)))
    clear hc hS; intro hc hS
    simp only [Act.put, List.setIfInBounds_toArray, List.set_cons_zero, List.set_cons_succ]
    refine wpAnyG_done (by kernel_rfl) ?_ _
    clear hc hS
    gi_wp2
    refine wpIn_region_G_round (S := fun _ W => W.cell? ⟨w.heap.size, 0, none⟩ = some (.slice (some ⟨g, 0, none⟩) (2 * m) (2 * m))) (by kernel_rfl) (by kernel_rfl) ?hq7 q4 (fun hc hS => ?_)
    case hq7 => rintro ⟨_, _, h⟩; exact h
    refine wpAnyG_take (i := 0) (oi := ?oi7x0) (v := ?v7x0) ?hi7x0 (by kernel_rfl) (by kernel_rfl) (by kernel_rfl) ?hQ7x0 (fun _ _ => Iff.rfl) hc ?hy7x0 hS ?rest7x0
    case hi7x0 => (simp only [List.getElem?_toArray, List.getElem?_cons_zero]; exact rfl)
    case hQ7x0 => exact fun _ _ _ h => h
    case hy7x0 => (refine Or.inl ⟨rfl, ?_⟩; (rintro w ⟨L, _, _, q0⟩; go_simp; (try with_reducible rfl)))
    clear hc hS; intro hc hS
    simp only [Act.put, List.setIfInBounds_toArray, List.set_cons_zero, List.set_cons_succ]
    refine wpAnyG_take (i := 1) (oi := ?oi7x1) (v := ?v7x1) ?hi7x1 (by kernel_rfl) (by kernel_rfl) (by kernel_rfl) ?hQ7x1 (fun _ _ => Iff.rfl) hc ?hy7x1 hS ?rest7x1
    case hi7x1 => (simp only [List.getElem?_toArray, List.getElem?_cons_succ, List.getElem?_cons_zero]; exact rfl)
    case hQ7x1 => exact fun _ _ _ h => h
    case hy7x1 => (refine Or.inl ⟨rfl, ?_⟩; (intro w _; go_simp; (try with_reducible rfl)))
    clear hc hS; intro hc hS
    simp only [Act.put, List.setIfInBounds_toArray, List.set_cons_zero, List.set_cons_succ]
    refine wpAnyG_take (i := 2) (oi := ?oi7x2) (v := ?v7x2) ?hi7x2 (by kernel_rfl) (by kernel_rfl) (by kernel_rfl) ?hQ7x2 (fun _ _ => Iff.rfl) hc ?hy7x2 hS ?rest7x2
    case hi7x2 => (simp only [List.getElem?_toArray, List.getElem?_cons_succ, List.getElem?_cons_zero]; exact rfl)
    case hQ7x2 => exact fun _ _ _ h => h
    case hy7x2 => (refine Or.inl ⟨rfl, ?_⟩; (intro w _; go_simp; (try with_reducible rfl)))
    clear hc hS; intro hc hS
    simp only [Act.put, List.setIfInBounds_toArray, List.set_cons_zero, List.set_cons_succ]
    refine wpAnyG_take (i := 3) (oi := ?oi7x3) (v := ?v7x3) ?hi7x3 (by kernel_rfl) (by kernel_rfl) (by kernel_rfl) ?hQ7x3 (fun _ _ => Iff.rfl) hc ?hy7x3 hS ?rest7x3
    case hi7x3 => (simp only [List.getElem?_toArray, List.getElem?_cons_succ, List.getElem?_cons_zero]; exact rfl)
    case hQ7x3 => exact fun _ _ _ h => h
    case hy7x3 => (refine Or.inl ⟨rfl, ?_⟩; (intro w _; go_simp; (try with_reducible rfl)))
    clear hc hS; intro hc hS
    simp only [Act.put, List.setIfInBounds_toArray, List.set_cons_zero, List.set_cons_succ]
    refine wpAnyG_only (i := 4) (o := ?oi7x4) (by kernel_rfl) ?hi7x4 hc ?rest7x4
    case hi7x4 => (simp only [List.getElem?_toArray, List.getElem?_cons_succ, List.getElem?_cons_zero]; exact rfl)
    clear hc; intro hc K hK; have HK := Lib.hid hK; clear hK
    go_simp
    refine (halfDown_any _ _).mono ?_
    rintro e w4 ⟨rfl, rfl⟩
    refine HK.out _ _ hS ?_
    clear HK K hS; intro hS
    refine wpAnyG_take (i := 5) (oi := ?oi7x5) (v := ?v7x5) ?hi7x5 (by kernel_rfl) (by kernel_rfl) (by kernel_rfl) ?hQ7x5 (fun _ _ => Iff.rfl) hc ?hy7x5 hS ?rest7x5
    case hi7x5 => (simp only [List.getElem?_toArray, List.getElem?_cons_succ, List.getElem?_cons_zero]; exact rfl)
    case hQ7x5 => exact fun _ _ _ h => h
    case hy7x5 => (refine Or.inl ⟨rfl, ?_⟩; (intro w _; go_simp; (try with_reducible rfl)))
    clear hc hS; intro hc hS
    simp only [Act.put, List.setIfInBounds_toArray, List.set_cons_zero, List.set_cons_succ]
    refine wpAnyG_take (i := 6) (oi := ?oi7x6) (v := ?v7x6) ?hi7x6 (by kernel_rfl) (by kernel_rfl) (by kernel_rfl) ?hQ7x6 (fun _ _ => Iff.rfl) hc ?hy7x6 hS ?rest7x6
    case hi7x6 => (simp only [List.getElem?_toArray, List.getElem?_cons_succ, List.getElem?_cons_zero]; exact rfl)
    case hQ7x6 => exact fun _ _ _ h => h
    case hy7x6 => (refine Or.inl ⟨rfl, ?_⟩; (intro w _; go_simp; (try with_reducible rfl)))
    clear hc hS; intro hc hS
    simp only [Act.put, List.setIfInBounds_toArray, List.set_cons_zero, List.set_cons_succ]
    refine wpAnyG_only (i := 7) (o := ?oi7x7) (by kernel_rfl) ?hi7x7 hc ?rest7x7
    case hi7x7 => (simp only [List.getElem?_toArray, List.getElem?_cons_succ, List.getElem?_cons_zero]; exact rfl)
    clear hc; intro hc K hK; have HK := Lib.hid hK; clear hK
    go_simp
    refine HK.out _ _ (by go_simp) ?_
    clear HK K hS; intro hS
    refine wpAnyG_done (by kernel_rfl) ?_ _
    clear hc hS
    gi_wp2
    refine wpIn_region_G_round (S := fun _ W => W.cell? ⟨w.heap.size, 0, none⟩ = some (.slice (some ⟨g, 0, none⟩) (2 * m) (2 * m)) ∧ W.cell? ⟨g, j, none⟩ = some (.int .i64 (IntKind.i64.wrap (yi - yj / 2)))) (by kernel_rfl) (by kernel_rfl) ?hq8 (by go_simp) (fun hc hS => ?_)
    case hq8 => rintro ⟨_, _, h⟩; exact h
    refine wpAnyG_take (i := 0) (oi := ?oi8x0) (v := ?v8x0) ?hi8x0 (by kernel_rfl) (by kernel_rfl) (by kernel_rfl) ?hQ8x0 (fun _ _ => Iff.rfl) hc ?hy8x0 hS ?rest8x0
    case hi8x0 => (simp only [List.getElem?_toArray, List.getElem?_cons_zero]; exact rfl)
    case hQ8x0 => exact fun _ _ _ h => h
    case hy8x0 => (refine Or.inl ⟨rfl, ?_⟩; (rintro w ⟨L, _, _, q0, q1⟩; go_simp; (try with_reducible rfl)))
    clear hc hS; intro hc hS
    simp only [Act.put, List.setIfInBounds_toArray, List.set_cons_zero, List.set_cons_succ]
    refine wpAnyG_take (i := 1) (oi := ?oi8x1) (v := ?v8x1) ?hi8x1 (by kernel_rfl) (by kernel_rfl) (by kernel_rfl) ?hQ8x1 (fun _ _ => Iff.rfl) hc ?hy8x1 hS ?rest8x1
    case hi8x1 => (simp only [List.getElem?_toArray, List.getElem?_cons_succ, List.getElem?_cons_zero]; exact rfl)
    case hQ8x1 => exact fun _ _ _ h => h
    case hy8x1 => (refine Or.inl ⟨rfl, ?_⟩; (intro w _; go_simp; (try with_reducible rfl)))
    clear hc hS; intro hc hS
    simp only [Act.put, List.setIfInBounds_toArray, List.set_cons_zero, List.set_cons_succ]
    refine wpAnyG_take (i := 2) (oi := ?oi8x2) (v := ?v8x2) ?hi8x2 (by kernel_rfl) (by kernel_rfl) (by kernel_rfl) ?hQ8x2 (fun _ _ => Iff.rfl) hc ?hy8x2 hS ?rest8x2
    case hi8x2 => (simp only [List.getElem?_toArray, List.getElem?_cons_succ, List.getElem?_cons_zero]; exact rfl)
    case hQ8x2 => exact fun _ _ _ h => h
    case hy8x2 => (refine Or.inl ⟨rfl, ?_⟩; (rintro w ⟨L, _, _, q0, q1⟩; go_simp; (try with_reducible rfl)))
    clear hc hS; intro hc hS
    simp only [Act.put, List.setIfInBounds_toArray, List.set_cons_zero, List.set_cons_succ]
    refine wpAnyG_take (i := 3) (oi := ?oi8x3) (v := ?v8x3) ?hi8x3 (by kernel_rfl) (by kernel_rfl) (by kernel_rfl) ?hQ8x3 (fun _ _ => Iff.rfl) hc ?hy8x3 hS ?rest8x3
    case hi8x3 => (simp only [List.getElem?_toArray, List.getElem?_cons_succ, List.getElem?_cons_zero]; exact rfl)
    case hQ8x3 => exact fun _ _ _ h => h
    case hy8x3 => (refine Or.inl ⟨rfl, ?_⟩; (intro w _; go_simp; (try with_reducible rfl)))
    clear hc hS; intro hc hS
    simp only [Act.put, List.setIfInBounds_toArray, List.set_cons_zero, List.set_cons_succ]
    refine wpAnyG_take (i := 4) (oi := ?oi8x4) (v := ?v8x4) ?hi8x4 (by kernel_rfl) (by kernel_rfl) (by kernel_rfl) ?hQ8x4 (fun _ _ => Iff.rfl) hc ?hy8x4 hS ?rest8x4
    case hi8x4 => (simp only [List.getElem?_toArray, List.getElem?_cons_succ, List.getElem?_cons_zero]; exact rfl)
    case hQ8x4 => exact fun _ _ _ h => h
    case hy8x4 => (refine Or.inl ⟨rfl, ?_⟩; (intro w _; go_simp; (try with_reducible rfl)))
    clear hc hS; intro hc hS
    simp only [Act.put, List.setIfInBounds_toArray, List.set_cons_zero, List.set_cons_succ]
    refine wpAnyG_take (i := 5) (oi := ?oi8x5) (v := ?v8x5) ?hi8x5 (by kernel_rfl) (by kernel_rfl) (by kernel_rfl) ?hQ8x5 (fun _ _ => Iff.rfl) hc ?hy8x5 hS ?rest8x5
    case hi8x5 => (simp only [List.getElem?_toArray, List.getElem?_cons_succ, List.getElem?_cons_zero]; exact rfl)
    case hQ8x5 => exact fun _ _ _ h => h
    case hy8x5 => (refine Or.inl ⟨rfl, ?_⟩; (rintro w ⟨L, _, _, q0, q1⟩; go_simp; (try with_reducible rfl)))
    clear hc hS; intro hc hS
    simp only [Act.put, List.setIfInBounds_toArray, List.set_cons_zero, List.set_cons_succ]
    refine wpAnyG_take (i := 6) (oi := ?oi8x6) (v := ?v8x6) ?hi8x6 (by kernel_rfl) (by kernel_rfl) (by kernel_rfl) ?hQ8x6 (fun _ _ => Iff.rfl) hc ?hy8x6 hS ?rest8x6
    case hi8x6 => (simp only [List.getElem?_toArray, List.getElem?_cons_succ, List.getElem?_cons_zero]; exact rfl)
    case hQ8x6 => exact fun _ _ _ h => h
    case hy8x6 => (refine Or.inl ⟨rfl, ?_⟩; (intro w _; go_simp; (try with_reducible rfl)))
    clear hc hS; intro hc hS
    simp only [Act.put, List.setIfInBounds_toArray, List.set_cons_zero, List.set_cons_succ]
    refine wpAnyG_take (i := 7) (oi := ?oi8x7) (v := ?v8x7) ?hi8x7 (by kernel_rfl) (by kernel_rfl) (by kernel_rfl) ?hQ8x7 (fun _ _ => Iff.rfl) hc ?hy8x7 hS ?rest8x7
    case hi8x7 => (simp only [List.getElem?_toArray, List.getElem?_cons_succ, List.getElem?_cons_zero]; exact rfl)
    case hQ8x7 => exact fun _ _ _ h => h
    case hy8x7 => (refine Or.inl ⟨rfl, ?_⟩; (intro w _; go_simp; (try with_reducible rfl)))
    clear hc hS; intro hc hS
    simp only [Act.put, List.setIfInBounds_toArray, List.set_cons_zero, List.set_cons_succ]
    refine wpAnyG_take (i := 8) (oi := ?oi8x8) (v := ?v8x8) ?hi8x8 (by kernel_rfl) (by kernel_rfl) (by kernel_rfl) ?hQ8x8 (fun _ _ => Iff.rfl) hc ?hy8x8 hS ?rest8x8
    case hi8x8 => (simp only [List.getElem?_toArray, List.getElem?_cons_succ, List.getElem?_cons_zero]; exact rfl)
    case hQ8x8 => exact fun _ _ _ h => h
    case hy8x8 => (refine Or.inl ⟨rfl, ?_⟩; (intro w _; go_simp; (try with_reducible rfl)))
    clear hc hS; intro hc hS
    simp only [Act.put, List.setIfInBounds_toArray, List.set_cons_zero, List.set_cons_succ]
    refine wpAnyG_only (i := 9) (o := ?oi8x9) (by kernel_rfl) ?hi8x9 hc ?rest8x9
    case hi8x9 => (simp only [List.getElem?_toArray, List.getElem?_cons_succ, List.getElem?_cons_zero]; exact rfl)
    clear hc; intro hc K hK; have HK := Lib.hid hK; clear hK
    go_simp
    refine HK.out _ _ (by go_simp) ?_
    clear HK K hS; intro hS
    refine wpAnyG_done (by kernel_rfl) ?_ _
    clear hc hS
    gi_wp2
    (try rw [wrap_is])
    have ho := (((Q1.out.stored j (IntKind.i64.wrap (yi - yj / 2))).stored i (IntKind.i64.wrap (IntKind.i64.wrap (yi - yj / 2) + yj)))).drew.drew.drew
    rw [← HSN.out] at ho
    obtain ⟨V', hV'⟩ : ∃ V', ((V.setCell ⟨g, j, none⟩ (.int .i64 (IntKind.i64.wrap (yi - yj / 2)))).setCell ⟨g, i, none⟩ (.int .i64 (IntKind.i64.wrap (IntKind.i64.wrap (yi - yj / 2) + yj)))).drew.drew.drew = V' := ⟨_, rfl⟩
    have hko : KeepsOthers V V' := by rw [← hV']; exact ((((KeepsOthers.setCell _ _ _).trans (KeepsOthers.setCell _ _ _)).trans (KeepsOthers.drew _)).trans (KeepsOthers.drew _)).trans (KeepsOthers.drew _)
    have hoth : ∀ b o, b ≠ g → V'.cell? ⟨b, o, none⟩ = V.cell? ⟨b, o, none⟩ := by
      intro b o hb
      rw [← hV']
      show World.cell? ((V.setCell _ _).setCell _ _) _ = _
      rw [cell_other _ _ _ _ hb, cell_other _ _ _ _ hb]
    have hheap : V'.heap[go]? = V.heap[go]? := by
      rw [← hV']
      exact (Below.heap_setCell _ _ _ go (by show go ≠ g; omega)).trans (Below.heap_setCell V ⟨g, j, none⟩ _ go (by show go ≠ g; omega))
    have hbe : Below base V V' := by rw [← hV']; exact ((((Below.refl base V).setCell (p := ⟨g, j, none⟩) hgV.2 _).setCell (p := ⟨g, i, none⟩) hgV.2 _).drew).drew.drew
    rw [hV'] at ho ⊢
    refine ⟨hko, hoth _ _ (by omega), ho, Q2.out.sameBlock hheap, Q3.out.trans hbe, (hoth _ _ (by omega)).trans q4, (hoth _ _ (by omega)).trans q5, (hoth _ _ (by omega)).trans q6⟩

/-- **join**: one step of lifting undone on the first 2m numbers of an owned slice; nothing older than base is written. -/
theorem join_any (base g N cap m : Nat) (ys : List Int) (w : World) (h1 : 1 ≤ m) (h2 : m ≤ 128) (hN : 2 * m ≤ ys.length) (hB : base ≤ w.heap.size) (hO : OwnI w base (.slice (some ⟨g, 0, none⟩) N cap) ys) :
    Calls Try.prog 73 #[.slice (some ⟨g, 0, none⟩) (2 * m) (2 * m)] w fun e w' =>
      (∃ v, e = .returned v) ∧ OwnI w' base (.slice (some ⟨g, 0, none⟩) N cap) (joinL m ys) ∧ Below base w w' :=
  callsIn_wide.1 (join_in base g N cap m ys w 4 (by omega) h1 h2 hN hB hO)
end Go.Proofs.Ytibopjfmcdcgbaa
