
/- Lifting: halves rounded down, halves of a slice, one step of lifting: contracts. -/
import Derived.Test.YtacbciamehchjaaTrans
import Derived.BigQuiet
import Derived.Deep.QuietTactic
namespace Go.Proofs.Ytacbciamehchjaa
open Go.RowKit Go.Shelf
attribute [local go_sem] Oper.semAt_some

theorem halfDown_any (n : Int) (w : World) : Calls Try.prog 77 #[.int .i64 n] w fun e w' => e = .returned (.int .i64 (n / 2)) ∧ w = w' := by
  go_enter Try.func77, Try.ntmps77
  go_wp2
  go_ret
  exact ⟨ret_i64 (by simp), rfl⟩

theorem halves_any (g off m : Nat) (w : World) (h1 : 1 ≤ m) (h2 : m ≤ 65536) :
    Calls Try.prog 76 #[.slice (some ⟨g, off, none⟩) (2 * m) (2 * m)] w fun e w' =>
      e = .returned (.tuple #[.slice (some ⟨g, off, none⟩) m m, .slice (some ⟨g, off + m, none⟩) m m]) ∧ Below w.heap.size w w' := by
  go_enter Try.func76, Try.ntmps76
  go_wp2
  go_quiet (fail)
  go_wp2
  go_ret2
  have e : 2 * m - m = m := by omega
  exact ⟨by simp [e], below_drewN (Below.refl _ _) _⟩

/-- One pair of a lift: the halved sum at its half, the difference behind. -/
def splitP (old : List Int) (m : Nat) (ys : List Int) (p : Nat × Nat) : List Int :=
  (ys.set (p.1 / 2) (IntKind.i64.wrap (old[p.1]?.getD 0 + old[p.2]?.getD 0) / 2)).set (m + p.1 / 2) (IntKind.i64.wrap (old[p.1]?.getD 0 - old[p.2]?.getD 0))
def splits {N : Nat} (old : List Int) (m : Nat) (ys : List Int) (ps : List (PN N)) : List Int := ps.foldl (fun ys p => splitP old m ys p.1) ys
def splitL (m : Nat) (ys : List Int) : List Int := splits (ys.take (2 * m)) m ys (pairsTo (2 * m) 1 (2 * m))
theorem splitP_length (old : List Int) (m : Nat) (ys : List Int) (p : Nat × Nat) : (splitP old m ys p).length = ys.length := by simp [splitP]
theorem splits_length {N : Nat} (old : List Int) (m : Nat) (ps : List (PN N)) : ∀ ys : List Int, (splits old m ys ps).length = ys.length := by
  induction ps with
  | nil => intro ys; rfl
  | cons p ps ih => intro ys; show (splits old m (splitP old m ys p.1) ps).length = _; rw [ih, splitP_length]
theorem splits_snoc {N : Nat} (old : List Int) (m : Nat) (ys : List Int) (ps : List (PN N)) (p : PN N) : splits old m ys (ps ++ [p]) = splitP old m (splits old m ys ps) p.1 := by simp [splits]

theorem or_one : ∀ k : Nat, k < 256 → k &&& 1 = 0 → k < k ||| 1 ∧ k ||| 1 = k + 1 := by decide +kernel
theorem pairs_one {m : Nat} (h : m ≤ 128) : ∀ k, k < 2 * m → k &&& 1 = 0 → k < k ||| 1 ∧ k ||| 1 < 2 * m := by
  intro k hk hz
  obtain ⟨h1, h2⟩ := or_one k (by omega) hz
  have : k % 2 = 0 := by rw [← Nat.and_one_is_mod]; exact hz
  exact ⟨h1, by omega⟩

set_option maxRecDepth 100000 in
set_option maxHeartbeats 2000000 in
theorem split_in (base g N cap m : Nat) (ys : List Int) (w : World) (n : Nat) (hn : 4 ≤ n) (h1 : 1 ≤ m) (h2 : m ≤ 128) (hN : 2 * m ≤ ys.length) (hB : base ≤ w.heap.size) (hO : OwnI w base (.slice (some ⟨g, 0, none⟩) N cap) ys) :
    CallsIn Fence.wide n Try.prog 57 #[.slice (some ⟨g, 0, none⟩) (2 * m) (2 * m)] w fun e w' =>
      (∃ v, e = .returned v) ∧ OwnI w' base (.slice (some ⟨g, 0, none⟩) N cap) (splitL m ys) ∧ Below base w w' := by
  have hgw := hO.lt
  have hs : Sl w (some ⟨g, 0, none⟩) (ys.take (2 * m)) := by
    intro k hk
    have hk' : k < 2 * m := by simp at hk; omega
    have := (hO.cell (j := k) (by omega)).1
    exact ⟨g, 0, rfl, by rw [Nat.zero_add, this]; simp [hk']⟩
  have hl : (ys.take (2 * m)).length = 2 * m := by simp; omega
  have HO := Lib.hid hO; clear hO
  have hn1 : 1 ≤ n := by omega
  have HC := Lib.hid (clone_any g 0 (ys.take (2 * m)) (2 * m) w (by omega) (by omega) hs)
  rw [hl] at HC
  clear hs
  have HL := Lib.hid hl; clear hl
  refine callsIn_of_wp_marks Try.func57 rfl trivial ?_ rfl
  simp only [Try.ntmps57, List.size_toArray, List.length_cons, List.length_nil, Nat.reduceAdd, Nat.reduceSub, Array.replicate_succ, Array.replicate_zero, List.push_toArray, List.append_toArray, List.nil_append, List.cons_append]
  gi_wp2_with (first
    | (refine ⟨trivial, ?_⟩; gi_at_call 56; refine (callsIn_wide.2 HC.out).mono ?_; rintro e w1 ⟨go, capo, rfl, ho, hb⟩; have HOO := Lib.hid ho; clear ho; have HB1 := Lib.hid hb; clear hb)
    | (refine ⟨trivial, ?_⟩; gi_at_call 76; refine (callsIn_wide.2 (halves_any g 0 m _ h1 (by omega))).mono ?_; rintro e w2 ⟨rfl, hb2⟩; have hbo : w2.cell? ⟨w1.heap.size, 0, none⟩ = some (.slice (some ⟨go, 0, none⟩) (2 * m) capo) := (hb2.cell (p := ⟨w1.heap.size, 0, none⟩) (by simp)).trans (by simp); have hs2 := hb2.size; rw [World.size_alloc] at hs2; have hs3 : w1.heap.size < w2.heap.size := hs2; have hs4 : w1.heap.size < w2.heap.size + 1 := (by omega); have HB2 := Lib.hid hb2; clear hb2)
    | (refine ⟨trivial, ?_⟩; gi_at_call 75; refine (callsIn_wide.2 (pairs_any (2 * m) 1 _)).mono ?_; rintro e w3 ⟨rfl, rfl⟩))
  obtain ⟨V0, hV0⟩ : ∃ V0, ((((w2.alloc (.cells #[.slice (some ⟨g, 0, none⟩) m m] 22)).alloc (.cells #[.slice (some ⟨g, m, none⟩) m m] 22)).alloc (.cells #[.int .i64 (2 * (m : Int))] 3)).alloc (.cells #[.int .i64 1] 3)) = V0 := ⟨_, rfl⟩
  have hsz : V0.heap.size = w2.heap.size + 4 := by rw [← hV0]; simp
  have hBV : Below w2.heap.size w2 V0 := by rw [← hV0]; exact ((((Below.refl _ _).alloc (Nat.le_refl _) _).alloc (by simp) _).alloc (by simp; omega) _).alloc (by simp; omega) _
  have hc1 : V0.cell? ⟨w2.heap.size + 2, 0, none⟩ = some (.int .i64 ((2 * m : Nat) : Int)) := by rw [← hV0]; exact cell_of_heap (heap4 w2 _ _ _ _).2.2.1 0
  have hc2 : V0.cell? ⟨w2.heap.size + 3, 0, none⟩ = some (.int .i64 ((1 : Nat) : Int)) := by rw [← hV0]; exact cell_of_heap (heap4 w2 _ _ _ _).2.2.2 0
  have hc3 : V0.cell? ⟨w2.heap.size, 0, none⟩ = some (.slice (some ⟨g, 0, none⟩) m m) := by rw [← hV0]; exact cell_of_heap (heap4 w2 _ _ _ _).1 0
  have hc4 : V0.cell? ⟨w2.heap.size + 1, 0, none⟩ = some (.slice (some ⟨g, m, none⟩) m m) := by rw [← hV0]; exact cell_of_heap (heap4 w2 _ _ _ _).2.1 0
  have hc5 : V0.cell? ⟨w1.heap.size, 0, none⟩ = some (.slice (some ⟨go, 0, none⟩) (2 * m) capo) := (hBV.cell (p := ⟨w1.heap.size, 0, none⟩) (cell_lt hbo)).trans hbo
  have hB12 : Below w1.heap.size w1 w2 := (((Below.refl _ _).alloc (Nat.le_refl _) _).trans (HB2.out.mono (by simp)))
  have hBw2 : Below w.heap.size w w2 := HB1.out.trans (hB12.mono HB1.out.size)
  have hBwV : Below w.heap.size w V0 := hBw2.trans (hBV.mono hBw2.size)
  have hO0 : OwnI V0 base (.slice (some ⟨g, 0, none⟩) N cap) ys := HO.out.below hBwV
  have hO1 : OwnI V0 w.heap.size (.slice (some ⟨go, 0, none⟩) (2 * m) capo) (ys.take (2 * m)) := (HOO.out.below hB12).below hBV
  have hgo := HOO.out.lt
  have hbase : Below base w V0 := hBwV.mono hB
  have hszw := hBw2.size
  rw [hV0]
  refine wpIn_rangeFunc_ownF rfl hn1 (gf := 96) (lb := #[.pointer (some ⟨w2.heap.size + 2, 0, none⟩), .pointer (some ⟨w2.heap.size + 3, 0, none⟩)]) rfl trivial (enters_of Try.func96 (by kernel_rfl) rfl)
    (pairs_stops Fence.wide (n - 1) trivial rfl (by omega) (w2.heap.size + 2) (w2.heap.size + 3) (2 * m) 1 (by omega) (by omega) (pairs_one h2) V0 hc1 hc2) keepC_t (keepC_b (by omega)) (Below.refl _ _) (fun _ => rfl)
    (fun pre V => OwnI V base (.slice (some ⟨g, 0, none⟩) N cap) (splits (ys.take (2 * m)) m ys pre) ∧ OwnI V w.heap.size (.slice (some ⟨go, 0, none⟩) (2 * m) capo) (ys.take (2 * m)) ∧ Below base w V ∧ V.cell? ⟨w1.heap.size, 0, none⟩ = some (.slice (some ⟨go, 0, none⟩) (2 * m) capo) ∧ V.cell? ⟨w2.heap.size, 0, none⟩ = some (.slice (some ⟨g, 0, none⟩) m m) ∧ V.cell? ⟨w2.heap.size + 1, 0, none⟩ = some (.slice (some ⟨g, m, none⟩) m m))
    (fun _ _ _ => False) ?hI (fun _ _ _ _ _ hs _ _ => hs) ⟨hO0, hO1, hbase, hc5, hc3, hc4⟩
    (fun x => { tmps := #[Value.slice (some { block := g, off := 0 }) (2 * m) (2 * m), undef, Value.pointer (some { block := w1.heap.size, off := 0 }), Value.pointer (some { block := w2.heap.size, off := 0 }), Value.pointer (some { block := w2.heap.size + 1, off := 0 }), .int .i64 (x.1.1 : Int), .int .i64 (x.1.2 : Int), undef, undef, Value.slice (some { block := g, off := 0 }) (2 * m) (2 * m), Value.slice (some { block := go, off := 0 }) (2 * m) capo, Value.tuple #[Value.slice (some { block := g, off := 0 }) m m, Value.slice (some { block := g, off := m }) m m], Value.slice (some { block := g, off := 0 }) (2 * m) (2 * m), Value.tuple #[Value.slice (some { block := g, off := 0 }) m m, Value.slice (some { block := g, off := m }) m m], Value.slice (some { block := g, off := 0 }) m m, Value.slice (some { block := g, off := m }) m m, Value.slice (some { block := go, off := 0 }) (2 * m) capo, Value.int IntKind.i64 (2 * ↑m), Value.func (Fn.func 96) #[] #[Value.pointer (some { block := w2.heap.size + 1 + 1, off := 0 }), Value.pointer (some { block := w2.heap.size + 1 + 1 + 1, off := 0 })], .int .i64 (x.1.1 : Int), .int .i64 (x.1.2 : Int), undef, undef, undef, undef, undef, undef, undef, undef, undef, undef, undef, undef, undef, undef, undef, undef, undef, undef, undef, undef, undef, undef, undef], defers := [] }) ?assign ?body ?done ?stop
  case hI =>
    intro pre A C row hs hg hr
    obtain ⟨q1, q2, q3, q4, q5, q6⟩ := hs
    refine ⟨q1.kept hg (.inr fun e => ?_), q2.kept hg (.inr fun e => ?_), q3.grown hg (by have := q3.size; omega) (fun r e => by have := (hr r e).1; omega), cell_kept q4 hg (fun r e => (hr r e).2), cell_kept q5 hg (fun r e => (hr r e).2), cell_kept q6 hg (fun r e => (hr r e).2)⟩
    · have := (hr g e.symm).1; omega
    · have := (hr go e.symm).1; omega
  case stop => rintro D c pre V _ _ h _; exact h.elim
  case assign =>
    intro l x V K hK
    gi_wp2
    exact hK
  case done =>
    rintro D xs V hD rfl ⟨q1, q2, q3, q4, q5, q6⟩ hK
    gi_wp2
    refine ⟨by simp, .inl ⟨_, _, rfl, run_takeDeferred hK, ?_⟩⟩
    exact ⟨_, results_none rfl _ _ _, ⟨_, rfl⟩, q1.putObj _ hK rfl, q3.grown (grownBy_putObj' V D _) (by have := q3.size; omega) (fun r e => by cases e; omega)⟩
  case body =>
    rintro l pre x V ⟨q1, q2, q3, q4, q5, q6⟩ _
    obtain ⟨⟨i, j⟩, hi, hj⟩ := x
    have hsn := splits_snoc (ys.take (2 * m)) m ys pre ⟨(i, j), hi, hj⟩
    have hln : (splits (ys.take (2 * m)) m ys pre).length = ys.length := splits_length _ _ _ _
    dsimp only at hi hj
    have hlt := HL.out
    obtain ⟨ci, _⟩ := q2.cell (j := i) (by omega)
    obtain ⟨cj, _⟩ := q2.cell (j := j) (by omega)
    obtain ⟨ca, fa⟩ := q1.cell (j := i / 2) (by omega)
    obtain ⟨cb, fb⟩ := q1.cell (j := m + i / 2) (by omega)
    rw [show splitP (ys.take (2 * m)) m (splits (ys.take (2 * m)) m ys pre) (i, j) = ((splits (ys.take (2 * m)) m ys pre).set (i / 2) (IntKind.i64.wrap ((ys.take (2 * m))[i]?.getD 0 + (ys.take (2 * m))[j]?.getD 0) / 2)).set (m + i / 2) (IntKind.i64.wrap ((ys.take (2 * m))[i]?.getD 0 - (ys.take (2 * m))[j]?.getD 0)) from rfl] at hsn
    have HSN := Lib.hid hsn; clear hsn
    generalize (ys.take (2 * m))[i]?.getD 0 = yi at ci HSN
    generalize (ys.take (2 * m))[j]?.getD 0 = yj at cj HSN
    generalize (splits (ys.take (2 * m)) m ys pre)[i / 2]?.getD 0 = za at ca
    generalize (splits (ys.take (2 * m)) m ys pre)[m + i / 2]?.getD 0 = zb at cb
    have Q1 := Lib.hid q1; clear q1
    have Q2 := Lib.hid q2; clear q2
    have Q3 := Lib.hid q3; clear q3
    have hgV := Q1.out.lt
    clear hc1 hc2 hc3 hc4 hc5 hBV hB12 hBw2 hBwV hO0 hO1 hbase hV0 hlt hln hbo
    have hi2 : i / 2 < m := by omega
    have hi3 : (0 : Int) ≤ (i : Int) / 2 := by omega
    have hi4 : (i : Int) / 2 < (m : Int) := by omega
    have hj2 : j < 2 * m := hj
    have hwr : IntKind.i64.wrap ((i : Int) / 2) = (i : Int) / 2 := IntWalk.i64_in _ (by omega)
    have htn : ((i : Int) / 2).toNat = i / 2 := by omega
    have hi5 : (i : Int) < 2 * (m : Int) := by omega
    have hj5 : (j : Int) < 2 * (m : Int) := by omega
    have hil : i < 2 * m := by omega
    have hne : ¬ m + i / 2 = i / 2 := by omega
    have hne' : ¬ i / 2 = m + i / 2 := by omega
    have e1 : ¬ g = w1.heap.size := by omega
    have e2 : ¬ g = w2.heap.size := by omega
    have e3 : ¬ g = w2.heap.size + 1 := by omega
    have e4 : ¬ w1.heap.size = g := by omega
    have e5 : ¬ w2.heap.size = g := by omega
    have e6 : ¬ w2.heap.size + 1 = g := by omega
    gi_wp2
    refine wpIn_region_G_round (S := fun _ W => W.cell? ⟨w1.heap.size, 0, none⟩ = some (.slice (some ⟨go, 0, none⟩) (2 * m) capo) ∧ W.cell? ⟨go, i, none⟩ = some (.int .i64 yi) ∧ W.cell? ⟨go, j, none⟩ = some (.int .i64 yj)) (by kernel_rfl) (by kernel_rfl) ?hq ⟨q4, ci, cj⟩ (fun hc hS => ?_)
    case hq => rintro ⟨_, _, h⟩; exact h
    refine wpAnyG_take (i := 0) (oi := ?oi5x0) (v := ?v5x0) ?hi5x0 (by kernel_rfl) (by kernel_rfl) (by kernel_rfl) ?hQ5x0 (fun _ _ => Iff.rfl) hc ?hy5x0 hS ?rest5x0
    case hi5x0 => (simp only [List.getElem?_toArray, List.getElem?_cons_zero]; exact rfl)
    case hQ5x0 => exact fun _ _ _ h => h
    case hy5x0 => (refine Or.inl ⟨rfl, ?_⟩; (rintro w ⟨L, _, _, q0, q1, q2⟩; go_simp; (try with_reducible rfl)))
    clear hc hS; intro hc hS
    simp only [Act.put, List.setIfInBounds_toArray, List.set_cons_zero, List.set_cons_succ]
    refine wpAnyG_take (i := 1) (oi := ?oi5x1) (v := ?v5x1) ?hi5x1 (by kernel_rfl) (by kernel_rfl) (by kernel_rfl) ?hQ5x1 (fun _ _ => Iff.rfl) hc ?hy5x1 hS ?rest5x1
    case hi5x1 => (simp only [List.getElem?_toArray, List.getElem?_cons_succ, List.getElem?_cons_zero]; exact rfl)
    case hQ5x1 => exact fun _ _ _ h => h
    case hy5x1 => (refine Or.inl ⟨rfl, ?_⟩; (intro w _; go_simp; (try with_reducible rfl)))
    clear hc hS; intro hc hS
    simp only [Act.put, List.setIfInBounds_toArray, List.set_cons_zero, List.set_cons_succ]
    refine wpAnyG_take (i := 2) (oi := ?oi5x2) (v := ?v5x2) ?hi5x2 (by kernel_rfl) (by kernel_rfl) (by kernel_rfl) ?hQ5x2 (fun _ _ => Iff.rfl) hc ?hy5x2 hS ?rest5x2
    case hi5x2 => (simp only [List.getElem?_toArray, List.getElem?_cons_succ, List.getElem?_cons_zero]; exact rfl)
    case hQ5x2 => exact fun _ _ _ h => h
    case hy5x2 => (refine Or.inl ⟨rfl, ?_⟩; (intro w _; go_simp; (try with_reducible rfl)))
    clear hc hS; intro hc hS
    simp only [Act.put, List.setIfInBounds_toArray, List.set_cons_zero, List.set_cons_succ]
    refine wpAnyG_take (i := 3) (oi := ?oi5x3) (v := ?v5x3) ?hi5x3 (by kernel_rfl) (by kernel_rfl) (by kernel_rfl) ?hQ5x3 (fun _ _ => Iff.rfl) hc ?hy5x3 hS ?rest5x3
    case hi5x3 => (simp only [List.getElem?_toArray, List.getElem?_cons_succ, List.getElem?_cons_zero]; exact rfl)
    case hQ5x3 => exact fun _ _ _ h => h
    case hy5x3 => (refine Or.inl ⟨rfl, ?_⟩; (rintro w ⟨L, _, _, q0, q1, q2⟩; go_simp; (try with_reducible rfl)))
    clear hc hS; intro hc hS
    simp only [Act.put, List.setIfInBounds_toArray, List.set_cons_zero, List.set_cons_succ]
    refine wpAnyG_take (i := 4) (oi := ?oi5x4) (v := ?v5x4) ?hi5x4 (by kernel_rfl) (by kernel_rfl) (by kernel_rfl) ?hQ5x4 (fun _ _ => Iff.rfl) hc ?hy5x4 hS ?rest5x4
    case hi5x4 => (simp only [List.getElem?_toArray, List.getElem?_cons_succ, List.getElem?_cons_zero]; exact rfl)
    case hQ5x4 => exact fun _ _ _ h => h
    case hy5x4 => (refine Or.inl ⟨rfl, ?_⟩; (rintro w ⟨L, _, _, q0, q1, q2⟩; go_simp; (try with_reducible rfl)))
    clear hc hS; intro hc hS
    simp only [Act.put, List.setIfInBounds_toArray, List.set_cons_zero, List.set_cons_succ]
    refine wpAnyG_take (i := 5) (oi := ?oi5x5) (v := ?v5x5) ?hi5x5 (by kernel_rfl) (by kernel_rfl) (by kernel_rfl) ?hQ5x5 (fun _ _ => Iff.rfl) hc ?hy5x5 hS ?rest5x5
    case hi5x5 => (simp only [List.getElem?_toArray, List.getElem?_cons_succ, List.getElem?_cons_zero]; exact rfl)
    case hQ5x5 => exact fun _ _ _ h => h
    case hy5x5 => (refine Or.inl ⟨rfl, ?_⟩; (intro w _; go_simp; (try with_reducible rfl)))
    clear hc hS; intro hc hS
    simp only [Act.put, List.setIfInBounds_toArray, List.set_cons_zero, List.set_cons_succ]
    refine wpAnyG_take (i := 6) (oi := ?oi5x6) (v := ?v5x6) ?hi5x6 (by kernel_rfl) (by kernel_rfl) (by kernel_rfl) ?hQ5x6 (fun _ _ => Iff.rfl) hc ?hy5x6 hS ?rest5x6
    case hi5x6 => (simp only [List.getElem?_toArray, List.getElem?_cons_succ, List.getElem?_cons_zero]; exact rfl)
    case hQ5x6 => exact fun _ _ _ h => h
    case hy5x6 => (refine Or.inl ⟨rfl, ?_⟩; (intro w _; go_simp; (try with_reducible rfl)))
    clear hc hS; intro hc hS
    simp only [Act.put, List.setIfInBounds_toArray, List.set_cons_zero, List.set_cons_succ]
    refine wpAnyG_take (i := 7) (oi := ?oi5x7) (v := ?v5x7) ?hi5x7 (by kernel_rfl) (by kernel_rfl) (by kernel_rfl) ?hQ5x7 (fun _ _ => Iff.rfl) hc ?hy5x7 hS ?rest5x7
    case hi5x7 => (simp only [List.getElem?_toArray, List.getElem?_cons_succ, List.getElem?_cons_zero]; exact rfl)
    case hQ5x7 => exact fun _ _ _ h => h
    case hy5x7 => (refine Or.inl ⟨rfl, ?_⟩; (rintro w ⟨L, _, _, q0, q1, q2⟩; go_simp; (try with_reducible rfl)))
    clear hc hS; intro hc hS
    simp only [Act.put, List.setIfInBounds_toArray, List.set_cons_zero, List.set_cons_succ]
    refine wpAnyG_take (i := 8) (oi := ?oi5x8) (v := ?v5x8) ?hi5x8 (by kernel_rfl) (by kernel_rfl) (by kernel_rfl) ?hQ5x8 (fun _ _ => Iff.rfl) hc ?hy5x8 hS ?rest5x8
    case hi5x8 => (simp only [List.getElem?_toArray, List.getElem?_cons_succ, List.getElem?_cons_zero]; exact rfl)
    case hQ5x8 => exact fun _ _ _ h => h
    case hy5x8 => (refine Or.inl ⟨rfl, ?_⟩; (intro w _; go_simp; (try with_reducible rfl)))
    clear hc hS; intro hc hS
    simp only [Act.put, List.setIfInBounds_toArray, List.set_cons_zero, List.set_cons_succ]
    refine wpAnyG_take (i := 9) (oi := ?oi5x9) (v := ?v5x9) ?hi5x9 (by kernel_rfl) (by kernel_rfl) (by kernel_rfl) ?hQ5x9 (fun _ _ => Iff.rfl) hc ?hy5x9 hS ?rest5x9
    case hi5x9 => (simp only [List.getElem?_toArray, List.getElem?_cons_succ, List.getElem?_cons_zero]; exact rfl)
    case hQ5x9 => exact fun _ _ _ h => h
    case hy5x9 => (refine Or.inl ⟨rfl, ?_⟩; (intro w _; go_simp; (try with_reducible rfl)))
    clear hc hS; intro hc hS
    simp only [Act.put, List.setIfInBounds_toArray, List.set_cons_zero, List.set_cons_succ]
    refine wpAnyG_done (by kernel_rfl) ?_ _
    clear hc hS
    gi_wp2
    refine wpIn_region_G_round (S := fun _ W => W.cell? ⟨w2.heap.size, 0, none⟩ = some (.slice (some ⟨g, 0, none⟩) m m)) (by kernel_rfl) (by kernel_rfl) ?hq6 q5 (fun hc hS => ?_)
    case hq6 => rintro ⟨_, _, h⟩; exact h
    refine wpAnyG_take (i := 0) (oi := ?oi6x0) (v := ?v6x0) ?hi6x0 (by kernel_rfl) (by kernel_rfl) (by kernel_rfl) ?hQ6x0 (fun _ _ => Iff.rfl) hc ?hy6x0 hS ?rest6x0
    case hi6x0 => (simp only [List.getElem?_toArray, List.getElem?_cons_zero]; exact rfl)
    case hQ6x0 => exact fun _ _ _ h => h
    case hy6x0 => (refine Or.inl ⟨rfl, ?_⟩; (rintro w ⟨L, _, _, q0⟩; go_simp; (try with_reducible rfl)))
    clear hc hS; intro hc hS
    simp only [Act.put, List.setIfInBounds_toArray, List.set_cons_zero, List.set_cons_succ]
    refine wpAnyG_take (i := 1) (oi := ?oi6x1) (v := ?v6x1) ?hi6x1 (by kernel_rfl) (by kernel_rfl) (by kernel_rfl) ?hQ6x1 (fun _ _ => Iff.rfl) hc ?hy6x1 hS ?rest6x1
    case hi6x1 => (simp only [List.getElem?_toArray, List.getElem?_cons_succ, List.getElem?_cons_zero]; exact rfl)
    case hQ6x1 => exact fun _ _ _ h => h
    case hy6x1 => (refine Or.inl ⟨rfl, ?_⟩; (intro w _; go_simp; (try with_reducible rfl)))
    clear hc hS; intro hc hS
    simp only [Act.put, List.setIfInBounds_toArray, List.set_cons_zero, List.set_cons_succ]
    refine wpAnyG_take (i := 2) (oi := ?oi6x2) (v := ?v6x2) ?hi6x2 (by kernel_rfl) (by kernel_rfl) (by kernel_rfl) ?hQ6x2 (fun _ _ => Iff.rfl) hc ?hy6x2 hS ?rest6x2
    case hi6x2 => (simp only [List.getElem?_toArray, List.getElem?_cons_succ, List.getElem?_cons_zero]; exact rfl)
    case hQ6x2 => exact fun _ _ _ h => h
    case hy6x2 => (refine Or.inl ⟨rfl, ?_⟩; (intro w _; go_simp; (try with_reducible rfl)))
    clear hc hS; intro hc hS
    simp only [Act.put, List.setIfInBounds_toArray, List.set_cons_zero, List.set_cons_succ]
    refine wpAnyG_take (i := 3) (oi := ?oi6x3) (v := ?v6x3) ?hi6x3 (by kernel_rfl) (by kernel_rfl) (by kernel_rfl) ?hQ6x3 (fun _ _ => Iff.rfl) hc ?hy6x3 hS ?rest6x3
    case hi6x3 => (simp only [List.getElem?_toArray, List.getElem?_cons_succ, List.getElem?_cons_zero]; exact rfl)
    case hQ6x3 => exact fun _ _ _ h => h
    case hy6x3 => (refine Or.inl ⟨rfl, ?_⟩; (intro w _; go_simp; (try with_reducible rfl)))
    clear hc hS; intro hc hS
    simp only [Act.put, List.setIfInBounds_toArray, List.set_cons_zero, List.set_cons_succ]
    refine wpAnyG_take (i := 4) (oi := ?oi6x4) (v := ?v6x4) ?hi6x4 (by kernel_rfl) (by kernel_rfl) (by kernel_rfl) ?hQ6x4 (fun _ _ => Iff.rfl) hc ?hy6x4 hS ?rest6x4
    case hi6x4 => (simp only [List.getElem?_toArray, List.getElem?_cons_succ, List.getElem?_cons_zero]; exact rfl)
    case hQ6x4 => exact fun _ _ _ h => h
    case hy6x4 => (refine Or.inl ⟨rfl, ?_⟩; (intro w _; go_simp; (try with_reducible rfl)))
    clear hc hS; intro hc hS
    simp only [Act.put, List.setIfInBounds_toArray, List.set_cons_zero, List.set_cons_succ]
    refine wpAnyG_take (i := 5) (oi := ?oi6x5) (v := ?v6x5) ?hi6x5 (by kernel_rfl) (by kernel_rfl) (by kernel_rfl) ?hQ6x5 (fun _ _ => Iff.rfl) hc ?hy6x5 hS ?rest6x5
    case hi6x5 => (simp only [List.getElem?_toArray, List.getElem?_cons_succ, List.getElem?_cons_zero]; exact rfl)
    case hQ6x5 => exact fun _ _ _ h => h
    case hy6x5 => (refine Or.inl ⟨rfl, ?_⟩; (intro w _; go_simp; (try with_reducible rfl)))
    clear hc hS; intro hc hS
    simp only [Act.put, List.setIfInBounds_toArray, List.set_cons_zero, List.set_cons_succ]
    refine wpAnyG_only (i := 6) (o := ?oi6x6) (by kernel_rfl) ?hi6x6 hc ?rest6x6
    case hi6x6 => (simp only [List.getElem?_toArray, List.getElem?_cons_succ, List.getElem?_cons_zero]; exact rfl)
    clear hc; intro hc K hK; have HK := Lib.hid hK; clear hK
    go_simp
    refine (halfDown_any _ _).mono ?_
    rintro e w4 ⟨rfl, rfl⟩
    refine HK.out _ _ hS ?_
    clear HK K hS; intro hS
    refine wpAnyG_take (i := 7) (oi := ?oi6x7) (v := ?v6x7) ?hi6x7 (by kernel_rfl) (by kernel_rfl) (by kernel_rfl) ?hQ6x7 (fun _ _ => Iff.rfl) hc ?hy6x7 hS ?rest6x7
    case hi6x7 => (simp only [List.getElem?_toArray, List.getElem?_cons_succ, List.getElem?_cons_zero]; exact rfl)
    case hQ6x7 => exact fun _ _ _ h => h
    case hy6x7 => (refine Or.inl ⟨rfl, ?_⟩; (intro w _; go_simp; (try with_reducible rfl)))
    clear hc hS; intro hc hS
    simp only [Act.put, List.setIfInBounds_toArray, List.set_cons_zero, List.set_cons_succ]
    refine wpAnyG_only (i := 8) (o := ?oi6x8) (by kernel_rfl) ?hi6x8 hc ?rest6x8
    case hi6x8 => (simp only [List.getElem?_toArray, List.getElem?_cons_succ, List.getElem?_cons_zero]; exact rfl)
    clear hc; intro hc K hK; have HK := Lib.hid hK; clear hK
    go_simp
    refine HK.out _ _ (by go_simp) ?_
    clear HK K hS; intro hS
    refine wpAnyG_done (by kernel_rfl) ?_ _
    clear hc hS
    gi_wp2
    rw [wrap_is, wrap_is]
    have ho := ((Q1.out.stored (i / 2) (IntKind.i64.wrap (yi + yj) / 2)).stored (m + i / 2) (IntKind.i64.wrap (yi - yj))).drew.drew
    rw [← HSN.out] at ho
    obtain ⟨V', hV'⟩ : ∃ V', ((V.setCell ⟨g, i / 2, none⟩ (.int .i64 (IntKind.i64.wrap (yi + yj) / 2))).setCell ⟨g, m + i / 2, none⟩ (.int .i64 (IntKind.i64.wrap (yi - yj)))).drew.drew = V' := ⟨_, rfl⟩
    have hko : KeepsOthers V V' := by rw [← hV']; exact (((KeepsOthers.setCell _ _ _).trans (KeepsOthers.setCell _ _ _)).trans (KeepsOthers.drew _)).trans (KeepsOthers.drew _)
    have hoth : ∀ b o, b ≠ g → V'.cell? ⟨b, o, none⟩ = V.cell? ⟨b, o, none⟩ := by
      intro b o hb
      rw [← hV']
      show World.cell? ((V.setCell _ _).setCell _ _) _ = _
      rw [cell_other _ _ _ _ hb, cell_other _ _ _ _ hb]
    have hheap : V'.heap[go]? = V.heap[go]? := by
      rw [← hV']
      exact (Below.heap_setCell _ _ _ go (by show go ≠ g; omega)).trans (Below.heap_setCell _ _ _ go (by show go ≠ g; omega))
    have hbe : Below base V V' := by rw [← hV']; exact ((((Below.refl base V).setCell (p := ⟨g, i / 2, none⟩) hgV.2 _).setCell (p := ⟨g, m + i / 2, none⟩) hgV.2 _).drew).drew
    rw [hV'] at ho ⊢
    refine ⟨hko, hoth _ _ (by omega), ho, Q2.out.sameBlock hheap, Q3.out.trans hbe, (hoth _ _ (by omega)).trans q4, (hoth _ _ (by omega)).trans q5, (hoth _ _ (by omega)).trans q6⟩

/-- **split**: one step of lifting on the first 2m numbers of an owned slice; nothing older than base is written. -/
theorem split_any (base g N cap m : Nat) (ys : List Int) (w : World) (h1 : 1 ≤ m) (h2 : m ≤ 128) (hN : 2 * m ≤ ys.length) (hB : base ≤ w.heap.size) (hO : OwnI w base (.slice (some ⟨g, 0, none⟩) N cap) ys) :
    Calls Try.prog 57 #[.slice (some ⟨g, 0, none⟩) (2 * m) (2 * m)] w fun e w' =>
      (∃ v, e = .returned v) ∧ OwnI w' base (.slice (some ⟨g, 0, none⟩) N cap) (splitL m ys) ∧ Below base w w' :=
  callsIn_wide.1 (split_in base g N cap m ys w 4 (by omega) h1 h2 hN hB hO)
end Go.Proofs.Ytacbciamehchjaa
