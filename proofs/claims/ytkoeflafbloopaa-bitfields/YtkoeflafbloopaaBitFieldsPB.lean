/- Parts of the proof of BitFields: plain words, walks and contracts, each under its own heading. -/
import Derived.Test.YtkoeflafbloopaaBitFieldsPA
import Derived.Deep.RegionLaw
import Derived.Deep.Matrix
import Derived.Deep.Fields
import Derived.Deep.Strs
import Derived.ChangeSame
import Derived.Lib.QuietBelow
/- awake, few and fit of layer 7's laws. -/
namespace Go.Proofs.Ytkoeflafbloopaa
open Go.RowKit

theorem sl_two (W : World) (ty : TypeId) : Sl (W.alloc (.cells #[.int .i64 1, .int .i64 1] ty)) (some ⟨W.heap.size, 0, none⟩) [1, 1] := by
  intro k hk
  refine ⟨W.heap.size, 0, rfl, ?_⟩
  rw [Nat.zero_add]
  match k, hk with
  | 0, _ => exact alloc_cell _ _ _ _ _ rfl
  | 1, _ => exact alloc_cell _ _ _ _ _ rfl
theorem cs_one (W : World) (A : Nat) (ty : TypeId) (hs : Sl W (some ⟨A, 0, none⟩) [1, 1]) : Cs (W.alloc (.cells #[.slice (some ⟨A, 0, none⟩) 2 2, .int .i64 1, .int .i64 1] ty)) (some ⟨W.heap.size, 0, none⟩) [([1, 1], 1, 1)] := by
  intro j c hj
  match j, hj with
  | 0, hj =>
    simp at hj; subst hj
    exact ⟨W.heap.size, 0, some ⟨A, 0, none⟩, 2, rfl, alloc_cell _ _ _ _ _ rfl, alloc_cell _ _ _ _ _ rfl, alloc_cell _ _ _ _ _ rfl, hs.below ((Below.refl _ _).alloc (Nat.le_refl _) _)⟩
theorem count_two : countV 2 1 [([1, 1], 1, 1)] = (2, 0) := by decide +kernel
theorem sight_two : sightV 2 1 [1, 1] = ((0, 2), 0) := by decide +kernel
set_option maxRecDepth 1000000 in
set_option maxHeartbeats 2000000 in
theorem awake7_any (w : World) : Calls Try.prog 12 #[] w fun e w' => e = .returned (.bool true) ∧ Below w.heap.size w w' := by
  have HCO : Hid (∀ B W, Cs W (some ⟨B, 0, none⟩) [([1, 1], 1, 1)] → Calls Try.prog 25 #[.agg #[.int .i64 2, .int .i64 1], .slice (some ⟨B, 0, none⟩) 1 1] W fun e w' => e = .returned (.tuple #[.int .i64 2, .int .i64 0]) ∧ Below W.heap.size W w') := fun B W h => by
    have k := bcount_any 2 1 (some ⟨B, 0, none⟩) [([1, 1], 1, 1)] 1 W (by simp) (fun c hc => by simp at hc; subst hc; simp) h
    rw [count_two] at k; exact k
  have HSI : Hid (∀ B W, Sl W (some ⟨B, 0, none⟩) [1, 1] → Calls Try.prog 17 #[.agg #[.int .i64 2, .int .i64 1], .slice (some ⟨B, 0, none⟩) 2 2] W fun e w' => e = .returned (.tuple #[.agg #[.int .i64 0, .int .i64 2], .int .i64 0]) ∧ Below W.heap.size W w') := fun B W h => by
    have k := bsight_any 2 1 (some ⟨B, 0, none⟩) [1, 1] 2 W (by simp) h
    rw [sight_two] at k; exact k
  obtain ⟨U1, hU1⟩ : ∃ U, w.alloc (.cells #[.int .i64 2, .int .i64 1] 23) = U := ⟨_, rfl⟩
  obtain ⟨U2, hU2⟩ : ∃ U, U1.alloc (.cells #[.int .i64 1, .int .i64 1] 3) = U := ⟨_, rfl⟩
  obtain ⟨U3, hU3⟩ : ∃ U, U2.alloc (.cells #[.slice (some ⟨U1.heap.size, 0, none⟩) 2 2, .int .i64 1, .int .i64 1] 49) = U := ⟨_, rfl⟩
  have f1 : Fb w 2 1 U1 := by rw [← hU1]; exact Fb.new _ _ _ _
  have f2 : Fb w 2 1 U2 := f1.next (by rw [← hU2]; exact (Below.refl _ _).alloc (Nat.le_refl _) _)
  have f3 : Fb w 2 1 U3 := f2.next (by rw [← hU3]; exact (Below.refl _ _).alloc (Nat.le_refl _) _)
  have HF3 := Lib.hid f3
  have HCS : Hid (Cs U3 (some ⟨U2.heap.size, 0, none⟩) [([1, 1], 1, 1)]) := by
    have h2 : Sl U2 (some ⟨U1.heap.size, 0, none⟩) [1, 1] := by rw [← hU2]; exact sl_two U1 _
    show Cs _ _ _
    rw [← hU3]; exact cs_one U2 U1.heap.size _ h2
  have HC3 := Lib.hid (HCO.out _ _ HCS.out)
  have HFW : Hid (∀ W, Fb w 2 1 W → Calls Try.prog 17 #[.agg #[.int .i64 2, .int .i64 1], .slice (some ⟨W.heap.size, 0, none⟩) 2 2] (W.alloc (.cells #[.int .i64 1, .int .i64 1] 3)) fun e w' => e = .returned (.tuple #[.agg #[.int .i64 0, .int .i64 2], .int .i64 0]) ∧ Fb w 2 1 w') := fun W h =>
    (HSI.out _ _ (sl_two W 3)).mono fun e w' ⟨k1, k2⟩ => ⟨k1, (h.next ((Below.refl _ _).alloc (Nat.le_refl _) _)).next k2⟩
  obtain ⟨z0, z1⟩ := And.intro f1.c0 f1.c1
  obtain ⟨z2, z3⟩ := And.intro f3.c0 f3.c1
  clear f1 f2 f3
  go_enter Try.func12, Try.ntmps12
  go_wp2_with (first
    | (go_at_call 25; refine HC3.out.mono ?_; rintro e w4 ⟨rfl, hb4⟩; have F4 := HF3.out.next hb4; obtain ⟨y0, y1⟩ := And.intro F4.c0 F4.c1)
    | (go_at_call 17; refine (HFW.out _ F4).mono ?_; rintro e w5 ⟨rfl, F5⟩))
  go_ret
  exact ⟨rfl, (F5.next ((Below.refl _ _).alloc (Nat.le_refl _) _)).below⟩
def fewB (p t most : Int) : Bool := if vfB p t = true then decide ((pw t.toNat p.toNat : Int) ≤ most) else true
set_option maxRecDepth 100000 in
theorem few7_any (p t most : Int) (w : World) : Calls Try.prog 10 #[.agg #[.int .i64 p, .int .i64 t], .int .i64 most] w fun e w' => e = .returned (.bool (fewB p t most)) ∧ Below w.heap.size w w' := by
  have HF := Lib.hid (Fb.new w p t 23)
  cases h : vfB p t
  · have HV := Lib.hid (show fewB p t most = true by unfold fewB; rw [h]; rfl)
    go_enter Try.func10, Try.ntmps10
    go_wp2_with (go_at_call 20; refine (rvfield_any _ _ _).mono ?_; rintro e w1 ⟨rfl, hb1⟩; have F1 := Fb.next HF.out hb1; obtain ⟨k0, k1⟩ := And.intro F1.c0 F1.c1; rw [h])
    go_ret
    exact ⟨ret_bool HV.out.symm, F1.below⟩
  · obtain ⟨P, T, rfl, rfl, hP1, hP, hT⟩ := vf_of h
    have HV := Lib.hid (show fewB P T most = decide ((pw T P : Int) ≤ most) by unfold fewB; rw [h]; simp)
    have HPB := Lib.hid (fun k (hk : k ≤ 8) => show pw T k ≤ 65536 from pow_bd (T := T) (k := k) hT hk)
    go_enter Try.func10, Try.ntmps10
    go_wp2_with (go_at_call 20; refine (rvfield_any _ _ _).mono ?_; rintro e w1 ⟨rfl, hb1⟩; have F1 := Fb.next HF.out hb1; obtain ⟨k0, k1⟩ := And.intro F1.c0 F1.c1; rw [h])
    go_loop [5, 11] (fun s i => ∃ k : Nat, k ≤ P ∧ i = .int .i64 k ∧ s = .int .i64 (pw T k : Int)) (fun _ i => P - (intOf i).toNat)
    case atStart => exact ⟨0, Nat.zero_le _, rfl, rfl⟩
    case round =>
      obtain ⟨k, hk, rfl, rfl⟩ := hrel
      by_cases hlt : k < P
      · have hb : pw T k ≤ 65536 := HPB.out k (by omega)
        have HS := Lib.hid (show pw T (k + 1) = pw T k * (T + 1) from Nat.pow_succ ..)
        generalize pw T k = A at *
        have hm1 : (A : Int) * ((T : Int) + 1) = ((A * (T + 1) : Nat) : Int) := by simp
        have hm2 : A * (T + 1) ≤ 65536 * 4 := Nat.mul_le_mul hb (by omega)
        have hm3 : IntKind.i64.wrap ((A : Int) * ((T : Int) + 1)) = ((A * (T + 1) : Nat) : Int) := by rw [hm1]; exact IntWalk.i64_in _ (by omega)
        clear hm1
        go_wp2
        all_goals go_round
        case rel => exact ⟨k + 1, by omega, by go_num, by rw [HS.out]; simp⟩
        case measure => simp [intOf]; omega
      · obtain rfl : k = P := by omega
        go_wp2
        all_goals go_ret
        all_goals exact ⟨ret_bool HV.out.symm, F1.below⟩
def fitB (cs : List Cl) : Bool := (cs.all fun c => decide (c.1.length ≤ 20)) && decide (cs.length ≤ 35)
set_option maxRecDepth 100000 in
set_option maxHeartbeats 1000000 in
theorem fit7_any (a : Option Addr) (cs : List Cl) (cap : Nat) (w : World) (hn : cs.length ≤ 9223372036854775807) (hlc : ∀ c ∈ cs, c.1.length ≤ 9223372036854775807) (hs : Cs w a cs) :
    Calls Try.prog 11 #[.slice a cs.length cap] w fun e w' => e = .returned (.bool (fitB cs)) ∧ Below w.heap.size w w' := by
  have HS := Lib.hid hs; clear hs
  have HLC := Lib.hid hlc; clear hlc
  go_enter Try.func11, Try.ntmps11
  go_wp2
  go_loopw [7] (fun i wr => ∃ k : Nat, k ≤ cs.length ∧ i = .int .i64 k ∧ (∀ (j : Nat) (y : Cl), j < k → cs[j]? = some y → y.1.length ≤ 20) ∧ Below w.heap.size w wr) (fun i _ => cs.length - (intOf i).toNat)
  case atStart => exact ⟨0, Nat.zero_le _, rfl, fun j y h => by omega, Below.refl _ _⟩
  case round =>
    obtain ⟨k, hk, rfl, hno, hb⟩ := hrel
    have HN := Lib.hid hno; clear hno
    have HB0 := Lib.hid hb; clear hb
    by_cases hlt : k < cs.length
    · obtain ⟨⟨xs, lo, hi⟩, hcc⟩ : ∃ c, cs[k]? = some c := ⟨cs[k], by simp [hlt]⟩
      obtain ⟨b, o, ra, rc, rfl, q0, q1, q2, q3⟩ := (HS.out.below HB0.out) k _ hcc
      dsimp only at q0 q1 q2
      have HCC := Lib.hid hcc
      have hxl : xs.length ≤ 9223372036854775807 := HLC.out _ (List.mem_of_getElem? hcc)
      obtain ⟨U, hU⟩ : ∃ U, wr.alloc (.cells #[.slice ra xs.length rc, .int .i64 lo, .int .i64 hi] 49) = U := ⟨_, rfl⟩
      have HB : Hid (Below wr.heap.size wr U) := by rw [← hU]; exact (Below.refl _ _).alloc (Nat.le_refl _) _
      have HBU : Hid (Below w.heap.size w U) := HB0.out.trans (HB.out.mono HB0.out.size)
      have HC : Hid (Cb wr.heap.size ra xs.length rc lo hi U) := by show Cb _ _ _ _ _ _ _; rw [← hU]; exact Cb.new _ _ _ _ _ _ _
      obtain ⟨z2, z3, z4⟩ := And.intro HC.out.c0 (And.intro HC.out.c1 HC.out.c2)
      clear q3 hcc
      by_cases hx : (20 : Int) < (xs.length : Int)
      · go_wp2
        go_ret
        have e : fitB cs = false := by
          unfold fitB
          have : (cs.all fun c => decide (c.1.length ≤ 20)) = false := by rw [List.all_eq_false]; exact ⟨_, List.mem_of_getElem? HCC.out, by simp; omega⟩
          rw [this]; rfl
        exact ⟨ret_bool e.symm, HBU.out⟩
      · go_wp2
        go_roundw
        case rel => exact ⟨k + 1, by omega, by go_num, fun j y hj hy => by
            by_cases hj' : j = k
            · subst hj'; rw [HCC.out] at hy; cases hy; show xs.length ≤ 20; omega
            · exact HN.out j y (by omega) hy, HBU.out⟩
        case measure => simp [intOf]; omega
    · have HA : Hid ((cs.all fun c => decide (c.1.length ≤ 20)) = true) := by
        show _ = _
        rw [List.all_eq_true]
        intro c hc
        obtain ⟨i, hi, rfl⟩ := List.mem_iff_getElem.1 hc
        have := HN.out i cs[i] (by omega) (List.getElem?_eq_getElem hi)
        simpa using this
      go_wp2
      all_goals go_ret
      all_goals exact ⟨ret_bool (by unfold fitB; rw [HA.out, Bool.true_and]; first | (simp; done) | (simp; omega)), HB0.out⟩
end Go.Proofs.Ytkoeflafbloopaa
/- Masks: how a slice of slices of ints reads, and how it is opened as an argument. Speaks of no function. -/
namespace Go.Proofs.Ytkoeflafbloopaa
open Go.ChangeShapes Go.WideShapes Go.ChangeAt Go.RowKit Go.Joins

theorem Below.next {n : Nat} {w w1 w2 : World} (h : Below n w w1) (h2 : Below w1.heap.size w1 w2) (hn : n ≤ w.heap.size) : Below n w w2 := h.trans (h2.mono (Nat.le_trans hn h.size))
def Ms (w : World) (a : Option Addr) (m : List (List Int)) : Prop :=
  ∀ i, i < m.length → ∃ b off ai ci, a = some ⟨b, off, none⟩ ∧ w.cell? ⟨b, off + i, none⟩ = some (.slice ai (m[i]?.getD []).length ci) ∧ Sl w ai (m[i]?.getD [])

theorem Ms.at {w : World} {a : Option Addr} {m : List (List Int)} (h : Ms w a m) {i : Nat} (hi : i < m.length) :
    ∃ b off ai r ci, a = some ⟨b, off, none⟩ ∧ w.cell? ⟨b, off + i, none⟩ = some (.slice ai r.length ci) ∧ Sl w ai r ∧ Hid (m[i]? = some r) := by
  obtain ⟨b, off, ai, ci, h1, h2, h3⟩ := h i hi
  have e : m[i]? = some m[i] := by simp [hi]
  rw [e] at h2 h3
  exact ⟨b, off, ai, m[i], ci, h1, h2, h3, e⟩
theorem Ms.below {w w' : World} {a : Option Addr} {m : List (List Int)} (h : Ms w a m) (hb : Below w.heap.size w w') : Ms w' a m := by
  intro i hi
  obtain ⟨b, off, ai, ci, h1, h2, h3⟩ := h i hi
  exact ⟨b, off, ai, ci, h1, (hb.cell (p := ⟨b, off + i, none⟩) (cell_lt h2)).trans h2, h3.below hb⟩
theorem Ms.alloc {w : World} {a : Option Addr} {m : List (List Int)} (h : Ms w a m) (o : Obj) : Ms (w.alloc o) a m := h.below ((Below.refl _ _).alloc (Nat.le_refl _) _)
theorem Ms.drew {w : World} {a : Option Addr} {m : List (List Int)} (h : Ms w a m) : Ms w.drew a m := h.below ((Below.refl _ _).drew)
def MOk (m : List (List Int)) : Prop := m.length ≤ 9223372036854775807 ∧ ∀ r ∈ m, r.length ≤ 9223372036854775807 ∧ ∀ x ∈ r, I64 x
theorem MOk.row {m : List (List Int)} (h : MOk m) {i : Nat} {r : List Int} (e : m[i]? = some r) : r.length ≤ 9223372036854775807 ∧ ∀ x ∈ r, I64 x := h.2 r (List.mem_of_getElem? e)
section
variable {H : Type} {enc : TypeId × Value → H} {P : Program} {w : World} {base : Nat} {held : Bool}
theorem addr_flat {ad : Addr} {v : Value} (h : w.cell? (ad.add 0) = some v) : ∃ b off, ad = ⟨b, off, none⟩ := by
  obtain ⟨b, off, sp⟩ := ad
  cases sp with
  | none => exact ⟨b, off, rfl⟩
  | some s =>
    have e : (⟨b, off, some s⟩ : Addr).add 0 = ⟨b, off, some s⟩ := by simp [Addr.add]
    rw [e] at h
    unfold World.cell? at h
    split at h <;> simp at h
theorem flat_add (b off k : Nat) : (⟨b, off, none⟩ : Addr).add k = ⟨b, off + k, none⟩ := by
  unfold Addr.add; split
  · subst_vars; rfl
  · rfl
end
end Go.Proofs.Ytkoeflafbloopaa
/- How cells that came in are opened. Speaks of no function. -/
namespace Go.Proofs.Ytkoeflafbloopaa
open Go.ChangeShapes Go.WideShapes Go.ChangeAt Go.RowKit Go.Joins Go.Deep

def InCells (w : World) (v : Value) (a : Option Addr) (cs : List Cl) (cap : Nat) : Prop :=
  v = .slice a cs.length cap ∧ Cs w a cs ∧ cs.length ≤ 9223372036854775807 ∧ ∀ c ∈ cs, c.1.length ≤ 9223372036854775807
section
variable {H : Type} {enc : TypeId × Value → H} {P : Program} {w : World} {base : Nat} {held : Bool}
theorem in_cells {t e q : TypeId} {f0 f1 f2 : Field} {fuel : Nat} {v : Value} {x : DataW H × List MemPlace} (ht : P.underlying t = some (.slice e)) (he : P.underlying e = some (.struct #[f0, f1, f2])) (hone : oneCellFields P #[f0, f1, f2] = true) (ce : P.cellsOf e = 3)
    (h0 : P.underlying f0.type = some (.slice q)) (hq : P.underlying q = some (.int .i64)) (cq : P.cellsOf q = 1) (h1 : P.underlying f1.type = some (.int .i64)) (h2 : P.underlying f2.type = some (.int .i64))
    (h : DataW.trod enc P w base (fun _ => true) held fuel t [v] = some x) : ∃ a cs cap, InCells w v a cs cap := by
  rcases DataW.trod_slice ht h with ⟨hcs, _⟩ | ⟨ad, len, cap, elems, rest, n, _, hcs, _, _, hl, hm, hlen, hel, _, _⟩
  · simp only [List.cons.injEq, and_true] at hcs
    exact ⟨none, [], 0, hcs, fun j p hj => by simp at hj, by simp, fun c hc => by cases hc⟩
  · simp only [List.cons.injEq, and_true] at hcs
    obtain ⟨o0, k0⟩ := hone_of hone 0 f0 rfl
    obtain ⟨o1, k1⟩ := hone_of hone 1 f1 rfl
    obtain ⟨o2, k2⟩ := hone_of hone 2 f2 rfl
    have each : ∀ i, i < len → ∃ c : Cl, ∃ ra : Option Addr, ∃ rc : Nat, w.cell? ((ad.add (i * 3)).add 0) = some (.slice ra c.1.length rc) ∧ w.cell? ((ad.add (i * 3)).add 1) = some (.int .i64 c.2.1) ∧ w.cell? ((ad.add (i * 3)).add 2) = some (.int .i64 c.2.2) ∧ Sl w ra c.1 ∧ c.1.length ≤ 9223372036854775807 := by
      intro i hi
      have hb := hel i hi
      obtain ⟨y, hy⟩ : ∃ y, elems[i]? = some y := ⟨elems[i]'(by omega), by simp [hlen, hi]⟩
      rw [hy, ce, Option.bind_eq_some_iff] at hb
      obtain ⟨cs, hc, ht2⟩ := hb
      obtain ⟨_, hcl, hce⟩ := World.cells?_some hc
      obtain ⟨y0, y1, y2, m, _, _, g0, g1, g2⟩ := trod_struct3 he ht2
      match cs, hcl with
      | [c0, c1, c2], _ =>
        simp [o0, k0] at g0
        simp [o1, k1] at g1
        simp [o2, k2] at g2
        obtain ⟨ra, xs, rc, rfl, i1, i2, _⟩ := in_ints h0 hq cq g0
        obtain ⟨lo, rfl, _⟩ := in_int h1 g1
        obtain ⟨hi2, rfl, _⟩ := in_int h2 g2
        exact ⟨(xs, lo, hi2), ra, rc, by simpa using hce 0 (by simp), by simpa using hce 1 (by simp), by simpa using hce 2 (by simp), i1, i2⟩
    obtain ⟨f, hf⟩ : ∃ f : Nat → Cl, ∀ i, i < len → ∃ ra : Option Addr, ∃ rc : Nat, w.cell? ((ad.add (i * 3)).add 0) = some (.slice ra (f i).1.length rc) ∧ w.cell? ((ad.add (i * 3)).add 1) = some (.int .i64 (f i).2.1) ∧ w.cell? ((ad.add (i * 3)).add 2) = some (.int .i64 (f i).2.2) ∧ Sl w ra (f i).1 ∧ (f i).1.length ≤ 9223372036854775807 :=
      ⟨fun i => if hi : i < len then Classical.choose (each i hi) else ([], 0, 0), fun i hi => by
        dsimp only
        rw [dif_pos hi]
        exact Classical.choose_spec (each i hi)⟩
    unfold maxLen at hm
    have hlen2 : ((List.range len).map f).length = len := by simp
    refine ⟨some ad, (List.range len).map f, cap, by rw [hlen2]; exact hcs, fun j p hj => ?_, by rw [hlen2]; omega, fun c hc => ?_⟩
    · have hjl : j < len := by have := (List.getElem?_eq_some_iff.1 hj).1; simpa using this
      have hp : f j = p := by simpa [hjl] using hj
      obtain ⟨ra0, rc0, h30, _⟩ := hf 0 (by omega)
      have e : (ad.add (0 * 3)).add 0 = ad.add 0 := by unfold Addr.add; split <;> simp_all
      rw [e] at h30
      obtain ⟨b, off, e0⟩ := addr_flat h30
      subst e0
      obtain ⟨ra, rc, h3, h4, h5, h6, _⟩ := hf j hjl
      rw [hp] at h3 h4 h5 h6
      rw [flat_add, flat_add, Nat.add_zero] at h3
      rw [flat_add, flat_add] at h4 h5
      exact ⟨b, off, ra, rc, rfl, h3, h4, h5, h6⟩
    · obtain ⟨i, hi, rfl⟩ := List.mem_map.1 hc
      obtain ⟨_, _, _, _, _, _, h7⟩ := hf i (List.mem_range.1 hi)
      exact h7
end
end Go.Proofs.Ytkoeflafbloopaa
/- BitFields: the walk. -/
namespace Go.Proofs.Ytkoeflafbloopaa.bitFields
open Go.RowKit

theorem in_sight {t : Int} {xs ys : List Int} (ht : 0 ≤ t) (h1 : okL (-1) 1 xs = true) (h2 : okL 0 t ys = true) (hl : xs.length = ys.length) : ∀ k, k ≤ xs.length → loTo t xs k ≤ prodTo xs ys k ∧ prodTo xs ys k ≤ hiTo t xs k
  | 0, _ => by simp [loTo, hiTo, prodTo]
  | k + 1, hk => by
    obtain ⟨i1, i2⟩ := in_sight ht h1 h2 hl k (by omega)
    have a := okL_get h1 (show k < xs.length by omega)
    have b := okL_get h2 (show k < ys.length by omega)
    simp only [loTo, hiTo, prodTo]
    obtain c | c | c : gt xs k = -1 ∨ gt xs k = 0 ∨ gt xs k = 1 := by omega
    · rw [c, show min (-1 : Int) 0 = -1 by decide, show max (-1 : Int) 0 = 0 by decide]; omega
    · rw [c, show min (0 : Int) 0 = 0 by decide, show max (0 : Int) 0 = 0 by decide]; omega
    · rw [c, show min (1 : Int) 0 = 0 by decide, show max (1 : Int) 0 = 1 by decide]; omega
theorem sight_ok {p t : Int} {xs ys : List Int} (h : (sumV p t xs ys).2 = 0) : (sightV p t xs).2 = 0 ∧ (sightV p t xs).1.1 ≤ (sumV p t xs ys).1 ∧ (sumV p t xs ys).1 ≤ (sightV p t xs).1.2 := by
  unfold sumV at h ⊢
  unfold sightV
  by_cases hb : browB p t xs = true
  · rw [if_pos hb] at h ⊢
    rw [if_pos hb]
    by_cases hE : shownE p t ys = 0
    · rw [if_pos hE]
      obtain ⟨_, _, h3, _, h5, h6⟩ := brow_of hb
      obtain ⟨g1, g2⟩ := shownE_of hE
      exact ⟨rfl, in_sight h3 h6 g2 (by omega) xs.length (Nat.le_refl _)⟩
    · rw [if_neg hE] at h; exact absurd h hE
  · rw [if_neg hb] at h; exact absurd h (by decide)
set_option maxRecDepth 1000000 in
set_option maxHeartbeats 3200000 in
theorem walk (x0 y0 : Int) (b1 : Option Addr) (cs1 : List Cl) (c1 : Nat) (b2 : Option Addr) (xs2 : List Int) (c2 : Nat) (b3 : Option Addr) (xs3 : List Int) (c3 : Nat) (w : World) (_rx0 : I64 x0) (_ry0 : I64 y0) (h1 : Cs w b1 cs1) (l1 : cs1.length ≤ 9223372036854775807) (r1 : ∀ c ∈ cs1, c.1.length ≤ 9223372036854775807) (h2 : Sl w b2 xs2) (l2 : xs2.length ≤ 9223372036854775807) (_r2 : ∀ x ∈ xs2, I64 x) (h3 : Sl w b3 xs3) (l3 : xs3.length ≤ 9223372036854775807) (_r3 : ∀ x ∈ xs3, I64 x) :
    Calls Try.prog 3 #[.agg #[.int .i64 x0, .int .i64 y0], .slice b1 cs1.length c1, .slice b2 xs2.length c2, .slice b3 xs3.length c3] w fun e w' => e = .returned (.bool true) ∧ Below w.heap.size w w' := by
  have HF := Lib.hid (Fb.new w x0 y0 23)
  have HAW : Hid (∀ V, Fb w x0 y0 V → Calls Try.prog 12 #[] V fun e w' => e = .returned (.bool true) ∧ Fb w x0 y0 w') := fun V h => (awake7_any V).mono fun e w' ⟨k1, k2⟩ => ⟨k1, h.next k2⟩
  have HFE : Hid (∀ V, Fb w x0 y0 V → Calls Try.prog 10 #[.agg #[.int .i64 x0, .int .i64 y0], .int .i64 5000] V fun e w' => e = .returned (.bool (fewB x0 y0 5000)) ∧ Fb w x0 y0 w') := fun V h => (few7_any x0 y0 5000 V).mono fun e w' ⟨k1, k2⟩ => ⟨k1, h.next k2⟩
  have HFI : Hid (∀ V, Fb w x0 y0 V → Calls Try.prog 11 #[.slice b1 cs1.length c1] V fun e w' => e = .returned (.bool (fitB cs1)) ∧ Fb w x0 y0 w') := fun V h => (fit7_any b1 cs1 c1 V l1 r1 (h.below_cs h1)).mono fun e w' ⟨k1, k2⟩ => ⟨k1, h.next k2⟩
  by_cases hskip : fewB x0 y0 5000 = true ∧ fitB cs1 = true ∧ ¬ (20 : Int) < (xs2.length : Int) ∧ ¬ (20 : Int) < (xs3.length : Int)
  case neg =>
    have HB2 := Lib.hid l2
    cases hfe : fewB x0 y0 5000
    · rw [hfe] at HFE
      clear h1 r1 h2 h3 hskip
      go_enter Try.func3, Try.ntmps3
      go_wp2_with (first
        | (go_at_call 10; refine (HFE.out _ HF.out).mono ?_; rintro e w1 ⟨rfl, F1⟩)
        | (go_at_call 12; refine (HAW.out _ F1).mono ?_; rintro e w2 ⟨rfl, F2⟩))
      all_goals go_ret
      all_goals exact ⟨rfl, F2.below⟩
    · rw [hfe] at HFE
      cases hfi : fitB cs1
      · rw [hfi] at HFI
        clear h1 r1 h2 h3 hskip
        go_enter Try.func3, Try.ntmps3
        go_wp2_with (first
          | (go_at_call 10; refine (HFE.out _ HF.out).mono ?_; rintro e w1 ⟨rfl, F1⟩)
          | (go_at_call 11; refine (HFI.out _ F1).mono ?_; rintro e w3 ⟨rfl, F3⟩)
          | (go_at_call 12; refine (HAW.out _ F3).mono ?_; rintro e w2 ⟨rfl, F2⟩))
        all_goals go_ret
        all_goals exact ⟨rfl, F2.below⟩
      · rw [hfi] at HFI
        by_cases hg2 : (20 : Int) < (xs2.length : Int)
        · clear h1 r1 h2 h3 hskip
          go_enter Try.func3, Try.ntmps3
          go_wp2_with (first
            | (go_at_call 10; refine (HFE.out _ HF.out).mono ?_; rintro e w1 ⟨rfl, F1⟩)
            | (go_at_call 11; refine (HFI.out _ F1).mono ?_; rintro e w3 ⟨rfl, F3⟩)
            | (go_at_call 12; refine (HAW.out _ F3).mono ?_; rintro e w2 ⟨rfl, F2⟩))
          all_goals go_ret
          all_goals exact ⟨rfl, F2.below⟩
        · have hg3 : (20 : Int) < (xs3.length : Int) := by
            by_cases h : (20 : Int) < (xs3.length : Int)
            · exact h
            · exact absurd ⟨hfe, hfi, hg2, h⟩ hskip
          clear h1 r1 h2 h3 hskip
          go_enter Try.func3, Try.ntmps3
          go_wp2_with (first
            | (go_at_call 10; refine (HFE.out _ HF.out).mono ?_; rintro e w1 ⟨rfl, F1⟩)
            | (go_at_call 11; refine (HFI.out _ F1).mono ?_; rintro e w3 ⟨rfl, F3⟩)
            | (go_at_call 12; refine (HAW.out _ F3).mono ?_; rintro e w2 ⟨rfl, F2⟩))
          all_goals go_ret
          all_goals exact ⟨rfl, F2.below⟩
  case pos =>
    obtain ⟨hfe, hfi, hg2, hg3⟩ := hskip
    rw [hfe] at HFE
    rw [hfi] at HFI
    have hcl : CLen cs1 ∧ cs1.length ≤ 1000000 := by
      unfold fitB at hfi
      simp only [Bool.and_eq_true, List.all_eq_true, decide_eq_true_eq] at hfi
      exact ⟨fun c hc => by have := hfi.1 c hc; omega, by omega⟩
    obtain ⟨⟨pa, pe⟩, hpn⟩ : ∃ r, picN x0 y0 = r := ⟨_, rfl⟩
    obtain ⟨⟨sm, se⟩, hsm⟩ : ∃ r, sumV x0 y0 xs2 xs3 = r := ⟨_, rfl⟩
    obtain ⟨⟨⟨gl, gh⟩, ge⟩, hsg⟩ : ∃ r, sightV x0 y0 xs2 = r := ⟨_, rfl⟩
    obtain ⟨vb, hvb⟩ : ∃ r, vfB x0 y0 = r := ⟨_, rfl⟩
    obtain ⟨vc, hvc⟩ : ∃ r, valsB x0 y0 cs1 = r := ⟨_, rfl⟩
    have hOK := sight_ok (p := x0) (t := y0) (xs := xs2) (ys := xs3)
    rw [hsm, hsg] at hOK
    have HOK := Lib.hid hOK
    have HP1 : Hid (∀ V, Fb w x0 y0 V → Calls Try.prog 13 #[.agg #[.int .i64 x0, .int .i64 y0]] V fun e w' => e = .returned (.tuple #[.int .i64 pa, .int .i64 pe]) ∧ Fb w x0 y0 w') := fun V h => (bpictures_any x0 y0 V).mono fun e w' ⟨k1, k2⟩ => ⟨by rw [hpn] at k1; exact k1, h.next k2⟩
    have HP2 : Hid (∀ V, Fb w x0 y0 V → Calls Try.prog 14 #[.agg #[.int .i64 x0, .int .i64 y0]] V fun e w' => e = .returned (.tuple #[.int .i64 pa, .int .i64 pe]) ∧ Fb w x0 y0 w') := fun V h => (rpicN_any x0 y0 V).mono fun e w' ⟨k1, k2⟩ => ⟨by rw [hpn] at k1; exact k1, h.next k2⟩
    have HS1 : Hid (∀ V, Fb w x0 y0 V → Calls Try.prog 15 #[.agg #[.int .i64 x0, .int .i64 y0], .slice b2 xs2.length c2, .slice b3 xs3.length c3] V fun e w' => e = .returned (.tuple #[.int .i64 sm, .int .i64 se]) ∧ Fb w x0 y0 w') := fun V h => (bsum_any x0 y0 b2 xs2 c2 b3 xs3 c3 V (by omega) (by omega) (h.sl h2) (h.sl h3)).mono fun e w' ⟨k1, k2⟩ => ⟨by rw [hsm] at k1; exact k1, h.next k2⟩
    have HS2 : Hid (∀ V, Fb w x0 y0 V → Calls Try.prog 16 #[.agg #[.int .i64 x0, .int .i64 y0], .slice b2 xs2.length c2, .slice b3 xs3.length c3] V fun e w' => e = .returned (.tuple #[.int .i64 sm, .int .i64 se]) ∧ Fb w x0 y0 w') := fun V h => (brsum_any x0 y0 b2 xs2 c2 b3 xs3 c3 V (by omega) (by omega) (h.sl h2) (h.sl h3)).mono fun e w' ⟨k1, k2⟩ => ⟨by rw [hsm] at k1; exact k1, h.next k2⟩
    have HG1 : Hid (∀ V, Fb w x0 y0 V → Calls Try.prog 17 #[.agg #[.int .i64 x0, .int .i64 y0], .slice b2 xs2.length c2] V fun e w' => e = .returned (.tuple #[.agg #[.int .i64 gl, .int .i64 gh], .int .i64 ge]) ∧ Fb w x0 y0 w') := fun V h => (bsight_any x0 y0 b2 xs2 c2 V (by omega) (h.sl h2)).mono fun e w' ⟨k1, k2⟩ => ⟨by rw [hsg] at k1; exact k1, h.next k2⟩
    have HG2 : Hid (∀ V, Fb w x0 y0 V → Calls Try.prog 18 #[.agg #[.int .i64 x0, .int .i64 y0], .slice b2 xs2.length c2] V fun e w' => e = .returned (.tuple #[.agg #[.int .i64 gl, .int .i64 gh], .int .i64 ge]) ∧ Below V.heap.size V w') := fun V h => (rsight_any x0 y0 b2 xs2 c2 V (by omega) (h.sl h2)).mono fun e w' ⟨k1, k2⟩ => ⟨by rw [hsg] at k1; exact k1, k2⟩
    have H1 := Lib.hid h1
    clear h1 r1 h2 h3 hOK hpn hsm hsg hfe hfi
    go_enter Try.func3, Try.ntmps3
    go_wp2_with (first
      | (go_at_call 10; refine (HFE.out _ HF.out).mono ?_; rintro e w1 ⟨rfl, F1⟩; obtain ⟨k0, k1⟩ := And.intro F1.c0 F1.c1)
      | (go_at_call 11; refine (HFI.out _ F1).mono ?_; rintro e w2 ⟨rfl, F2⟩; obtain ⟨k2, k3⟩ := And.intro F2.c0 F2.c1)
      | (go_at_call 13; refine (HP1.out _ F2).mono ?_; rintro e w3 ⟨rfl, F3⟩; obtain ⟨k4, k5⟩ := And.intro F3.c0 F3.c1)
      | (go_at_call 14; refine (HP2.out _ F3).mono ?_; rintro e w4 ⟨rfl, F4⟩; obtain ⟨k6, k7⟩ := And.intro F4.c0 F4.c1)
      | (go_at_call 15; refine (HS1.out _ F4).mono ?_; rintro e w5 ⟨rfl, F5⟩; obtain ⟨k8, k9⟩ := And.intro F5.c0 F5.c1)
      | (go_at_call 16; refine (HS2.out _ F5).mono ?_; rintro e w6 ⟨rfl, F6⟩; obtain ⟨m0, m1⟩ := And.intro F6.c0 F6.c1)
      | (go_at_call 17; refine (HG1.out _ F6).mono ?_; rintro e w7 ⟨rfl, F7⟩; have F8 := F7.next ((Below.refl w7.heap.size w7).alloc (Nat.le_refl _) (.cells #[.int .i64 gl, .int .i64 gh] 34)); have P8 := Bp.new w7 (.int .i64 gl) (.int .i64 gh) 34; obtain ⟨m2, m3⟩ := And.intro F8.c0 F8.c1)
      | (go_at_call 18; refine (HG2.out _ F8).mono ?_; rintro e w9 ⟨rfl, hb9⟩; have F9 := F8.next hb9; have P9 := P8.next hb9))
    obtain ⟨V, hV⟩ : ∃ V, w9.alloc (.cells #[.int .i64 gl, .int .i64 gh] 34) = V := ⟨_, rfl⟩
    have hbV : Below w9.heap.size w9 V := by rw [← hV]; exact (Below.refl _ _).alloc (Nat.le_refl _) _
    have FV := F9.next hbV
    have PV := P9.next hbV
    have QV : Bp V w9.heap.size (.int .i64 gl) (.int .i64 gh) := by rw [← hV]; exact Bp.new _ _ _ _
    have HFV := Lib.hid FV
    have HPV := Lib.hid PV
    have cA : ∀ d os, Calls Try.prog 19 #[.agg #[.int .i64 x0, .int .i64 y0]] (Sort.grow (redrawn V d) os) fun e w'' => e = .returned (.bool vb) ∧ ∃ p : Regrown, w'' = Sort.grow (redrawn V p.d) p.os := fun d os => Calls.regrown_of (by have k := vfield_any x0 y0 (Sort.grow (redrawn V d) os); rw [hvb] at k; exact k)
    have cB : ∀ d os, Calls Try.prog 20 #[.agg #[.int .i64 x0, .int .i64 y0]] (Sort.grow (redrawn V d) os) fun e w'' => e = .returned (.bool vb) ∧ ∃ p : Regrown, w'' = Sort.grow (redrawn V p.d) p.os := fun d os => Calls.regrown_of (by have k := rvfield_any x0 y0 (Sort.grow (redrawn V d) os); rw [hvb] at k; exact k)
    have cC : ∀ d os, Calls Try.prog 21 #[.agg #[.int .i64 x0, .int .i64 y0], .slice b1 cs1.length c1] (Sort.grow (redrawn V d) os) fun e w'' => e = .returned (.bool vc) ∧ ∃ p : Regrown, w'' = Sort.grow (redrawn V p.d) p.os := fun d os => Calls.regrown_of (by have k := bvalid_any x0 y0 b1 cs1 c1 (Sort.grow (redrawn V d) os) hcl.2 hcl.1 ((HFV.out.below_cs H1.out).below (below_regrown V d os)); rw [hvc] at k; exact k)
    have cD : ∀ d os, Calls Try.prog 22 #[.agg #[.int .i64 x0, .int .i64 y0], .slice b1 cs1.length c1] (Sort.grow (redrawn V d) os) fun e w'' => e = .returned (.bool vc) ∧ ∃ p : Regrown, w'' = Sort.grow (redrawn V p.d) p.os := fun d os => Calls.regrown_of (by have k := rvalid_any x0 y0 b1 cs1 c1 (Sort.grow (redrawn V d) os) hcl.2 hcl.1 ((HFV.out.below_cs H1.out).below (below_regrown V d os)); rw [hvc] at k; exact k)
    have r0 := cell_regrown FV.c0
    have r1 := cell_regrown FV.c1
    have r2 := cell_regrown PV.c0
    have r3 := cell_regrown PV.c1
    have r4 := cell_regrown QV.c0
    have r5 := cell_regrown QV.c1
    rw [hV]
    clear hV hbV F1 F2 F3 F4 F5 F6 F7 F8 F9 P8 P9 hb9 k0 k1 k2 k3 k4 k5 k6 k7 k8 k9 m0 m1 m2 m3 FV PV QV hvb hvc hcl
    refine wp_region_quiet_below (by kernel_rfl) (by kernel_rfl) ?_
    repeat (go_big_quiet_step (first | with_reducible exact cA _ _ | with_reducible exact cB _ _ | with_reducible exact cC _ _ | with_reducible exact cD _ _))
    refine wpQuiet_nil ?_
    intro w10 hw10
    have HB10 : Hid (Below V.heap.size V w10) := by
      obtain ⟨⟨d6, o6⟩, rfl⟩ := hw10
      exact below_regrown _ _ _
    have F10 := HFV.out.next HB10.out
    have P10 := HPV.out.next HB10.out
    obtain ⟨n0, n1⟩ := And.intro P10.c0 P10.c1
    clear hw10 r0 r1 r2 r3 r4 r5 cA cB cC cD P10
    by_cases hse : se = 0
    · subst hse
      obtain ⟨hge, hlo, hhi⟩ := HOK.out rfl
      subst hge
      go_wp2_with (go_at_call 12; refine (HAW.out _ F10).mono ?_; rintro e w11 ⟨rfl, F11⟩)
      all_goals go_ret
      all_goals exact ⟨rfl, F11.below⟩
    · go_wp2_with (go_at_call 12; refine (HAW.out _ F10).mono ?_; rintro e w11 ⟨rfl, F11⟩)
      all_goals go_ret
      all_goals exact ⟨rfl, F11.below⟩
end Go.Proofs.Ytkoeflafbloopaa.bitFields
