/- Parts of the proof of BitPlays: plain words, walks and contracts, each under its own heading. -/
import Derived.WalkKit
import Derived.WalkSpells
import Derived.WalkLawsBesides
import Derived.Handy
import Derived.Lib.Hide
import Derived.ProofKit
import Derived.OpenShut
import Derived.Lib.SmallJoins
import Derived.WideKeyArr2
import Derived.Test.YtoedbbpjddjbnaaProg
import Derived.Lib.SliceRun
import Derived.StillTailTactics
import Derived.StillTail
import Derived.OrdersIn
import Derived.TacticsIn
import Derived.RangeFuncCalls
import Derived.Deep.RegionHeld3
import Derived.Deep.RegionLaw
import Derived.Deep.QuietTactic
import Derived.BigQuiet
import Derived.Lib.QuietBelow
import Derived.IntWalk
import Derived.Deep.AppendLies
import Derived.Laws.OwnMore
import Derived.RangeFuncFrom
import Derived.RangeFuncBox
import Derived.RangeFuncLeaves
import Derived.RangeFuncNested
import Derived.RangeFuncBound
import Derived.Shelf.Abstract
import Derived.Shelf.RegionOpen
import Derived.OwnWalkIn
import Derived.TacticsInMore
import Derived.LoopNIn
import Derived.LoopIn
import Derived.Sort.LoopGhostIn
import Derived.BigRegionIn
/- Words and lemmas for the walks that speak of no program: how a slice of ints reads, endings, plain boolean tests of layer 1. -/
namespace Go.Proofs.Ytoedbbpjddjbnaa
open Go.RowKit

theorem ret_bool {a b : Bool} (h : a = b) : Ending.returned (.bool a) = .returned (.bool b) := by rw [h]
theorem ret_i64 {a b : Int} (h : a = b) : Ending.returned (.int .i64 a) = .returned (.int .i64 b) := by rw [h]

/-- The cells behind a slice's address read as the numbers xs. -/
def Sl (w : World) (a : Option Addr) (xs : List Int) : Prop :=
  ∀ k, k < xs.length → ∃ b off, a = some ⟨b, off, none⟩ ∧ w.cell? ⟨b, off + k, none⟩ = some (.int .i64 (xs[k]?.getD 0))

theorem Sl.at {w : World} {a : Option Addr} {xs : List Int} (h : Sl w a xs) {k : Nat} (hk : k < xs.length) :
    ∃ b off x, a = some ⟨b, off, none⟩ ∧ w.cell? ⟨b, off + k, none⟩ = some (.int .i64 x) ∧ Hid (xs[k]? = some x) := by
  obtain ⟨b, off, h1, h2⟩ := h k hk
  exact ⟨b, off, xs[k], h1, by simpa [hk] using h2, by show xs[k]? = some xs[k]; simp [hk]⟩

theorem cell_lt {w : World} {a : Addr} {v : Value} (h : w.cell? a = some v) : a.block < w.heap.size := by
  unfold World.cell? at h
  rcases Nat.lt_or_ge a.block w.heap.size with hl | hl
  · exact hl
  · simp [Array.getElem?_eq_none hl] at h

theorem Sl.below {w w' : World} {a : Option Addr} {xs : List Int} (h : Sl w a xs) (hb : Below w.heap.size w w') : Sl w' a xs := by
  intro k hk
  obtain ⟨b, off, h1, h2⟩ := h k hk
  exact ⟨b, off, h1, (hb.cell (p := ⟨b, off + k, none⟩) (cell_lt h2)).trans h2⟩
theorem Sl.alloc {w : World} {a : Option Addr} {xs : List Int} (h : Sl w a xs) (o : Obj) : Sl (w.alloc o) a xs := h.below ((Below.refl _ _).alloc (Nat.le_refl _) _)
theorem Sl.drew {w : World} {a : Option Addr} {xs : List Int} (h : Sl w a xs) : Sl w.drew a xs := h.below ((Below.refl _ _).drew)

theorem bcell {W w1 : World} (hb : Below W.heap.size W w1) : (∀ b o, b < W.heap.size → w1.cell? ⟨b, o, none⟩ = W.cell? ⟨b, o, none⟩) ∧ (∀ b o, b < W.heap.size → w1.frozen? ⟨b, o, none⟩ = W.frozen? ⟨b, o, none⟩) :=
  ⟨fun b o h => hb.cell (p := ⟨b, o, none⟩) h, fun b o h => hb.frozen (p := ⟨b, o, none⟩) h⟩

/-- Whether a number lies outside a limit's both sides. -/
def outB (lim n : Int) : Bool := decide (n < -lim) || decide (lim < n)
/-- All numbers lie within the limit. -/
def allB (lim : Int) (xs : List Int) : Bool := xs.all fun x => !outB lim x

/-- The index of the first number out of bounds, or -1. -/
def firstOut (lim : Int) (xs : List Int) : Int := match xs.findIdx? (outB lim) with | some i => (i : Int) | none => -1
theorem firstOut_hit {lim : Int} {xs : List Int} {k : Nat} {x : Int} (h : ∀ j, j < k → outB lim (xs[j]?.getD 0) = false) (hx : xs[k]? = some x) (ho : outB lim x = true) : firstOut lim xs = k := by
  have : xs.findIdx? (outB lim) = some k := by
    rw [List.findIdx?_eq_some_iff_getElem]
    have hk : k < xs.length := (List.getElem?_eq_some_iff.1 hx).1
    refine ⟨hk, ?_, ?_⟩
    · have := (List.getElem?_eq_some_iff.1 hx).2; rw [this]; exact ho
    · intro j hj
      have := h j hj
      simp [show j < xs.length by omega] at this
      simp [this]
  unfold firstOut; rw [this]
theorem firstOut_miss {lim : Int} {xs : List Int} (h : ∀ j, j < xs.length → outB lim (xs[j]?.getD 0) = false) : firstOut lim xs = -1 := by
  have : xs.findIdx? (outB lim) = none := by
    rw [List.findIdx?_eq_none_iff]
    intro x hx
    obtain ⟨j, hj, rfl⟩ := List.mem_iff_getElem.1 hx
    have := h j hj
    simpa [hj] using this
  unfold firstOut; rw [this]
theorem firstOut_allB (lim : Int) (xs : List Int) : (decide (0 ≤ firstOut lim xs)) = !allB lim xs := by
  unfold firstOut allB
  cases h : xs.findIdx? (outB lim) with
  | none =>
    rw [List.findIdx?_eq_none_iff] at h
    have : xs.all (fun x => !outB lim x) = true := by
      rw [List.all_eq_true]; intro x hx; simp [h x hx]
    rw [this]; rfl
  | some i =>
    obtain ⟨hi, h1, _⟩ := List.findIdx?_eq_some_iff_getElem.1 h
    have : xs.all (fun x => !outB lim x) = false := by
      rw [List.all_eq_false]; exact ⟨xs[i], List.getElem_mem _, by simp [h1]⟩
    rw [this]; simp
theorem allB_no {lim : Int} {xs : List Int} {k : Nat} {x : Int} (hx : xs[k]? = some x) (ho : outB lim x = true) : allB lim xs = false := by
  unfold allB; rw [List.all_eq_false]
  exact ⟨x, List.mem_of_getElem? hx, by simp [ho]⟩
theorem allB_yes {lim : Int} {xs : List Int} (h : ∀ j, j < xs.length → outB lim (xs[j]?.getD 0) = false) : allB lim xs = true := by
  unfold allB; rw [List.all_eq_true]; intro x hx
  obtain ⟨j, hj, rfl⟩ := List.mem_iff_getElem.1 hx
  have := h j hj
  simp [hj] at this
  simp [this]
theorem allB_get {lim : Int} {xs : List Int} (h : allB lim xs = true) {k : Nat} {x : Int} (hx : xs[k]? = some x) : -lim ≤ x ∧ x ≤ lim := by
  unfold allB at h; rw [List.all_eq_true] at h
  have := h x (List.mem_of_getElem? hx)
  simp [outB] at this; omega

/-- A side's range. -/
def rangeB (n lo hi : Int) : Bool := decide (lo ≤ n) && decide (n ≤ hi)
def validListB (xs : List Int) : Bool := rangeB xs.length 1 256 && allB 1000000 xs
def powB (n : Nat) : Bool := n == 1 || n == 2 || n == 4 || n == 8 || n == 16 || n == 32 || n == 64 || n == 128 || n == 256
def powerB (xs : List Int) : Bool := validListB xs && powB xs.length
def validPicB (wide high : Int) (xs : List Int) : Bool := rangeB wide 1 16 && rangeB high 1 16 && decide ((xs.length : Int) = wide * high) && allB 1000000 xs
end Go.Proofs.Ytoedbbpjddjbnaa
/- How the arguments of the statements of layer 1 are opened: slices of ints, pictures, pairs of ints, ints. Speaks of no function. -/
namespace Go.Proofs.Ytoedbbpjddjbnaa
open Go.ChangeShapes Go.WideShapes Go.ChangeAt Go.RowKit Go.Joins

/-- A whole number that an int may hold. -/
def I64 (n : Int) : Prop := -9223372036854775808 ≤ n ∧ n ≤ 9223372036854775807
theorem I64_of {n : Int} (h : (Lit.int .i64 n).wf = true) : I64 n := by
  have h1 : IntKind.i64.min = -9223372036854775808 := rfl
  have h2 : IntKind.i64.max = 9223372036854775807 := rfl
  simp only [Lit.wf, Bool.and_eq_true, decide_eq_true_eq] at h
  unfold I64; omega
/-- What a slice of ints that came in is: its address and capacity, its numbers. -/
def InInts (w : World) (v : Value) (a : Option Addr) (xs : List Int) (cap : Nat) : Prop :=
  v = .slice a xs.length cap ∧ Sl w a xs ∧ xs.length ≤ 9223372036854775807 ∧ ∀ x ∈ xs, I64 x

section
variable {H : Type} {enc : TypeId × Value → H} {P : Program} {w : World} {base : Nat} {held : Bool}
theorem in_ints {t e : TypeId} {fuel : Nat} {v : Value} {x : DataW H × List MemPlace} (ht : P.underlying t = some (.slice e)) (he : P.underlying e = some (.int .i64)) (hc : P.cellsOf e = 1)
    (h : DataW.trod enc P w base (fun _ => true) held fuel t [v] = some x) : ∃ a xs cap, InInts w v a xs cap := by
  rcases open_ints ht he hc h with ⟨hcs, _⟩ | ⟨ad, len, cap, zs, hcs, _, hl, hm, hz, _, hcell, hwf⟩
  · simp only [List.cons.injEq, and_true] at hcs
    exact ⟨none, [], 0, hcs, fun k hk => absurd hk (by simp), by simp, fun x hx => by cases hx⟩
  · simp only [List.cons.injEq, and_true] at hcs
    simp only [if_true] at hz
    unfold maxLen at hm
    have hlen : (zs.take len).length = len := by simp; omega
    refine ⟨some ad, zs.take len, cap, by rw [hlen]; exact hcs, fun k hk => ?_, by omega, fun x hx => I64_of (hwf x (List.mem_of_mem_take hx))⟩
    rw [hlen] at hk
    obtain ⟨b, off, sp⟩ := ad
    have h0 := hcell 0 (by omega)
    have hsp : sp = none := by
      cases sp with
      | none => rfl
      | some s =>
        have e : (⟨b, off, some s⟩ : Addr).add 0 = ⟨b, off, some s⟩ := by simp [Addr.add]
        rw [e] at h0
        unfold World.cell? at h0
        split at h0 <;> simp at h0
    subst hsp
    have hk' := hcell k (by omega)
    have e : (⟨b, off, none⟩ : Addr).add k = ⟨b, off + k, none⟩ := by
      unfold Addr.add; split
      · subst_vars; rfl
      · rfl
    rw [e] at hk'
    refine ⟨b, off, rfl, ?_⟩
    rw [hk']
    simp [hk, List.getD]
theorem in_int {t : TypeId} {fuel : Nat} {v : Value} {x : DataW H × List MemPlace} {spare : Nat → Bool} (ht : P.underlying t = some (.int .i64)) (h : DataW.trod enc P w base spare held fuel t [v] = some x) : ∃ n, v = .int .i64 n ∧ I64 n := by
  obtain ⟨n, e, _, wf⟩ := DataW.trod_int ht h
  simp only [List.cons.injEq, and_true] at e
  exact ⟨n, e, I64_of wf⟩
theorem in_pair {k e : TypeId} {r : Reach} {b0 : Nat} {v : Value} {d : DataW H} {p : List MemPlace} {spare : Nat → Bool} (hk : P.underlying k = some (.array 2 e)) (he : P.underlying e = some (.int .i64)) (hce : P.cellsOf e = 1) (hck : P.cellsOf k = 2)
    (hv : Value.okWide P w r b0 k v) (h : DataW.Trod enc P w base spare held k v d p) : ∃ m n, v = .agg #[.int .i64 m, .int .i64 n] ∧ I64 m ∧ I64 n := by
  simp only [Value.okWide, hk] at hv
  obtain ⟨cs, rfl, hsz, _⟩ := hv
  obtain ⟨c0, c1, rfl⟩ := array2 (hsz.trans hck)
  obtain ⟨fuel, hf⟩ := h
  obtain ⟨xs, m, _, _, _, hx, hi⟩ := DataW.trod_array hk hf
  have h0 := hi 0 (by omega)
  have h1 := hi 1 (by omega)
  rw [hce] at h0 h1
  obtain ⟨y0, e0⟩ : ∃ y, xs[0]? = some y := ⟨xs[0], by simp [hx]⟩
  obtain ⟨y1, e1⟩ : ∃ y, xs[1]? = some y := ⟨xs[1], by simp [hx]⟩
  rw [e0] at h0
  rw [e1] at h1
  simp [Value.cells] at h0 h1
  obtain ⟨a, rfl, ha⟩ := in_int he h0
  obtain ⟨b, rfl, hb⟩ := in_int he h1
  exact ⟨a, b, rfl, ha, hb⟩
end
end Go.Proofs.Ytoedbbpjddjbnaa
/- What new blocks hold; boxes. Speaks of no function. -/
namespace Go.Proofs.Ytoedbbpjddjbnaa
open Go.RowKit

theorem alloc_cell (V : World) (vs : Array Value) (t : TypeId) (k : Nat) (v : Value) (h : vs[k]? = some v) : (V.alloc (.cells vs t)).cell? ⟨V.heap.size, k, none⟩ = some v := by
  have e : (V.alloc (.cells vs t)).heap[V.heap.size]? = some (.cells vs t) := by
    show (V.heap.push _)[V.heap.size]? = _
    simp
  unfold World.cell?
  rw [e]
  exact h
theorem alloc_old (V : World) (o : Obj) (b k : Nat) (h : b < V.heap.size) : (V.alloc o).cell? ⟨b, k, none⟩ = V.cell? ⟨b, k, none⟩ := ((Below.refl V.heap.size V).alloc (Nat.le_refl _) o).cell (p := ⟨b, k, none⟩) h
theorem alloc_lt {V : World} {o : Obj} {b : Nat} (h : b < V.heap.size) : b < (V.alloc o).heap.size := by rw [World.size_alloc]; omega
theorem alloc_lt' {V : World} {o : Obj} {b : Nat} (h : b = V.heap.size) : b < (V.alloc o).heap.size := by rw [World.size_alloc]; omega
/-- What a box holds behind two more. -/
theorem two_cells (w : World) (vs0 vs1 vs2 : Array Value) (t0 t1 t2 : TypeId) :
    (∀ k v, vs0[k]? = some v → (((w.alloc (.cells vs0 t0)).alloc (.cells vs1 t1)).alloc (.cells vs2 t2)).cell? ⟨w.heap.size, k, none⟩ = some v) ∧
    (∀ k v, vs1[k]? = some v → (((w.alloc (.cells vs0 t0)).alloc (.cells vs1 t1)).alloc (.cells vs2 t2)).cell? ⟨w.heap.size + 1, k, none⟩ = some v) ∧
    (((w.alloc (.cells vs0 t0)).alloc (.cells vs1 t1)).alloc (.cells vs2 t2)).heap.size = w.heap.size + 3 ∧ Below w.heap.size w (((w.alloc (.cells vs0 t0)).alloc (.cells vs1 t1)).alloc (.cells vs2 t2)) := by
  have e1 : (w.alloc (.cells vs0 t0)).heap.size = w.heap.size + 1 := World.size_alloc _ _
  have e2 : ((w.alloc (.cells vs0 t0)).alloc (.cells vs1 t1)).heap.size = w.heap.size + 2 := by rw [World.size_alloc, e1]
  refine ⟨fun k v h => ?_, fun k v h => ?_, by rw [World.size_alloc, e2], ?_⟩
  · rw [alloc_old _ _ _ _ (by omega), alloc_old _ _ _ _ (by omega)]; exact alloc_cell _ _ _ _ _ h
  · rw [alloc_old _ _ _ _ (by omega), ← e1]; exact alloc_cell _ _ _ _ _ h
  · exact (((Below.refl _ _).alloc (Nat.le_refl _) _).alloc (by omega) _).alloc (by omega) _
/-- A box that holds vs. -/
def Box (b : Nat) (vs : Array Value) (V : World) : Prop := b < V.heap.size ∧ ∀ k v, vs[k]? = some v → V.cell? ⟨b, k, none⟩ = some v
theorem Box.next {b : Nat} {vs : Array Value} {V V' : World} (h : Box b vs V) (hb : Below V.heap.size V V') : Box b vs V' :=
  ⟨Nat.lt_of_lt_of_le h.1 hb.size, fun k v hv => (hb.cell (p := ⟨b, k, none⟩) h.1).trans (h.2 k v hv)⟩
theorem Box.drew {b : Nat} {vs : Array Value} {V : World} (h : Box b vs V) : Box b vs V.drew := h.next ((Below.refl _ _).drew)
theorem two_boxes (w : World) (vs0 vs1 vs2 : Array Value) (t0 t1 t2 : TypeId) : let V := (((w.alloc (.cells vs0 t0)).alloc (.cells vs1 t1)).alloc (.cells vs2 t2))
    Box w.heap.size vs0 V ∧ Box (w.heap.size + 1) vs1 V ∧ Below w.heap.size w V := by
  intro V
  obtain ⟨h0, h1, h2, h3⟩ := two_cells w vs0 vs1 vs2 t0 t1 t2
  exact ⟨⟨by rw [h2]; omega, h0⟩, ⟨by rw [h2]; omega, h1⟩, h3⟩
theorem one_box (w : World) (vs0 vs1 : Array Value) (t0 t1 : TypeId) : let V := ((w.alloc (.cells vs0 t0)).alloc (.cells vs1 t1))
    Box w.heap.size vs0 V ∧ Below w.heap.size w V := by
  intro V
  have e1 : (w.alloc (.cells vs0 t0)).heap.size = w.heap.size + 1 := World.size_alloc _ _
  refine ⟨⟨alloc_lt (alloc_lt' rfl), fun k v h => ?_⟩, ((Below.refl _ _).alloc (Nat.le_refl _) _).alloc (by omega) _⟩
  rw [alloc_old _ _ _ _ (by omega)]; exact alloc_cell _ _ _ _ _ h
end Go.Proofs.Ytoedbbpjddjbnaa
/- Slices of ints in new memory: words. -/
namespace Go.Proofs.Ytoedbbpjddjbnaa
open Go.RowKit

theorem Try.infoInt : (Try.prog.info? 3).map (fun i => (i.zero, i.size, i.bytes)) = some (some (.int .i64 0), 1, 8) := by kernel_rfl
/-- A slice value in the call's own memory (blocks from base on) that holds the ints xs. -/
def OwnI (w : World) (base : Nat) (v : Value) (xs : List Int) : Prop := w.ownsRow base 3 1 v xs.length (xs.map (Value.int .i64))
theorem map_oneCell (xs : List Int) : ∀ u ∈ xs.map (Value.int .i64), u.oneCell' = true := by
  intro u hu; obtain ⟨x, _, rfl⟩ := List.mem_map.1 hu; rfl
theorem addr_add (b off j : Nat) : (⟨b, off, none⟩ : Addr).add j = ⟨b, off + j, none⟩ := by
  unfold Addr.add; split
  · subst_vars; rfl
  · rfl
theorem Sl.news {w : World} {b off : Nat} {xs : List Int} (h : Sl w (some ⟨b, off, none⟩) xs) : ∀ j u, (xs.map (Value.int .i64))[j]? = some u → w.cell? ((⟨b, off, none⟩ : Addr).add j) = some u := by
  intro j u hu
  have hj : j < xs.length := by have := (List.getElem?_eq_some_iff.1 hu).1; simpa using this
  obtain ⟨b', off', e, h2⟩ := h j hj
  obtain ⟨rfl, rfl⟩ : b = b' ∧ off = off' := by simpa using e
  rw [addr_add, h2]
  simp [hj] at hu ⊢; exact hu
theorem OwnI.shape {w : World} {base : Nat} {v : Value} {xs : List Int} (h : OwnI w base v xs) (h1 : 1 ≤ xs.length) : ∃ g cap, v = .slice (some ⟨g, 0, none⟩) xs.length cap ∧ base ≤ g := by
  obtain ⟨_, ⟨_, h0⟩ | ⟨g, cap, cur, rfl, hg, _⟩⟩ := h
  · omega
  · exact ⟨g, cap, rfl, hg⟩
theorem OwnI.sl {w : World} {base : Nat} {a : Option Addr} {n cap : Nat} {xs : List Int} (h : OwnI w base (.slice a n cap) xs) : Sl w a xs := by
  intro k hk
  obtain ⟨hx, ⟨_, h0⟩ | ⟨g, cap', cur, e, hg, hb, hn, hm, hsz, ht⟩⟩ := h
  · omega
  · obtain ⟨rfl, rfl, rfl⟩ : a = some ⟨g, 0, none⟩ ∧ n = xs.length ∧ cap = cap' := by simpa using e
    refine ⟨g, 0, rfl, ?_⟩
    have : w.ownsRow base 3 1 (.slice (some ⟨g, 0, none⟩) xs.length cap) xs.length (xs.map (Value.int .i64)) := ⟨hx, .inr ⟨g, cap, cur, rfl, hg, hb, hn, hm, hsz, ht⟩⟩
    have h2 := this.cellAt k (by omega)
    rw [Nat.zero_add, h2]; simp [hk]
theorem heap4 (w : World) (a b c d : Obj) : ((((w.alloc a).alloc b).alloc c).alloc d).heap[w.heap.size]? = some a ∧ ((((w.alloc a).alloc b).alloc c).alloc d).heap[w.heap.size + 1]? = some b ∧
    ((((w.alloc a).alloc b).alloc c).alloc d).heap[w.heap.size + 2]? = some c ∧ ((((w.alloc a).alloc b).alloc c).alloc d).heap[w.heap.size + 3]? = some d := by
  refine ⟨?_, ?_, ?_, ?_⟩
  · show ((((w.heap.push a).push b).push c).push d)[w.heap.size]? = _
    simp only [Array.getElem?_push, Array.size_push]
    rw [if_neg (by omega), if_neg (by omega), if_neg (by omega), if_pos trivial]
  · show ((((w.heap.push a).push b).push c).push d)[w.heap.size + 1]? = _
    simp only [Array.getElem?_push, Array.size_push]
    rw [if_neg (by omega), if_neg (by omega), if_pos trivial]
  · show ((((w.heap.push a).push b).push c).push d)[w.heap.size + 2]? = _
    simp only [Array.getElem?_push, Array.size_push]
    rw [if_neg (by omega), if_pos trivial]
  · show ((((w.heap.push a).push b).push c).push d)[w.heap.size + 3]? = _
    simp only [Array.getElem?_push, Array.size_push]
    rw [if_pos trivial]
theorem cell_of_heap {w : World} {b : Nat} {cs : Array Value} {t : TypeId} {fr : Nat × Nat} (h : w.heap[b]? = some (.cells cs t fr)) (i : Nat) : w.cell? ⟨b, i, none⟩ = cs[i]? := by simp [World.cell?, h]

end Go.Proofs.Ytoedbbpjddjbnaa
/- One int appended; what a function that returns a list and an error leaves. -/
namespace Go.Proofs.Ytoedbbpjddjbnaa
open Go.RowKit

theorem OwnI.nil (w : World) (base : Nat) : OwnI w base (.slice none 0 0) [] := World.ownsRow_nil _ _ _ _
/-- One int appended to a slice of the call's own. -/
theorem wpList_push {ops : Array Oper} {rest : List Oper} {o : Oper} {a : Act} {Q : Exit → Act → World → Prop} (hgd : o.guard = none) (s x : Operand)
    (ho : o.op = .call { callee := .builtin .append, args := #[s, x], argTypes := #[25, 25] }) (base : Nat) (v : Value) (zs : List Int) (y : Int) (V : World) (B : Nat) (t : TypeId)
    (hs : a.eval s = v) (hx : a.eval x = .slice (some ⟨B, 0, none⟩) 1 1) (hB : B = V.heap.size) (hown : OwnI V base v zs) (hl : zs.length ≤ 100000) (hbase : base ≤ V.heap.size)
    (h : ∀ v' w', OwnI w' base v' (zs ++ [y]) → Below base V w' → wpList Try.prog ops Q rest (a.put o.dst v') w') : wpList Try.prog ops Q (o :: rest) a (V.alloc (.cells #[.int .i64 y] t)) := by
  obtain ⟨i0, hi, hz0, hz1, hz2⟩ := info_parts Try.infoInt
  subst hB
  refine wpList_append_own (V.alloc (.cells #[.int .i64 y] t)) hgd s x 25 ho base 3 i0 (.int .i64 0) 1 8 Try.underlying25 hi hz0 hz1 hz2 rfl (by decide) v zs.length (zs.map (Value.int .i64)) hs (hown.alloc _) ⟨V.heap.size, 0, none⟩ 1 1 [.int .i64 y] hx rfl ?_ ?_ (by unfold maxLen; omega) (by omega) (by rw [World.size_alloc]; omega) ?_
  · intro j u hj
    match j, hj with
    | 0, hj =>
      simp at hj; subst hj
      rw [addr_add]
      exact alloc_cell V #[.int .i64 y] t 0 _ rfl
    | j + 1, hj => simp at hj
  · intro u hu; simp at hu; subst hu; rfl
  · intro v' w' h1 h2 h3
    refine h v' w' ?_ ?_
    · simpa [OwnI] using h1
    · exact ((Below.refl base V).alloc hbase _).grown h2 (by rw [World.size_alloc]; omega) (fun k e => (World.ownsRow.lt hown k e).1)

theorem wp_push {o : Oper} {a : Act} {K : Act → World → Prop} {Q : Exit → Act → World → Prop} (s x : Operand)
    (ho : o.op = .call { callee := .builtin .append, args := #[s, x], argTypes := #[25, 25] }) (base : Nat) (v : Value) (zs : List Int) (y : Int) (V : World) (B : Nat) (t : TypeId)
    (hs : a.eval s = v) (hx : a.eval x = .slice (some ⟨B, 0, none⟩) 1 1) (hB : B = V.heap.size) (hown : OwnI V base v zs) (hl : zs.length ≤ 100000) (hbase : base ≤ V.heap.size)
    (h : ∀ v' w', OwnI w' base v' (zs ++ [y]) → Below base V w' → K (a.put o.dst v') w') : o.wp Try.prog a (V.alloc (.cells #[.int .i64 y] t)) K Q := by
  obtain ⟨i0, hi, hz0, hz1, hz2⟩ := info_parts Try.infoInt
  subst hB
  refine wp_append_own (V.alloc (.cells #[.int .i64 y] t)) s x 25 ho base 3 i0 (.int .i64 0) 1 8 Try.underlying25 hi hz0 hz1 hz2 rfl (by decide) v zs.length (zs.map (Value.int .i64)) hs (hown.alloc _) ⟨V.heap.size, 0, none⟩ 1 1 [.int .i64 y] hx rfl ?_ ?_ (by unfold maxLen; omega) (by omega) (by rw [World.size_alloc]; omega) ?_
  · intro j u hj
    match j, hj with
    | 0, hj =>
      simp at hj; subst hj
      rw [addr_add]
      exact alloc_cell V #[.int .i64 y] t 0 _ rfl
    | j + 1, hj => simp at hj
  · intro u hu; simp at hu; subst hu; rfl
  · intro v' w' h1 h2 h3
    refine h v' w' ?_ ?_
    · simpa [OwnI] using h1
    · exact ((Below.refl base V).alloc hbase _).grown h2 (by rw [World.size_alloc]; omega) (fun k e => (World.ownsRow.lt hown k e).1)

/-- One int appended in a region that draws its order, in whatever world holds the int's cell. -/
theorem step_push {ops : Array Oper} {o : Oper} {a : Act} {K : Act → World → Prop} {Q : Exit → Act → World → Prop} {E : Prop} (hgd : o.guard = none) (s x : Operand)
    (ho : o.op = .call { callee := .builtin .append, args := #[s, x], argTypes := #[25, 25] }) (base : Nat) (v : Value) (zs : List Int) (y : Int) (W : World) (B : Nat)
    (hs : a.eval s = v) (hx : a.eval x = .slice (some ⟨B, 0, none⟩) 1 1) (hnew : W.cell? ⟨B, 0, none⟩ = some (.int .i64 y)) (hown : OwnI W base v zs) (hl : zs.length ≤ 100000) (hbase : base ≤ W.heap.size)
    (h : ∀ v' w', OwnI w' base v' (zs ++ [y]) → Below base W w' → K (a.put o.dst v') w') : if Region.wanted o (yielded ops a.tmps) = true then Oper.wp Try.prog o a W K Q else E := by
  have hw : Region.wanted o (yielded ops a.tmps) = true := by simp [Region.wanted, hgd]
  rw [if_pos hw]
  obtain ⟨i0, hi, hz0, hz1, hz2⟩ := info_parts Try.infoInt
  refine wp_append_own W s x 25 ho base 3 i0 (.int .i64 0) 1 8 Try.underlying25 hi hz0 hz1 hz2 rfl (by decide) v zs.length (zs.map (Value.int .i64)) hs hown ⟨B, 0, none⟩ 1 1 [.int .i64 y] hx rfl ?_ ?_ (by unfold maxLen; omega) (by omega) hbase ?_
  · intro j u hj
    match j, hj with
    | 0, hj =>
      simp at hj; subst hj
      rw [addr_add]
      exact hnew
    | j + 1, hj => simp at hj
  · intro u hu; simp at hu; subst hu; rfl
  · intro v' w' h1 h2 h3
    refine h v' w' ?_ ?_
    · simpa [OwnI] using h1
    · exact (Below.refl base W).grown h2 hbase (fun k e => (World.ownsRow.lt hown k e).1)

/-- What a function that returns a list and an error returns: r's list and r's error; nothing older is written. -/
def LPost (r : List Int × Int) (w : World) (e : Ending) (w' : World) : Prop :=
  Below w.heap.size w w' ∧ ∃ a cap, e = .returned (.tuple #[.slice a r.1.length cap, .int .i64 r.2]) ∧ Sl w' a r.1
theorem Sl.none (w : World) : Sl w none [] := fun k h => absurd h (by simp)
theorem LPost.err {w w' : World} (n : Int) {r : List Int × Int} (hr : r = ([], n)) (hb : Below w.heap.size w w') : LPost r w (.returned (.tuple #[.slice none 0 0, .int .i64 n])) w' := by
  subst hr; exact ⟨hb, none, 0, rfl, Sl.none _⟩
theorem LPost.ok {w w' : World} {base n cap : Nat} {a : Option Addr} {ys : List Int} {r : List Int × Int} (hr : r = (ys, 0)) (hb : Below w.heap.size w w') (ho : OwnI w' base (.slice a n cap) ys) (hn : n = ys.length) : LPost r w (.returned (.tuple #[.slice a n cap, .int .i64 0])) w' := by
  subst hr hn; exact ⟨hb, a, cap, rfl, ho.sl⟩
end Go.Proofs.Ytoedbbpjddjbnaa
/- Sums and places of lists: plain words that speak of no program. -/
namespace Go.Proofs.Ytoedbbpjddjbnaa
open Go.RowKit

/-- The sum of the first n values. -/
def sumTo (g : Nat → Int) : Nat → Int
  | 0 => 0
  | n + 1 => sumTo g n + g n
theorem sumTo_add (f g : Nat → Int) : ∀ n, sumTo (fun i => f i + g i) n = sumTo f n + sumTo g n
  | 0 => rfl
  | n + 1 => by simp only [sumTo, sumTo_add f g n]; omega
theorem sumTo_mul (c : Int) (f : Nat → Int) : ∀ n, sumTo (fun i => c * f i) n = c * sumTo f n
  | 0 => by simp [sumTo]
  | n + 1 => by simp only [sumTo, sumTo_mul c f n, Int.mul_add]
theorem sumTo_congr {f g : Nat → Int} : ∀ n, (∀ i, i < n → f i = g i) → sumTo f n = sumTo g n
  | 0, _ => rfl
  | n + 1, h => by simp only [sumTo, sumTo_congr n (fun i hi => h i (by omega)), h n (by omega)]
theorem sumTo_split (f : Nat → Int) (m : Nat) : ∀ n, sumTo f (m + n) = sumTo f m + sumTo (fun i => f (m + i)) n
  | 0 => by simp [sumTo]
  | n + 1 => by
    show sumTo f (m + n) + f (m + n) = sumTo f m + (sumTo (fun i => f (m + i)) n + f (m + n))
    rw [sumTo_split f m n]; omega
/-- What a list has at a place. -/
def gt (xs : List Int) (i : Nat) : Int := xs[i]?.getD 0
theorem gt_some' {xs : List Int} {k : Nat} {x : Int} (h : xs[k]? = some x) : gt xs k = x := by unfold gt; rw [h]; rfl
theorem gt_set {ys : List Int} {i j : Nat} {v : Int} (hi : i < ys.length) : gt (ys.set i v) j = if j = i then v else gt ys j := by
  unfold gt
  rw [List.getElem?_set]
  by_cases h : i = j
  · subst h; simp [hi]
  · rw [if_neg h, if_neg (Ne.symm h)]
theorem list_ext_gt {xs ys : List Int} (hl : xs.length = ys.length) (h : ∀ k, k < xs.length → gt xs k = gt ys k) : xs = ys := by
  refine List.ext_getElem hl fun k h1 h2 => ?_
  have := h k h1
  unfold gt at this
  simpa [h1, h2] using this
theorem gt_map_range (f : Nat → Int) {n k : Nat} (hk : k < n) : gt ((List.range n).map f) k = f k := by unfold gt; simp [hk]
end Go.Proofs.Ytoedbbpjddjbnaa
/- Slices of ints in new memory: what keeps, reads and writes them. -/
namespace Go.Proofs.Ytoedbbpjddjbnaa
open Go.RowKit

theorem OwnI.stored {w : World} {base g cap n : Nat} {xs : List Int} (h : OwnI w base (.slice (some ⟨g, 0, none⟩) n cap) xs) (j : Nat) (x : Int) : OwnI (w.setCell ⟨g, j, none⟩ (.int .i64 x)) base (.slice (some ⟨g, 0, none⟩) n cap) (xs.set j x) := by
  unfold OwnI at *
  obtain rfl : n = xs.length := by
    obtain ⟨_, ⟨e, _⟩ | ⟨_, _, _, e, _⟩⟩ := h
    · cases e
    · simpa using congrArg (fun v => match v with | .slice _ n _ => n | _ => 0) e
  rw [List.length_set, List.map_set]
  exact (World.ownsRow.stored h j _).1
theorem OwnI.drew {w : World} {base : Nat} {v : Value} {xs : List Int} (h : OwnI w base v xs) : OwnI w.drew base v xs := h
theorem OwnI.below {w w' : World} {base : Nat} {v : Value} {xs : List Int} (h : OwnI w base v xs) (hb : Below w.heap.size w w') : OwnI w' base v xs := by
  obtain ⟨h0, h1 | ⟨g, cap, cur, e, hg, hh, rest⟩⟩ := h
  · exact ⟨h0, .inl h1⟩
  · exact ⟨h0, .inr ⟨g, cap, cur, e, hg, (hb.block g (Array.getElem?_eq_some_iff.1 hh).1).trans hh, rest⟩⟩
theorem OwnI.sameBlock {w w' : World} {base g n cap : Nat} {xs : List Int} (h : OwnI w base (.slice (some ⟨g, 0, none⟩) n cap) xs) (hb : w'.heap[g]? = w.heap[g]?) : OwnI w' base (.slice (some ⟨g, 0, none⟩) n cap) xs := by
  obtain ⟨h0, ⟨e, _⟩ | ⟨g', cap', cur, e, hg, hh, rest⟩⟩ := h
  · cases e
  · obtain rfl : g = g' := by simpa using congrArg (fun v => match v with | .slice (some a) _ _ => a.block | _ => 0) e
    exact ⟨h0, .inr ⟨g, cap', cur, e, hg, hb.trans hh, rest⟩⟩
theorem cell_other (w : World) (a : Addr) (v : Value) (o : Nat) {b : Nat} (hb : b ≠ a.block) : (w.setCell a v).cell? ⟨b, o, none⟩ = w.cell? ⟨b, o, none⟩ := World.cell?_of_block (Below.heap_setCell w a v b hb)
theorem wrap_is (n : Int) : wrap64 n = IntKind.i64.wrap n := by rw [IntKind.wrap_i64]; unfold wrap64; omega
theorem OwnI.mono {w : World} {base base' : Nat} {v : Value} {xs : List Int} (h : OwnI w base v xs) (hb : base' ≤ base) : OwnI w base' v xs := by
  obtain ⟨h0, h1 | ⟨g, cap, cur, e, hg, rest⟩⟩ := h
  · exact ⟨h0, .inl h1⟩
  · exact ⟨h0, .inr ⟨g, cap, cur, e, Nat.le_trans hb hg, rest⟩⟩
theorem OwnI.cap_le {w : World} {base g n cap : Nat} {xs : List Int} (h : OwnI w base (.slice (some ⟨g, 0, none⟩) n cap) xs) : n ≤ cap := by
  obtain ⟨h0, ⟨e, _⟩ | ⟨g', cap', cur, e, hg, hh, hle, _⟩⟩ := h
  · cases e
  · have e1 : n = xs.length := by simpa using congrArg (fun v => match v with | .slice _ n _ => n | _ => 0) e
    have e2 : cap = cap' := by simpa using congrArg (fun v => match v with | .slice _ _ c => c | _ => 0) e
    omega
theorem OwnI.lt {w : World} {base : Nat} {g n cap : Nat} {xs : List Int} (h : OwnI w base (.slice (some ⟨g, 0, none⟩) n cap) xs) : g < w.heap.size ∧ base ≤ g := by
  obtain ⟨_, ⟨e, _⟩ | ⟨g', _, _, e, hg, hh, _⟩⟩ := h
  · cases e
  · obtain ⟨rfl, _⟩ : g = g' ∧ _ := by simpa using e
    exact ⟨(Array.getElem?_eq_some_iff.1 hh).1, hg⟩
theorem OwnI.cell {w : World} {base g n cap : Nat} {xs : List Int} (h : OwnI w base (.slice (some ⟨g, 0, none⟩) n cap) xs) {j : Nat} (hj : j < xs.length) :
    w.cell? ⟨g, j, none⟩ = some (.int .i64 (xs[j]?.getD 0)) ∧ w.frozen? ⟨g, j, none⟩ = false := by
  have hs := h.sl
  obtain ⟨b, off, e, h2⟩ := hs j hj
  obtain ⟨rfl, rfl⟩ : g = b ∧ 0 = off := by simpa using e
  rw [Nat.zero_add] at h2
  refine ⟨h2, ?_⟩
  obtain rfl : n = xs.length := by
    obtain ⟨_, ⟨e, _⟩ | ⟨_, _, _, e, _⟩⟩ := h
    · cases e
    · simpa using congrArg (fun v => match v with | .slice _ n _ => n | _ => 0) e
  exact World.ownsRow.frozenAt h j

theorem OwnI.any {w : World} {base : Nat} {v : Value} {xs : List Int} (h : OwnI w base v xs) : ∃ a cap, v = .slice a xs.length cap ∧ Sl w a xs := by
  have h' := h
  obtain ⟨hx, ⟨rfl, h0⟩ | ⟨g, cap, cur, rfl, _⟩⟩ := h
  · have : xs = [] := List.eq_nil_of_length_eq_zero h0
    subst this
    exact ⟨none, 0, rfl, Sl.none _⟩
  · exact ⟨some ⟨g, 0, none⟩, cap, rfl, h'.sl⟩
theorem LPost.own {w w' : World} {base : Nat} {v : Value} {ys : List Int} {r : List Int × Int} (hr : r = (ys, 0)) (hb : Below w.heap.size w w') (ho : OwnI w' base v ys) : LPost r w (.returned (.tuple #[v, .int .i64 0])) w' := by
  obtain ⟨a, cap, rfl, hs⟩ := ho.any
  subst hr; exact ⟨hb, a, cap, rfl, hs⟩
theorem OwnI.drewN {w : World} {base : Nat} {v : Value} {xs : List Int} (h : OwnI w base v xs) (n : Nat) : OwnI (w.drewN n) base v xs := h
theorem zeros_are (n : Nat) : (madeCells (Value.int .i64 0).cells (n * 1)).toList = (List.replicate n (0 : Int)).map (Value.int .i64) := by
  rw [Nat.mul_one]
  show (madeCells #[Value.int .i64 0] n).toList = _
  rw [toList_madeCells_one]; simp
theorem OwnI.setBelow {w : World} {base : Nat} {v : Value} {xs : List Int} (h : OwnI w base v xs) {p : Addr} (hp : p.block < base) (u : Value) : OwnI (w.setCell p u) base v xs := ownsRow_setCell_below h hp u
end Go.Proofs.Ytoedbbpjddjbnaa
/- A region that draws its order, within a round of a range over a function: what holds of it in a plain frame holds there, if it defers nothing. By the fenced twin's own laws, at the widest fence. -/
namespace Go.Proofs.Ytoedbbpjddjbnaa
open Go.RowKit
section
variable {P : Program} {ops : Array Oper} {Q : Exit → Act → World → Prop} {md : Region.Mode}

/-- No operation of a region is a defer statement. -/
def noDefer (ops : Array Oper) : Bool := ops.all fun o => match o.op with | .defer _ => false | _ => true
theorem noDefer_spec (h : noDefer ops = true) {j : Nat} {o : Oper} (ho : ops[j]? = some o) : ∀ c, o.op ≠ .defer c := by
  intro c hc
  obtain ⟨hj, rfl⟩ := Array.getElem?_eq_some_iff.1 ho
  have := (Array.all_eq_true.1 h) j hj
  rw [hc] at this
  cases this

theorem uponIn_of_upon {l n : Nat} {o : Oper} {a : Act} {K : Act → World → Prop} {r : Result Next} (h : o.upon P a K Q r) : o.uponIn (Fence.wide.inRound l) n P a K Q r := by
  cases r with
  | ok x w' =>
    cases x <;> simp only [Oper.upon] at h <;> simp only [Oper.uponIn]
    case value => exact h
    case skip => exact h
    case defer => exact h
    case enter f args => exact ⟨(by intro h'; cases h'), CallsIn.inRound l (callsIn_wide.2 h)⟩
    case row row args => exact ⟨(by intro h'; cases h'), fun c cs _ => let ⟨v, w', r, s⟩ := h c cs; ⟨v, w', r, stepsIn_wide.2 s⟩⟩
  | halt x w' =>
    cases x <;> simp only [Oper.upon] at h <;> simp only [Oper.uponIn]
    case panic => exact h

theorem wpOpIn_of_wpOp {l n i : Nat} {K : Act → World → Prop} {a : Act} {w : World} (hd : noDefer ops = true) (hq : ¬ LetsOut Q) (h : wpOp P ops Q i K a w) : wpOpIn (Fence.wide.inRound l) n P ops Q i K a w := by
  unfold wpOp at h
  unfold wpOpIn
  cases ho : ops[i]? with
  | none => simp only [ho] at h ⊢; exact h
  | some o =>
    simp only [ho] at h ⊢
    by_cases hw : Region.wanted o (yielded ops a.tmps) = true
    · rw [if_pos hw] at h ⊢
      rcases h with h | h
      · refine ⟨fun _ _ => trivial, ?_⟩
        rw [Fence.inRound_round, Oper.semAt_some l _ o (noDefer_spec hd ho)]
        exact uponIn_of_upon h
      · exact absurd h.2 hq
    · rw [if_neg hw] at h ⊢
      exact ⟨fun _ _ => trivial, h⟩

theorem wpAnyIn_of_wpAny {l n : Nat} (hd : noDefer ops = true) (hq : ¬ LetsOut Q) : ∀ (fuel : Nat) (listed : Array Bool) (a : Act) (w : World), wpAny P md ops Q fuel listed a w → wpAnyIn (Fence.wide.inRound l) n P md ops Q fuel listed a w
  | 0, _, _, _, h => h
  | fuel + 1, _, _, _, h => ⟨h.1, fun i hi => wpOpIn_of_wpOp hd hq (wpOp_mono (fun a' w' h' => wpAnyIn_of_wpAny hd hq fuel _ a' w' h') (h.2 i hi))⟩

/-- Reads ahead of a tail that goes in one order, in a round. -/
theorem wpIn_region_still_tail_round {id r m : Nat} {a : Act} {w : World} {l : List Oper} (n : Nat) (hm : P.follows .mixedOrders = true) (hB : Region.lexTailB .any l.toArray n = true) (hd : noDefer l.toArray = true) (hq : ¬ LetsOut Q)
    (h : wpStill P l.toArray w.drew (fun a' => wpList P l.toArray Q (l.drop n) a' w.drew) (l.take n) a) : (Code.region id l.toArray true).wpIn (Fence.wide.inRound r) m P Q a w := by
  simp only [Region.lexTailB, Bool.and_eq_true, decide_eq_true_eq] at hB
  obtain ⟨⟨⟨⟨hsel, hn⟩, hs⟩, hc⟩, hlex⟩ := hB
  have hn' : n < l.length := by simpa using hn
  have htl : (l.take n).length = n := by simp; omega
  have hdl : (l.drop n).length = l.toArray.size - n := by simp
  have start : HeadInv .any l.toArray n (Array.replicate l.toArray.size false) :=
    { size := by simp, closed := fun j oj _ hl => (by rw [getD_replicate_false] at hl; cases hl), tail := fun t _ ht => getD_in (by simpa using ht) (getD_replicate_false _ _) }
  have H := wpAnyL_lex (md := .any) (g := l.toArray.size - n) hsel hs hc hn (l.take n) 0 _ a (fun j hj => by rw [htl] at hj; simp [hj]) (by simpa using htl) start (by rw [htl]; exact hlex) h
  have K := wpAny_of_head (Q' := Q) (g := l.toArray.size - n) (fun listed a' hL => by
    have k := wpAny_of_seq (md := .any) (Q' := Q) (l.drop n) n listed a' w.drew (fun j => by simp [List.getElem?_drop]) (by rw [hdl]; exact hL.1) hL.2
    rwa [hdl] at k) _ _ _ H
  rw [htl, show n + (l.toArray.size - n) = l.toArray.size by omega] at K
  exact wpIn_region_any hm (wpAnyIn_of_wpAny hd hq _ _ _ _ K)
/-! A walk over all orders of a region whose facts on the world depend on which operations have come up: what an operation reads may be written by one that waits for it. -/

/-- Whoever has come up has come up behind all that it waits for. -/
def Shutdown (md : Region.Mode) (ops : Array Oper) (L : Array Bool) : Prop :=
  L.size = ops.size ∧ ∀ j oj, ops[j]? = some oj → L.getD j false = true → ∀ e ∈ oj.after, Region.binds md e = true → L.getD e.on false = true
theorem shutdown_start : Shutdown md ops (Array.replicate ops.size false) := ⟨by simp, fun j oj _ h => by rw [getD_replicate_false] at h; cases h⟩
theorem Shutdown.set {L : Array Bool} {i : Nat} (h : Shutdown md ops L) (hi : i ∈ Region.ready md ops L) : Shutdown md ops (L.setIfInBounds i true) := by
  obtain ⟨_, oi, hoi, hall⟩ := mem_ready.1 hi
  refine ⟨by simp [h.1], fun j oj hj hl e he hb => ?_⟩
  by_cases hij : i = j
  · subst hij
    obtain rfl : oj = oi := Option.some.inj (hj.symm.trans hoi)
    exact getD_set_true (hall e he hb)
  · rw [getD_set_ne false hij] at hl
    exact getD_set_true (h.2 j oj hj hl e he hb)
/-- Who waits for one that hasn't come up hasn't come up. -/
theorem Shutdown.not {L : Array Bool} {i j : Nat} (h : Shutdown md ops L) (hw : Region.waitsFor md ops j i = true) (hi : L.getD i true = false) : L.getD j false = false := by
  obtain ⟨oj, hoj, e, he, hb, rfl⟩ := Region.waitsFor_spec hw
  cases hj : L.getD j false with
  | false => rfl
  | true => have := h.2 j oj hoj hj e he hb; rw [getD_both hi] at this; cases this

def wpAnyG (P : Program) (md : Region.Mode) (ops : Array Oper) (Q : Exit → Act → World → Prop) (S : Array Bool → World → Prop) : Nat → Array Bool → Act → World → Prop
  | 0, listed, a, w => Region.ready md ops listed = [] ∧ Q .normal a w
  | fuel + 1, listed, a, w =>
    (Region.ready md ops listed = [] → Q .normal a w) ∧
    ∀ i ∈ Region.ready md ops listed, wpOp P ops Q i (fun a' w' => S (listed.setIfInBounds i true) w' ∧ wpAnyG P md ops Q S fuel (listed.setIfInBounds i true) a' w') a w
theorem wpAny_of_G {S : Array Bool → World → Prop} : ∀ (fuel : Nat) (listed : Array Bool) (a : Act) (w : World), wpAnyG P md ops Q S fuel listed a w → wpAny P md ops Q fuel listed a w
  | 0, _, _, _, h => h
  | fuel + 1, _, _, _, h => ⟨h.1, fun i hi => wpOp_mono (fun a' w' h' => wpAny_of_G fuel _ a' w' h'.2) (h.2 i hi)⟩

theorem wpAnyG_first {S : Array Bool → World → Prop} {i : Nat} {oi : Oper} {v : Value} (hi : ops[i]? = some oi) (hsel : ∀ (j : Nat) (o : Oper) cs b, ops[j]? = some o → o.op ≠ .select cs b)
    (hQ : ∀ c a w, Q (.panic c) (a.put oi.dst v) w → Q (.panic c) a w) (hSi : ∀ L w, S (L.setIfInBounds i true) w ↔ S L w) :
    ∀ (fuel : Nat) (listed : Array Bool) (a : Act) (w : World), Shutdown md ops listed →
      (∀ j oj, ops[j]? = some oj → j ≠ i → listed.getD j true = false → (∀ e ∈ oj.after, Region.binds md e = true → e.on ≠ i) → oi.apart ops oj = true) →
      i ∈ Region.ready md ops listed → YieldsIf P ops (fun w => ∃ L, Shutdown md ops L ∧ L.getD i true = false ∧ S L w) oi v a → S listed w →
      wpAnyG P md ops Q S fuel (listed.setIfInBounds i true) (a.put oi.dst v) w → wpAnyG P md ops Q S (fuel + 1) listed a w := by
  intro fuel
  induction fuel with
  | zero =>
    intro listed a w hc _ hr hy hS H
    refine ⟨fun h => (by rw [h] at hr; cases hr), fun j hj => ?_⟩
    by_cases hji : j = i
    · subst hji
      exact hy.wpOp hi ⟨listed, hc, (mem_ready.1 hj).1, hS⟩ ⟨(hSi _ _).2 hS, H⟩
    · have := ready_mono hj hji
      rw [H.1] at this
      cases this
  | succ fuel ih =>
    intro listed a w hc hfree hr hy hS H
    refine ⟨fun h => (by rw [h] at hr; cases hr), fun j hj => ?_⟩
    by_cases hji : j = i
    · subst hji
      exact hy.wpOp hi ⟨listed, hc, (mem_ready.1 hj).1, hS⟩ ⟨(hSi _ _).2 hS, H⟩
    · have h1 := H.2 j (ready_mono hj hji)
      obtain ⟨hjun, oj, hoj, hall⟩ := mem_ready.1 hj
      have hnot : ∀ e ∈ oj.after, Region.binds md e = true → e.on ≠ i := fun e he hb heq => by
        have h1 := hall e he hb
        rw [heq, getD_both (mem_ready.1 hr).1] at h1
        cases h1
      have h2 := wpOp_putIf hoj (hfree j oj hoj hji hjun hnot) (fun cs b => hsel i oi cs b hi) (fun cs b => hsel j oj cs b hoj) hQ hy h1
      have hfree' : ∀ k ok, ops[k]? = some ok → k ≠ i → (listed.setIfInBounds j true).getD k true = false →
          (∀ e ∈ ok.after, Region.binds md e = true → e.on ≠ i) → oi.apart ops ok = true := fun k ok hk hki hun hno => by
        refine hfree k ok hk hki ?_ hno
        by_cases hjk : j = k
        · subst hjk; exact hjun
        · rw [getD_set_ne true hjk] at hun; exact hun
      refine wpOp_mono (fun a' w' h3 => ?_) h2
      have hS' : S (listed.setIfInBounds j true) w' := (hSi _ _).1 (by rw [Array.setIfInBounds_comm _ _ hji]; exact h3.2.1)
      refine ⟨hS', ih (listed.setIfInBounds j true) a' w' (hc.set hj) hfree' (ready_mono hr (Ne.symm hji)) h3.1 hS' ?_⟩
      rw [Array.setIfInBounds_comm _ _ hji]
      exact h3.2.2

theorem wpAnyG_take {S : Array Bool → World → Prop} {i : Nat} {oi : Oper} {v : Value} {fuel : Nat} {listed : Array Bool} {a : Act} {w : World} (hi : ops[i]? = some oi)
    (hs : Region.noSelect ops = true) (hf : Region.free md ops listed i = true) (hr : (Region.ready md ops listed).contains i = true)
    (hQ : ∀ c a w, Q (.panic c) (a.put oi.dst v) w → Q (.panic c) a w) (hSi : ∀ L w, S (L.setIfInBounds i true) w ↔ S L w) (hc : Shutdown md ops listed)
    (hy : YieldsIf P ops (fun w => ∃ L, Shutdown md ops L ∧ L.getD i true = false ∧ S L w) oi v a) (hS : S listed w)
    (h : Shutdown md ops (listed.setIfInBounds i true) → S (listed.setIfInBounds i true) w → wpAnyG P md ops Q S fuel (listed.setIfInBounds i true) (a.put oi.dst v) w) : wpAnyG P md ops Q S (fuel + 1) listed a w :=
  wpAnyG_first hi (Region.noSelect_spec hs) hQ hSi fuel listed a w hc (Region.free_spec hi hf) (by simpa using hr) hy hS (h (hc.set (by simpa using hr)) ((hSi _ _).2 hS))
/-- One alone may come up: it is carried out. -/
theorem wpAnyG_only {S : Array Bool → World → Prop} {i : Nat} {o : Oper} {fuel : Nat} {listed : Array Bool} {a : Act} {w : World} (hr : Region.ready md ops listed = [i]) (ho : ops[i]? = some o) (hc : Shutdown md ops listed)
    (h : Shutdown md ops (listed.setIfInBounds i true) → ∀ K : Act → World → Prop, (∀ a' w', S (listed.setIfInBounds i true) w' → (S (listed.setIfInBounds i true) w' → wpAnyG P md ops Q S fuel (listed.setIfInBounds i true) a' w') → K a' w') → if Region.wanted o (yielded ops a.tmps) = true then Oper.wp P o a w K Q else K (a.put o.dst undef) w) : wpAnyG P md ops Q S (fuel + 1) listed a w :=
  ⟨fun h0 => (by rw [hr] at h0; cases h0), fun j hj => by
    rw [hr] at hj
    obtain rfl : j = i := by simpa using hj
    exact wpOp_step ho (fun K hK => h (hc.set (by rw [hr]; simp)) K (fun a' w' hS hW => hK a' w' ⟨hS, hW hS⟩))⟩
theorem wpAnyG_done {S : Array Bool → World → Prop} {listed : Array Bool} {a : Act} {w : World} (hr : Region.ready md ops listed = []) (h : Q .normal a w) : ∀ fuel, wpAnyG P md ops Q S fuel listed a w
  | 0 => ⟨hr, h⟩
  | _ + 1 => ⟨fun _ => h, by rw [hr]; simp⟩
/-- The beginning, in a plain frame and in a round. -/
theorem wp_region_G {S : Array Bool → World → Prop} {id : Nat} {a : Act} {w : World} (hm : P.follows .mixedOrders = true) (hS : S (Array.replicate ops.size false) w.drew)
    (h : Shutdown .any ops (Array.replicate ops.size false) → S (Array.replicate ops.size false) w.drew → wpAnyG P .any ops Q S ops.size (Array.replicate ops.size false) a w.drew) : (Code.region id ops true).wp P Q a w :=
  wp_region_any hm (wpAny_of_G _ _ _ _ (h shutdown_start hS))
theorem wpIn_region_G_round {S : Array Bool → World → Prop} {id r m : Nat} {a : Act} {w : World} (hm : P.follows .mixedOrders = true) (hd : noDefer ops = true) (hq : ¬ LetsOut Q) (hS : S (Array.replicate ops.size false) w.drew)
    (h : Shutdown .any ops (Array.replicate ops.size false) → S (Array.replicate ops.size false) w.drew → wpAnyG P .any ops Q S ops.size (Array.replicate ops.size false) a w.drew) : (Code.region id ops true).wpIn (Fence.wide.inRound r) m P Q a w :=
  wpIn_region_any hm (wpAnyIn_of_wpAny hd hq _ _ _ _ (wpAny_of_G _ _ _ _ (h shutdown_start hS)))

/-- A region, in a round, by the walk that takes first what yields in every world that meets S. -/
theorem wpIn_region_held_round {S : World → Prop} {id r m : Nat} {a : Act} {w : World} (hm : P.follows .mixedOrders = true) (hd : noDefer ops = true) (hq : ¬ LetsOut Q) (hS : S w.drew)
    (h : S w.drew → wpAnyH P .any ops Q S ops.size (Array.replicate ops.size false) a w.drew) : (Code.region id ops true).wpIn (Fence.wide.inRound r) m P Q a w :=
  wpIn_region_any hm (wpAnyIn_of_wpAny hd hq _ _ _ _ (wpAny_of_held _ _ _ _ (h hS)))
end
end Go.Proofs.Ytoedbbpjddjbnaa
/- Which fields, rows and numbers layer 7 and its answers take: contracts. -/
namespace Go.Proofs.Ytoedbbpjddjbnaa
open Go.RowKit

def vfB (p t : Int) : Bool := rangeB p 1 8 && rangeB t 0 3
theorem bin_any (n lo hi : Int) (w : World) :
    Calls Try.prog 60 #[.int .i64 n, .int .i64 lo, .int .i64 hi] w fun e w' => e = .returned (.bool (rangeB n lo hi)) ∧ w = w' := by
  go_enter Try.func60, Try.ntmps60
  go_wp2
  all_goals go_ret
  all_goals exact ⟨ret_bool (by first | (simp [rangeB, *]; done) | (simp [rangeB]; omega)), rfl⟩
theorem rvfield_any (p t : Int) (w : World) :
    Calls Try.prog 20 #[.agg #[.int .i64 p, .int .i64 t]] w fun e w' => e = .returned (.bool (vfB p t)) ∧ Below w.heap.size w w' := by
  cases h : rangeB p 1 8
  · have HV : Hid (vfB p t = false) := by show _ = _; unfold vfB; rw [h]; rfl
    go_enter Try.func20, Try.ntmps20
    go_wp2_with (go_at_call 60; refine (bin_any _ _ _ _).mono ?_; rintro e w1 ⟨rfl, rfl⟩; rw [h])
    go_ret
    exact ⟨ret_bool HV.out.symm, (Below.refl _ _).alloc (Nat.le_refl _) _⟩
  · have HV : Hid (vfB p t = rangeB t 0 3) := by show _ = _; unfold vfB; rw [h]; rfl
    go_enter Try.func20, Try.ntmps20
    go_wp2_with (go_at_call 60; refine (bin_any _ _ _ _).mono ?_; rintro e w1 ⟨rfl, rfl⟩; (try rw [h]))
    go_ret
    exact ⟨ret_bool HV.out.symm, (Below.refl _ _).alloc (Nat.le_refl _) _⟩
/-- A closure that asks whether a number lies between two bounds. -/
def btw (B : Nat) : Value := .func (.func 91) #[] #[.pointer (some ⟨B, 0, none⟩), .pointer (some ⟨B + 1, 0, none⟩)]
theorem between_any (lo hi : Int) (w : World) : Calls Try.prog 59 #[.int .i64 lo, .int .i64 hi] w fun e w' => e = .returned (btw w.heap.size) ∧ w' = (w.alloc (.cells #[.int .i64 lo] 3)).alloc (.cells #[.int .i64 hi] 3) := by
  go_enter Try.func59, Try.ntmps59
  go_wp2
  go_ret
  exact ⟨rfl, rfl⟩
theorem between1_any (B : Nat) (lo hi n : Int) (w : World) (h0 : w.cell? ⟨B, 0, none⟩ = some (.int .i64 lo)) (h1 : w.cell? ⟨B + 1, 0, none⟩ = some (.int .i64 hi)) :
    Calls Try.prog 91 #[.int .i64 n, .pointer (some ⟨B, 0, none⟩), .pointer (some ⟨B + 1, 0, none⟩)] w fun e w' => e = .returned (.bool (rangeB n lo hi)) ∧ w = w' := by
  go_enter Try.func91, Try.ntmps91
  go_wp2
  all_goals go_ret
  all_goals exact ⟨ret_bool (by first | (simp [rangeB, *]; done) | (simp [rangeB]; omega)), rfl⟩
theorem vfield_any (p t : Int) (w : World) :
    Calls Try.prog 19 #[.agg #[.int .i64 p, .int .i64 t]] w fun e w' => e = .returned (.bool (vfB p t)) ∧ Below w.heap.size w w' := by
  obtain ⟨V, hV⟩ : ∃ V, w.alloc (.cells #[.int .i64 p, .int .i64 t] 23) = V := ⟨_, rfl⟩
  have hb0 : Below w.heap.size w V := by rw [← hV]; exact (Below.refl _ _).alloc (Nat.le_refl _) _
  have c0 : V.cell? ⟨w.heap.size, 0, none⟩ = some (.int .i64 p) := by rw [← hV]; exact alloc_cell _ _ _ _ _ rfl
  have c1 : V.cell? ⟨w.heap.size, 1, none⟩ = some (.int .i64 t) := by rw [← hV]; exact alloc_cell _ _ _ _ _ rfl
  have HBE : Hid (∀ (lo hi : Int) W, Calls Try.prog 59 #[.int .i64 lo, .int .i64 hi] W fun e w' => e = .returned (.func (.func 91) #[] #[.pointer (some ⟨W.heap.size, 0, none⟩), .pointer (some ⟨W.heap.size + 1, 0, none⟩)]) ∧ Below W.heap.size W w' ∧ w'.cell? ⟨W.heap.size, 0, none⟩ = some (.int .i64 lo) ∧ w'.cell? ⟨W.heap.size + 1, 0, none⟩ = some (.int .i64 hi) ∧ W.heap.size + 2 ≤ w'.heap.size) := fun lo hi W => (between_any lo hi W).mono fun e w' ⟨h1, h2⟩ => by
    have s1 : (W.alloc (.cells #[.int .i64 lo] 3)).heap.size = W.heap.size + 1 := World.size_alloc _ _
    refine ⟨h1, ?_, ?_, ?_, ?_⟩
    · rw [h2]; exact ((Below.refl _ _).alloc (Nat.le_refl _) _).alloc (by omega) _
    · rw [h2]; exact (alloc_old _ _ _ _ (by omega)).trans (alloc_cell _ _ _ _ _ rfl)
    · rw [h2, ← s1]; exact alloc_cell _ _ _ _ _ rfl
    · rw [h2, World.size_alloc, s1]; omega
  have hs0 : V.heap.size = w.heap.size + 1 := by rw [← hV]; exact World.size_alloc _ _
  have HB0 := Lib.hid hb0
  have HCV : Hid (∀ W, Below V.heap.size V W → W.cell? ⟨w.heap.size, 0, none⟩ = some (.int .i64 p) ∧ W.cell? ⟨w.heap.size, 1, none⟩ = some (.int .i64 t)) := fun W h => ⟨(h.cell (p := ⟨w.heap.size, 0, none⟩) (by show w.heap.size < _; omega)).trans c0, (h.cell (p := ⟨w.heap.size, 1, none⟩) (by show w.heap.size < _; omega)).trans c1⟩
  clear hb0 hs0
  cases h : rangeB p 1 8
  · have HV : Hid (vfB p t = false) := by show _ = _; unfold vfB; rw [h]; rfl
    go_enter Try.func19, Try.ntmps19
    go_wp2
    rename_i aK
    have HKO := Lib.hid aK
    clear aK
    refine wp_region_G (S := fun _ W => Below V.heap.size V W) (by kernel_rfl) ((Below.refl _ _).drew) ?_
    intro hc hS
    refine wpAnyG_take (i := 1) (oi := ?oic1) (v := ?vc1) ?hic1 (by kernel_rfl) (by kernel_rfl) (by kernel_rfl) ?hQc1 (fun _ _ => Iff.rfl) hc ?hyc1 hS ?restc1
    case hic1 => (simp only [List.getElem?_toArray, List.getElem?_cons_succ, List.getElem?_cons_zero]; exact rfl)
    case hQc1 => exact fun _ _ _ h => h
    case hyc1 => (refine Or.inl ⟨rfl, ?_⟩; (intro w _; go_simp; (try with_reducible rfl)))
    clear hc hS; intro hc hS
    simp only [Act.put, List.setIfInBounds_toArray, List.set_cons_zero, List.set_cons_succ]
    refine wpAnyG_take (i := 2) (oi := ?oic2) (v := ?vc2) ?hic2 (by kernel_rfl) (by kernel_rfl) (by kernel_rfl) ?hQc2 (fun _ _ => Iff.rfl) hc ?hyc2 hS ?restc2
    case hic2 => (simp only [List.getElem?_toArray, List.getElem?_cons_succ, List.getElem?_cons_zero]; exact rfl)
    case hQc2 => exact fun _ _ _ h => h
    case hyc2 => (refine Or.inl ⟨rfl, ?_⟩; (rintro w ⟨L, _, _, hB⟩; obtain ⟨_, _⟩ := HCV.out w hB; go_simp; (try with_reducible rfl)))
    clear hc hS; intro hc hS
    simp only [Act.put, List.setIfInBounds_toArray, List.set_cons_zero, List.set_cons_succ]
    refine wpAnyG_only (i := 0) (o := ?oic0) (by kernel_rfl) ?hic0 hc ?restc0
    case hic0 => (simp only [List.getElem?_toArray, List.getElem?_cons_zero]; exact rfl)
    clear hc; intro hc K hK; have HK := Lib.hid hK; clear hK
    go_simp
    refine (HBE.out 1 8 _).mono ?_
    rintro e w1 ⟨rfl, hb1, k0, k1, hs1⟩
    have HB1 : Hid (Below V.heap.size V w1) := (Below.refl V.heap.size V).drew.trans hb1
    clear hb1
    refine HK.out _ _ HB1.out ?_
    clear HK K hS; intro hS
    refine wpAnyG_only (i := 3) (o := ?oic3) (by kernel_rfl) ?hic3 hc ?restc3
    case hic3 => (simp only [List.getElem?_toArray, List.getElem?_cons_succ, List.getElem?_cons_zero]; exact rfl)
    clear hc; intro hc K hK; have HK := Lib.hid hK; clear hK
    go_simp
    refine (between1_any _ 1 8 p _ k0 k1).mono ?_
    rintro e w2 ⟨rfl, rfl⟩
    rw [h]
    refine HK.out _ _ HB1.out ?_
    clear HK K hS; intro hS
    refine wpAnyG_take (i := 4) (oi := ?oic4) (v := ?vc4) ?hic4 (by kernel_rfl) (by kernel_rfl) (by kernel_rfl) ?hQc4 (fun _ _ => Iff.rfl) hc ?hyc4 hS ?restc4
    case hic4 => (simp only [List.getElem?_toArray, List.getElem?_cons_succ, List.getElem?_cons_zero]; exact rfl)
    case hQc4 => exact fun _ _ _ h => h
    case hyc4 => (refine Or.inl ⟨rfl, ?_⟩; (intro w _; go_simp; (try with_reducible rfl)))
    clear hc hS; intro hc hS
    simp only [Act.put, List.setIfInBounds_toArray, List.set_cons_zero, List.set_cons_succ]
    refine wpAnyG_take (i := 5) (oi := ?oic5) (v := undef) ?hic5 (by kernel_rfl) (by kernel_rfl) (by kernel_rfl) ?hQc5 (fun _ _ => Iff.rfl) hc ?hyc5 hS ?restc5
    case hic5 => (simp only [List.getElem?_toArray, List.getElem?_cons_succ, List.getElem?_cons_zero]; exact rfl)
    case hQc5 => exact fun _ _ _ h => h
    case hyc5 => exact Or.inr ⟨rfl, rfl⟩
    clear hc hS; intro hc hS
    simp only [Act.put, List.setIfInBounds_toArray, List.set_cons_zero, List.set_cons_succ]
    refine wpAnyG_take (i := 6) (oi := ?oic6) (v := undef) ?hic6 (by kernel_rfl) (by kernel_rfl) (by kernel_rfl) ?hQc6 (fun _ _ => Iff.rfl) hc ?hyc6 hS ?restc6
    case hic6 => (simp only [List.getElem?_toArray, List.getElem?_cons_succ, List.getElem?_cons_zero]; exact rfl)
    case hQc6 => exact fun _ _ _ h => h
    case hyc6 => exact Or.inr ⟨rfl, rfl⟩
    clear hc hS; intro hc hS
    simp only [Act.put, List.setIfInBounds_toArray, List.set_cons_zero, List.set_cons_succ]
    refine wpAnyG_take (i := 7) (oi := ?oic7) (v := undef) ?hic7 (by kernel_rfl) (by kernel_rfl) (by kernel_rfl) ?hQc7 (fun _ _ => Iff.rfl) hc ?hyc7 hS ?restc7
    case hic7 => (simp only [List.getElem?_toArray, List.getElem?_cons_succ, List.getElem?_cons_zero]; exact rfl)
    case hQc7 => exact fun _ _ _ h => h
    case hyc7 => exact Or.inr ⟨rfl, rfl⟩
    clear hc hS; intro hc hS
    simp only [Act.put, List.setIfInBounds_toArray, List.set_cons_zero, List.set_cons_succ]
    refine wpAnyG_take (i := 8) (oi := ?oic8) (v := undef) ?hic8 (by kernel_rfl) (by kernel_rfl) (by kernel_rfl) ?hQc8 (fun _ _ => Iff.rfl) hc ?hyc8 hS ?restc8
    case hic8 => (simp only [List.getElem?_toArray, List.getElem?_cons_succ, List.getElem?_cons_zero]; exact rfl)
    case hQc8 => exact fun _ _ _ h => h
    case hyc8 => exact Or.inr ⟨rfl, rfl⟩
    clear hc hS; intro hc hS
    simp only [Act.put, List.setIfInBounds_toArray, List.set_cons_zero, List.set_cons_succ]
    refine wpAnyG_take (i := 9) (oi := ?oic9) (v := ?vc9) ?hic9 (by kernel_rfl) (by kernel_rfl) (by kernel_rfl) ?hQc9 (fun _ _ => Iff.rfl) hc ?hyc9 hS ?restc9
    case hic9 => (simp only [List.getElem?_toArray, List.getElem?_cons_succ, List.getElem?_cons_zero]; exact rfl)
    case hQc9 => exact fun _ _ _ h => h
    case hyc9 => (refine Or.inl ⟨rfl, ?_⟩; (intro w _; go_simp; (try with_reducible rfl)))
    clear hc hS; intro hc hS
    simp only [Act.put, List.setIfInBounds_toArray, List.set_cons_zero, List.set_cons_succ]
    refine wpAnyG_take (i := 10) (oi := ?oic10) (v := ?vc10) ?hic10 (by kernel_rfl) (by kernel_rfl) (by kernel_rfl) ?hQc10 (fun _ _ => Iff.rfl) hc ?hyc10 hS ?restc10
    case hic10 => (simp only [List.getElem?_toArray, List.getElem?_cons_succ, List.getElem?_cons_zero]; exact rfl)
    case hQc10 => exact fun _ _ _ h => h
    case hyc10 => (refine Or.inl ⟨rfl, ?_⟩; (intro w _; go_simp; (try with_reducible rfl)))
    clear hc hS; intro hc hS
    simp only [Act.put, List.setIfInBounds_toArray, List.set_cons_zero, List.set_cons_succ]
    refine wpAnyG_done (by kernel_rfl) ?_ _
    refine HKO.out _ _ ?_
    go_wp2
    go_ret
    exact ⟨ret_bool HV.out.symm, HB0.out.trans (HB1.out.mono HB0.out.size)⟩
  · have HV : Hid (vfB p t = rangeB t 0 3) := by show _ = _; unfold vfB; rw [h]; rfl
    go_enter Try.func19, Try.ntmps19
    go_wp2
    rename_i aK
    have HKO := Lib.hid aK
    clear aK
    refine wp_region_G (S := fun _ W => Below V.heap.size V W) (by kernel_rfl) ((Below.refl _ _).drew) ?_
    intro hc hS
    refine wpAnyG_take (i := 1) (oi := ?oib1) (v := ?vb1) ?hib1 (by kernel_rfl) (by kernel_rfl) (by kernel_rfl) ?hQb1 (fun _ _ => Iff.rfl) hc ?hyb1 hS ?restb1
    case hib1 => (simp only [List.getElem?_toArray, List.getElem?_cons_succ, List.getElem?_cons_zero]; exact rfl)
    case hQb1 => exact fun _ _ _ h => h
    case hyb1 => (refine Or.inl ⟨rfl, ?_⟩; (intro w _; go_simp; (try with_reducible rfl)))
    clear hc hS; intro hc hS
    simp only [Act.put, List.setIfInBounds_toArray, List.set_cons_zero, List.set_cons_succ]
    refine wpAnyG_take (i := 2) (oi := ?oib2) (v := ?vb2) ?hib2 (by kernel_rfl) (by kernel_rfl) (by kernel_rfl) ?hQb2 (fun _ _ => Iff.rfl) hc ?hyb2 hS ?restb2
    case hib2 => (simp only [List.getElem?_toArray, List.getElem?_cons_succ, List.getElem?_cons_zero]; exact rfl)
    case hQb2 => exact fun _ _ _ h => h
    case hyb2 => (refine Or.inl ⟨rfl, ?_⟩; (rintro w ⟨L, _, _, hB⟩; obtain ⟨_, _⟩ := HCV.out w hB; go_simp; (try with_reducible rfl)))
    clear hc hS; intro hc hS
    simp only [Act.put, List.setIfInBounds_toArray, List.set_cons_zero, List.set_cons_succ]
    refine wpAnyG_only (i := 0) (o := ?oib0) (by kernel_rfl) ?hib0 hc ?restb0
    case hib0 => (simp only [List.getElem?_toArray, List.getElem?_cons_zero]; exact rfl)
    clear hc; intro hc K hK; have HK := Lib.hid hK; clear hK
    go_simp
    refine (HBE.out 1 8 _).mono ?_
    rintro e w1 ⟨rfl, hb1, k0, k1, hs1⟩
    have HB1 : Hid (Below V.heap.size V w1) := (Below.refl V.heap.size V).drew.trans hb1
    clear hb1
    refine HK.out _ _ HB1.out ?_
    clear HK K hS; intro hS
    refine wpAnyG_only (i := 3) (o := ?oib3) (by kernel_rfl) ?hib3 hc ?restb3
    case hib3 => (simp only [List.getElem?_toArray, List.getElem?_cons_succ, List.getElem?_cons_zero]; exact rfl)
    clear hc; intro hc K hK; have HK := Lib.hid hK; clear hK
    go_simp
    refine (between1_any _ 1 8 p _ k0 k1).mono ?_
    rintro e w2 ⟨rfl, rfl⟩
    rw [h]
    refine HK.out _ _ HB1.out ?_
    clear HK K hS; intro hS
    refine wpAnyG_take (i := 4) (oi := ?oib4) (v := ?vb4) ?hib4 (by kernel_rfl) (by kernel_rfl) (by kernel_rfl) ?hQb4 (fun _ _ => Iff.rfl) hc ?hyb4 hS ?restb4
    case hib4 => (simp only [List.getElem?_toArray, List.getElem?_cons_succ, List.getElem?_cons_zero]; exact rfl)
    case hQb4 => exact fun _ _ _ h => h
    case hyb4 => (refine Or.inl ⟨rfl, ?_⟩; (intro w _; go_simp; (try with_reducible rfl)))
    clear hc hS; intro hc hS
    simp only [Act.put, List.setIfInBounds_toArray, List.set_cons_zero, List.set_cons_succ]
    refine wpAnyG_take (i := 6) (oi := ?oib6) (v := ?vb6) ?hib6 (by kernel_rfl) (by kernel_rfl) (by kernel_rfl) ?hQb6 (fun _ _ => Iff.rfl) hc ?hyb6 hS ?restb6
    case hib6 => (simp only [List.getElem?_toArray, List.getElem?_cons_succ, List.getElem?_cons_zero]; exact rfl)
    case hQb6 => exact fun _ _ _ h => h
    case hyb6 => (refine Or.inl ⟨rfl, ?_⟩; (intro w _; go_simp; (try with_reducible rfl)))
    clear hc hS; intro hc hS
    simp only [Act.put, List.setIfInBounds_toArray, List.set_cons_zero, List.set_cons_succ]
    refine wpAnyG_take (i := 7) (oi := ?oib7) (v := ?vb7) ?hib7 (by kernel_rfl) (by kernel_rfl) (by kernel_rfl) ?hQb7 (fun _ _ => Iff.rfl) hc ?hyb7 hS ?restb7
    case hib7 => (simp only [List.getElem?_toArray, List.getElem?_cons_succ, List.getElem?_cons_zero]; exact rfl)
    case hQb7 => exact fun _ _ _ h => h
    case hyb7 => (refine Or.inl ⟨rfl, ?_⟩; (rintro w ⟨L, _, _, hB⟩; obtain ⟨_, _⟩ := HCV.out w hB; go_simp; (try with_reducible rfl)))
    clear hc hS; intro hc hS
    simp only [Act.put, List.setIfInBounds_toArray, List.set_cons_zero, List.set_cons_succ]
    refine wpAnyG_only (i := 5) (o := ?oib5) (by kernel_rfl) ?hib5 hc ?restb5
    case hib5 => (simp only [List.getElem?_toArray, List.getElem?_cons_succ, List.getElem?_cons_zero]; exact rfl)
    clear hc; intro hc K hK; have HK := Lib.hid hK; clear hK
    go_simp
    refine (HBE.out 0 3 _).mono ?_
    rintro e w3 ⟨rfl, hb3, j0, j1, hs3⟩
    have HB3 : Hid (Below V.heap.size V w3) := HB1.out.trans (hb3.mono HB1.out.size)
    clear hb3
    refine HK.out _ _ HB3.out ?_
    clear HK K hS; intro hS
    refine wpAnyG_only (i := 8) (o := ?oib8) (by kernel_rfl) ?hib8 hc ?restb8
    case hib8 => (simp only [List.getElem?_toArray, List.getElem?_cons_succ, List.getElem?_cons_zero]; exact rfl)
    clear hc; intro hc K hK; have HK := Lib.hid hK; clear hK
    go_simp
    refine (between1_any _ 0 3 t _ j0 j1).mono ?_
    rintro e w4 ⟨rfl, rfl⟩
    refine HK.out _ _ HB3.out ?_
    clear HK K hS; intro hS
    refine wpAnyG_take (i := 9) (oi := ?oib9) (v := ?vb9) ?hib9 (by kernel_rfl) (by kernel_rfl) (by kernel_rfl) ?hQb9 (fun _ _ => Iff.rfl) hc ?hyb9 hS ?restb9
    case hib9 => (simp only [List.getElem?_toArray, List.getElem?_cons_succ, List.getElem?_cons_zero]; exact rfl)
    case hQb9 => exact fun _ _ _ h => h
    case hyb9 => (refine Or.inl ⟨rfl, ?_⟩; (intro w _; go_simp; (try with_reducible rfl)))
    clear hc hS; intro hc hS
    simp only [Act.put, List.setIfInBounds_toArray, List.set_cons_zero, List.set_cons_succ]
    refine wpAnyG_take (i := 10) (oi := ?oib10) (v := ?vb10) ?hib10 (by kernel_rfl) (by kernel_rfl) (by kernel_rfl) ?hQb10 (fun _ _ => Iff.rfl) hc ?hyb10 hS ?restb10
    case hib10 => (simp only [List.getElem?_toArray, List.getElem?_cons_succ, List.getElem?_cons_zero]; exact rfl)
    case hQb10 => exact fun _ _ _ h => h
    case hyb10 => (refine Or.inl ⟨rfl, ?_⟩; (intro w _; go_simp; (try with_reducible rfl)))
    clear hc hS; intro hc hS
    simp only [Act.put, List.setIfInBounds_toArray, List.set_cons_zero, List.set_cons_succ]
    refine wpAnyG_done (by kernel_rfl) ?_ _
    refine HKO.out _ _ ?_
    go_wp2
    go_ret
    exact ⟨ret_bool HV.out.symm, HB0.out.trans (HB3.out.mono HB0.out.size)⟩
end Go.Proofs.Ytoedbbpjddjbnaa
/- Rows, pictures and sums of layer 7 and its answers: contracts. -/
namespace Go.Proofs.Ytoedbbpjddjbnaa
open Go.RowKit

def okL (lo hi : Int) (xs : List Int) : Bool := xs.all fun x => rangeB x lo hi
theorem okL_get {lo hi : Int} {xs : List Int} (h : okL lo hi xs = true) {k : Nat} (hk : k < xs.length) : lo ≤ gt xs k ∧ gt xs k ≤ hi := by
  unfold okL at h
  rw [List.all_eq_true] at h
  have := h xs[k] (List.getElem_mem hk)
  have e : gt xs k = xs[k] := by unfold gt; simp [hk]
  rw [e]; simpa [rangeB] using this
theorem okL_no {lo hi : Int} {xs : List Int} {k : Nat} {x : Int} (hx : xs[k]? = some x) (h : rangeB x lo hi = false) : okL lo hi xs = false := by
  unfold okL; rw [List.all_eq_false]; exact ⟨x, List.mem_of_getElem? hx, by simp [h]⟩
theorem okL_yes {lo hi : Int} {xs : List Int} (h : ∀ j, j < xs.length → rangeB (xs[j]?.getD 0) lo hi = true) : okL lo hi xs = true := by
  unfold okL; rw [List.all_eq_true]
  intro x hx
  obtain ⟨i, hi, rfl⟩ := List.mem_iff_getElem.1 hx
  have := h i hi
  simpa [hi] using this
/-- The index of the first number out of its range, or -1. -/
def notIx (lo hi : Int) (xs : List Int) : Int := match xs.findIdx? (fun x => !rangeB x lo hi) with | some i => (i : Int) | none => -1
theorem notIx_hit {lo hi : Int} {xs : List Int} {k : Nat} {x : Int} (h : ∀ j, j < k → rangeB (xs[j]?.getD 0) lo hi = true) (hx : xs[k]? = some x) (ho : rangeB x lo hi = false) : notIx lo hi xs = k := by
  have : xs.findIdx? (fun x => !rangeB x lo hi) = some k := by
    rw [List.findIdx?_eq_some_iff_getElem]
    have hk : k < xs.length := (List.getElem?_eq_some_iff.1 hx).1
    refine ⟨hk, ?_, fun j hj => ?_⟩
    · have e : xs[k] = x := (List.getElem?_eq_some_iff.1 hx).2
      simp [e, ho]
    · have := h j hj
      rw [List.getElem?_eq_getElem (by omega)] at this
      simpa using this
  unfold notIx; rw [this]
theorem notIx_miss {lo hi : Int} {xs : List Int} (h : ∀ j, j < xs.length → rangeB (xs[j]?.getD 0) lo hi = true) : notIx lo hi xs = -1 := by
  have : xs.findIdx? (fun x => !rangeB x lo hi) = none := by
    rw [List.findIdx?_eq_none_iff]
    intro x hx
    obtain ⟨i, hi, rfl⟩ := List.mem_iff_getElem.1 hx
    have := h i hi
    simpa [hi] using this
  unfold notIx; rw [this]
theorem notIx_ok (lo hi : Int) (xs : List Int) : (!decide (0 ≤ notIx lo hi xs)) = okL lo hi xs := by
  by_cases h : ∀ j, j < xs.length → rangeB (xs[j]?.getD 0) lo hi = true
  · rw [notIx_miss h, okL_yes h]; rfl
  · have hf : okL lo hi xs = false := by
      by_cases e : okL lo hi xs = true
      · refine absurd (fun j hj => ?_) h
        unfold okL at e
        rw [List.all_eq_true] at e
        have := e xs[j] (List.getElem_mem hj)
        simpa [hj] using this
      · simpa using e
    rw [hf]
    unfold notIx
    cases hq : xs.findIdx? (fun x => !rangeB x lo hi) with
    | some i => simp
    | none =>
      refine absurd (fun j hj => ?_) h
      rw [List.findIdx?_eq_none_iff] at hq
      have := hq xs[j] (List.getElem_mem hj)
      simpa [hj] using this
/-- The memory of a closure that asks whether a number lies between two bounds, and of one that asks it. -/
structure Btw (B : Nat) (lo hi : Int) (W : World) : Prop where
  c0 : W.cell? ⟨B, 0, none⟩ = some (.int .i64 lo)
  c1 : W.cell? ⟨B + 1, 0, none⟩ = some (.int .i64 hi)
theorem Btw.next {B : Nat} {lo hi : Int} {W W' : World} (h : Btw B lo hi W) (hb : Below W.heap.size W W') : Btw B lo hi W' :=
  ⟨(hb.cell (p := ⟨B, 0, none⟩) (cell_lt h.c0)).trans h.c0, (hb.cell (p := ⟨B + 1, 0, none⟩) (cell_lt h.c1)).trans h.c1⟩
theorem Btw.new (W : World) (lo hi : Int) (t : TypeId) : Btw W.heap.size lo hi ((W.alloc (.cells #[.int .i64 lo] t)).alloc (.cells #[.int .i64 hi] t)) := by
  have s1 : (W.alloc (.cells #[.int .i64 lo] t)).heap.size = W.heap.size + 1 := World.size_alloc _ _
  refine ⟨(alloc_old _ _ _ _ (by omega)).trans (alloc_cell _ _ _ _ _ rfl), ?_⟩
  rw [← s1]; exact alloc_cell _ _ _ _ _ rfl
theorem betweenB_any (lo hi : Int) (W : World) : Calls Try.prog 59 #[.int .i64 lo, .int .i64 hi] W fun e w' => e = .returned (.func (.func 91) #[] #[.pointer (some ⟨W.heap.size, 0, none⟩), .pointer (some ⟨W.heap.size + 1, 0, none⟩)]) ∧ Below W.heap.size W w' ∧ Btw W.heap.size lo hi w' :=
  (between_any lo hi W).mono fun e w' ⟨h1, h2⟩ => ⟨h1, by rw [h2]; exact ((Below.refl _ _).alloc (Nat.le_refl _) _).alloc (by rw [World.size_alloc]; omega) _, by rw [h2]; exact Btw.new _ _ _ _⟩
set_option maxRecDepth 100000 in
theorem bindex_any (C B : Nat) (lo hi : Int) (a : Option Addr) (xs : List Int) (cap : Nat) (w : World) (hl : xs.length ≤ 140737488351232) (hc : w.cell? ⟨C, 0, none⟩ = some (.func (.func 91) #[] #[.pointer (some ⟨B, 0, none⟩), .pointer (some ⟨B + 1, 0, none⟩)])) (hb : Btw B lo hi w) (hs : Sl w a xs) :
    Calls Try.prog 110 #[.slice a xs.length cap, .func (.func 105) #[] #[.pointer (some ⟨C, 0, none⟩)]] w fun e w' => e = .returned (.int .i64 (notIx lo hi xs)) ∧ w = w' := by
  have HS := Lib.hid hs; clear hs
  have H1 : Hid (∀ x, Calls Try.prog 105 #[.int .i64 x, .pointer (some ⟨C, 0, none⟩)] w fun e w' => e = .returned (.bool (!rangeB x lo hi)) ∧ w = w') := fun x => by
    go_enter Try.func105, Try.ntmps105
    go_wp2_with (go_at_call 91; refine (between1_any B lo hi x _ hb.c0 hb.c1).mono ?_; rintro e w1 ⟨rfl, rfl⟩)
    go_ret
    exact ⟨rfl, rfl⟩
  clear hc hb
  go_enter Try.func110, Try.ntmps110
  go_wp2
  go_loop [8] (fun i => ∃ k : Nat, k ≤ xs.length ∧ i = .int .i64 k ∧ ∀ j, j < k → rangeB (xs[j]?.getD 0) lo hi = true) (fun i => xs.length - (intOf i).toNat)
  case atStart => exact ⟨0, Nat.zero_le _, rfl, fun j h => by omega⟩
  case round =>
    obtain ⟨k, hk, rfl, hno⟩ := hrel
    have HN := Lib.hid hno; clear hno
    by_cases hlt : k < xs.length
    · obtain ⟨b, off, x, rfl, hcell, HX⟩ := HS.out.at hlt
      cases ho : rangeB x lo hi
      · go_wp2_with (go_at_call 105; refine (H1.out _).mono ?_; rintro e w' ⟨rfl, rfl⟩; rw [ho])
        go_ret
        exact ⟨ret_i64 (notIx_hit HN.out HX.out ho).symm, rfl⟩
      · go_wp2_with (go_at_call 105; refine (H1.out _).mono ?_; rintro e w' ⟨rfl, rfl⟩; rw [ho])
        go_round
        case rel => exact ⟨k + 1, by omega, by go_num, fun j hj => by
            by_cases hj' : j = k
            · subst hj'; rw [HX.out]; exact ho
            · exact HN.out j (by omega)⟩
        case measure => simp [intOf]; omega
    · go_wp2
      go_ret
      exact ⟨ret_i64 (notIx_miss (fun j hj => HN.out j (by omega))).symm, rfl⟩
theorem ball_any (B : Nat) (lo hi : Int) (a : Option Addr) (xs : List Int) (cap : Nat) (w : World) (hl : xs.length ≤ 140737488351232) (hb : Btw B lo hi w) (hs : Sl w a xs) :
    Calls Try.prog 89 #[.slice a xs.length cap, .func (.func 91) #[] #[.pointer (some ⟨B, 0, none⟩), .pointer (some ⟨B + 1, 0, none⟩)]] w fun e w' => e = .returned (.bool (okL lo hi xs)) ∧ Below w.heap.size w w' := by
  obtain ⟨V, hV⟩ : ∃ V, w.alloc (.cells #[.func (.func 91) #[] #[.pointer (some ⟨B, 0, none⟩), .pointer (some ⟨B + 1, 0, none⟩)]] 69) = V := ⟨_, rfl⟩
  have hb0 : Below w.heap.size w V := by rw [← hV]; exact (Below.refl _ _).alloc (Nat.le_refl _) _
  have hc : V.cell? ⟨w.heap.size, 0, none⟩ = some (.func (.func 91) #[] #[.pointer (some ⟨B, 0, none⟩), .pointer (some ⟨B + 1, 0, none⟩)]) := by rw [← hV]; exact alloc_cell _ _ _ _ _ rfl
  have HI : Hid (∀ c, Calls Try.prog 110 #[.slice a xs.length c, .func (.func 105) #[] #[.pointer (some ⟨w.heap.size, 0, none⟩)]] V fun e w' => e = .returned (.int .i64 (notIx lo hi xs)) ∧ V = w') := fun c => bindex_any w.heap.size B lo hi a xs c V hl hc (hb.next hb0) (hs.below hb0)
  have HC : Hid (∀ c, Calls Try.prog 104 #[.slice a xs.length c, .func (.func 105) #[] #[.pointer (some ⟨w.heap.size, 0, none⟩)]] V fun e w' => e = .returned (.bool (decide (0 ≤ notIx lo hi xs))) ∧ V = w') := fun c => by
    go_enter Try.func104, Try.ntmps104
    go_wp2_with (go_at_call 110; refine (HI.out _).mono ?_; rintro e w' ⟨rfl, rfl⟩)
    go_ret
    exact ⟨ret_bool rfl, rfl⟩
  have HB0 := Lib.hid hb0
  have HOK := Lib.hid (notIx_ok lo hi xs)
  clear hb0 hb hs hc
  go_enter Try.func89, Try.ntmps89
  go_wp2_with (go_at_call 104; refine (HC.out _).mono ?_; rintro e w' ⟨rfl, rfl⟩)
  go_ret
  exact ⟨ret_bool HOK.out, HB0.out⟩
end Go.Proofs.Ytoedbbpjddjbnaa
/- Rows and pictures asked for their kind, and the sum of a row times a picture: layer 7 and its answers. Contracts. -/
namespace Go.Proofs.Ytoedbbpjddjbnaa
open Go.RowKit

def prodTo (xs ys : List Int) : Nat → Int
  | 0 => 0
  | k + 1 => prodTo xs ys k + gt xs k * gt ys k
def prodL (xs ys : List Int) : Int := prodTo xs ys xs.length
def browB (p t : Int) (row : List Int) : Bool := vfB p t && (decide ((row.length : Int) = p) && okL (-1) 1 row)
def shownE (p t : Int) (x : List Int) : Int := if (x.length : Int) = p then (if okL 0 t x = true then 0 else 7) else 9
def sumV (p t : Int) (row x : List Int) : Int × Int := if browB p t row = true then (if shownE p t x = 0 then (prodL row x, 0) else (0, shownE p t x)) else (0, 1)
theorem okL_le {lo hi hi' : Int} {xs : List Int} (h : okL lo hi xs = true) (hh : hi ≤ hi') : okL lo hi' xs = true := by
  unfold okL at h ⊢
  rw [List.all_eq_true] at h ⊢
  intro x hx
  have := h x hx
  simp only [rangeB, Bool.and_eq_true, decide_eq_true_eq] at this ⊢
  omega
theorem mul_bd {xs ys : List Int} (h1 : okL (-1) 1 xs = true) (h2 : okL 0 3 ys = true) (hl : xs.length = ys.length) {k : Nat} (hk : k < xs.length) : -3 ≤ gt xs k * gt ys k ∧ gt xs k * gt ys k ≤ 3 := by
  have a := okL_get h1 hk
  have b := okL_get h2 (show k < ys.length by omega)
  obtain c | c | c : gt xs k = -1 ∨ gt xs k = 0 ∨ gt xs k = 1 := by omega
  all_goals rw [c]; omega
theorem prodTo_bd {xs ys : List Int} (h1 : okL (-1) 1 xs = true) (h2 : okL 0 3 ys = true) (hl : xs.length = ys.length) : ∀ k, k ≤ xs.length → -(3 * (k : Int)) ≤ prodTo xs ys k ∧ prodTo xs ys k ≤ 3 * k
  | 0, _ => by simp [prodTo]
  | k + 1, hk => by
    have ih := prodTo_bd h1 h2 hl k (by omega)
    have m := mul_bd h1 h2 hl (show k < xs.length by omega)
    simp only [prodTo]
    omega
set_option maxRecDepth 100000 in
theorem product_any (a : Option Addr) (xs : List Int) (ca : Nat) (b : Option Addr) (ys : List Int) (cb : Nat) (w : World) (hl : xs.length ≤ 8) (hl2 : xs.length = ys.length) (h1 : okL (-1) 1 xs = true) (h2 : okL 0 3 ys = true) (ha : Sl w a xs) (hb : Sl w b ys) :
    Calls Try.prog 55 #[.slice a xs.length ca, .slice b ys.length cb] w fun e w' => e = .returned (.int .i64 (prodL xs ys)) ∧ w = w' := by
  have HA := Lib.hid ha; clear ha
  have HB := Lib.hid hb; clear hb
  have SB := Lib.hid (fun k (hk : k ≤ xs.length) => prodTo_bd (xs := xs) (ys := ys) h1 h2 hl2 k hk)
  have MB := Lib.hid (fun k (hk : k < xs.length) => mul_bd (xs := xs) (ys := ys) h1 h2 hl2 hk)
  clear h1 h2
  go_enter Try.func55, Try.ntmps55
  go_wp2
  go_loop [5, 10] (fun s i => ∃ k : Nat, k ≤ xs.length ∧ i = .int .i64 k ∧ s = .int .i64 (prodTo xs ys k)) (fun _ i => xs.length - (intOf i).toNat)
  case atStart => exact ⟨0, Nat.zero_le _, rfl, rfl⟩
  case round =>
    obtain ⟨k, hk, rfl, rfl⟩ := hrel
    by_cases hlt : k < xs.length
    · obtain ⟨b1, o1, x, rfl, hcx, HX⟩ := HA.out.at hlt
      obtain ⟨b2, o2, y, rfl, hcy, HY⟩ := HB.out.at (show k < ys.length by omega)
      have hS := Lib.hid (show prodTo xs ys (k + 1) = prodTo xs ys k + x * y by show prodTo xs ys k + gt xs k * gt ys k = _; rw [gt_some' HX.out, gt_some' HY.out])
      obtain ⟨p1, p2⟩ : -3 ≤ x * y ∧ x * y ≤ 3 := by have := MB.out k hlt; rw [gt_some' HX.out, gt_some' HY.out] at this; exact this
      obtain ⟨s1, s2⟩ : -24 ≤ prodTo xs ys k ∧ prodTo xs ys k ≤ 24 := by have := SB.out k hk; omega
      generalize prodTo xs ys k = S at *
      have m1 : IntKind.i64.wrap (x * y) = x * y := IntWalk.i64_in _ (by omega)
      have m2 : IntKind.i64.wrap (S + x * y) = S + x * y := IntWalk.i64_in _ (by omega)
      go_wp2
      all_goals go_round
      case rel => exact ⟨k + 1, by omega, by go_num, by rw [hS.out]⟩
      case measure => simp [intOf]; omega
    · obtain rfl : k = xs.length := by omega
      go_wp2
      go_ret
      exact ⟨ret_i64 (by unfold prodL; rw [hl2]), rfl⟩
set_option maxRecDepth 100000 in
theorem rsum_any (a : Option Addr) (xs : List Int) (ca : Nat) (b : Option Addr) (ys : List Int) (cb : Nat) (w : World) (hl : xs.length ≤ 8) (hl2 : xs.length = ys.length) (h1 : okL (-1) 1 xs = true) (h2 : okL 0 3 ys = true) (ha : Sl w a xs) (hb : Sl w b ys) :
    Calls Try.prog 58 #[.slice a xs.length ca, .slice b ys.length cb] w fun e w' => e = .returned (.int .i64 (prodL xs ys)) ∧ w = w' := by
  have HA := Lib.hid ha; clear ha
  have HB := Lib.hid hb; clear hb
  have SB := Lib.hid (fun k (hk : k ≤ xs.length) => prodTo_bd (xs := xs) (ys := ys) h1 h2 hl2 k hk)
  have MB := Lib.hid (fun k (hk : k < xs.length) => mul_bd (xs := xs) (ys := ys) h1 h2 hl2 hk)
  clear h1 h2
  go_enter Try.func58, Try.ntmps58
  go_wp2
  go_loop [5, 10] (fun s i => ∃ k : Nat, k ≤ xs.length ∧ i = .int .i64 k ∧ s = .int .i64 (prodTo xs ys k)) (fun _ i => xs.length - (intOf i).toNat)
  case atStart => exact ⟨0, Nat.zero_le _, rfl, rfl⟩
  case round =>
    obtain ⟨k, hk, rfl, rfl⟩ := hrel
    by_cases hlt : k < xs.length
    · obtain ⟨b1, o1, x, rfl, hcx, HX⟩ := HA.out.at hlt
      obtain ⟨b2, o2, y, rfl, hcy, HY⟩ := HB.out.at (show k < ys.length by omega)
      have hS := Lib.hid (show prodTo xs ys (k + 1) = prodTo xs ys k + x * y by show prodTo xs ys k + gt xs k * gt ys k = _; rw [gt_some' HX.out, gt_some' HY.out])
      obtain ⟨p1, p2⟩ : -3 ≤ x * y ∧ x * y ≤ 3 := by have := MB.out k hlt; rw [gt_some' HX.out, gt_some' HY.out] at this; exact this
      obtain ⟨s1, s2⟩ : -24 ≤ prodTo xs ys k ∧ prodTo xs ys k ≤ 24 := by have := SB.out k hk; omega
      generalize prodTo xs ys k = S at *
      have m1 : IntKind.i64.wrap (x * y) = x * y := IntWalk.i64_in _ (by omega)
      have m2 : IntKind.i64.wrap (S + x * y) = S + x * y := IntWalk.i64_in _ (by omega)
      go_wp2
      all_goals go_round
      case rel => exact ⟨k + 1, by omega, by go_num, by rw [hS.out]⟩
      case measure => simp [intOf]; omega
    · obtain rfl : k = xs.length := by omega
      go_wp2
      go_ret
      exact ⟨ret_i64 (by unfold prodL; rw [hl2]), rfl⟩
end Go.Proofs.Ytoedbbpjddjbnaa
/- Rows by their headers: a slice of rows whose array is the call's own, and whose rows lie anywhere else and are only read. Written by mk_bhrow.py. -/
namespace Go.Proofs.Ytoedbbpjddjbnaa
open Go.RowKit

def rowL (m : List (List Int)) (i : Nat) : List Int := m[i]?.getD []
theorem rowL_some {m : List (List Int)} {i : Nat} {r : List Int} (h : m[i]? = some r) : rowL m i = r := by unfold rowL; rw [h]; rfl
theorem row_below {w w' : World} {base : Nat} {e : TypeId} {sz n : Nat} {v : Value} {xs : List Value} (h : w.ownsRow base e sz v n xs) (hb : Below w.heap.size w w') : w'.ownsRow base e sz v n xs := by
  obtain ⟨h0, h1 | ⟨g, cap, cur, e, hg, hh, rest⟩⟩ := h
  · exact ⟨h0, .inl h1⟩
  · exact ⟨h0, .inr ⟨g, cap, cur, e, hg, (hb.block g (Array.getElem?_eq_some_iff.1 hh).1).trans hh, rest⟩⟩
theorem row_same {w w' : World} {base : Nat} {e : TypeId} {sz n : Nat} {v : Value} {xs : List Value} (h : w.ownsRow base e sz v n xs) (hb : ∀ b, v.ownBlock = some b → w'.heap[b]? = w.heap[b]?) : w'.ownsRow base e sz v n xs := by
  obtain ⟨h0, h1 | ⟨g, cap, cur, e, hg, hh, rest⟩⟩ := h
  · exact ⟨h0, .inl h1⟩
  · exact ⟨h0, .inr ⟨g, cap, cur, e, hg, (hb g (by rw [e]; rfl)).trans hh, rest⟩⟩
theorem Try.infoRowL : (Try.prog.info? 25).map (fun i => (i.zero, i.size, i.bytes)) = some (some (.slice none 0 0), 1, 24) := by kernel_rfl
theorem get_snoc {α : Type} {l : List α} {y : α} {i : Nat} {x : α} (e : (l ++ [y])[i]? = some x) : l[i]? = some x ∨ (i = l.length ∧ x = y) := by
  rcases Nat.lt_trichotomy i l.length with hi | hi | hi
  · rw [List.getElem?_append_left hi] at e; exact .inl e
  · subst hi; simp at e; exact .inr ⟨rfl, e.symm⟩
  · have := (List.getElem?_eq_some_iff.1 e).1; simp at this; omega
def hdO (ads : List (Option Addr × Nat)) (M : List (List Int)) : List Value := List.zipWith (fun x r => Value.slice x.1 r.length x.2) ads M
theorem hdO_at {ads : List (Option Addr × Nat)} {M : List (List Int)} {i : Nat} {x : Option Addr × Nat} {r : List Int} (e1 : ads[i]? = some x) (e2 : M[i]? = some r) : (hdO ads M)[i]? = some (.slice x.1 r.length x.2) := by
  unfold hdO; rw [List.getElem?_zipWith, e1, e2]
theorem hdO_set {ads : List (Option Addr × Nat)} {M : List (List Int)} {i : Nat} {x : Option Addr × Nat} {r : List Int} (hl : ads.length = M.length) (hi : i < M.length) : hdO (ads.set i x) (M.set i r) = (hdO ads M).set i (.slice x.1 r.length x.2) := by
  apply List.ext_getElem?
  intro j
  by_cases e : j = i
  · subst e
    rw [hdO_at (List.getElem?_set_self (by omega)) (List.getElem?_set_self hi), List.getElem?_set_self (by unfold hdO; simp; omega)]
  · rw [List.getElem?_set_ne (Ne.symm e)]
    unfold hdO
    rw [List.getElem?_zipWith, List.getElem?_zipWith, List.getElem?_set_ne (Ne.symm e), List.getElem?_set_ne (Ne.symm e)]
theorem sl_apart {w : World} {a : Option Addr} {xs : List Int} (h : Sl w a xs) {p : Addr} (hp : ∀ ad, a = some ad → ad.block ≠ p.block) (u : Value) : Sl (w.setCell p u) a xs := by
  intro k hk
  obtain ⟨b, off, e, hc⟩ := h k hk
  exact ⟨b, off, e, (cell_other w p u _ (hp _ e)).trans hc⟩
/-- What a slice of the call's own is. -/
theorem OwnI.parts {w : World} {base : Nat} {v : Value} {xs : List Int} (h : OwnI w base v xs) : ∃ a c, v = .slice a xs.length c ∧ Sl w a xs ∧ ∀ ad, a = some ad → ad.block < w.heap.size ∧ base ≤ ad.block := by
  obtain ⟨a, c, rfl, hs⟩ := h.any
  refine ⟨a, c, rfl, hs, fun ad e => ?_⟩
  subst e
  have := World.ownsRow.lt h ad.block rfl
  exact ⟨this.2, this.1⟩
structure HR (base : Nat) (rv : Value) (ads : List (Option Addr × Nat)) (M : List (List Int)) (w : World) : Prop where
  len : ads.length = M.length
  own : w.ownsRow base 25 1 rv M.length (hdO ads M)
  row : ∀ (i : Nat) (x : Option Addr × Nat) (r : List Int), ads[i]? = some x → M[i]? = some r → Sl w x.1 r
  out : ∀ (i : Nat) (x : Option Addr × Nat), ads[i]? = some x → ∀ ad, x.1 = some ad → ad.block < w.heap.size ∧ rv.ownBlock ≠ some ad.block
theorem HR.nil (base : Nat) (w : World) : HR base (.slice none 0 0) [] [] w := ⟨rfl, World.ownsRow_nil _ _ _ _, fun i x r e _ => by simp at e, fun i x e => by simp at e⟩
theorem HR.below {base : Nat} {rv : Value} {ads : List (Option Addr × Nat)} {M : List (List Int)} {w w' : World} (h : HR base rv ads M w) (hb : Below w.heap.size w w') : HR base rv ads M w' where
  len := h.len
  own := row_below h.own hb
  row := fun i x r e1 e2 => (h.row i x r e1 e2).below hb
  out := fun i x e ad ea => ⟨Nat.lt_of_lt_of_le (h.out i x e ad ea).1 hb.size, (h.out i x e ad ea).2⟩
theorem HR.mono {base base' : Nat} {rv : Value} {ads : List (Option Addr × Nat)} {M : List (List Int)} {w : World} (h : HR base rv ads M w) (hb : base' ≤ base) : HR base' rv ads M w where
  len := h.len
  own := by
    obtain ⟨h0, h1 | ⟨g, cap, cur, e, hg, rest⟩⟩ := h.own
    · exact ⟨h0, .inl h1⟩
    · exact ⟨h0, .inr ⟨g, cap, cur, e, Nat.le_trans hb hg, rest⟩⟩
  row := h.row
  out := h.out
theorem HR.shape {base : Nat} {rv : Value} {ads : List (Option Addr × Nat)} {M : List (List Int)} {w : World} (h : HR base rv ads M w) : (rv = .slice none 0 0 ∧ M = []) ∨ ∃ g cap, rv = .slice (some ⟨g, 0, none⟩) M.length cap ∧ base ≤ g ∧ g < w.heap.size := by
  obtain ⟨_, ⟨e, h0⟩ | ⟨g, cap, cur, e, hg, hb, _⟩⟩ := h.own
  · exact .inl ⟨e, List.eq_nil_of_length_eq_zero h0⟩
  · exact .inr ⟨g, cap, e, hg, (Array.getElem?_eq_some_iff.1 hb).1⟩
/-- The header of a row, and the row. -/
theorem HR.at {base g n cap : Nat} {ads : List (Option Addr × Nat)} {M : List (List Int)} {w : World} (h : HR base (.slice (some ⟨g, 0, none⟩) n cap) ads M w) {i : Nat} (hi : i < M.length) :
    ∃ a c, ads[i]? = some (a, c) ∧ w.cell? ⟨g, i, none⟩ = some (.slice a (rowL M i).length c) ∧ w.frozen? ⟨g, i, none⟩ = false ∧ Sl w a (rowL M i) ∧ ∀ ad, a = some ad → ad.block < w.heap.size ∧ ad.block ≠ g := by
  have e1 : ads[i]? = some (ads[i]'(by rw [h.len]; exact hi)) := by simp [h.len, hi]
  have e2 : M[i]? = some M[i] := by simp [hi]
  have ho := h.own
  obtain rfl : n = M.length := by
    obtain ⟨_, ⟨e, _⟩ | ⟨_, _, _, e, _⟩⟩ := ho
    · cases e
    · simpa using congrArg (fun v => match v with | .slice _ n _ => n | _ => 0) e
  have hc := ho.cellAt i (by rw [Nat.mul_one]; exact hi)
  rw [hdO_at e1 e2] at hc
  refine ⟨_, _, e1, ?_, World.ownsRow.frozenAt h.own i, ?_, fun ad ea => ?_⟩
  · rw [rowL_some e2]; exact hc
  · rw [rowL_some e2]; exact h.row i _ _ e1 e2
  · have := h.out i _ e1 ad ea
    exact ⟨this.1, fun e => this.2 (by rw [e]; rfl)⟩
/-- A header stored in place. -/
theorem HR.stored {base g n cap : Nat} {ads : List (Option Addr × Nat)} {M : List (List Int)} {w : World} (h : HR base (.slice (some ⟨g, 0, none⟩) n cap) ads M w) {i : Nat} (hi : i < M.length) {a : Option Addr} {c : Nat} {r : List Int} (hs : Sl w a r) (ha : ∀ ad, a = some ad → ad.block < w.heap.size ∧ ad.block ≠ g) :
    HR base (.slice (some ⟨g, 0, none⟩) n cap) (ads.set i (a, c)) (M.set i r) (w.setCell ⟨g, i, none⟩ (.slice a r.length c)) where
  len := by rw [List.length_set, List.length_set]; exact h.len
  own := by
    rw [List.length_set, hdO_set h.len hi]
    obtain rfl : n = M.length := by
      obtain ⟨_, ⟨e, _⟩ | ⟨_, _, _, e, _⟩⟩ := h.own
      · cases e
      · simpa using congrArg (fun v => match v with | .slice _ n _ => n | _ => 0) e
    exact (World.ownsRow.stored h.own i _).1
  row := fun j x q e1 e2 => by
    by_cases e : j = i
    · subst e
      rw [List.getElem?_set_self (by have := h.len; omega)] at e1
      rw [List.getElem?_set_self hi] at e2
      cases e1; cases e2
      exact sl_apart hs (fun ad ea => (ha ad ea).2) _
    · rw [List.getElem?_set_ne (Ne.symm e)] at e1 e2
      exact sl_apart (h.row j x q e1 e2) (fun ad ea e3 => (h.out j x e1 ad ea).2 (by rw [e3]; rfl)) _
  out := fun j x e1 ad ea => by
    rw [World.size_setCell]
    by_cases e : j = i
    · subst e
      rw [List.getElem?_set_self (by have := h.len; omega)] at e1
      cases e1
      exact ⟨(ha ad ea).1, fun e3 => (ha ad ea).2 (by simpa [Value.ownBlock] using e3.symm)⟩
    · rw [List.getElem?_set_ne (Ne.symm e)] at e1
      exact h.out j x e1 ad ea
/-- A store elsewhere. -/
theorem HR.far {base : Nat} {rv : Value} {ads : List (Option Addr × Nat)} {M : List (List Int)} {w : World} (h : HR base rv ads M w) {p : Addr} (h1 : rv.ownBlock ≠ some p.block) (h2 : ∀ (i : Nat) (x : Option Addr × Nat), ads[i]? = some x → ∀ ad, x.1 = some ad → ad.block ≠ p.block) (u : Value) : HR base rv ads M (w.setCell p u) where
  len := h.len
  own := row_same h.own fun b e => Below.heap_setCell w _ _ b (by rintro rfl; exact h1 e)
  row := fun i x r e1 e2 => sl_apart (h.row i x r e1 e2) (h2 i x e1) _
  out := fun i x e ad ea => by rw [World.size_setCell]; exact h.out i x e ad ea
theorem HR.push {base : Nat} {rv : Value} {ads : List (Option Addr × Nat)} {M : List (List Int)} {V w' : World} (h : HR base rv ads M V) {row : List Int} {a : Option Addr} {c g cap : Nat} (hs : Sl V a row) (ha : ∀ ad, a = some ad → ad.block < V.heap.size ∧ rv.ownBlock ≠ some ad.block)
    (h1 : w'.ownsRow base 25 1 (.slice (some ⟨g, 0, none⟩) (M.length + 1) cap) (M.length + 1) (hdO ads M ++ [.slice a row.length c])) (h2 : V.grownBy w' rv.ownBlock) (h3 : rv.ownBlock = some g ∨ g = V.heap.size) :
    HR base (.slice (some ⟨g, 0, none⟩) (M.length + 1) cap) (ads ++ [(a, c)]) (M ++ [row]) w' := by
  have far : ∀ b, b < V.heap.size → rv.ownBlock ≠ some b → w'.heap[b]? = V.heap[b]? := fun b hb hn => h2.block b hb (fun e => hn e.symm)
  have hne2 : ∀ b, b < V.heap.size → rv.ownBlock ≠ some b → g ≠ b := by
    intro b hb hn e
    rcases h3 with h3 | h3
    · exact hn (by rw [h3, e])
    · omega
  have hsz : V.heap.size ≤ w'.heap.size := h2.size
  have hh : hdO (ads ++ [(a, c)]) (M ++ [row]) = hdO ads M ++ [.slice a row.length c] := by
    unfold hdO; rw [List.zipWith_append h.len]; rfl
  have keep : ∀ {b : Option Addr} {q : List Int}, Sl V b q → (∀ ad, b = some ad → ad.block < V.heap.size ∧ rv.ownBlock ≠ some ad.block) → Sl w' b q := by
    intro b q hq hb k hk
    obtain ⟨b', off, e, hc⟩ := hq k hk
    have := hb _ e
    exact ⟨b', off, e, (World.cell?_of_block (far b' this.1 this.2)).trans hc⟩
  refine ⟨by simp [h.len], ?_, ?_, ?_⟩
  · rw [hh]; simpa using h1
  · intro i x r e1 e2
    have hl := h.len
    rcases get_snoc e1 with e1 | ⟨i1, rfl⟩
    · have hi := (List.getElem?_eq_some_iff.1 e1).1
      rw [List.getElem?_append_left (by omega)] at e2
      exact keep (h.row i x r e1 e2) (h.out i x e1)
    · subst i1
      rw [hl] at e2; simp at e2; subst e2
      exact keep hs ha
  · intro i x e ad ea
    have : ad.block < V.heap.size ∧ rv.ownBlock ≠ some ad.block := by
      rcases get_snoc e with e | ⟨_, rfl⟩
      · exact h.out i x e ad ea
      · exact ha ad ea
    exact ⟨by omega, fun e => hne2 _ this.1 this.2 (by simpa [Value.ownBlock] using e)⟩
/-- What another's growth leaves. -/
theorem HR.grown {base : Nat} {rv : Value} {ads : List (Option Addr × Nat)} {M : List (List Int)} {V w' : World} {ob : Option Nat} (h : HR base rv ads M V) (hg : V.grownBy w' ob) (h1 : ∀ b, rv.ownBlock = some b → ob ≠ some b) (h2 : ∀ (i : Nat) (x : Option Addr × Nat), ads[i]? = some x → ∀ ad, x.1 = some ad → ob ≠ some ad.block) : HR base rv ads M w' where
  len := h.len
  own := row_same h.own fun b e => hg.block b (World.ownsRow.lt h.own b e).2 (Ne.symm (h1 b e))
  row := fun i x r e1 e2 k hk => by
    obtain ⟨b', off, e, hc⟩ := h.row i x r e1 e2 k hk
    exact ⟨b', off, e, (World.cell?_of_block (hg.block b' (h.out i x e1 _ e).1 (Ne.symm (h2 i x e1 _ e)))).trans hc⟩
  out := fun i x e ad ea => ⟨Nat.lt_of_lt_of_le (h.out i x e ad ea).1 hg.size, (h.out i x e ad ea).2⟩
theorem wpList_pushHR {ops : Array Oper} {rest : List Oper} {o : Oper} {act : Act} {Q : Exit → Act → World → Prop} (hgd : o.guard = none) (s x : Operand)
    (ho : o.op = .call { callee := .builtin .append, args := #[s, x], argTypes := #[57, 57] }) (base : Nat) (rv : Value) (ads : List (Option Addr × Nat)) (M : List (List Int)) (row : List Int) (rl : Nat) (hrl : row.length = rl) (a : Option Addr) (c : Nat) (V : World) (t : TypeId) (A : Nat)
    (hv : act.eval s = rv) (hx : act.eval x = .slice (some ⟨A, 0, none⟩) 1 1) (hA : A = V.heap.size) (hown : HR base rv ads M V) (hs : Sl V a row)
    (ha : ∀ ad, a = some ad → ad.block < V.heap.size ∧ rv.ownBlock ≠ some ad.block) (hl : M.length ≤ 100000) (hbase : base ≤ V.heap.size)
    (h : ∀ g cap w', HR base (.slice (some ⟨g, 0, none⟩) (M.length + 1) cap) (ads ++ [(a, c)]) (M ++ [row]) w' → (rv.ownBlock = some g ∨ V.heap.size ≤ g) → Below base V w' → (V.alloc (.cells #[.slice a rl c] t)).grownBy w' rv.ownBlock → wpList Try.prog ops Q rest (act.put o.dst (.slice (some ⟨g, 0, none⟩) (M.length + 1) cap)) w') : wpList Try.prog ops Q (o :: rest) act (V.alloc (.cells #[.slice a rl c] t)) := by
  subst hrl
  obtain ⟨i0, hi, hz0, hz1, hz2⟩ := info_parts Try.infoRowL
  subst hA
  have hb1 : Below V.heap.size V (V.alloc (.cells #[.slice a row.length c] t)) := (Below.refl _ _).alloc (Nat.le_refl _) _
  have hown' := hown.below hb1
  refine wpList_append_lies _ hgd s x 57 ho base 25 i0 (.slice none 0 0) 1 24 Try.underlying57 hi hz0 hz1 hz2 rfl (by decide) rv M.length (hdO ads M) hv hown'.own ⟨V.heap.size, 0, none⟩ 1 1 [.slice a row.length c] hx rfl ?_ ?_ (by decide) (by unfold maxLen; omega) (by omega) (by rw [World.size_alloc]; omega) _ rfl ?_
  · intro j u hj
    match j, hj with
    | 0, hj =>
      simp at hj; subst hj
      rw [addr_add]; exact alloc_cell _ _ _ _ _ rfl
    | j + 1, hj => simp at hj
  · intro u hu; simp at hu; subst hu; rfl
  · intro g cap w' h1 h2 h3 _
    exact h g cap w' (hown'.push (hs.below hb1) (fun ad ea => ⟨Nat.lt_of_lt_of_le (ha ad ea).1 hb1.size, (ha ad ea).2⟩) h1 h2 h3) (by rcases h3 with h3 | h3; exact .inl h3; rw [World.size_alloc] at h3; exact .inr (by omega)) (((Below.refl base V).alloc hbase _).grown h2 (by rw [World.size_alloc]; omega) (fun k e => (World.ownsRow.lt hown.own k e).1)) h2
theorem HR.lit (w : World) : HR w.heap.size (.slice (some ⟨w.heap.size, 0, none⟩) 1 1) [(none, 0)] [[]] (w.alloc (.cells #[.slice none 0 0] 25)) where
  len := rfl
  own := World.ownsRow_lit (base := w.heap.size) (size := 1) w #[.slice none 0 0] 1 (Nat.le_refl _) (by unfold maxLen; omega) rfl
  row := fun i x r e1 e2 => by
    cases i with
    | zero => simp at e1 e2; subst e1; subst e2; intro k hk; simp at hk
    | succ i => simp at e1
  out := fun i x e ad ea => by
    cases i with
    | zero => simp at e; subst e; cases ea
    | succ i => simp at e
theorem own_lit0 (w : World) : OwnI (w.alloc (.cells #[] 3)) w.heap.size (.slice (some ⟨w.heap.size, 0, none⟩) 0 0) [] := by
  refine ⟨by simp, .inr ⟨w.heap.size, 0, #[], rfl, Nat.le_refl _, ?_, by simp, by unfold maxLen; omega, by simp, by simp⟩⟩
  show (w.heap.push (.cells #[] 3))[w.heap.size]? = _
  rw [Array.getElem?_push_size]
theorem wpList_catS {ops : Array Oper} {rest : List Oper} {o : Oper} {a : Act} {Q : Exit → Act → World → Prop} (hgd : o.guard = none) (s x : Operand)
    (ho : o.op = .call { callee := .builtin .append, args := #[s, x], argTypes := #[25, 25] }) (base : Nat) (v : Value) (zs : List Int) (b off : Nat) (ys : List Int) (c : Nat) (V : World)
    (hs : a.eval s = v) (hx : a.eval x = .slice (some ⟨b, off, none⟩) ys.length c) (hown : OwnI V base v zs) (hsl : Sl V (some ⟨b, off, none⟩) ys) (hl : zs.length + ys.length ≤ 100000) (hbase : base ≤ V.heap.size)
    (h : ∀ v' w', OwnI w' base v' (zs ++ ys) → Below base V w' → wpList Try.prog ops Q rest (a.put o.dst v') w') : wpList Try.prog ops Q (o :: rest) a V := by
  obtain ⟨i0, hi, hz0, hz1, hz2⟩ := info_parts Try.infoInt
  refine wpList_append_own V hgd s x 25 ho base 3 i0 (.int .i64 0) 1 8 Try.underlying25 hi hz0 hz1 hz2 rfl (by decide) v zs.length (zs.map (Value.int .i64)) hs hown ⟨b, off, none⟩ ys.length c (ys.map (Value.int .i64)) hx (by simp) hsl.news (map_oneCell ys) (by unfold maxLen; omega) (by omega) hbase ?_
  intro v' w' h1 h2 h3
  refine h v' w' ?_ ((Below.refl base V).grown h2 hbase (fun k e => (World.ownsRow.lt hown k e).1))
  show w'.ownsRow _ _ _ _ _ _
  rw [List.length_append, List.map_append]; exact h1
end Go.Proofs.Ytoedbbpjddjbnaa
/- Rows and pictures asked for their kind, the sum of a row times a picture: layer 7 and its answers. Contracts. -/
namespace Go.Proofs.Ytoedbbpjddjbnaa
open Go.RowKit

/-- A world behind one in which a field was boxed. -/
structure Fb (w : World) (p t : Int) (W : World) : Prop where
  below : Below w.heap.size w W
  c0 : W.cell? ⟨w.heap.size, 0, none⟩ = some (.int .i64 p)
  c1 : W.cell? ⟨w.heap.size, 1, none⟩ = some (.int .i64 t)
  lt : w.heap.size < W.heap.size
theorem Fb.new (w : World) (p t : Int) (ty : TypeId) : Fb w p t (w.alloc (.cells #[.int .i64 p, .int .i64 t] ty)) :=
  ⟨(Below.refl _ _).alloc (Nat.le_refl _) _, alloc_cell _ _ _ _ _ rfl, alloc_cell _ _ _ _ _ rfl, by rw [World.size_alloc]; omega⟩
theorem Fb.next {w : World} {p t : Int} {W W' : World} (h : Fb w p t W) (hb : Below W.heap.size W W') : Fb w p t W' :=
  ⟨h.below.trans (hb.mono (Nat.le_of_lt h.lt)), (hb.cell (p := ⟨w.heap.size, 0, none⟩) h.lt).trans h.c0, (hb.cell (p := ⟨w.heap.size, 1, none⟩) h.lt).trans h.c1, Nat.lt_of_lt_of_le h.lt hb.size⟩
theorem Fb.drew {w : World} {p t : Int} {W : World} (h : Fb w p t W) : Fb w p t W.drew := h.next ((Below.refl _ _).drew)
theorem Fb.sl {w : World} {p t : Int} {W : World} (h : Fb w p t W) {a : Option Addr} {xs : List Int} (hs : Sl w a xs) : Sl W a xs := hs.below h.below

/-- What a field and a row are answered with: the error's number. -/
def rowE (p t : Int) (xs : List Int) : Int := if browB p t xs = true then 0 else 1
theorem vrow_any (p t : Int) (a : Option Addr) (xs : List Int) (cap : Nat) (w : World) (hl : xs.length ≤ 140737488351232) (hs : Sl w a xs) :
    Calls Try.prog 53 #[.agg #[.int .i64 p, .int .i64 t], .slice a xs.length cap] w fun e w' => e = .returned (.bool (browB p t xs)) ∧ Below w.heap.size w w' := by
  have HF := Lib.hid (Fb.new w p t 23)
  have HS := Lib.hid hs; clear hs
  cases h : vfB p t
  · have HV := Lib.hid (show browB p t xs = false by unfold browB; rw [h]; rfl)
    go_enter Try.func53, Try.ntmps53
    go_wp2_with (go_at_call 19; refine (vfield_any _ _ _).mono ?_; rintro e w1 ⟨rfl, hb1⟩; have F1 := Fb.next HF.out hb1; obtain ⟨k0, k1⟩ := And.intro F1.c0 F1.c1; rw [h])
    go_ret
    exact ⟨ret_bool HV.out.symm, F1.below⟩
  · by_cases hp : (xs.length : Int) = p
    · have HV := Lib.hid (show browB p t xs = okL (-1) 1 xs by unfold browB; rw [h, decide_eq_true hp]; rfl)
      go_enter Try.func53, Try.ntmps53
      go_wp2_with (first
        | (go_at_call 19; refine (vfield_any _ _ _).mono ?_; rintro e w1 ⟨rfl, hb1⟩; have F1 := Fb.next HF.out hb1; obtain ⟨k0, k1⟩ := And.intro F1.c0 F1.c1; rw [h])
        | (go_at_call 59; refine (betweenB_any _ _ _).mono ?_; rintro e w2 ⟨rfl, hb2, ht⟩; have F2 := Fb.next F1 hb2)
        | (go_at_call 89; refine (ball_any _ _ _ a xs cap _ hl ht (F2.sl HS.out)).mono ?_; rintro e w3 ⟨rfl, hb3⟩; have F3 := Fb.next F2 hb3))
      go_ret
      exact ⟨ret_bool HV.out.symm, F3.below⟩
    · have HV := Lib.hid (show browB p t xs = false by unfold browB; rw [decide_eq_false hp]; simp)
      have hp' : ((xs.length : Int) == p) = false := by simpa using hp
      go_enter Try.func53, Try.ntmps53
      go_wp2_with (first
        | (go_at_call 19; refine (vfield_any _ _ _).mono ?_; rintro e w1 ⟨rfl, hb1⟩; have F1 := Fb.next HF.out hb1; obtain ⟨k0, k1⟩ := And.intro F1.c0 F1.c1; rw [h]))
      go_ret
      exact ⟨ret_bool HV.out.symm, F1.below⟩
set_option maxRecDepth 100000 in
theorem shown_any (p t : Int) (a : Option Addr) (xs : List Int) (cap : Nat) (w : World) (hl : xs.length ≤ 140737488351232) (hs : Sl w a xs) :
    Calls Try.prog 54 #[.agg #[.int .i64 p, .int .i64 t], .slice a xs.length cap] w fun e w' => e = .returned (.int .i64 (shownE p t xs)) ∧ Below w.heap.size w w' := by
  have HF := Lib.hid (Fb.new w p t 23)
  have HS := Lib.hid hs; clear hs
  by_cases hp : (xs.length : Int) = p
  · cases ho : okL 0 t xs
    · have HV := Lib.hid (show shownE p t xs = 7 by unfold shownE; rw [if_pos hp, ho]; rfl)
      have hp' : ((xs.length : Int) != p) = false := by simpa using hp
      clear hp
      go_enter Try.func54, Try.ntmps54
      go_wp2_with (first
        | (go_at_call 59; refine (betweenB_any _ _ _).mono ?_; rintro e w2 ⟨rfl, hb2, ht⟩; have F2 := Fb.next HF.out hb2; rw [World.size_alloc] at ht)
        | (go_at_call 89; refine (ball_any (w.heap.size + 1) 0 t a xs cap _ hl ht (F2.sl HS.out)).mono ?_; rintro e w3 ⟨rfl, hb3⟩; have F3 := Fb.next F2 hb3; rw [ho]))
      all_goals go_ret
      all_goals exact ⟨ret_i64 HV.out.symm, F3.below⟩
    · have HV := Lib.hid (show shownE p t xs = 0 by unfold shownE; rw [if_pos hp, ho]; rfl)
      have hp' : ((xs.length : Int) != p) = false := by simpa using hp
      clear hp
      go_enter Try.func54, Try.ntmps54
      go_wp2_with (first
        | (go_at_call 59; refine (betweenB_any _ _ _).mono ?_; rintro e w2 ⟨rfl, hb2, ht⟩; have F2 := Fb.next HF.out hb2; rw [World.size_alloc] at ht)
        | (go_at_call 89; refine (ball_any (w.heap.size + 1) 0 t a xs cap _ hl ht (F2.sl HS.out)).mono ?_; rintro e w3 ⟨rfl, hb3⟩; have F3 := Fb.next F2 hb3; rw [ho]))
      all_goals go_ret
      all_goals exact ⟨ret_i64 HV.out.symm, F3.below⟩
  · have HV := Lib.hid (show shownE p t xs = 9 by unfold shownE; rw [if_neg hp])
    have hp' : ((xs.length : Int) != p) = true := by simpa using hp
    go_enter Try.func54, Try.ntmps54
    go_wp2
    all_goals go_ret
    all_goals exact ⟨ret_i64 HV.out.symm, HF.out.below⟩
theorem rvrow_any (p : Int) (a : Option Addr) (xs : List Int) (cap : Nat) (w : World) (hl : xs.length ≤ 140737488351232) (hs : Sl w a xs) :
    Calls Try.prog 90 #[.slice a xs.length cap, .int .i64 p] w fun e w' => e = .returned (.bool (decide ((xs.length : Int) = p) && okL (-1) 1 xs)) ∧ w = w' := by
  have HS := Lib.hid hs; clear hs
  go_enter Try.func90, Try.ntmps90
  go_wp2
  go_loop [9] (fun i => ∃ k : Nat, k ≤ xs.length ∧ i = .int .i64 k ∧ ∀ j, j < k → rangeB (xs[j]?.getD 0) (-1) 1 = true) (fun i => xs.length - (intOf i).toNat)
  case atStart => exact ⟨0, Nat.zero_le _, rfl, fun j h => by omega⟩
  case round =>
    obtain ⟨k, hk, rfl, hno⟩ := hrel
    have HN := Lib.hid hno; clear hno
    by_cases hlt : k < xs.length
    · obtain ⟨b, off, x, rfl, hcell, HX⟩ := HS.out.at hlt
      cases ho : rangeB x (-1) 1
      · go_wp2_with (go_at_call 60; refine (bin_any _ _ _ _).mono ?_; rintro e w1 ⟨rfl, rfl⟩; rw [ho])
        go_ret
        exact ⟨ret_bool (by rw [okL_no HX.out ho, Bool.and_false]), rfl⟩
      · go_wp2_with (go_at_call 60; refine (bin_any _ _ _ _).mono ?_; rintro e w1 ⟨rfl, rfl⟩; rw [ho])
        all_goals go_round
        case rel => exact ⟨k + 1, by omega, by go_num, fun j hj => by
            by_cases hj' : j = k
            · subst hj'; rw [HX.out]; exact ho
            · exact HN.out j (by omega)⟩
        case measure => simp [intOf]; omega
    · have HY := Lib.hid (okL_yes (xs := xs) (fun j hj => HN.out j (by omega)))
      go_wp2
      go_ret
      exact ⟨ret_bool (by rw [HY.out, Bool.and_true]; rfl), rfl⟩
theorem rowed_any (p t : Int) (a : Option Addr) (xs : List Int) (cap : Nat) (w : World) (hl : xs.length ≤ 140737488351232) (hs : Sl w a xs) :
    Calls Try.prog 56 #[.agg #[.int .i64 p, .int .i64 t], .slice a xs.length cap] w fun e w' => e = .returned (.int .i64 (rowE p t xs)) ∧ Below w.heap.size w w' := by
  have HF := Lib.hid (Fb.new w p t 23)
  have HS := Lib.hid hs; clear hs
  cases h : vfB p t
  · have HV := Lib.hid (show rowE p t xs = 1 by unfold rowE browB; rw [h]; rfl)
    go_enter Try.func56, Try.ntmps56
    go_wp2_with (go_at_call 20; refine (rvfield_any _ _ _).mono ?_; rintro e w1 ⟨rfl, hb1⟩; have F1 := Fb.next HF.out hb1; obtain ⟨k0, k1⟩ := And.intro F1.c0 F1.c1; rw [h])
    all_goals go_ret
    all_goals exact ⟨ret_i64 HV.out.symm, F1.below⟩
  · cases ho : (decide ((xs.length : Int) = p) && okL (-1) 1 xs)
    all_goals have HV := Lib.hid (show browB p t xs = _ by unfold browB; rw [h, ho])
    all_goals go_enter Try.func56, Try.ntmps56
    all_goals go_wp2_with (first
        | (go_at_call 20; refine (rvfield_any _ _ _).mono ?_; rintro e w1 ⟨rfl, hb1⟩; have F1 := Fb.next HF.out hb1; obtain ⟨k0, k1⟩ := And.intro F1.c0 F1.c1; rw [h])
        | (go_at_call 90; refine (rvrow_any p a xs cap _ hl (F1.sl HS.out)).mono ?_; rintro e w2 ⟨rfl, rfl⟩; rw [ho]))
    all_goals go_ret
    all_goals exact ⟨ret_i64 (by unfold rowE; rw [HV.out]; rfl), F1.below⟩
theorem rpicture_any (p t : Int) (a : Option Addr) (xs : List Int) (cap : Nat) (w : World) (hl : xs.length ≤ 140737488351232) (hs : Sl w a xs) :
    Calls Try.prog 57 #[.agg #[.int .i64 p, .int .i64 t], .slice a xs.length cap] w fun e w' => e = .returned (.int .i64 (shownE p t xs)) ∧ Below w.heap.size w w' := by
  have HF := Lib.hid (Fb.new w p t 23)
  have HS := Lib.hid hs; clear hs
  by_cases hp : (xs.length : Int) = p
  · have HE := Lib.hid (show shownE p t xs = if okL 0 t xs = true then 0 else 7 by unfold shownE; rw [if_pos hp])
    go_enter Try.func57, Try.ntmps57
    go_wp2
    go_loop [14] (fun i => ∃ k : Nat, k ≤ xs.length ∧ i = .int .i64 k ∧ ∀ j, j < k → rangeB (xs[j]?.getD 0) 0 t = true) (fun i => xs.length - (intOf i).toNat)
    case atStart => exact ⟨0, Nat.zero_le _, rfl, fun j h => by omega⟩
    case round =>
      obtain ⟨k, hk, rfl, hno⟩ := hrel
      have HN := Lib.hid hno; clear hno
      by_cases hlt : k < xs.length
      · obtain ⟨b, off, x, rfl, hcell, HX⟩ := (HF.out.sl HS.out).at hlt
        cases ho : rangeB x 0 t
        · go_wp2_with (go_at_call 60; refine (bin_any _ _ _ _).mono ?_; rintro e w1 ⟨rfl, rfl⟩; rw [ho])
          all_goals go_ret
          all_goals exact ⟨ret_i64 (by rw [HE.out, okL_no HX.out ho]; rfl), HF.out.below⟩
        · go_wp2_with (go_at_call 60; refine (bin_any _ _ _ _).mono ?_; rintro e w1 ⟨rfl, rfl⟩; rw [ho])
          all_goals go_round
          case rel => exact ⟨k + 1, by omega, by go_num, fun j hj => by
              by_cases hj' : j = k
              · subst hj'; rw [HX.out]; exact ho
              · exact HN.out j (by omega)⟩
          case measure => simp [intOf]; omega
      · have HY := Lib.hid (okL_yes (xs := xs) (fun j hj => HN.out j (by omega)))
        go_wp2
        all_goals go_ret
        all_goals exact ⟨ret_i64 (by rw [HE.out, HY.out]; rfl), HF.out.below⟩
  · have HV := Lib.hid (show shownE p t xs = 9 by unfold shownE; rw [if_neg hp])
    have hp' : ((xs.length : Int) != p) = true := by simpa using hp
    go_enter Try.func57, Try.ntmps57
    go_wp2
    all_goals go_ret
    all_goals exact ⟨ret_i64 HV.out.symm, HF.out.below⟩
theorem brow_of {p t : Int} {xs : List Int} (h : browB p t xs = true) : 1 ≤ p ∧ p ≤ 8 ∧ 0 ≤ t ∧ t ≤ 3 ∧ (xs.length : Int) = p ∧ okL (-1) 1 xs = true := by
  simp only [browB, vfB, rangeB, Bool.and_eq_true, decide_eq_true_eq] at h
  obtain ⟨⟨⟨h1, h2⟩, h3, h4⟩, h5, h6⟩ := h
  exact ⟨h1, h2, h3, h4, h5, h6⟩
theorem shownE_of {p t : Int} {ys : List Int} (h : shownE p t ys = 0) : (ys.length : Int) = p ∧ okL 0 t ys = true := by
  unfold shownE at h
  split at h
  · split at h
    · exact ⟨by assumption, by assumption⟩
    · exact absurd h (by decide)
  · exact absurd h (by decide)
theorem sum_of {p t : Int} {xs ys : List Int} (h : browB p t xs = true) (hE : shownE p t ys = 0) : xs.length ≤ 8 ∧ xs.length = ys.length ∧ okL (-1) 1 xs = true ∧ okL 0 3 ys = true := by
  obtain ⟨h1, h2, h3, h4, h5, h6⟩ := brow_of h
  obtain ⟨g1, g2⟩ := shownE_of hE
  exact ⟨by omega, by omega, h6, okL_le g2 h4⟩
set_option maxRecDepth 100000 in
theorem bsum_any (p t : Int) (a : Option Addr) (xs : List Int) (ca : Nat) (b : Option Addr) (ys : List Int) (cb : Nat) (w : World) (hl : xs.length ≤ 140737488351232) (hl2 : ys.length ≤ 140737488351232) (ha : Sl w a xs) (hb : Sl w b ys) :
    Calls Try.prog 15 #[.agg #[.int .i64 p, .int .i64 t], .slice a xs.length ca, .slice b ys.length cb] w fun e w' => e = .returned (.tuple #[.int .i64 (sumV p t xs ys).1, .int .i64 (sumV p t xs ys).2]) ∧ Below w.heap.size w w' := by
  have HF := Lib.hid (Fb.new w p t 23)
  have HA := Lib.hid ha; clear ha
  have HB := Lib.hid hb; clear hb
  cases h : browB p t xs
  · have HV := Lib.hid (show sumV p t xs ys = (0, 1) by unfold sumV; rw [h]; rfl)
    go_enter Try.func15, Try.ntmps15
    go_wp2_with (go_at_call 53; refine (vrow_any p t a xs ca _ hl (HF.out.sl HA.out)).mono ?_; rintro e w1 ⟨rfl, hb1⟩; have F1 := Fb.next HF.out hb1; rw [h])
    all_goals go_ret2
    all_goals exact ⟨by rw [HV.out]; rfl, F1.below⟩
  · by_cases hE : shownE p t ys = 0
    · have HV := Lib.hid (show sumV p t xs ys = (prodL xs ys, 0) by unfold sumV; rw [h, if_pos hE]; rfl)
      have HQ := Lib.hid (sum_of h hE)
      go_enter Try.func15, Try.ntmps15
      go_wp2_with (first
        | (go_at_call 53; refine (vrow_any p t a xs ca _ hl (HF.out.sl HA.out)).mono ?_; rintro e w1 ⟨rfl, hb1⟩; have F1 := Fb.next HF.out hb1; obtain ⟨k0, k1⟩ := And.intro F1.c0 F1.c1; rw [h])
        | (go_at_call 54; refine (shown_any p t b ys cb _ hl2 (F1.sl HB.out)).mono ?_; rintro e w2 ⟨rfl, hb2⟩; have F2 := Fb.next F1 hb2; rw [hE])
        | (go_at_call 55; refine (product_any a xs ca b ys cb _ HQ.out.1 HQ.out.2.1 HQ.out.2.2.1 HQ.out.2.2.2 (F2.sl HA.out) (F2.sl HB.out)).mono ?_; rintro e w3 ⟨rfl, rfl⟩))
      all_goals go_ret2
      all_goals exact ⟨by rw [HV.out]; rfl, F2.below⟩
    · have HV := Lib.hid (show sumV p t xs ys = (0, shownE p t ys) by unfold sumV; rw [h, if_neg hE]; rfl)
      go_enter Try.func15, Try.ntmps15
      go_wp2_with (first
        | (go_at_call 53; refine (vrow_any p t a xs ca _ hl (HF.out.sl HA.out)).mono ?_; rintro e w1 ⟨rfl, hb1⟩; have F1 := Fb.next HF.out hb1; obtain ⟨k0, k1⟩ := And.intro F1.c0 F1.c1; rw [h])
        | (go_at_call 54; refine (shown_any p t b ys cb _ hl2 (F1.sl HB.out)).mono ?_; rintro e w2 ⟨rfl, hb2⟩; have F2 := Fb.next F1 hb2))
      all_goals go_ret2
      all_goals exact ⟨by rw [HV.out]; rfl, F2.below⟩
set_option maxRecDepth 100000 in
theorem brsum_any (p t : Int) (a : Option Addr) (xs : List Int) (ca : Nat) (b : Option Addr) (ys : List Int) (cb : Nat) (w : World) (hl : xs.length ≤ 140737488351232) (hl2 : ys.length ≤ 140737488351232) (ha : Sl w a xs) (hb : Sl w b ys) :
    Calls Try.prog 16 #[.agg #[.int .i64 p, .int .i64 t], .slice a xs.length ca, .slice b ys.length cb] w fun e w' => e = .returned (.tuple #[.int .i64 (sumV p t xs ys).1, .int .i64 (sumV p t xs ys).2]) ∧ Below w.heap.size w w' := by
  have HF := Lib.hid (Fb.new w p t 23)
  have HA := Lib.hid ha; clear ha
  have HB := Lib.hid hb; clear hb
  cases h : browB p t xs
  · have HV := Lib.hid (show sumV p t xs ys = (0, 1) by unfold sumV; rw [h]; rfl)
    have hr : rowE p t xs = 1 := by unfold rowE; rw [h]; rfl
    go_enter Try.func16, Try.ntmps16
    go_wp2_with (go_at_call 56; refine (rowed_any p t a xs ca _ hl (HF.out.sl HA.out)).mono ?_; rintro e w1 ⟨rfl, hb1⟩; have F1 := Fb.next HF.out hb1; rw [hr])
    all_goals go_ret2
    all_goals exact ⟨by rw [HV.out]; rfl, F1.below⟩
  · have hr : rowE p t xs = 0 := by unfold rowE; rw [h]; rfl
    by_cases hE : shownE p t ys = 0
    · have HV := Lib.hid (show sumV p t xs ys = (prodL xs ys, 0) by unfold sumV; rw [h, if_pos hE]; rfl)
      have HQ := Lib.hid (sum_of h hE)
      go_enter Try.func16, Try.ntmps16
      go_wp2_with (first
        | (go_at_call 56; refine (rowed_any p t a xs ca _ hl (HF.out.sl HA.out)).mono ?_; rintro e w1 ⟨rfl, hb1⟩; have F1 := Fb.next HF.out hb1; obtain ⟨k0, k1⟩ := And.intro F1.c0 F1.c1; rw [hr])
        | (go_at_call 57; refine (rpicture_any p t b ys cb _ hl2 (F1.sl HB.out)).mono ?_; rintro e w2 ⟨rfl, hb2⟩; have F2 := Fb.next F1 hb2; rw [hE])
        | (go_at_call 58; refine (rsum_any a xs ca b ys cb _ HQ.out.1 HQ.out.2.1 HQ.out.2.2.1 HQ.out.2.2.2 (F2.sl HA.out) (F2.sl HB.out)).mono ?_; rintro e w3 ⟨rfl, rfl⟩))
      all_goals go_ret2
      all_goals exact ⟨by rw [HV.out]; rfl, F2.below⟩
    · have HV := Lib.hid (show sumV p t xs ys = (0, shownE p t ys) by unfold sumV; rw [h, if_neg hE]; rfl)
      go_enter Try.func16, Try.ntmps16
      go_wp2_with (first
        | (go_at_call 56; refine (rowed_any p t a xs ca _ hl (HF.out.sl HA.out)).mono ?_; rintro e w1 ⟨rfl, hb1⟩; have F1 := Fb.next HF.out hb1; obtain ⟨k0, k1⟩ := And.intro F1.c0 F1.c1; rw [hr])
        | (go_at_call 57; refine (rpicture_any p t b ys cb _ hl2 (F1.sl HB.out)).mono ?_; rintro e w2 ⟨rfl, hb2⟩; have F2 := Fb.next F1 hb2))
      all_goals go_ret2
      all_goals exact ⟨by rw [HV.out]; rfl, F2.below⟩
end Go.Proofs.Ytoedbbpjddjbnaa
/- All pictures of a field, as the answers of layer 7 list them: mathematics and the contract. Written by mk_bpics.py. -/
namespace Go.Proofs.Ytoedbbpjddjbnaa
open Go.RowKit

/-- A picture with one more pixel, of the first d numbers. -/
def extP (x : List Int) (d : Nat) : List (List Int) := (List.range d).map fun n : Nat => x ++ [(n : Int)]
theorem extP_succ (x : List Int) (d : Nat) : extP x (d + 1) = extP x d ++ [x ++ [(d : Int)]] := by unfold extP; rw [List.range_succ, List.map_append]; rfl
theorem extP_len (x : List Int) (d : Nat) : (extP x d).length = d := by simp [extP]
/-- The pictures of k pixels with T + 1 numbers, ascending. -/
def picsTo (T : Nat) : Nat → List (List Int)
  | 0 => [[]]
  | k + 1 => (picsTo T k).flatMap fun x => extP x (T + 1)
/-- The next pixel behind the first i pictures. -/
def nextTo (T : Nat) (M : List (List Int)) (i : Nat) : List (List Int) := (M.take i).flatMap fun x => extP x (T + 1)
theorem nextTo_succ {T : Nat} {M : List (List Int)} {i : Nat} {x : List Int} (h : M[i]? = some x) : nextTo T M (i + 1) = nextTo T M i ++ extP x (T + 1) := by
  unfold nextTo
  rw [List.take_add_one, h, List.flatMap_append]
  simp
theorem nextTo_end (T k : Nat) : nextTo T (picsTo T k) (picsTo T k).length = picsTo T (k + 1) := by
  unfold nextTo; rw [List.take_length]; rfl
theorem flat_len (T : Nat) : ∀ M : List (List Int), (M.flatMap fun x => extP x (T + 1)).length = M.length * (T + 1)
  | [] => by simp
  | x :: M => by rw [List.flatMap_cons, List.length_append, flat_len T M, extP_len, List.length_cons, Nat.add_mul]; omega
theorem nextTo_len {T : Nat} {M : List (List Int)} {i : Nat} (h : i ≤ M.length) : (nextTo T M i).length = i * (T + 1) := by
  unfold nextTo; rw [flat_len, List.length_take, Nat.min_eq_left h]
theorem picsTo_len (T : Nat) : ∀ k, (picsTo T k).length = (T + 1) ^ k
  | 0 => rfl
  | k + 1 => by show (List.flatMap _ _).length = _; rw [flat_len, picsTo_len T k, Nat.pow_succ]
theorem pow_bd {T k : Nat} (hT : T ≤ 3) (hk : k ≤ 8) : (T + 1) ^ k ≤ 65536 :=
  Nat.le_trans (Nat.pow_le_pow_left (show T + 1 ≤ 4 by omega) k) (Nat.le_trans (Nat.pow_le_pow_right (by omega) hk) (by decide))
theorem picsTo_bd {T k : Nat} (hT : T ≤ 3) (hk : k ≤ 8) : (picsTo T k).length ≤ 65536 := by rw [picsTo_len]; exact pow_bd hT hk
theorem picsTo_pos (T k : Nat) : 0 < (picsTo T k).length := by rw [picsTo_len]; exact Nat.pow_pos (by omega)
theorem picsTo_row {T : Nat} : ∀ {k : Nat} {x : List Int}, x ∈ picsTo T k → x.length = k
  | 0, x, h => by simp [picsTo] at h; subst h; rfl
  | k + 1, x, h => by
    obtain ⟨y, hy, hx⟩ := List.mem_flatMap.1 h
    unfold extP at hx
    obtain ⟨n, _, rfl⟩ := List.mem_map.1 hx
    rw [List.length_append, picsTo_row hy]; rfl
set_option maxRecDepth 1000000 in
set_option maxHeartbeats 4000000 in
theorem rpictures_any (P T : Nat) (hP : P ≤ 8) (hT : T ≤ 3) (w : World) :
    Calls Try.prog 52 #[.agg #[.int .i64 P, .int .i64 T]] w fun e w' => ∃ v ads, e = .returned v ∧ HR w.heap.size v ads (picsTo T P) w' ∧ Below w.heap.size w w' := by
  have HF := Lib.hid (Fb.new w P T 23)
  obtain ⟨U, hU⟩ : ∃ U, (w.alloc (.cells #[.int .i64 P, .int .i64 T] 23)).alloc (.cells #[.slice none 0 0] 25) = U := ⟨_, rfl⟩
  have H0 : Hid (HR w.heap.size (.slice (some ⟨w.heap.size + 1, 0, none⟩) 1 1) [(none, 0)] (picsTo T 0) U) := by
    have h := (HR.lit (w.alloc (.cells #[.int .i64 P, .int .i64 T] 23))).mono (base' := w.heap.size) (by rw [World.size_alloc]; omega)
    rw [World.size_alloc, hU] at h; exact h
  have HF0 : Hid (Fb w P T U) := by rw [← hU]; exact HF.out.next ((Below.refl _ _).alloc (Nat.le_refl _) _)
  obtain ⟨z0, z1⟩ := And.intro HF0.out.c0 HF0.out.c1
  clear HF
  go_enter Try.func52, Try.ntmps52
  go_wp2
  (try rw [hU])
  clear hU z0 z1
  go_loopw [3, 11] (fun v i wr => ∃ (k : Nat) (ads : List (Option Addr × Nat)), k ≤ P ∧ i = .int .i64 k ∧ HR w.heap.size v ads (picsTo T k) wr ∧ Fb w P T wr ∧ (k = 0 → ads[0]? = some (none, 0))) (fun _ i _ => P - (intOf i).toNat)
  case atStart => exact ⟨0, [(none, 0)], Nat.zero_le _, rfl, H0.out, HF0.out, fun _ => rfl⟩
  case round =>
    clear H0 HF0
    obtain ⟨k, ads, hk, rfl, hO, hF, hz⟩ := hrel
    have HO := Lib.hid hO; clear hO
    have HF := Lib.hid hF; clear hF
    have HZ := Lib.hid hz; clear hz
    have HK := Lib.hid hk
    rcases HO.out.shape with ⟨_, hL0⟩ | ⟨g, lcap, rfl, hg1, hg2⟩
    · have := picsTo_pos T k; rw [hL0] at this; simp at this
    obtain ⟨L, hL⟩ : ∃ L, (picsTo T k).length = L := ⟨_, rfl⟩
    have HLL := Lib.hid hL
    have hLb : L ≤ 65536 := by rw [← hL]; exact picsTo_bd hT (by omega)
    by_cases hlt : k < P
    · have HNB : Hid (L * (T + 1) ≤ 65536) := by
        have h := picsTo_bd (T := T) (k := k + 1) hT (by omega)
        rw [picsTo_len, Nat.pow_succ, ← picsTo_len, hL] at h; exact h
      obtain ⟨M, hM⟩ : ∃ M, picsTo T k = M := ⟨_, rfl⟩
      have HM := Lib.hid hM
      have HROW : Hid (∀ x ∈ M, x.length = k) := fun x hx => by rw [← hM] at hx; exact picsTo_row hx
      have HE : Hid (nextTo T M L = picsTo T (k + 1)) := by show _ = _; rw [← hL, ← hM]; exact nextTo_end T k
      rw [hM] at HO HLL
      simp only [hL]
      clear hL hM
      go_wp2
      generalize wr = W1 at *
      go_loopw [4, 15] (fun v i wr2 => ∃ (j : Nat) (ads4 : List (Option Addr × Nat)), j ≤ L ∧ i = .int .i64 j ∧ HR W1.heap.size v ads4 (nextTo T M j) wr2 ∧ Below W1.heap.size W1 wr2) (fun _ i _ => L - (intOf i).toNat)
      case atStart => exact ⟨0, [], Nat.zero_le _, rfl, HR.nil _ _, Below.refl _ _⟩
      case round =>
      obtain ⟨j, ads4, hj, rfl, hO4, hB2⟩ := hrel
      have HO4 := Lib.hid hO4; clear hO4
      have HB2 := Lib.hid hB2; clear hB2
      by_cases hlt2 : j < L
      · have hjM : j < M.length := by rw [HLL.out]; exact hlt2
        obtain ⟨a1, c1, had, hcell, hfr, hss, has⟩ := (HO.out.below HB2.out).at hjM
        obtain ⟨s, hs⟩ : ∃ s, M[j]? = some s := ⟨M[j], by simp [hjM]⟩
        rw [rowL_some hs] at hcell hss
        have HLS : Hid (s.length = k) := HROW.out s (List.mem_of_getElem? hs)
        have HNS := Lib.hid (nextTo_succ (T := T) hs)
        have HNL : Hid ((nextTo T M j).length + (T + 1) ≤ 65536) := by
          show _ ≤ _
          rw [nextTo_len (by omega)]
          have h1 := HNB.out
          have h2 : (j + 1) * (T + 1) ≤ L * (T + 1) := Nat.mul_le_mul_right _ (by omega)
          rw [Nat.add_mul] at h2; omega
        have HSS : Hid (Sl W1 a1 s) := HO.out.row j (a1, c1) s had hs
        have HAD := Lib.hid had
        have HS1 := Lib.hid hs
        obtain ⟨N4, hN4⟩ : ∃ N4, nextTo T M j = N4 := ⟨_, rfl⟩
        rw [hN4] at HO4 HNL HNS
        have hls8 : k ≤ 8 := by omega
        obtain ⟨f0, f1⟩ := And.intro (HF.out.next HB2.out).c0 (HF.out.next HB2.out).c1
        clear hfr hss has had hs hN4 hjM
        by_cases h0 : k = 0
        · have hs0 : s = [] := List.eq_nil_of_length_eq_zero (HLS.out.trans h0)
          subst hs0
          have HJ0 : Hid (j = 0) := by show j = 0; have h := HLL.out; have e : (picsTo T k).length = 1 := by { rw [h0]; rfl }; rw [HM.out] at e; omega
          obtain ⟨rfl, rfl⟩ : a1 = none ∧ c1 = 0 := by
            have hz0 : ads[j]? = some (none, 0) := by rw [HJ0.out]; exact HZ.out h0
            have h := HAD.out.symm.trans hz0
            simpa using h
          rw [List.length_nil] at hcell
          clear h0
          go_wp2
          clear hcell
          generalize wr = W2 at *
          go_loopw [4, 22] (fun v i wr3 => ∃ (d : Nat) (more : List (Option Addr × Nat)), d ≤ T + 1 ∧ i = .int .i64 d ∧ HR W1.heap.size v (ads4 ++ more) (N4 ++ extP [] d) wr3 ∧ Below W1.heap.size W1 wr3) (fun _ i _ => T + 1 - (intOf i).toNat)
          case atStart => exact ⟨0, [], Nat.zero_le _, rfl, by rw [List.append_nil, show extP [] 0 = [] from rfl, List.append_nil]; exact HO4.out, HB2.out⟩
          case round =>
            obtain ⟨d, more, hd, rfl, hO3, hB3⟩ := hrel
            have HO3 := Lib.hid hO3; clear hO3
            have HB3 := Lib.hid hB3; clear hB3
            obtain ⟨M2, hM2⟩ : ∃ M2, N4 ++ extP [] d = M2 := ⟨_, rfl⟩
            have HM2 := Lib.hid hM2
            obtain ⟨A2, hA2⟩ : ∃ A2, ads4 ++ more = A2 := ⟨_, rfl⟩
            have HA2 := Lib.hid hA2
            rw [hM2, hA2] at HO3
            clear hM2 hA2
            by_cases hlt3 : d < T + 1
            · have HLM : Hid (M2.length ≤ 100000) := by
                show _ ≤ _; rw [← HM2.out, List.length_append, extP_len]
                have := HNL.out; omega
              have HSX : Hid (M2 ++ [[] ++ [(d : Int)]] = N4 ++ extP [] (d + 1)) := by
                show _ = _
                rw [← HM2.out, extP_succ, List.append_assoc]
              have HSZ : Hid (W1.heap.size ≤ wr.heap.size) := HB3.out.size
              have HOE := Lib.hid (own_lit0 wr)
              have HBE : Hid (Below wr.heap.size wr (wr.alloc (.cells #[] 3))) := (Below.refl _ _).alloc (Nat.le_refl _) _
              have HO1 := HOE
              have HBW5 := HBE
              go_wp2_with (first
                | (at_builtin; (refine wpList_push rfl (.tmp 28) (.tmp 30) rfl wr.heap.size _ [] _ _ _ _ rfl rfl (World.size_alloc _ _).symm HO1.out (by have := HLS.out; omega) HBW5.out.size ?_; intro v2 w6 ho2 hb2; generalize hq : [] ++ [(d : Int)] = q at ho2; have HQ := Lib.hid hq; clear hq; obtain ⟨a2, c2, rfl, s2, l2⟩ := ho2.parts; have hbw6 := HBW5.out.trans hb2; have HS6 := Lib.hid s2; have HL6 := Lib.hid l2; have HBW6 := Lib.hid hbw6; clear ho2 s2 l2 hbw6 hb2))
                | (at_builtin; (refine wpList_pushHR rfl (.tmp 25) (.tmp 32) rfl W1.heap.size _ A2 M2 q _ rfl a2 c2 _ _ _ rfl rfl rfl (HO3.out.below HBW6.out) HS6.out (fun ad e => ⟨(HL6.out ad e).1, fun e2 => by have := (World.ownsRow.lt HO3.out.own _ e2).2; have := (HL6.out ad e).2; omega⟩) HLM.out (Nat.le_trans HSZ.out HBW6.out.size) ?_; intro g' cap' w7 ho5 hg7 hb5 hgr7)))
              have HO5 := Lib.hid ho5; clear ho5
              have HB5 : Hid (Below W1.heap.size W1 w7) := (HB3.out.trans (HBW6.out.mono HB3.out.size)).trans hb5
              clear hb5
              go_roundw
              case rel => exact ⟨d + 1, more ++ [(a2, c2)], by omega, by go_num, by rw [← HSX.out, ← List.append_assoc, HA2.out, HQ.out]; exact HO5.out, HB5.out⟩
              case measure => simp [intOf]; omega
            · have hdn : d = T + 1 := by omega
              have HN1 : Hid (M2 = nextTo T M (j + 1)) := by show _ = _; rw [← HM2.out, hdn, HNS.out]
              rw [HN1.out] at HO3
              go_wp2
              go_roundw
              case rel => exact ⟨j + 1, A2, by omega, by go_num, HO3.out, HB3.out⟩
              case measure => simp [intOf]; omega
        · obtain ⟨sb, so, y, rfl, hcy, hy⟩ := HSS.out.at (k := 0) (by rw [HLS.out]; omega)
          clear hcy hy
          rw [HLS.out] at hcell
          go_wp2
          clear hcell
          generalize wr = W2 at *
          go_loopw [4, 22] (fun v i wr3 => ∃ (d : Nat) (more : List (Option Addr × Nat)), d ≤ T + 1 ∧ i = .int .i64 d ∧ HR W1.heap.size v (ads4 ++ more) (N4 ++ extP s d) wr3 ∧ Below W1.heap.size W1 wr3) (fun _ i _ => T + 1 - (intOf i).toNat)
          case atStart => exact ⟨0, [], Nat.zero_le _, rfl, by rw [List.append_nil, show extP s 0 = [] from rfl, List.append_nil]; exact HO4.out, HB2.out⟩
          case round =>
            obtain ⟨d, more, hd, rfl, hO3, hB3⟩ := hrel
            have HO3 := Lib.hid hO3; clear hO3
            have HB3 := Lib.hid hB3; clear hB3
            obtain ⟨M2, hM2⟩ : ∃ M2, N4 ++ extP s d = M2 := ⟨_, rfl⟩
            have HM2 := Lib.hid hM2
            obtain ⟨A2, hA2⟩ : ∃ A2, ads4 ++ more = A2 := ⟨_, rfl⟩
            have HA2 := Lib.hid hA2
            rw [hM2, hA2] at HO3
            clear hM2 hA2
            by_cases hlt3 : d < T + 1
            · have HLM : Hid (M2.length ≤ 100000) := by
                show _ ≤ _; rw [← HM2.out, List.length_append, extP_len]
                have := HNL.out; omega
              have HSX : Hid (M2 ++ [s ++ [(d : Int)]] = N4 ++ extP s (d + 1)) := by
                show _ = _
                rw [← HM2.out, extP_succ, List.append_assoc]
              have HSZ : Hid (W1.heap.size ≤ wr.heap.size) := HB3.out.size
              have HS3 : Hid (Sl wr (some ⟨sb, so, none⟩) s) := by
                show Sl wr (some ⟨sb, so, none⟩) s
                exact HSS.out.below HB3.out
              have HOE := Lib.hid (own_lit0 wr)
              have HBE : Hid (Below wr.heap.size wr (wr.alloc (.cells #[] 3))) := (Below.refl _ _).alloc (Nat.le_refl _) _
              go_wp2_with (first
                | (at_builtin; refine wpList_catS rfl (.tmp 26) (.tmp 27) rfl wr.heap.size _ [] sb so s c1 _ rfl (by rw [HLS.out]; rfl) HOE.out (HS3.out.below HBE.out) (by have := HLS.out; simp; omega) HBE.out.size ?_; intro v1 w5 ho1 hb1; rw [List.nil_append] at ho1; have hbw5 := HBE.out.trans hb1; have HO1 := Lib.hid ho1; have HBW5 := Lib.hid hbw5; clear ho1 hbw5 hb1)
                | (at_builtin; (refine wpList_push rfl (.tmp 28) (.tmp 30) rfl wr.heap.size _ s _ _ _ _ rfl rfl rfl HO1.out (by have := HLS.out; omega) HBW5.out.size ?_; intro v2 w6 ho2 hb2; generalize hq : s ++ [(d : Int)] = q at ho2; have HQ := Lib.hid hq; clear hq; obtain ⟨a2, c2, rfl, s2, l2⟩ := ho2.parts; have hbw6 := HBW5.out.trans hb2; have HS6 := Lib.hid s2; have HL6 := Lib.hid l2; have HBW6 := Lib.hid hbw6; clear ho2 s2 l2 hbw6 hb2))
                | (at_builtin; (refine wpList_pushHR rfl (.tmp 25) (.tmp 32) rfl W1.heap.size _ A2 M2 q _ rfl a2 c2 _ _ _ rfl rfl rfl (HO3.out.below HBW6.out) HS6.out (fun ad e => ⟨(HL6.out ad e).1, fun e2 => by have := (World.ownsRow.lt HO3.out.own _ e2).2; have := (HL6.out ad e).2; omega⟩) HLM.out (Nat.le_trans HSZ.out HBW6.out.size) ?_; intro g' cap' w7 ho5 hg7 hb5 hgr7)))
              have HO5 := Lib.hid ho5; clear ho5
              have HB5 : Hid (Below W1.heap.size W1 w7) := (HB3.out.trans (HBW6.out.mono HB3.out.size)).trans hb5
              clear hb5
              go_roundw
              case rel => exact ⟨d + 1, more ++ [(a2, c2)], by omega, by go_num, by rw [← HSX.out, ← List.append_assoc, HA2.out, HQ.out]; exact HO5.out, HB5.out⟩
              case measure => simp [intOf]; omega
            · have hdn : d = T + 1 := by omega
              have HN1 : Hid (M2 = nextTo T M (j + 1)) := by show _ = _; rw [← HM2.out, hdn, HNS.out]
              rw [HN1.out] at HO3
              go_wp2
              go_roundw
              case rel => exact ⟨j + 1, A2, by omega, by go_num, HO3.out, HB3.out⟩
              case measure => simp [intOf]; omega
      · obtain rfl : L = j := by omega
        have HO6 := HO4.out
        rw [HE.out] at HO6
        have HO7 := Lib.hid (HO6.mono HF.out.below.size)
        go_wp2
        go_roundw
        case rel => exact ⟨k + 1, ads4, by omega, by go_num, HO7.out, HF.out.next HB2.out, fun e => by omega⟩
        case measure => simp [intOf]; omega
    · obtain rfl : k = P := by omega
      go_wp2
      go_ret
      exact ⟨_, ads, rfl, HO.out, HF.out.below⟩
end Go.Proofs.Ytoedbbpjddjbnaa
/- Cells asked for their kind: layer 7 and its answers. Contracts. -/
namespace Go.Proofs.Ytoedbbpjddjbnaa
open Go.RowKit

/-- A cell: its row, its least and its greatest sum. -/
abbrev Cl := List Int × Int × Int
def limB (lo hi : Int) : Bool := decide (-100 ≤ lo) && (decide (lo ≤ hi) && decide (hi ≤ 100))
def ccB (p t : Int) (c : Cl) : Bool := browB p t c.1 && limB c.2.1 c.2.2
def ccR (p : Int) (c : Cl) : Bool := (decide ((c.1.length : Int) = p) && okL (-1) 1 c.1) && limB c.2.1 c.2.2
/-- Cells in memory. -/
def Cs (w : World) (a : Option Addr) (cs : List Cl) : Prop := ∀ j c, cs[j]? = some c → ∃ b o ra rc, a = some ⟨b, o, none⟩ ∧ w.cell? ⟨b, o + j * 3, none⟩ = some (.slice ra c.1.length rc) ∧ w.cell? ⟨b, o + j * 3 + 1, none⟩ = some (.int .i64 c.2.1) ∧ w.cell? ⟨b, o + j * 3 + 2, none⟩ = some (.int .i64 c.2.2) ∧ Sl w ra c.1
theorem Cs.below {w w' : World} {a : Option Addr} {cs : List Cl} (h : Cs w a cs) (hb : Below w.heap.size w w') : Cs w' a cs := fun j c hj => by
  obtain ⟨b, o, ra, rc, e, h1, h2, h3, h4⟩ := h j c hj
  exact ⟨b, o, ra, rc, e, (hb.cell (p := ⟨b, o + j * 3, none⟩) (cell_lt h1)).trans h1, (hb.cell (p := ⟨b, o + j * 3 + 1, none⟩) (cell_lt h2)).trans h2, (hb.cell (p := ⟨b, o + j * 3 + 2, none⟩) (cell_lt h3)).trans h3, h4.below hb⟩
/-- A world behind one in which a cell was boxed at B. -/
structure Cb (B : Nat) (ra : Option Addr) (n rc : Nat) (lo hi : Int) (W : World) : Prop where
  lt : B < W.heap.size
  c0 : W.cell? ⟨B, 0, none⟩ = some (.slice ra n rc)
  c1 : W.cell? ⟨B, 1, none⟩ = some (.int .i64 lo)
  c2 : W.cell? ⟨B, 2, none⟩ = some (.int .i64 hi)
theorem Cb.new (W : World) (ra : Option Addr) (n rc : Nat) (lo hi : Int) (ty : TypeId) : Cb W.heap.size ra n rc lo hi (W.alloc (.cells #[.slice ra n rc, .int .i64 lo, .int .i64 hi] ty)) :=
  ⟨by rw [World.size_alloc]; omega, alloc_cell _ _ _ _ _ rfl, alloc_cell _ _ _ _ _ rfl, alloc_cell _ _ _ _ _ rfl⟩
theorem Cb.next {B : Nat} {ra : Option Addr} {n rc : Nat} {lo hi : Int} {W W' : World} (h : Cb B ra n rc lo hi W) (hb : Below W.heap.size W W') : Cb B ra n rc lo hi W' :=
  ⟨Nat.lt_of_lt_of_le h.lt hb.size, (hb.cell (p := ⟨B, 0, none⟩) h.lt).trans h.c0, (hb.cell (p := ⟨B, 1, none⟩) h.lt).trans h.c1, (hb.cell (p := ⟨B, 2, none⟩) h.lt).trans h.c2⟩
set_option maxRecDepth 100000 in
set_option maxHeartbeats 1000000 in
theorem vcell_any (p t : Int) (ra : Option Addr) (xs : List Int) (rc : Nat) (lo hi : Int) (w : World) (hl : xs.length ≤ 140737488351232) (hs : Sl w ra xs) :
    Calls Try.prog 63 #[.agg #[.int .i64 p, .int .i64 t], .agg #[.slice ra xs.length rc, .int .i64 lo, .int .i64 hi]] w fun e w' => e = .returned (.bool (ccB p t (xs, lo, hi))) ∧ Below w.heap.size w w' := by
  have HS := Lib.hid hs; clear hs
  obtain ⟨U, hU⟩ : ∃ U, (w.alloc (.cells #[.int .i64 p, .int .i64 t] 23)).alloc (.cells #[.slice ra xs.length rc, .int .i64 lo, .int .i64 hi] 49) = U := ⟨_, rfl⟩
  have HF : Hid (Fb w p t U) := by rw [← hU]; exact (Fb.new w p t _).next ((Below.refl _ _).alloc (Nat.le_refl _) _)
  have HC : Hid (Cb (w.heap.size + 1) ra xs.length rc lo hi U) := by
    have h := Cb.new (w.alloc (.cells #[.int .i64 p, .int .i64 t] 23)) ra xs.length rc lo hi 49
    rw [World.size_alloc, hU] at h; exact h
  obtain ⟨z0, z1, z2, z3, z4⟩ := And.intro HF.out.c0 (And.intro HF.out.c1 (And.intro HC.out.c0 (And.intro HC.out.c1 HC.out.c2)))
  cases h : browB p t xs
  · have HV := Lib.hid (show ccB p t (xs, lo, hi) = false by unfold ccB; rw [h]; rfl)
    go_enter Try.func63, Try.ntmps63
    go_wp2_with (go_at_call 53; refine (vrow_any p t ra xs rc _ hl (HF.out.sl HS.out)).mono ?_; rintro e w1 ⟨rfl, hb1⟩; have F1 := Fb.next HF.out hb1; have C1 := HC.out.next hb1; obtain ⟨k0, k1, k2⟩ := And.intro C1.c0 (And.intro C1.c1 C1.c2); rw [h])
    all_goals go_ret
    all_goals exact ⟨ret_bool HV.out.symm, F1.below⟩
  · have HV := Lib.hid (show ccB p t (xs, lo, hi) = limB lo hi by unfold ccB; rw [h]; rfl)
    go_enter Try.func63, Try.ntmps63
    go_wp2_with (go_at_call 53; refine (vrow_any p t ra xs rc _ hl (HF.out.sl HS.out)).mono ?_; rintro e w1 ⟨rfl, hb1⟩; have F1 := Fb.next HF.out hb1; have C1 := HC.out.next hb1; obtain ⟨k0, k1, k2⟩ := And.intro C1.c0 (And.intro C1.c1 C1.c2); rw [h])
    all_goals go_ret
    all_goals exact ⟨ret_bool (by rw [HV.out]; first | (simp [limB, *]; done) | (simp [limB]; omega)), F1.below⟩
set_option maxRecDepth 100000 in
set_option maxHeartbeats 1000000 in
theorem rvcell_any (p : Int) (ra : Option Addr) (xs : List Int) (rc : Nat) (lo hi : Int) (w : World) (hl : xs.length ≤ 140737488351232) (hs : Sl w ra xs) :
    Calls Try.prog 64 #[.agg #[.slice ra xs.length rc, .int .i64 lo, .int .i64 hi], .int .i64 p] w fun e w' => e = .returned (.bool (ccR p (xs, lo, hi))) ∧ Below w.heap.size w w' := by
  have HS := Lib.hid hs; clear hs
  obtain ⟨U, hU⟩ : ∃ U, w.alloc (.cells #[.slice ra xs.length rc, .int .i64 lo, .int .i64 hi] 49) = U := ⟨_, rfl⟩
  have HB : Hid (Below w.heap.size w U) := by rw [← hU]; exact (Below.refl _ _).alloc (Nat.le_refl _) _
  have HC : Hid (Cb w.heap.size ra xs.length rc lo hi U) := by show Cb _ _ _ _ _ _ _; rw [← hU]; exact Cb.new _ _ _ _ _ _ _
  obtain ⟨z2, z3, z4⟩ := And.intro HC.out.c0 (And.intro HC.out.c1 HC.out.c2)
  cases h : (decide ((xs.length : Int) = p) && okL (-1) 1 xs)
  · have HV := Lib.hid (show ccR p (xs, lo, hi) = false by unfold ccR; rw [h]; rfl)
    go_enter Try.func64, Try.ntmps64
    go_wp2_with (go_at_call 90; refine (rvrow_any p ra xs rc _ hl (HS.out.below HB.out)).mono ?_; rintro e w1 ⟨rfl, rfl⟩; rw [h])
    all_goals go_ret
    all_goals exact ⟨ret_bool HV.out.symm, HB.out⟩
  · have HV := Lib.hid (show ccR p (xs, lo, hi) = limB lo hi by unfold ccR; rw [h]; rfl)
    go_enter Try.func64, Try.ntmps64
    go_wp2_with (go_at_call 90; refine (rvrow_any p ra xs rc _ hl (HS.out.below HB.out)).mono ?_; rintro e w1 ⟨rfl, rfl⟩; rw [h])
    all_goals go_ret
    all_goals exact ⟨ret_bool (by rw [HV.out]; first | (simp [limB, *]; done) | (simp [limB]; omega)), HB.out⟩
end Go.Proofs.Ytoedbbpjddjbnaa
/- all over cells, with the closure that asks a cell for its kind and with the one that asks whether a sum lies in it: contracts. Written by mk_bcells.py. -/
namespace Go.Proofs.Ytoedbbpjddjbnaa
open Go.RowKit

/-- The index of the first element that is not as asked, or -1. -/
def nix {α : Type} (P : α → Bool) (xs : List α) : Int := match xs.findIdx? (fun x => !P x) with | some i => (i : Int) | none => -1
theorem nix_hit {α : Type} {P : α → Bool} {xs : List α} {k : Nat} {x : α} (h : ∀ (j : Nat) (y : α), j < k → xs[j]? = some y → P y = true) (hx : xs[k]? = some x) (ho : P x = false) : nix P xs = k := by
  have : xs.findIdx? (fun x => !P x) = some k := by
    rw [List.findIdx?_eq_some_iff_getElem]
    have hk : k < xs.length := (List.getElem?_eq_some_iff.1 hx).1
    refine ⟨hk, ?_, fun j hj => ?_⟩
    · have e : xs[k] = x := (List.getElem?_eq_some_iff.1 hx).2
      simp [e, ho]
    · have := h j xs[j] hj (List.getElem?_eq_getElem (by omega))
      simpa using this
  unfold nix; rw [this]
theorem nix_miss {α : Type} {P : α → Bool} {xs : List α} (h : ∀ (j : Nat) (y : α), xs[j]? = some y → P y = true) : nix P xs = -1 := by
  have : xs.findIdx? (fun x => !P x) = none := by
    rw [List.findIdx?_eq_none_iff]
    intro x hx
    obtain ⟨i, hi, rfl⟩ := List.mem_iff_getElem.1 hx
    simpa using h i xs[i] (List.getElem?_eq_getElem hi)
  unfold nix; rw [this]
theorem nix_ok {α : Type} (P : α → Bool) (xs : List α) : (!decide (0 ≤ nix P xs)) = xs.all P := by
  unfold nix
  cases hq : xs.findIdx? (fun x => !P x) with
  | some i =>
    obtain ⟨hi, h1, _⟩ := List.findIdx?_eq_some_iff_getElem.1 hq
    have : xs.all P = false := by rw [List.all_eq_false]; exact ⟨xs[i], List.getElem_mem _, by simpa using h1⟩
    rw [this]; simp
  | none =>
    rw [List.findIdx?_eq_none_iff] at hq
    have : xs.all P = true := by rw [List.all_eq_true]; intro x hx; simpa using hq x hx
    rw [this]; rfl
set_option maxRecDepth 100000 in
theorem kind1_any (B : Nat) (p t : Int) (ra : Option Addr) (xs : List Int) (rc : Nat) (lo hi : Int) (w : World) (hl : xs.length ≤ 140737488351232) (hs : Sl w ra xs) (hp : w.cell? ⟨B, 0, none⟩ = some (.int .i64 p)) (ht : w.cell? ⟨B, 1, none⟩ = some (.int .i64 t)) :
    Calls Try.prog 62 #[.agg #[.slice ra xs.length rc, .int .i64 lo, .int .i64 hi], .pointer (some ⟨B, 0, none⟩)] w fun e w' => e = .returned (.bool (ccB p t (xs, lo, hi))) ∧ Below w.heap.size w w' := by
  obtain ⟨U, hU⟩ : ∃ U, w.alloc (.cells #[.slice ra xs.length rc, .int .i64 lo, .int .i64 hi] 49) = U := ⟨_, rfl⟩
  have HB : Hid (Below w.heap.size w U) := by rw [← hU]; exact (Below.refl _ _).alloc (Nat.le_refl _) _
  have HC : Hid (Cb w.heap.size ra xs.length rc lo hi U) := by show Cb _ _ _ _ _ _ _; rw [← hU]; exact Cb.new _ _ _ _ _ _ _
  obtain ⟨z2, z3, z4⟩ := And.intro HC.out.c0 (And.intro HC.out.c1 HC.out.c2)
  have z5 := (HB.out.cell (p := ⟨B, 0, none⟩) (cell_lt hp)).trans hp
  have z6 := (HB.out.cell (p := ⟨B, 1, none⟩) (cell_lt ht)).trans ht
  have HX := Lib.hid (vcell_any p t ra xs rc lo hi U hl (hs.below HB.out))
  clear hs hp ht
  go_enter Try.func62, Try.ntmps62
  go_wp2_with (go_at_call 63; refine HX.out.mono ?_; rintro e w1 ⟨rfl, hb1⟩)
  go_ret
  exact ⟨ret_bool rfl, HB.out.trans (hb1.mono HB.out.size)⟩
set_option maxRecDepth 100000 in
theorem kindA_any (C B : Nat) (p t : Int) (ra : Option Addr) (xs : List Int) (rc : Nat) (lo hi : Int) (w : World) (hc : w.cell? ⟨C, 0, none⟩ = some (.func (.func 62) #[] #[.pointer (some ⟨B, 0, none⟩)])) (hl : xs.length ≤ 140737488351232) (hs : Sl w ra xs) (hp : w.cell? ⟨B, 0, none⟩ = some (.int .i64 p)) (ht : w.cell? ⟨B, 1, none⟩ = some (.int .i64 t)) :
    Calls Try.prog 93 #[.agg #[.slice ra xs.length rc, .int .i64 lo, .int .i64 hi], .pointer (some ⟨C, 0, none⟩)] w fun e w' => e = .returned (.bool (!ccB p t (xs, lo, hi))) ∧ Below w.heap.size w w' := by
  obtain ⟨U, hU⟩ : ∃ U, w.alloc (.cells #[.slice ra xs.length rc, .int .i64 lo, .int .i64 hi] 49) = U := ⟨_, rfl⟩
  have HB : Hid (Below w.heap.size w U) := by rw [← hU]; exact (Below.refl _ _).alloc (Nat.le_refl _) _
  have HC : Hid (Cb w.heap.size ra xs.length rc lo hi U) := by show Cb _ _ _ _ _ _ _; rw [← hU]; exact Cb.new _ _ _ _ _ _ _
  obtain ⟨z2, z3, z4⟩ := And.intro HC.out.c0 (And.intro HC.out.c1 HC.out.c2)
  have z5 := (HB.out.cell (p := ⟨C, 0, none⟩) (cell_lt hc)).trans hc
  have HX : Hid (Calls Try.prog 62 #[.agg #[.slice ra xs.length rc, .int .i64 lo, .int .i64 hi], .pointer (some ⟨B, 0, none⟩)] U fun e w' => e = .returned (.bool (ccB p t (xs, lo, hi))) ∧ Below U.heap.size U w') := kind1_any B p t ra xs rc lo hi U hl (hs.below HB.out) ((HB.out.cell (p := ⟨B, 0, none⟩) (cell_lt hp)).trans hp) ((HB.out.cell (p := ⟨B, 1, none⟩) (cell_lt ht)).trans ht)
  clear hs hc hl hp ht
  go_enter Try.func93, Try.ntmps93
  go_wp2_with (go_at_call 62; refine HX.out.mono ?_; rintro e w1 ⟨rfl, hb1⟩)
  go_ret
  exact ⟨ret_bool rfl, HB.out.trans (hb1.mono HB.out.size)⟩
set_option maxRecDepth 100000 in
set_option maxHeartbeats 1000000 in
theorem kindindex_any (C B : Nat) (p t : Int) (a : Option Addr) (cs : List Cl) (cap : Nat) (w : World) (hn : cs.length ≤ 1000000) (hlc : ∀ c ∈ cs, c.1.length ≤ 140737488351232) (hc : w.cell? ⟨C, 0, none⟩ = some (.func (.func 62) #[] #[.pointer (some ⟨B, 0, none⟩)])) (hs : Cs w a cs) (hp : w.cell? ⟨B, 0, none⟩ = some (.int .i64 p)) (ht : w.cell? ⟨B, 1, none⟩ = some (.int .i64 t)) :
    Calls Try.prog 106 #[.slice a cs.length cap, .func (.func 93) #[] #[.pointer (some ⟨C, 0, none⟩)]] w fun e w' => e = .returned (.int .i64 (nix (ccB p t) cs)) ∧ Below w.heap.size w w' := by
  have HS := Lib.hid hs
  have HLC := Lib.hid hlc
  have H1 : Hid (∀ W, Below w.heap.size w W → ∀ c ∈ cs, ∀ ra rc, Sl W ra c.1 → Calls Try.prog 93 #[.agg #[.slice ra c.1.length rc, .int .i64 c.2.1, .int .i64 c.2.2], .pointer (some ⟨C, 0, none⟩)] W fun e w' => e = .returned (.bool (!ccB p t c)) ∧ Below W.heap.size W w') := fun W hb c hcm ra rc hsl =>
    kindA_any C B p t ra c.1 rc c.2.1 c.2.2 W ((hb.cell (p := ⟨C, 0, none⟩) (cell_lt hc)).trans hc) (HLC.out c hcm) hsl ((hb.cell (p := ⟨B, 0, none⟩) (cell_lt hp)).trans hp) ((hb.cell (p := ⟨B, 1, none⟩) (cell_lt ht)).trans ht)
  clear hs hc hlc
  go_enter Try.func106, Try.ntmps106
  go_wp2
  go_loopw [8] (fun i wr => ∃ k : Nat, k ≤ cs.length ∧ i = .int .i64 k ∧ (∀ j y, j < k → cs[j]? = some y → ccB p t y = true) ∧ Below w.heap.size w wr) (fun i _ => cs.length - (intOf i).toNat)
  case atStart => exact ⟨0, Nat.zero_le _, rfl, fun j y h => by omega, Below.refl _ _⟩
  case round =>
    obtain ⟨k, hk, rfl, hno, hb⟩ := hrel
    have HN := Lib.hid hno; clear hno
    have HB := Lib.hid hb; clear hb
    by_cases hlt : k < cs.length
    · obtain ⟨c, hcc⟩ : ∃ c, cs[k]? = some c := ⟨cs[k], by simp [hlt]⟩
      obtain ⟨b, o, ra, rc, rfl, q0, q1, q2, q3⟩ := (HS.out.below HB.out) k c hcc
      have HX := Lib.hid (H1.out wr HB.out c (List.mem_of_getElem? hcc) ra rc q3)
      have HCC := Lib.hid hcc
      clear q3 hcc
      cases ho : ccB p t c
      · go_wp2_with (go_at_call 93; refine HX.out.mono ?_; rintro e w' ⟨rfl, hb1⟩; rw [ho])
        go_ret
        exact ⟨ret_i64 (nix_hit HN.out HCC.out ho).symm, HB.out.trans (hb1.mono HB.out.size)⟩
      · go_wp2_with (go_at_call 93; refine HX.out.mono ?_; rintro e w' ⟨rfl, hb1⟩; rw [ho])
        have HB2 : Hid (Below w.heap.size w w') := HB.out.trans (hb1.mono HB.out.size)
        clear hb1
        go_roundw
        case rel => exact ⟨k + 1, by omega, by go_num, fun j y hj hy => by
            by_cases hj' : j = k
            · subst hj'; rw [HCC.out] at hy; cases hy; exact ho
            · exact HN.out j y (by omega) hy, HB2.out⟩
        case measure => simp [intOf]; omega
    · go_wp2
      go_ret
      exact ⟨ret_i64 (nix_miss (fun j y hy => HN.out j y (by have := (List.getElem?_eq_some_iff.1 hy).1; omega) hy)).symm, HB.out⟩
theorem kindall_any (B : Nat) (p t : Int) (a : Option Addr) (cs : List Cl) (cap : Nat) (w : World) (hn : cs.length ≤ 1000000) (hlc : ∀ c ∈ cs, c.1.length ≤ 140737488351232) (hs : Cs w a cs) (hp : w.cell? ⟨B, 0, none⟩ = some (.int .i64 p)) (ht : w.cell? ⟨B, 1, none⟩ = some (.int .i64 t)) :
    Calls Try.prog 61 #[.slice a cs.length cap, .func (.func 62) #[] #[.pointer (some ⟨B, 0, none⟩)]] w fun e w' => e = .returned (.bool (cs.all (ccB p t))) ∧ Below w.heap.size w w' := by
  obtain ⟨V, hV⟩ : ∃ V, w.alloc (.cells #[.func (.func 62) #[] #[.pointer (some ⟨B, 0, none⟩)]] 74) = V := ⟨_, rfl⟩
  have hb0 : Below w.heap.size w V := by rw [← hV]; exact (Below.refl _ _).alloc (Nat.le_refl _) _
  have hc : V.cell? ⟨w.heap.size, 0, none⟩ = some (.func (.func 62) #[] #[.pointer (some ⟨B, 0, none⟩)]) := by rw [← hV]; exact alloc_cell _ _ _ _ _ rfl
  have HI : Hid (∀ c, Calls Try.prog 106 #[.slice a cs.length c, .func (.func 93) #[] #[.pointer (some ⟨w.heap.size, 0, none⟩)]] V fun e w' => e = .returned (.int .i64 (nix (ccB p t) cs)) ∧ Below V.heap.size V w') := fun c => kindindex_any w.heap.size B p t a cs c V hn hlc hc (hs.below hb0) ((hb0.cell (p := ⟨B, 0, none⟩) (cell_lt hp)).trans hp) ((hb0.cell (p := ⟨B, 1, none⟩) (cell_lt ht)).trans ht)
  have HC : Hid (∀ c, Calls Try.prog 92 #[.slice a cs.length c, .func (.func 93) #[] #[.pointer (some ⟨w.heap.size, 0, none⟩)]] V fun e w' => e = .returned (.bool (decide (0 ≤ nix (ccB p t) cs))) ∧ Below V.heap.size V w') := fun c => by
    go_enter Try.func92, Try.ntmps92
    go_wp2_with (go_at_call 106; refine (HI.out _).mono ?_; rintro e w' ⟨rfl, hb⟩)
    go_ret
    exact ⟨ret_bool rfl, hb⟩
  have HB0 := Lib.hid hb0
  have HOK := Lib.hid (nix_ok (ccB p t) cs)
  clear hb0 hs hc hlc hp ht
  go_enter Try.func61, Try.ntmps61
  go_wp2_with (go_at_call 92; refine (HC.out _).mono ?_; rintro e w' ⟨rfl, hb⟩)
  go_ret
  exact ⟨ret_bool HOK.out, HB0.out.trans (hb.mono HB0.out.size)⟩
/-- Whether a picture's sum lies in a cell. -/
def inC (x : List Int) (c : Cl) : Bool := rangeB (prodL c.1 x) c.2.1 c.2.2
set_option maxRecDepth 100000 in
set_option maxHeartbeats 1000000 in
theorem holds1_any (B : Nat) (xa : Option Addr) (x : List Int) (xc : Nat) (ra : Option Addr) (xs : List Int) (rc : Nat) (lo hi : Int) (w : World) (hl : xs.length ≤ 8 ∧ xs.length = x.length ∧ okL (-1) 1 xs = true) (hx : okL 0 3 x = true) (hs : Sl w ra xs) (hp : w.cell? ⟨B, 0, none⟩ = some (.slice xa x.length xc)) (hsx : Sl w xa x) :
    Calls Try.prog 94 #[.agg #[.slice ra xs.length rc, .int .i64 lo, .int .i64 hi], .pointer (some ⟨B, 0, none⟩)] w fun e w' => e = .returned (.bool (inC x (xs, lo, hi))) ∧ Below w.heap.size w w' := by
  obtain ⟨U, hU⟩ : ∃ U, w.alloc (.cells #[.slice ra xs.length rc, .int .i64 lo, .int .i64 hi] 49) = U := ⟨_, rfl⟩
  have HB : Hid (Below w.heap.size w U) := by rw [← hU]; exact (Below.refl _ _).alloc (Nat.le_refl _) _
  have HC : Hid (Cb w.heap.size ra xs.length rc lo hi U) := by show Cb _ _ _ _ _ _ _; rw [← hU]; exact Cb.new _ _ _ _ _ _ _
  obtain ⟨z2, z3, z4⟩ := And.intro HC.out.c0 (And.intro HC.out.c1 HC.out.c2)
  have z5 := (HB.out.cell (p := ⟨B, 0, none⟩) (cell_lt hp)).trans hp
  have HX := Lib.hid (product_any ra xs rc xa x xc U hl.1 hl.2.1 hl.2.2 hx (hs.below HB.out) (hsx.below HB.out))
  have HV := Lib.hid (show inC x (xs, lo, hi) = rangeB (prodL xs x) lo hi from rfl)
  clear hs hp hl hx hsx
  go_enter Try.func94, Try.ntmps94
  go_wp2_with (go_at_call 55; refine HX.out.mono ?_; rintro e w1 ⟨rfl, rfl⟩)
  all_goals go_ret
  all_goals exact ⟨ret_bool (by rw [HV.out]; first | (simp [rangeB, *]; done) | (simp [rangeB]; omega)), HB.out⟩
set_option maxRecDepth 100000 in
theorem holdsA_any (C B : Nat) (xa : Option Addr) (x : List Int) (xc : Nat) (ra : Option Addr) (xs : List Int) (rc : Nat) (lo hi : Int) (w : World) (hc : w.cell? ⟨C, 0, none⟩ = some (.func (.func 94) #[] #[.pointer (some ⟨B, 0, none⟩)])) (hl : xs.length ≤ 8 ∧ xs.length = x.length ∧ okL (-1) 1 xs = true) (hs : Sl w ra xs) (hx : okL 0 3 x = true) (hp : w.cell? ⟨B, 0, none⟩ = some (.slice xa x.length xc)) (hsx : Sl w xa x) :
    Calls Try.prog 93 #[.agg #[.slice ra xs.length rc, .int .i64 lo, .int .i64 hi], .pointer (some ⟨C, 0, none⟩)] w fun e w' => e = .returned (.bool (!inC x (xs, lo, hi))) ∧ Below w.heap.size w w' := by
  obtain ⟨U, hU⟩ : ∃ U, w.alloc (.cells #[.slice ra xs.length rc, .int .i64 lo, .int .i64 hi] 49) = U := ⟨_, rfl⟩
  have HB : Hid (Below w.heap.size w U) := by rw [← hU]; exact (Below.refl _ _).alloc (Nat.le_refl _) _
  have HC : Hid (Cb w.heap.size ra xs.length rc lo hi U) := by show Cb _ _ _ _ _ _ _; rw [← hU]; exact Cb.new _ _ _ _ _ _ _
  obtain ⟨z2, z3, z4⟩ := And.intro HC.out.c0 (And.intro HC.out.c1 HC.out.c2)
  have z5 := (HB.out.cell (p := ⟨C, 0, none⟩) (cell_lt hc)).trans hc
  have HX : Hid (Calls Try.prog 94 #[.agg #[.slice ra xs.length rc, .int .i64 lo, .int .i64 hi], .pointer (some ⟨B, 0, none⟩)] U fun e w' => e = .returned (.bool (inC x (xs, lo, hi))) ∧ Below U.heap.size U w') := holds1_any B xa x xc ra xs rc lo hi U hl hx (hs.below HB.out) ((HB.out.cell (p := ⟨B, 0, none⟩) (cell_lt hp)).trans hp) (hsx.below HB.out)
  clear hs hc hl hp hsx hx
  go_enter Try.func93, Try.ntmps93
  go_wp2_with (go_at_call 94; refine HX.out.mono ?_; rintro e w1 ⟨rfl, hb1⟩)
  go_ret
  exact ⟨ret_bool rfl, HB.out.trans (hb1.mono HB.out.size)⟩
set_option maxRecDepth 100000 in
set_option maxHeartbeats 1000000 in
theorem holdsindex_any (C B : Nat) (xa : Option Addr) (x : List Int) (xc : Nat) (a : Option Addr) (cs : List Cl) (cap : Nat) (w : World) (hn : cs.length ≤ 1000000) (hlc : ∀ c ∈ cs, c.1.length ≤ 8 ∧ c.1.length = x.length ∧ okL (-1) 1 c.1 = true) (hc : w.cell? ⟨C, 0, none⟩ = some (.func (.func 94) #[] #[.pointer (some ⟨B, 0, none⟩)])) (hs : Cs w a cs) (hx : okL 0 3 x = true) (hp : w.cell? ⟨B, 0, none⟩ = some (.slice xa x.length xc)) (hsx : Sl w xa x) :
    Calls Try.prog 106 #[.slice a cs.length cap, .func (.func 93) #[] #[.pointer (some ⟨C, 0, none⟩)]] w fun e w' => e = .returned (.int .i64 (nix (inC x) cs)) ∧ Below w.heap.size w w' := by
  have HS := Lib.hid hs
  have HLC := Lib.hid hlc
  have H1 : Hid (∀ W, Below w.heap.size w W → ∀ c ∈ cs, ∀ ra rc, Sl W ra c.1 → Calls Try.prog 93 #[.agg #[.slice ra c.1.length rc, .int .i64 c.2.1, .int .i64 c.2.2], .pointer (some ⟨C, 0, none⟩)] W fun e w' => e = .returned (.bool (!inC x c)) ∧ Below W.heap.size W w') := fun W hb c hcm ra rc hsl =>
    holdsA_any C B xa x xc ra c.1 rc c.2.1 c.2.2 W ((hb.cell (p := ⟨C, 0, none⟩) (cell_lt hc)).trans hc) (HLC.out c hcm) hsl hx ((hb.cell (p := ⟨B, 0, none⟩) (cell_lt hp)).trans hp) (hsx.below hb)
  clear hs hc hlc
  go_enter Try.func106, Try.ntmps106
  go_wp2
  go_loopw [8] (fun i wr => ∃ k : Nat, k ≤ cs.length ∧ i = .int .i64 k ∧ (∀ j y, j < k → cs[j]? = some y → inC x y = true) ∧ Below w.heap.size w wr) (fun i _ => cs.length - (intOf i).toNat)
  case atStart => exact ⟨0, Nat.zero_le _, rfl, fun j y h => by omega, Below.refl _ _⟩
  case round =>
    obtain ⟨k, hk, rfl, hno, hb⟩ := hrel
    have HN := Lib.hid hno; clear hno
    have HB := Lib.hid hb; clear hb
    by_cases hlt : k < cs.length
    · obtain ⟨c, hcc⟩ : ∃ c, cs[k]? = some c := ⟨cs[k], by simp [hlt]⟩
      obtain ⟨b, o, ra, rc, rfl, q0, q1, q2, q3⟩ := (HS.out.below HB.out) k c hcc
      have HX := Lib.hid (H1.out wr HB.out c (List.mem_of_getElem? hcc) ra rc q3)
      have HCC := Lib.hid hcc
      clear q3 hcc
      cases ho : inC x c
      · go_wp2_with (go_at_call 93; refine HX.out.mono ?_; rintro e w' ⟨rfl, hb1⟩; rw [ho])
        go_ret
        exact ⟨ret_i64 (nix_hit HN.out HCC.out ho).symm, HB.out.trans (hb1.mono HB.out.size)⟩
      · go_wp2_with (go_at_call 93; refine HX.out.mono ?_; rintro e w' ⟨rfl, hb1⟩; rw [ho])
        have HB2 : Hid (Below w.heap.size w w') := HB.out.trans (hb1.mono HB.out.size)
        clear hb1
        go_roundw
        case rel => exact ⟨k + 1, by omega, by go_num, fun j y hj hy => by
            by_cases hj' : j = k
            · subst hj'; rw [HCC.out] at hy; cases hy; exact ho
            · exact HN.out j y (by omega) hy, HB2.out⟩
        case measure => simp [intOf]; omega
    · go_wp2
      go_ret
      exact ⟨ret_i64 (nix_miss (fun j y hy => HN.out j y (by have := (List.getElem?_eq_some_iff.1 hy).1; omega) hy)).symm, HB.out⟩
theorem holdsall_any (B : Nat) (xa : Option Addr) (x : List Int) (xc : Nat) (a : Option Addr) (cs : List Cl) (cap : Nat) (w : World) (hn : cs.length ≤ 1000000) (hlc : ∀ c ∈ cs, c.1.length ≤ 8 ∧ c.1.length = x.length ∧ okL (-1) 1 c.1 = true) (hs : Cs w a cs) (hx : okL 0 3 x = true) (hp : w.cell? ⟨B, 0, none⟩ = some (.slice xa x.length xc)) (hsx : Sl w xa x) :
    Calls Try.prog 61 #[.slice a cs.length cap, .func (.func 94) #[] #[.pointer (some ⟨B, 0, none⟩)]] w fun e w' => e = .returned (.bool (cs.all (inC x))) ∧ Below w.heap.size w w' := by
  obtain ⟨V, hV⟩ : ∃ V, w.alloc (.cells #[.func (.func 94) #[] #[.pointer (some ⟨B, 0, none⟩)]] 74) = V := ⟨_, rfl⟩
  have hb0 : Below w.heap.size w V := by rw [← hV]; exact (Below.refl _ _).alloc (Nat.le_refl _) _
  have hc : V.cell? ⟨w.heap.size, 0, none⟩ = some (.func (.func 94) #[] #[.pointer (some ⟨B, 0, none⟩)]) := by rw [← hV]; exact alloc_cell _ _ _ _ _ rfl
  have HI : Hid (∀ c, Calls Try.prog 106 #[.slice a cs.length c, .func (.func 93) #[] #[.pointer (some ⟨w.heap.size, 0, none⟩)]] V fun e w' => e = .returned (.int .i64 (nix (inC x) cs)) ∧ Below V.heap.size V w') := fun c => holdsindex_any w.heap.size B xa x xc a cs c V hn hlc hc (hs.below hb0) hx ((hb0.cell (p := ⟨B, 0, none⟩) (cell_lt hp)).trans hp) (hsx.below hb0)
  have HC : Hid (∀ c, Calls Try.prog 92 #[.slice a cs.length c, .func (.func 93) #[] #[.pointer (some ⟨w.heap.size, 0, none⟩)]] V fun e w' => e = .returned (.bool (decide (0 ≤ nix (inC x) cs))) ∧ Below V.heap.size V w') := fun c => by
    go_enter Try.func92, Try.ntmps92
    go_wp2_with (go_at_call 106; refine (HI.out _).mono ?_; rintro e w' ⟨rfl, hb⟩)
    go_ret
    exact ⟨ret_bool rfl, hb⟩
  have HB0 := Lib.hid hb0
  have HOK := Lib.hid (nix_ok (inC x) cs)
  clear hb0 hs hc hlc hp hsx hx
  go_enter Try.func61, Try.ntmps61
  go_wp2_with (go_at_call 92; refine (HC.out _).mono ?_; rintro e w' ⟨rfl, hb⟩)
  go_ret
  exact ⟨ret_bool HOK.out, HB0.out.trans (hb.mono HB0.out.size)⟩
end Go.Proofs.Ytoedbbpjddjbnaa
/- Which cells a field takes, in layer 7 and in its answers: contracts. -/
namespace Go.Proofs.Ytoedbbpjddjbnaa
open Go.RowKit

def valsB (p t : Int) (cs : List Cl) : Bool := vfB p t && (decide (cs.length ≤ 30) && cs.all (ccB p t))
theorem cc_same {p t : Int} (h : vfB p t = true) (c : Cl) : ccB p t c = ccR p c := by unfold ccB ccR browB; rw [h, Bool.true_and]
theorem vals_ref (p t : Int) (cs : List Cl) : valsB p t cs = (cs.all (ccR p) && (vfB p t && decide (cs.length ≤ 30))) := by
  unfold valsB
  cases h : vfB p t
  · simp
  · rw [show cs.all (ccB p t) = cs.all (ccR p) by congr 1; funext c; exact cc_same h c, Bool.true_and, Bool.true_and, Bool.and_comm]
/-- Rows of a length that a walk can count to. -/
def CLen (cs : List Cl) : Prop := ∀ c ∈ cs, c.1.length ≤ 140737488351232
set_option maxRecDepth 100000 in
set_option maxHeartbeats 1000000 in
theorem bvalid_any (p t : Int) (a : Option Addr) (cs : List Cl) (cap : Nat) (w : World) (hn : cs.length ≤ 1000000) (hlc : CLen cs) (hs : Cs w a cs) :
    Calls Try.prog 21 #[.agg #[.int .i64 p, .int .i64 t], .slice a cs.length cap] w fun e w' => e = .returned (.bool (valsB p t cs)) ∧ Below w.heap.size w w' := by
  have HF := Lib.hid (Fb.new w p t 23)
  have HS := Lib.hid hs; clear hs
  have HLC := Lib.hid hlc; clear hlc
  cases h : vfB p t
  · have HV := Lib.hid (show valsB p t cs = false by unfold valsB; rw [h]; rfl)
    go_enter Try.func21, Try.ntmps21
    go_wp2_with (go_at_call 19; refine (vfield_any _ _ _).mono ?_; rintro e w1 ⟨rfl, hb1⟩; have F1 := Fb.next HF.out hb1; obtain ⟨k0, k1⟩ := And.intro F1.c0 F1.c1; rw [h])
    all_goals go_ret
    all_goals exact ⟨ret_bool HV.out.symm, F1.below⟩
  · by_cases hc : cs.length ≤ 30
    · have HV := Lib.hid (show valsB p t cs = cs.all (ccB p t) by unfold valsB; rw [h, decide_eq_true hc]; rfl)
      have hc' : (cs.length : Int) ≤ 30 := by omega
      go_enter Try.func21, Try.ntmps21
      go_wp2_with (first
        | (go_at_call 19; refine (vfield_any _ _ _).mono ?_; rintro e w1 ⟨rfl, hb1⟩; have F1 := Fb.next HF.out hb1; obtain ⟨k0, k1⟩ := And.intro F1.c0 F1.c1; rw [h])
        | (go_at_call 61; refine (kindall_any w.heap.size p t a cs cap _ hn HLC.out (HS.out.below F1.below) F1.c0 F1.c1).mono ?_; rintro e w2 ⟨rfl, hb2⟩; have F2 := Fb.next F1 hb2))
      all_goals go_ret
      all_goals exact ⟨ret_bool HV.out.symm, F2.below⟩
    · have HV := Lib.hid (show valsB p t cs = false by unfold valsB; rw [decide_eq_false hc]; simp)
      have hc' : ¬ (cs.length : Int) ≤ 30 := by omega
      go_enter Try.func21, Try.ntmps21
      go_wp2_with (go_at_call 19; refine (vfield_any _ _ _).mono ?_; rintro e w1 ⟨rfl, hb1⟩; have F1 := Fb.next HF.out hb1; obtain ⟨k0, k1⟩ := And.intro F1.c0 F1.c1; rw [h])
      all_goals go_ret
      all_goals exact ⟨ret_bool HV.out.symm, F1.below⟩
set_option maxRecDepth 100000 in
set_option maxHeartbeats 1000000 in
theorem rvalid_any (p t : Int) (a : Option Addr) (cs : List Cl) (cap : Nat) (w : World) (hn : cs.length ≤ 1000000) (hlc : CLen cs) (hs : Cs w a cs) :
    Calls Try.prog 22 #[.agg #[.int .i64 p, .int .i64 t], .slice a cs.length cap] w fun e w' => e = .returned (.bool (valsB p t cs)) ∧ Below w.heap.size w w' := by
  have HF := Lib.hid (Fb.new w p t 23)
  have HS := Lib.hid hs; clear hs
  have HLC := Lib.hid hlc; clear hlc
  have HV := Lib.hid (vals_ref p t cs)
  go_enter Try.func22, Try.ntmps22
  go_wp2
  go_loopw [9] (fun i wr => ∃ k : Nat, k ≤ cs.length ∧ i = .int .i64 k ∧ (∀ (j : Nat) (y : Cl), j < k → cs[j]? = some y → ccR p y = true) ∧ Fb w p t wr) (fun i _ => cs.length - (intOf i).toNat)
  case atStart => exact ⟨0, Nat.zero_le _, rfl, fun j y h => by omega, HF.out⟩
  case round =>
    clear HF
    obtain ⟨k, hk, rfl, hno, hf⟩ := hrel
    have HN := Lib.hid hno; clear hno
    have HF := Lib.hid hf; clear hf
    by_cases hlt : k < cs.length
    · obtain ⟨⟨xs, lo, hi⟩, hcc⟩ : ∃ c, cs[k]? = some c := ⟨cs[k], by simp [hlt]⟩
      obtain ⟨b, o, ra, rc, rfl, q0, q1, q2, q3⟩ := (HS.out.below HF.out.below) k _ hcc
      dsimp only at q0 q1 q2 q3
      have HQ := Lib.hid q3
      have HCC := Lib.hid hcc
      obtain ⟨U, hU⟩ : ∃ U, wr.alloc (.cells #[.slice ra xs.length rc, .int .i64 lo, .int .i64 hi] 49) = U := ⟨_, rfl⟩
      have HB : Hid (Below wr.heap.size wr U) := by rw [← hU]; exact (Below.refl _ _).alloc (Nat.le_refl _) _
      have HU := Lib.hid (HF.out.next HB.out)
      have HC : Hid (Cb wr.heap.size ra xs.length rc lo hi U) := by show Cb _ _ _ _ _ _ _; rw [← hU]; exact Cb.new _ _ _ _ _ _ _
      obtain ⟨z2, z3, z4⟩ := And.intro HC.out.c0 (And.intro HC.out.c1 HC.out.c2)
      obtain ⟨k0, k1⟩ := And.intro HU.out.c0 HU.out.c1
      have HX := Lib.hid (rvcell_any p ra xs rc lo hi U (HLC.out _ (List.mem_of_getElem? hcc)) (q3.below HB.out))
      clear q3 hcc
      cases ho : ccR p (xs, lo, hi)
      · rw [ho] at HX
        go_wp2_with (go_at_call 64; refine HX.out.mono ?_; rintro e w' ⟨rfl, hb1⟩)
        all_goals go_ret
        have e : cs.all (ccR p) = false := by rw [List.all_eq_false]; exact ⟨_, List.mem_of_getElem? HCC.out, by simp [ho]⟩
        exact ⟨ret_bool (by rw [HV.out, e, Bool.false_and]), (HU.out.next hb1).below⟩
      · rw [ho] at HX
        go_wp2_with (go_at_call 64; refine HX.out.mono ?_; rintro e w' ⟨rfl, hb1⟩)
        have HU2 := Lib.hid (HU.out.next hb1)
        clear hb1
        go_roundw
        case rel => exact ⟨k + 1, by omega, by go_num, fun j y hj hy => by
            by_cases hj' : j = k
            · subst hj'; rw [HCC.out] at hy; cases hy; exact ho
            · exact HN.out j y (by omega) hy, HU2.out⟩
        case measure => simp [intOf]; omega
    · have HA : Hid (cs.all (ccR p) = true) := by
        show _ = _
        rw [List.all_eq_true]
        intro c hc
        obtain ⟨i, hi, rfl⟩ := List.mem_iff_getElem.1 hc
        exact HN.out i cs[i] (by omega) (List.getElem?_eq_getElem hi)
      obtain ⟨k0, k1⟩ := And.intro HF.out.c0 HF.out.c1
      cases h : vfB p t
      · go_wp2_with (go_at_call 20; refine (rvfield_any _ _ _).mono ?_; rintro e w1 ⟨rfl, hb1⟩; have F1 := Fb.next HF.out hb1; rw [h])
        all_goals go_ret
        all_goals exact ⟨ret_bool (by rw [HV.out, h, Bool.false_and, Bool.and_false]), F1.below⟩
      · go_wp2_with (go_at_call 20; refine (rvfield_any _ _ _).mono ?_; rintro e w1 ⟨rfl, hb1⟩; have F1 := Fb.next HF.out hb1; rw [h])
        all_goals go_ret
        all_goals exact ⟨ret_bool (by rw [HV.out, HA.out, h, Bool.true_and, Bool.true_and]; first | (simp; done) | (simp; omega)), F1.below⟩
end Go.Proofs.Ytoedbbpjddjbnaa
/- Whether a picture fits cells, in layer 7 and in its answers: contracts. -/
namespace Go.Proofs.Ytoedbbpjddjbnaa
open Go.RowKit

theorem quiet_eq {P : Program} {f : FuncId} {args : Array Value} {w : World} {n : Nat} {v : Value} (h : Calls P f args (w.drewN n) fun e w' => e = .returned v ∧ w.drewN n = w') : Calls P f args (w.drewN n) fun e w'' => e = .returned v ∧ ∃ m, w'' = w.drewN m :=
  Calls.quiet_of_same (h.mono fun _ _ ⟨h1, h2⟩ => ⟨h1, h2.symm⟩)
def fitsV (p t : Int) (cs : List Cl) (x : List Int) : Bool × Int := if valsB p t cs = true then (if shownE p t x = 0 then (cs.all (inC x), 0) else (false, shownE p t x)) else (false, 1)
/-- What valid cells and a shown picture have. -/
def FitOk (cs : List Cl) (x : List Int) : Prop := (∀ c ∈ cs, c.1.length ≤ 8 ∧ c.1.length = x.length ∧ okL (-1) 1 c.1 = true) ∧ okL 0 3 x = true
theorem fitOk_of {p t : Int} {cs : List Cl} {x : List Int} (hv : valsB p t cs = true) (hE : shownE p t x = 0) : FitOk cs x := by
  obtain ⟨g1, g2⟩ := shownE_of hE
  simp only [valsB, Bool.and_eq_true, List.all_eq_true] at hv
  obtain ⟨h1, _, h3⟩ := hv
  obtain ⟨P, T, rfl, rfl, _, hP, hT⟩ : ∃ P T : Nat, p = (P : Int) ∧ t = (T : Int) ∧ 1 ≤ P ∧ P ≤ 8 ∧ T ≤ 3 := by
    simp only [vfB, rangeB, Bool.and_eq_true, decide_eq_true_eq] at h1
    obtain ⟨⟨h1, h2⟩, h3, h4⟩ := h1
    exact ⟨p.toNat, t.toNat, by omega, by omega, by omega, by omega, by omega⟩
  refine ⟨fun c hc => ?_, okL_le g2 (by omega)⟩
  have h := h3 c hc
  unfold ccB at h
  rw [Bool.and_eq_true] at h
  obtain ⟨_, _, _, _, q, q2⟩ := brow_of h.1
  exact ⟨by omega, by omega, q2⟩
set_option maxRecDepth 100000 in
theorem holdsmk_any (xa : Option Addr) (n xc : Nat) (w : World) :
    Calls Try.prog 65 #[.slice xa n xc] w fun e w' => e = .returned (.func (.func 94) #[] #[.pointer (some ⟨w.heap.size, 0, none⟩)]) ∧ Below w.heap.size w w' ∧ w'.cell? ⟨w.heap.size, 0, none⟩ = some (.slice xa n xc) := by
  go_enter Try.func65, Try.ntmps65
  go_wp2
  go_ret
  exact ⟨rfl, (Below.refl _ _).alloc (Nat.le_refl _) _, alloc_cell _ _ _ _ _ rfl⟩
set_option maxRecDepth 100000 in
set_option maxHeartbeats 1000000 in
theorem rfits_any (a : Option Addr) (cs : List Cl) (cap : Nat) (xa : Option Addr) (x : List Int) (xc : Nat) (w : World) (hn : cs.length ≤ 1000000) (hok : FitOk cs x) (hs : Cs w a cs) (hx : Sl w xa x) :
    Calls Try.prog 66 #[.slice a cs.length cap, .slice xa x.length xc] w fun e w' => e = .returned (.bool (cs.all (inC x))) ∧ Below w.heap.size w w' := by
  have HS := Lib.hid hs; clear hs
  have HX := Lib.hid hx; clear hx
  have HOK := Lib.hid hok; clear hok
  go_enter Try.func66, Try.ntmps66
  go_wp2
  go_loopw [9] (fun i wr => ∃ k : Nat, k ≤ cs.length ∧ i = .int .i64 k ∧ (∀ (j : Nat) (y : Cl), j < k → cs[j]? = some y → inC x y = true) ∧ Below w.heap.size w wr) (fun i _ => cs.length - (intOf i).toNat)
  case atStart => exact ⟨0, Nat.zero_le _, rfl, fun j y h => by omega, Below.refl _ _⟩
  case round =>
    obtain ⟨k, hk, rfl, hno, hb⟩ := hrel
    have HN := Lib.hid hno; clear hno
    have HB0 := Lib.hid hb; clear hb
    by_cases hlt : k < cs.length
    · obtain ⟨⟨xs, lo, hi⟩, hcc⟩ : ∃ c, cs[k]? = some c := ⟨cs[k], by simp [hlt]⟩
      obtain ⟨b, o, ra, rc, rfl, q0, q1, q2, q3⟩ := (HS.out.below HB0.out) k _ hcc
      dsimp only at q0 q1 q2 q3
      have HCC := Lib.hid hcc
      obtain ⟨U, hU⟩ : ∃ U, wr.alloc (.cells #[.slice ra xs.length rc, .int .i64 lo, .int .i64 hi] 49) = U := ⟨_, rfl⟩
      have HB : Hid (Below wr.heap.size wr U) := by rw [← hU]; exact (Below.refl _ _).alloc (Nat.le_refl _) _
      have HBU : Hid (Below w.heap.size w U) := HB0.out.trans (HB.out.mono HB0.out.size)
      have HC : Hid (Cb wr.heap.size ra xs.length rc lo hi U) := by show Cb _ _ _ _ _ _ _; rw [← hU]; exact Cb.new _ _ _ _ _ _ _
      obtain ⟨z2, z3, z4⟩ := And.intro HC.out.c0 (And.intro HC.out.c1 HC.out.c2)
      have HQ : Hid (xs.length ≤ 8 ∧ xs.length = x.length ∧ okL (-1) 1 xs = true) := HOK.out.1 _ (List.mem_of_getElem? hcc)
      have HS1 : Hid (Sl U ra xs) := q3.below HB.out
      have HX1 : Hid (Sl U xa x) := HX.out.below HBU.out
      have HI : Hid (inC x (xs, lo, hi) = rangeB (prodL xs x) lo hi) := rfl
      clear q3 hcc
      cases ho : rangeB (prodL xs x) lo hi
      · go_wp2
        go_quiet (first
          | (go_at_call 58; exact quiet_eq (rsum_any ra xs rc xa x xc _ HQ.out.1 HQ.out.2.1 HQ.out.2.2 HOK.out.2 (HS1.out.below (below_drewN (Below.refl _ _) _)) (HX1.out.below (below_drewN (Below.refl _ _) _))))
          | (go_at_call 60; exact quiet_eq (bin_any _ _ _ _)))
        go_wp2
        go_ret
        have e : cs.all (inC x) = false := by rw [List.all_eq_false]; exact ⟨_, List.mem_of_getElem? HCC.out, by rw [HI.out, ho]; simp⟩
        exact ⟨ret_bool e.symm, below_drewN HBU.out _⟩
      · go_wp2
        go_quiet (first
          | (go_at_call 58; exact quiet_eq (rsum_any ra xs rc xa x xc _ HQ.out.1 HQ.out.2.1 HQ.out.2.2 HOK.out.2 (HS1.out.below (below_drewN (Below.refl _ _) _)) (HX1.out.below (below_drewN (Below.refl _ _) _))))
          | (go_at_call 60; exact quiet_eq (bin_any _ _ _ _)))
        go_wp2
        go_roundw
        case rel => exact ⟨k + 1, by omega, by go_num, fun j y hj hy => by
            by_cases hj' : j = k
            · subst hj'; rw [HCC.out] at hy; cases hy; rw [HI.out]; exact ho
            · exact HN.out j y (by omega) hy, below_drewN HBU.out _⟩
        case measure => simp [intOf]; omega
    · have HA : Hid (cs.all (inC x) = true) := by
        show _ = _
        rw [List.all_eq_true]
        intro c hc
        obtain ⟨i, hi, rfl⟩ := List.mem_iff_getElem.1 hc
        exact HN.out i cs[i] (by omega) (List.getElem?_eq_getElem hi)
      go_wp2
      go_ret
      exact ⟨ret_bool HA.out.symm, HB0.out⟩
theorem Fb.below_cs {w : World} {p t : Int} {W : World} (h : Fb w p t W) {a : Option Addr} {cs : List Cl} (hs : Cs w a cs) : Cs W a cs := hs.below h.below
set_option maxRecDepth 100000 in
set_option maxHeartbeats 1000000 in
theorem bFits_any (p t : Int) (a : Option Addr) (cs : List Cl) (cap : Nat) (xa : Option Addr) (x : List Int) (xc : Nat) (w : World) (hn : cs.length ≤ 1000000) (hlc : CLen cs) (hl : x.length ≤ 140737488351232) (hs : Cs w a cs) (hx : Sl w xa x) :
    Calls Try.prog 23 #[.agg #[.int .i64 p, .int .i64 t], .slice a cs.length cap, .slice xa x.length xc] w fun e w' => e = .returned (.tuple #[.bool (fitsV p t cs x).1, .int .i64 (fitsV p t cs x).2]) ∧ Below w.heap.size w w' := by
  have HF := Lib.hid (Fb.new w p t 23)
  have HS := Lib.hid hs; clear hs
  have HX := Lib.hid hx; clear hx
  have HLC := Lib.hid hlc; clear hlc
  cases h : valsB p t cs
  · have HV := Lib.hid (show fitsV p t cs x = (false, 1) by unfold fitsV; rw [h]; rfl)
    go_enter Try.func23, Try.ntmps23
    go_wp2_with (go_at_call 21; refine (bvalid_any p t a cs cap _ hn HLC.out (HF.out.below_cs HS.out)).mono ?_; rintro e w1 ⟨rfl, hb1⟩; have F1 := Fb.next HF.out hb1; obtain ⟨k0, k1⟩ := And.intro F1.c0 F1.c1; rw [h])
    all_goals go_ret2
    all_goals exact ⟨by rw [HV.out]; rfl, F1.below⟩
  · by_cases hE : shownE p t x = 0
    · have HV := Lib.hid (show fitsV p t cs x = (cs.all (inC x), 0) by unfold fitsV; rw [h, if_pos hE]; rfl)
      have HO := Lib.hid (fitOk_of h hE)
      go_enter Try.func23, Try.ntmps23
      go_wp2_with (first
        | (go_at_call 21; refine (bvalid_any p t a cs cap _ hn HLC.out (HF.out.below_cs HS.out)).mono ?_; rintro e w1 ⟨rfl, hb1⟩; have F1 := Fb.next HF.out hb1; obtain ⟨k0, k1⟩ := And.intro F1.c0 F1.c1; rw [h])
        | (go_at_call 54; refine (shown_any p t xa x xc _ hl (F1.sl HX.out)).mono ?_; rintro e w2 ⟨rfl, hb2⟩; have F2 := Fb.next F1 hb2; rw [hE])
        | (go_at_call 65; refine (holdsmk_any xa x.length xc _).mono ?_; rintro e w3 ⟨rfl, hb3, hc3⟩; have F3 := Fb.next F2 hb3)
        | (go_at_call 61; refine (holdsall_any _ xa x xc a cs cap _ hn HO.out.1 (F3.below_cs HS.out) HO.out.2 hc3 (F3.sl HX.out)).mono ?_; rintro e w4 ⟨rfl, hb4⟩; have F4 := Fb.next F3 hb4))
      all_goals go_ret2
      all_goals exact ⟨by rw [HV.out]; rfl, F4.below⟩
    · have HV := Lib.hid (show fitsV p t cs x = (false, shownE p t x) by unfold fitsV; rw [h, if_neg hE]; rfl)
      go_enter Try.func23, Try.ntmps23
      go_wp2_with (first
        | (go_at_call 21; refine (bvalid_any p t a cs cap _ hn HLC.out (HF.out.below_cs HS.out)).mono ?_; rintro e w1 ⟨rfl, hb1⟩; have F1 := Fb.next HF.out hb1; obtain ⟨k0, k1⟩ := And.intro F1.c0 F1.c1; rw [h])
        | (go_at_call 54; refine (shown_any p t xa x xc _ hl (F1.sl HX.out)).mono ?_; rintro e w2 ⟨rfl, hb2⟩; have F2 := Fb.next F1 hb2))
      all_goals go_ret2
      all_goals exact ⟨by rw [HV.out]; rfl, F2.below⟩
set_option maxRecDepth 100000 in
set_option maxHeartbeats 1000000 in
theorem rFits_any (p t : Int) (a : Option Addr) (cs : List Cl) (cap : Nat) (xa : Option Addr) (x : List Int) (xc : Nat) (w : World) (hn : cs.length ≤ 1000000) (hlc : CLen cs) (hl : x.length ≤ 140737488351232) (hs : Cs w a cs) (hx : Sl w xa x) :
    Calls Try.prog 24 #[.agg #[.int .i64 p, .int .i64 t], .slice a cs.length cap, .slice xa x.length xc] w fun e w' => e = .returned (.tuple #[.bool (fitsV p t cs x).1, .int .i64 (fitsV p t cs x).2]) ∧ Below w.heap.size w w' := by
  have HF := Lib.hid (Fb.new w p t 23)
  have HS := Lib.hid hs; clear hs
  have HX := Lib.hid hx; clear hx
  have HLC := Lib.hid hlc; clear hlc
  cases h : valsB p t cs
  · have HV := Lib.hid (show fitsV p t cs x = (false, 1) by unfold fitsV; rw [h]; rfl)
    go_enter Try.func24, Try.ntmps24
    go_wp2_with (go_at_call 22; refine (rvalid_any p t a cs cap _ hn HLC.out (HF.out.below_cs HS.out)).mono ?_; rintro e w1 ⟨rfl, hb1⟩; have F1 := Fb.next HF.out hb1; obtain ⟨k0, k1⟩ := And.intro F1.c0 F1.c1; rw [h])
    all_goals go_ret2
    all_goals exact ⟨by rw [HV.out]; rfl, F1.below⟩
  · by_cases hE : shownE p t x = 0
    · have HV := Lib.hid (show fitsV p t cs x = (cs.all (inC x), 0) by unfold fitsV; rw [h, if_pos hE]; rfl)
      have HO := Lib.hid (fitOk_of h hE)
      go_enter Try.func24, Try.ntmps24
      go_wp2_with (first
        | (go_at_call 22; refine (rvalid_any p t a cs cap _ hn HLC.out (HF.out.below_cs HS.out)).mono ?_; rintro e w1 ⟨rfl, hb1⟩; have F1 := Fb.next HF.out hb1; obtain ⟨k0, k1⟩ := And.intro F1.c0 F1.c1; rw [h])
        | (go_at_call 57; refine (rpicture_any p t xa x xc _ hl (F1.sl HX.out)).mono ?_; rintro e w2 ⟨rfl, hb2⟩; have F2 := Fb.next F1 hb2; rw [hE])
        | (go_at_call 66; refine (rfits_any a cs cap xa x xc _ hn HO.out (F2.below_cs HS.out) (F2.sl HX.out)).mono ?_; rintro e w4 ⟨rfl, hb4⟩; have F4 := Fb.next F2 hb4))
      all_goals go_ret2
      all_goals exact ⟨by rw [HV.out]; rfl, F4.below⟩
    · have HV := Lib.hid (show fitsV p t cs x = (false, shownE p t x) by unfold fitsV; rw [h, if_neg hE]; rfl)
      go_enter Try.func24, Try.ntmps24
      go_wp2_with (first
        | (go_at_call 22; refine (rvalid_any p t a cs cap _ hn HLC.out (HF.out.below_cs HS.out)).mono ?_; rintro e w1 ⟨rfl, hb1⟩; have F1 := Fb.next HF.out hb1; obtain ⟨k0, k1⟩ := And.intro F1.c0 F1.c1; rw [h])
        | (go_at_call 57; refine (rpicture_any p t xa x xc _ hl (F1.sl HX.out)).mono ?_; rintro e w2 ⟨rfl, hb2⟩; have F2 := Fb.next F1 hb2))
      all_goals go_ret2
      all_goals exact ⟨by rw [HV.out]; rfl, F2.below⟩
end Go.Proofs.Ytoedbbpjddjbnaa
/- Ranges over functions whose values lie in memory: what an iterator owes its caller and what the caller owes it, told by the blocks that each of the two alone may write. Speaks of no function. -/
namespace Go.Proofs.Ytoedbbpjddjbnaa
open Go.RowKit

theorem roundIn_n {P : Program} {n m l : Nat} {f : FuncId} {tmps : Array Value} {assign body : Code} {w : World} {R : Ending → World → Prop} (h : RoundIn Fence.wide n P l f tmps assign body w R) : RoundIn Fence.wide m P l f tmps assign body w R :=
  ⟨h.1, fun c cs _ => h.2 c cs (room_wide _)⟩
/-- Blocks. -/
abbrev Blk := Nat → Prop
/-- All blocks but those of T are as they were; there may be more. -/
structure Turned (T : Blk) (W W' : World) : Prop where
  os : W'.os = W.os
  tape : W'.tape = W.tape
  output : W'.output = W.output
  size : W.heap.size ≤ W'.heap.size
  same : ∀ b, b < W.heap.size → ¬ T b → W'.heap[b]? = W.heap[b]?
theorem Turned.refl (T : Blk) (W : World) : Turned T W W := ⟨rfl, rfl, rfl, Nat.le_refl _, fun _ _ _ => rfl⟩
theorem Turned.trans {T T' : Blk} {A B C : World} (h : Turned T A B) (k : Turned T' B C) (hT : ∀ b, T' b → T b ∨ A.heap.size ≤ b) : Turned T A C :=
  ⟨k.os.trans h.os, k.tape.trans h.tape, k.output.trans h.output, Nat.le_trans h.size k.size, fun b hb hn => (k.same b (Nat.lt_of_lt_of_le hb h.size) (fun e => by rcases hT b e with q | q; exact hn q; omega)).trans (h.same b hb hn)⟩
theorem Turned.mono {T T' : Blk} {A B : World} (h : Turned T A B) (hT : ∀ b, b < A.heap.size → T b → T' b) : Turned T' A B := ⟨h.os, h.tape, h.output, h.size, fun b hb hn => h.same b hb fun e => hn (hT b hb e)⟩
theorem turned_of_below {T : Blk} {B : Nat} {W W' : World} (h : Below B W W') (hT : ∀ b, b < W.heap.size → B ≤ b → T b) : Turned T W W' := ⟨h.os, h.tape, h.output, h.size, fun b hb hn => h.block b (by rcases Nat.lt_or_ge b B with q | q; exact q; exact absurd (hT b hb q) hn)⟩
theorem turned_below {T : Blk} {W W' : World} (h : Below W.heap.size W W') : Turned T W W' := turned_of_below h fun b hb hB => by omega
theorem turned_alloc (T : Blk) (W : World) (o : Obj) : Turned T W (W.alloc o) := turned_below ((Below.refl _ _).alloc (Nat.le_refl _) o)
theorem turned_drew (T : Blk) (W : World) : Turned T W W.drew := turned_below (Below.refl _ _).drew
theorem turned_grown {T : Blk} {W W' : World} {row : Option Nat} (h : W.grownBy W' row) (hr : ∀ r, row = some r → T r) : Turned T W W' := ⟨h.os, h.tape, h.output, h.size, fun b hb hn => h.block b hb fun e => hn (hr b e.symm)⟩
theorem turned_set {T : Blk} (W : World) {a : Addr} (v : Value) (h : T a.block) : Turned T W (W.setCell a v) := ⟨rfl, rfl, rfl, by simp, fun b _ hn => Below.heap_setCell W a v b fun e => hn (e ▸ h)⟩
theorem turned_put {T : Blk} (W : World) {l : Nat} (o : Obj) (h : T l) : Turned T W (W.putObj l o) := turned_grown (grownBy_putObj' W l o) fun r e => by cases e; exact h
theorem Turned.cell {T : Blk} {W W' : World} (h : Turned T W W') {a : Addr} {v : Value} (hc : W.cell? a = some v) (hn : ¬ T a.block) : W'.cell? a = some v := by
  have hb : a.block < W.heap.size := by
    unfold World.cell? at hc
    rcases Nat.lt_or_ge a.block W.heap.size with hl | hl
    · exact hl
    · simp [Array.getElem?_eq_none hl] at hc
  exact (World.cell?_of_block (h.same _ hb hn)).trans hc
theorem Turned.frozen {T : Blk} {W W' : World} (h : Turned T W W') {a : Addr} (hb : a.block < W.heap.size) (hn : ¬ T a.block) : W'.frozen? a = W.frozen? a := World.frozen?_of_block (h.same _ hb hn)
theorem Turned.below {T : Blk} {W W' : World} {B : Nat} (h : Turned T W W') (hB : B ≤ W.heap.size) (hT : ∀ b, b < B → ¬ T b) : Below B W W' :=
  ⟨h.os, h.tape, h.output, h.size, fun b hb => h.same b (Nat.lt_of_lt_of_le hb hB) (hT b hb)⟩

section
variable {α β : Type}
/-- What a caller says of the world between two values (J behind which values, C: what it alone may write, T: what the iterator alone may write). -/
structure Client (J : List α → Blk → Blk → World → Prop) : Prop where
  lt : ∀ {pre C T W}, J pre C T W → ∀ b, C b → b < W.heap.size ∧ ¬ T b
  keep : ∀ {pre C T T' W W'}, J pre C T W → Turned T W W' → (∀ b, T' b → T b ∨ W.heap.size ≤ b) → J pre C T' W'
/-- Behind a round that goes on, or has left. -/
def Went (J : List α → Blk → Blk → World → Prop) (own : α → Blk) (pre : List α) (x : α) (C T : Blk) (W W' : World) : Prop :=
  ∃ C' T', J (pre ++ [x]) C' T' W' ∧ (∀ b, T b → b < W.heap.size → ¬ own x b → T' b) ∧ (∀ b, C' b → C b ∨ own x b ∨ W.heap.size ≤ b) ∧ Turned (fun b => C b ∨ own x b) W W'
/-- An iterator's contract: the values Z, by key, each in memory as Mem says, with what is handed over. -/
def SeqM (P : Program) (g : Nat) (lb : Array Value) (encs : α → Array Value) (Mem : α → World → Prop) (own : α → Blk) (key : α → β) (Z : List β) (need : Blk) (w : World) : Prop :=
  ∀ (l : Nat) (J Jx : List α → Blk → Blk → World → Prop) (C T : Blk) (W : World), Below w.heap.size w W → Client J → Client Jx → (∀ b, need b → ¬ C b) →
    (∀ pre x C T W1, J pre C T W1 → Mem x W1 → (∀ b, own x b → T b) → (∃ rest, Z = pre.map key ++ key x :: rest) → ∀ m, YieldAt Fence.wide m P l (encs x) W1 fun e W' =>
      (e = .returned (.bool true) ∧ Went J own pre x C T W1 W') ∨ (e = .returned (.bool false) ∧ Went Jx own pre x C T W1 W')) →
    J [] C T W →
    Calls P g (#[.func (.yield l) #[] #[]] ++ lb) W fun e W' => (∃ v, e = .returned v) ∧ ((∃ xs C T, xs.map key = Z ∧ J xs C T W') ∨ (∃ pre C T, Jx pre C T W'))
/-- How a round may be left. -/
def wentPost (I : List α → Blk → Blk → World → Prop) (Ix : Code → List α → Blk → Blk → World → Prop) (own : α → Blk) (pre : List α) (x : α) (C T : Blk) (W : World) : Exit → Act → World → Prop
  | .normal, _, W' => Went I own pre x C T W W'
  | .ret, _, W' => Went (Ix .ret) own pre x C T W W'
  | .exit id, _, W' => Went (Ix (.exit id)) own pre x C T W W'
  | .goto t, _, W' => Went (Ix (.goto t)) own pre x C T W W'
  | .panic _, _, _ => False
  | .outgrown, _, _ => False
/-- A caller's word with its loop's record and the block for deferred calls beside it. -/
def Ring (I : List α → Blk → Blk → World → Prop) (l D : Nat) (r : Loop) (pre : List α) (C T : Blk) (W : World) : Prop :=
  ∃ C1 T1, I pre C1 T1 W ∧ (∀ b, C b ↔ C1 b ∨ b = l ∨ b = D) ∧ (∀ b, T b → T1 b) ∧ T1 l ∧ T1 D ∧ ¬ T l ∧ ¬ T D ∧ W.heap[l]? = some (.loop r) ∧ W.heap[D]? = some (.deferred (some []))
theorem Client.ring' {I : List α → Blk → Blk → World → Prop} (h : Client I) (l D : Nat) (r : Loop) : Client (Ring I l D r) where
  lt := by
    rintro pre C T W ⟨C1, T1, hI, hC, hT, q1, q2, tl, tD, hl, hD⟩ b hb
    rcases (hC b).1 hb with q | rfl | rfl
    · exact ⟨(h.lt hI b q).1, fun e => (h.lt hI b q).2 (hT b e)⟩
    · exact ⟨(Array.getElem?_eq_some_iff.1 hl).1, tl⟩
    · exact ⟨(Array.getElem?_eq_some_iff.1 hD).1, tD⟩
  keep := by
    rintro pre C T T' W W' ⟨C1, T1, hI, hC, hT, q1, q2, tl, tD, hl, hD⟩ ht hT'
    have ll := (Array.getElem?_eq_some_iff.1 hl).1
    have lD := (Array.getElem?_eq_some_iff.1 hD).1
    exact ⟨C1, fun b => T1 b ∨ W.heap.size ≤ b, h.keep hI (ht.mono fun b _ e => hT b e) (fun b e => e), hC, fun b e => (hT' b e).elim (fun e => .inl (hT b e)) .inr, .inl q1, .inl q2,
      (fun e => (hT' _ e).elim tl (by omega)), (fun e => (hT' _ e).elim tD (by omega)), (ht.same _ ll tl).trans hl, (ht.same _ lD tD).trans hD⟩
/-- A range over a function that has such a contract. -/
theorem wpIn_rangeFunc_M {P : Program} {n : Nat} {g : Operand} {ps : Array Tmp} {assign body : Code} {Q : Exit → Act → World → Prop} {a : Act} {w : World}
    (h1 : 1 ≤ n) {gf : Nat} {lb : Array Value} (hg : a.eval g = .func (.func gf) #[] lb) (eg : ∀ args w, (callFunc gf args).run P w = .ok (.enter gf args) w)
    {encs : α → Array Value} {Mem : α → World → Prop} {own : α → Blk} {key : α → β} {Z : List β} {need : Blk} {w0 : World} (hseq : SeqM P gf lb encs Mem own key Z need w0) (hb0 : Below w0.heap.size w0 w) (hps : ∀ x, (encs x).size = ps.size)
    (hMem : ∀ x W l r r', Mem x W → W.heap[l]? = some (.loop r) → Mem x (W.putObj l (.loop r'))) (I : List α → Blk → Blk → World → Prop) (Ix : Code → List α → Blk → Blk → World → Prop) (hI : Client I) (hIx : ∀ c, Client (Ix c)) (C T : Blk) (hneed : ∀ b, need b → ¬ C b ∧ b < w.heap.size) (hT : ∀ b, T b → b < w.heap.size) (h0 : I [] C T w) (a₁ : α → Act)
    (hassign : ∀ (l : Nat) (x : α) (W : World) (K : Act → World → Prop), K (a₁ x) W →
      assign.wpIn (Fence.wide.inRound l) (n - 1 - 1) P (Exit.then K (fun _ _ _ => False)) { tmps := (ps.zip (encs x)).foldl (fun t (p, v) => t.setIfInBounds p v) a.tmps, defers := [] } W)
    (hbody : ∀ (l : Nat) (pre : List α) (x : α) (C T : Blk) (W : World), I pre C T W → Mem x W → (∀ b, own x b → T b) → (∃ rest, Z = pre.map key ++ key x :: rest) → body.wpIn (Fence.wide.inRound l) (n - 1 - 1) P (wentPost I Ix own pre x C T W) (a₁ x) W)
    (hdone : ∀ (D : Nat) (xs : List α) (C T : Blk) (W : World), w.heap.size ≤ D → xs.map key = Z → I xs C T W → T D → W.heap[D]? = some (.deferred (some [])) → Q .normal { a with defers := { target := .collected D, args := #[] } :: a.defers } W)
    (hstop : ∀ (D : Nat) (c : Code) (pre : List α) (C T : Blk) (W : World), w.heap.size ≤ D → Ix c pre C T W → T D → W.heap[D]? = some (.deferred (some [])) → c.wpIn Fence.wide n P Q { a with defers := { target := .collected D, args := #[] } :: a.defers } W) :
    (Code.rangeFunc g ps assign body).wpIn Fence.wide n P Q a w := by
  refine wpIn_rangeFunc fun fn _ => ?_
  obtain ⟨rec, hrec⟩ : ∃ rec : LoopState → Option Code → Loop, rec = fun st pe => { state := st, pending := pe, fn, tmps := a.tmps, params := ps, assign, body, defers := w.heap.size } := ⟨_, rfl⟩
  obtain ⟨D, hD⟩ : ∃ D, w.heap.size = D := ⟨_, rfl⟩
  obtain ⟨W1, hW1⟩ : ∃ W1, (w.alloc (.deferred (some []))).alloc (.loop (rec .ready none)) = W1 := ⟨_, rfl⟩
  have sz : W1.heap.size = D + 2 := by rw [← hW1]; simp; omega
  have hL1 : W1.heap[D + 1]? = some (.loop (rec .ready none)) := by
    rw [← hW1]; have := World.alloc_heap_new (w.alloc (.deferred (some []))) (.loop (rec .ready none)); rw [World.size_alloc, hD] at this; exact this
  have hK1 : W1.heap[D]? = some (.deferred (some [])) := by
    rw [← hW1, ← hD]; exact (Below.heap_alloc _ _ _ (by simp)).trans (World.alloc_heap_new w _)
  have hbw : Below w.heap.size w W1 := by
    rw [← hW1]; exact ((Below.refl _ w).alloc (Nat.le_refl _) _).alloc (by simp) _
  have hI1 : I [] C T W1 := hI.keep h0 (turned_below hbw) fun b hb => .inl hb
  have hC1 : ∀ b, C b → b < D := fun b hb => by have := (hI.lt h0 b hb).1; omega
  refine ⟨D + 1, [{ target := .collected D, args := #[] }], W1, { target := .fn (.func gf) lb, args := #[.func (.yield (D + 1)) #[] #[]] }, W1, gf, #[.func (.yield (D + 1)) #[] #[]] ++ lb, W1, ?_, ?_, ?_, ?_, fun _ => by omega, ?_⟩
  · rw [← hW1, hrec, ← hD]; exact run_enterLoop_outer _ _ _ _ _
  · simp only [resolve, hg]
    simp [go_sem]
  · intro _ _; trivial
  · simp [invoke, go_sem, eg]
  refine (callsIn_wide.2 (hseq (D + 1) (Ring I (D + 1) D (rec .ready none)) (fun pre C T W => ∃ c, Ring (Ix c) (D + 1) D (rec .done (some c)) pre C T W) (fun b => C b ∨ b = D + 1 ∨ b = D) T W1 (hb0.trans (hbw.mono hb0.size)) (hI.ring' _ _ _) ?_ ?_ ?_ ?_)).mono ?_
  · exact { lt := fun ⟨c, h⟩ => ((hIx c).ring' _ _ _).lt h, keep := fun ⟨c, h⟩ ht hT => ⟨c, ((hIx c).ring' _ _ _).keep h ht hT⟩ }
  · rintro b hb (e | e | e)
    · exact (hneed b hb).1 e
    · have := (hneed b hb).2; omega
    · have := (hneed b hb).2; omega
  · rintro pre x C T W ⟨C1, T1, hi, hC, hTT, q1, q2, tl, tD, hl, hk⟩ hmem hown hrest m
    have hlt := (Array.getElem?_eq_some_iff.1 hl).1
    have hlk := (Array.getElem?_eq_some_iff.1 hk).1
    have hy := run_yield (P := P) (args := encs x) hl (by rw [hrec]; exact hps x)
    rw [hrec] at hy
    refine ⟨fn, _, assign, body, hy, roundIn_n (n := n - 1 - 1) <| roundIn_of_wpIn trivial (hassign _ x W _ ⟨_, run_beginRound hl (by rw [hrec]), ?_⟩)⟩
    clear hy
    obtain ⟨W2, hW2⟩ : ∃ W2, W.putObj (D + 1) (.loop { rec .ready none with state := .busy }) = W2 := ⟨_, rfl⟩
    rw [hW2]
    have hl2 : W2.heap[D + 1]? = some (.loop { rec .ready none with state := .busy }) := by rw [← hW2]; exact World.putObj_heap_same hlt
    have ht2 : Turned (fun b => b = D + 1) W W2 := by rw [← hW2]; exact turned_put W _ rfl
    have hk2 : W2.heap[D]? = some (.deferred (some [])) := (ht2.same D hlk (by show ¬ D = D + 1; omega)).trans hk
    have hi2 : I pre C1 T1 W2 := hI.keep hi (ht2.mono fun b _ e => by subst e; exact q1) fun b e => .inl e
    have hm2 : Mem x W2 := by rw [← hW2]; exact hMem x W _ _ _ hmem hl
    have fin : ∀ (K : List α → Blk → Blk → World → Prop) (jump : Option Code) (W3 : World), Client K → Went K own pre x C1 T1 W2 W3 →
        (Instr.endRound (D + 1) jump).run P W3 = .ok (.bool jump.isNone) (W3.putObj (D + 1) (.loop (rec (if jump.isNone then .ready else .done) jump))) ∧
        Went (Ring K (D + 1) D (rec (if jump.isNone then .ready else .done) jump)) own pre x C T W (W3.putObj (D + 1) (.loop (rec (if jump.isNone then .ready else .done) jump))) := by
      rintro K jump W3 hK ⟨C', T', hi3, hT3, hC3, ht3⟩
      have nl : ¬ (C1 (D + 1) ∨ own x (D + 1)) := fun e => e.elim (fun e => (hI.lt hi _ e).2 q1) fun e => tl (hown _ e)
      have nD : ¬ (C1 D ∨ own x D) := fun e => e.elim (fun e => (hI.lt hi _ e).2 q2) fun e => tD (hown _ e)
      have hl3 : W3.heap[D + 1]? = some (.loop { rec .ready none with state := .busy }) := (ht3.same _ (Array.getElem?_eq_some_iff.1 hl2).1 nl).trans hl2
      have hk3 : W3.heap[D]? = some (.deferred (some [])) := (ht3.same _ (Array.getElem?_eq_some_iff.1 hk2).1 nD).trans hk2
      have hr := run_endRound (P := P) jump hl3
      rw [hrec] at hr
      refine ⟨by rw [hrec]; exact hr, fun b => C' b ∨ b = D + 1 ∨ b = D, fun b => T' b ∧ b ≠ D + 1 ∧ b ≠ D, ⟨C', T', ?_, fun b => Iff.rfl, fun b e => e.1, hT3 _ q1 (Array.getElem?_eq_some_iff.1 hl2).1 (fun e => nl (.inr e)), hT3 _ q2 (Array.getElem?_eq_some_iff.1 hk2).1 (fun e => nD (.inr e)), fun e => e.2.1 rfl, fun e => e.2.2 rfl, World.putObj_heap_same (Array.getElem?_eq_some_iff.1 hl3).1, (World.putObj_heap_other (by omega)).trans hk3⟩, ?_, ?_, ?_⟩
      · exact hK.keep hi3 (turned_put W3 _ (hT3 _ q1 (Array.getElem?_eq_some_iff.1 hl2).1 fun e => nl (.inr e))) fun b e => .inl e
      · exact fun b hb hlt hn => ⟨hT3 b (hTT b hb) (Nat.lt_of_lt_of_le hlt ht2.size) hn, fun e => tl (e ▸ hb), fun e => tD (e ▸ hb)⟩
      · rintro b (e | e | e)
        · rcases hC3 b e with q | q | q
          · exact .inl ((hC b).2 (.inl q))
          · exact .inr (.inl q)
          · exact .inr (.inr (Nat.le_trans ht2.size q))
        · exact .inl ((hC b).2 (.inr (.inl e)))
        · exact .inl ((hC b).2 (.inr (.inr e)))
      · have a1 : Turned (fun b => C b ∨ own x b) W W2 := ht2.mono fun b _ e => .inl ((hC b).2 (.inr (.inl e)))
        have a2 : Turned (fun b => C b ∨ own x b) W2 W3 := ht3.mono fun b _ e => e.elim (fun e => .inl ((hC b).2 (.inl e))) .inr
        have a3 : Turned (fun b => C b ∨ own x b) W3 (W3.putObj (D + 1) (.loop (rec (if jump.isNone then .ready else .done) jump))) := turned_put W3 _ (.inl ((hC _).2 (.inr (.inl rfl))))
        exact (a1.trans a2 fun b e => .inl e).trans a3 fun b e => .inl e
    refine wpIn_mono (hbody _ pre x C1 T1 W2 hi2 hm2 (fun b e => hTT b (hown b e)) hrest) ?_
    rintro e a3 W3 hp
    cases e with
    | normal => obtain ⟨hr, hw⟩ := fin I none W3 hI hp; exact ⟨_, _, hr, .inl ⟨rfl, hw⟩⟩
    | ret => obtain ⟨hr, C', T', hw, q⟩ := fin _ (some .ret) W3 (hIx _) hp; exact ⟨_, _, hr, .inr ⟨rfl, C', T', ⟨_, hw⟩, q⟩⟩
    | exit id => obtain ⟨hr, C', T', hw, q⟩ := fin _ (some (.exit id)) W3 (hIx _) hp; exact ⟨_, _, hr, .inr ⟨rfl, C', T', ⟨_, hw⟩, q⟩⟩
    | goto t => obtain ⟨hr, C', T', hw, q⟩ := fin _ (some (.goto t)) W3 (hIx _) hp; exact ⟨_, _, hr, .inr ⟨rfl, C', T', ⟨_, hw⟩, q⟩⟩
    | panic ch => exact hp.elim
    | outgrown => exact hp.elim
  · refine ⟨C, fun b => T b ∨ w.heap.size ≤ b, hI.keep h0 (turned_below hbw) (fun b e => e), fun b => Iff.rfl, fun b e => .inl e, .inr (by omega), .inr (by omega), fun e => by have := hT _ e; omega, fun e => by have := hT _ e; omega, hL1, hK1⟩
  · rintro e W2 ⟨⟨v, rfl⟩, (⟨xs, C', T', hZ, C1, T1, hi, hC, hTT, q1, q2, tl, tD, hl, hk⟩ | ⟨pre, C', T', c, C1, T1, hi, hC, hTT, q1, q2, tl, tD, hl, hk⟩)⟩
    · refine ⟨none, _, by have := run_endLoop (P := P) hl (by rw [hrec]; simp); rw [hrec] at this; exact this, hdone D xs C1 T1 _ (by omega) hZ (hI.keep hi (turned_put W2 _ q1) fun b e => .inl e) q2 ((World.putObj_heap_other (by omega)).trans hk)⟩
    · refine ⟨some c, _, by have := run_endLoop (P := P) hl (by rw [hrec]; simp); rw [hrec] at this; exact this, hstop D c pre C1 T1 _ (by omega) ((hIx c).keep hi (turned_put W2 _ q1) fun b e => .inl e) q2 ((World.putObj_heap_other (by omega)).trans hk)⟩
end
end Go.Proofs.Ytoedbbpjddjbnaa
/- How a picture is turned into the next one: a contract, and what comes of it. -/
namespace Go.Proofs.Ytoedbbpjddjbnaa
open Go.RowKit

/-- The digits of m, of k places, with base T + 1. -/
def dig (T : Nat) : Nat → Nat → List Int
  | 0, _ => []
  | k + 1, m => dig T k (m / (T + 1)) ++ [((m % (T + 1) : Nat) : Int)]
theorem dig_len (T : Nat) : ∀ k m, (dig T k m).length = k
  | 0, _ => rfl
  | k + 1, m => by simp [dig, dig_len T k]
theorem range_mul {α : Type} (b : Nat) (f : Nat → α) : ∀ a, (List.range (a * b)).map f = (List.range a).flatMap fun i => (List.range b).map fun j => f (i * b + j)
  | 0 => by simp
  | a + 1 => by
    rw [Nat.add_mul, Nat.one_mul, List.range_add, List.map_append, range_mul b f a, List.range_succ, List.flatMap_append]
    simp
theorem picsTo_dig (T : Nat) : ∀ k, picsTo T k = (List.range ((T + 1) ^ k)).map (dig T k)
  | 0 => rfl
  | k + 1 => by
    show (picsTo T k).flatMap _ = _
    rw [picsTo_dig T k, Nat.pow_succ, range_mul, List.flatMap_map]
    congr 1
    funext i
    unfold extP
    apply List.map_congr_left
    intro j hj
    have hj := List.mem_range.1 hj
    show _ = dig T k ((i * (T + 1) + j) / (T + 1)) ++ [(((i * (T + 1) + j) % (T + 1) : Nat) : Int)]
    rw [show (i * (T + 1) + j) / (T + 1) = i by rw [Nat.mul_comm, Nat.mul_add_div (by omega), Nat.div_eq_of_lt hj, Nat.add_zero], show (i * (T + 1) + j) % (T + 1) = j by rw [Nat.mul_comm, Nat.mul_add_mod, Nat.mod_eq_of_lt hj]]
/-- What advance makes of a list. -/
def AdvR (T : Int) (xs ys : List Int) (b : Bool) : Prop :=
  (b = true ∧ ∃ A x R, xs = A ++ [x] ++ R ∧ x < T ∧ (∀ y ∈ R, ¬ y < T) ∧ ys = A ++ [x + 1] ++ List.replicate R.length 0) ∨ (b = false ∧ (∀ y ∈ xs, ¬ y < T) ∧ ys = List.replicate xs.length 0)
theorem snoc_inj {A B : List Int} {x y : Int} (h : A ++ [x] = B ++ [y]) : A = B ∧ x = y := by
  have := List.append_inj' h rfl
  exact ⟨this.1, by simpa using this.2⟩
theorem dig_next (T : Nat) : ∀ (k m : Nat) (ys : List Int) (b : Bool), m < (T + 1) ^ k → AdvR T (dig T k m) ys b → (b = true → m + 1 < (T + 1) ^ k ∧ ys = dig T k (m + 1)) ∧ (b = false → m + 1 = (T + 1) ^ k)
  | 0, m, ys, b, hm, h => by
    rcases h with ⟨rfl, A, x, R, e, _⟩ | ⟨rfl, _, _⟩
    · simp [dig] at e
    · exact ⟨fun e => (by cases e), fun _ => by simp at hm ⊢; omega⟩
  | k + 1, m, ys, b, hm, h => by
    have hq : m / (T + 1) < (T + 1) ^ k := by rw [Nat.div_lt_iff_lt_mul (by omega)]; rw [Nat.pow_succ] at hm; exact hm
    have hr : m % (T + 1) < T + 1 := Nat.mod_lt _ (by omega)
    have hd := Nat.div_add_mod m (T + 1)
    by_cases hl : m % (T + 1) < T
    · have hdiv : (m + 1) / (T + 1) = m / (T + 1) := by
        conv => lhs; rw [← hd, Nat.add_assoc, Nat.mul_add_div (by omega), Nat.div_eq_of_lt (show m % (T + 1) + 1 < T + 1 by omega), Nat.add_zero]
      have hmod : (m + 1) % (T + 1) = m % (T + 1) + 1 := by
        conv => lhs; rw [← hd, Nat.add_assoc, Nat.mul_add_mod, Nat.mod_eq_of_lt (show m % (T + 1) + 1 < T + 1 by omega)]
      rcases h with ⟨rfl, A, x, R, e, hx, hR, rfl⟩ | ⟨rfl, h1, _⟩
      · have hR0 : R = [] := by
          rcases List.eq_nil_or_concat R with q | ⟨R', y, q⟩
          · exact q
          · rw [List.concat_eq_append] at q
            subst q
            have e2 : dig T k (m / (T + 1)) ++ [((m % (T + 1) : Nat) : Int)] = (A ++ [x] ++ R') ++ [y] := by rw [← List.append_assoc] at e; exact e
            have := (snoc_inj e2).2
            exact absurd (show y < (T : Int) by omega) (hR y (by simp))
        subst hR0
        have e2 : dig T k (m / (T + 1)) ++ [((m % (T + 1) : Nat) : Int)] = A ++ [x] := by rw [List.append_nil] at e; exact e
        obtain ⟨rfl, rfl⟩ := snoc_inj e2
        refine ⟨fun _ => ⟨?_, ?_⟩, fun e => by cases e⟩
        · rw [Nat.pow_succ]
          have : (m + 1) / (T + 1) < (T + 1) ^ k := by rw [hdiv]; exact hq
          rwa [Nat.div_lt_iff_lt_mul (by omega)] at this
        · show _ = dig T k ((m + 1) / (T + 1)) ++ [(((m + 1) % (T + 1) : Nat) : Int)]
          rw [hdiv, hmod]
          simp
      · exact absurd (show ((m % (T + 1) : Nat) : Int) < (T : Int) by omega) (h1 _ (by simp [dig]))
    · have hmT : m % (T + 1) = T := by omega
      have hdiv : (m + 1) / (T + 1) = m / (T + 1) + 1 := by
        conv => lhs; rw [← hd, hmT, Nat.add_assoc, Nat.mul_add_div (by omega), Nat.div_self (by omega)]
      have hmod : (m + 1) % (T + 1) = 0 := by
        conv => lhs; rw [← hd, hmT, Nat.add_assoc, Nat.mul_add_mod, Nat.mod_self]
      rcases h with ⟨rfl, A, x, R, e, hx, hR, rfl⟩ | ⟨rfl, h1, _⟩
      · rcases List.eq_nil_or_concat R with q | ⟨R', y, q⟩
        · subst q
          have e2 : dig T k (m / (T + 1)) ++ [((m % (T + 1) : Nat) : Int)] = A ++ [x] := by rw [List.append_nil] at e; exact e
          have := (snoc_inj e2).2
          omega
        · rw [List.concat_eq_append] at q
          subst q
          have e2 : dig T k (m / (T + 1)) ++ [((m % (T + 1) : Nat) : Int)] = (A ++ [x] ++ R') ++ [y] := by rw [← List.append_assoc] at e; exact e
          have e3 := (snoc_inj e2).1
          obtain ⟨i1, _⟩ := dig_next T k (m / (T + 1)) (A ++ [x + 1] ++ List.replicate R'.length 0) true hq (.inl ⟨rfl, A, x, R', e3, hx, fun y hy => hR y (by simp [hy]), rfl⟩)
          obtain ⟨i2, i3⟩ := i1 rfl
          refine ⟨fun _ => ⟨?_, ?_⟩, fun e => by cases e⟩
          · rw [Nat.pow_succ]
            have : (m + 1) / (T + 1) < (T + 1) ^ k := by rw [hdiv]; exact i2
            rwa [Nat.div_lt_iff_lt_mul (by omega)] at this
          · show _ = dig T k ((m + 1) / (T + 1)) ++ [(((m + 1) % (T + 1) : Nat) : Int)]
            rw [hdiv, hmod, ← i3, List.length_append, List.length_singleton, List.replicate_succ']
            simp
      · obtain ⟨_, i1⟩ := dig_next T k (m / (T + 1)) (List.replicate (dig T k (m / (T + 1))).length 0) false hq (.inr ⟨rfl, fun y hy => h1 y (by simp [dig, hy]), rfl⟩)
        have i2 := i1 rfl
        refine ⟨fun e => (by cases e), fun _ => ?_⟩
        rw [Nat.pow_succ, ← i2, Nat.add_mul, Nat.one_mul]
        have : m = (T + 1) * (m / (T + 1)) + T := by have h := hd; rw [hmT] at h; exact h.symm
        rw [Nat.mul_comm] at this
        omega
theorem dig_zero (T : Nat) : ∀ k, dig T k 0 = List.replicate k 0
  | 0 => rfl
  | k + 1 => by simp [dig, dig_zero T k, List.replicate_succ']
theorem set_mid {A R : List Int} {x y : Int} {q : Nat} (h : A.length = q) : (A ++ [x] ++ R).set q y = A ++ [y] ++ R := by
  subst h; simp
theorem split_at {xs : List Int} {q : Nat} (h : q < xs.length) : xs.take (q + 1) = xs.take q ++ [gt xs q] := by
  rw [List.take_add_one, List.getElem?_eq_getElem h]
  simp [gt, h]
def AdvPost (g n : Nat) (T : Int) (xs : List Int) (w : World) (e : Ending) (w' : World) : Prop := ∃ ys b, e = .returned (.bool b) ∧ OwnI w' 0 (.slice (some ⟨g, 0, none⟩) n n) ys ∧ AdvR T xs ys b ∧ Turned (fun b => b = g) w w'
set_option maxRecDepth 100000 in
set_option maxHeartbeats 1000000 in
theorem advance_any (g : Nat) (xs : List Int) (n : Nat) (T : Int) (w : World) (hn : xs.length = n) (hn8 : n ≤ 8) (hx : ∀ x ∈ xs, 0 ≤ x ∧ x < 1000) (ho : OwnI w 0 (.slice (some ⟨g, 0, none⟩) n n) xs) :
    Calls Try.prog 101 #[.slice (some ⟨g, 0, none⟩) n n, .int .i64 T] w (AdvPost g n T xs w) := by
  have HO := Lib.hid ho; clear ho
  have HN := Lib.hid hn; clear hn
  have HX := Lib.hid hx; clear hx
  go_enter Try.func101, Try.ntmps101
  go_wp2
  go_loopw [5] (fun i wr => ∃ m : Nat, m ≤ n ∧ i = .int .i64 ((m : Int) - 1) ∧ OwnI wr 0 (.slice (some ⟨g, 0, none⟩) n n) (xs.take m ++ List.replicate (n - m) 0) ∧ (∀ y ∈ xs.drop m, ¬ y < T) ∧ Turned (fun b => b = g) w wr) (fun i _ => (intOf i + 1).toNat)
  case atStart => exact ⟨n, Nat.le_refl _, rfl, by rw [Nat.sub_self, List.replicate_zero, List.append_nil, List.take_of_length_le (by rw [HN.out]; exact Nat.le_refl _)]; exact HO.out, by rw [List.drop_eq_nil_of_le (by rw [HN.out]; exact Nat.le_refl _)]; intro y hy; simp at hy, Turned.refl _ _⟩
  case round =>
    obtain ⟨m, hm, rfl, ho, hd, ht⟩ := hrel
    have HO1 := Lib.hid ho
    have HD := Lib.hid hd
    have HT := Lib.hid ht
    clear ho hd ht
    rcases m with _ | q
    · have e0 : ((0 : Nat) : Int) - 1 = -1 := rfl
      simp only [e0]
      go_wp2
      go_ret
      refine ⟨_, false, rfl, HO1.out, .inr ⟨rfl, by simpa using HD.out, ?_⟩, HT.out⟩
      rw [List.take_zero, List.nil_append, Nat.sub_zero, HN.out]
    · have e0 : ((q + 1 : Nat) : Int) - 1 = (q : Int) := by omega
      simp only [e0]
      have hqn : q < xs.length := by rw [HN.out]; omega
      obtain ⟨x, hxq⟩ : ∃ x, gt xs q = x := ⟨_, rfl⟩
      have HQX : Hid (xs[q]? = some x) := by show _ = _; rw [← hxq]; simp [gt, hqn]
      have hx1 : 0 ≤ x ∧ x < 1000 := by
        have e : xs[q]? = some xs[q] := List.getElem?_eq_getElem hqn
        have := HX.out xs[q] (List.getElem_mem _)
        rw [← hxq, gt_some' e]; exact this
      have HTK : Hid (xs.take (q + 1) = xs.take q ++ [x]) := by show _ = _; rw [← hxq]; exact split_at hqn
      rw [HTK.out] at HO1
      have hql : (xs.take q).length = q := by rw [List.length_take]; omega
      have HQL := Lib.hid hql
      have hlen : (xs.take q ++ [x] ++ List.replicate (n - (q + 1)) 0).length = n := by simp only [List.length_append, hql, List.length_singleton, List.length_replicate]; omega
      obtain ⟨c1, f1⟩ := HO1.out.cell (j := q) (by rw [hlen]; omega)
      have hgx : (xs.take q ++ [x] ++ List.replicate (n - (q + 1)) 0)[q]?.getD 0 = x := by
        rw [List.getElem?_append_left (by simp [hql]), List.getElem?_append_right (by omega), hql]; simp
      rw [hgx] at c1
      have HRL : Hid (n - (q + 1) = (xs.drop (q + 1)).length) := by show _ = _; rw [List.length_drop, HN.out]
      have HSP : Hid (xs = xs.take q ++ [x] ++ xs.drop (q + 1)) := by show _ = _; rw [← HTK.out, List.take_append_drop]
      have HS0 := Lib.hid (HO1.out.stored q 0)
      have HS1 := Lib.hid (HO1.out.stored q (x + 1))
      rw [set_mid hql] at HS0 HS1
      clear hxq hlen hgx hql hqn
      by_cases hlt : x < T
      · have hx2 : x + 1 ≤ 1000 := by omega
        have hx3 : 0 ≤ x := hx1.1
        go_wp2
        go_ret
        refine ⟨_, true, rfl, HS1.out, .inl ⟨rfl, _, x, _, HSP.out, hlt, fun y hy => (by have := HD.out y hy; omega), by rw [HRL.out]⟩, HT.out.trans (turned_set (T := fun b => b = g) _ _ rfl) fun b e => .inl e⟩
      · go_wp2
        go_roundw
        case rel =>
          refine ⟨q, by omega, rfl, ?_, ?_, HT.out.trans (turned_set (T := fun b => b = g) _ _ rfl) fun b e => .inl e⟩
          · have e : n - q = n - (q + 1) + 1 := by omega
            rw [e, List.replicate_succ, show ∀ (A R : List Int), A ++ (0 :: R) = A ++ [0] ++ R from fun A R => by simp]
            exact HS0.out
          · have e : xs.drop q = x :: xs.drop (q + 1) := by
              have hq := List.getElem?_eq_some_iff.1 HQX.out
              rw [List.drop_eq_getElem_cons hq.1, hq.2]
            rw [e]
            intro y hy
            rcases List.mem_cons.1 hy with rfl | hy
            · exact hlt
            · have := HD.out y hy; omega
        case measure => first | (simp [intOf]; done) | (simp [intOf]; omega)
end Go.Proofs.Ytoedbbpjddjbnaa
/- pictures of layer 7: the contract of what it hands back. -/
namespace Go.Proofs.Ytoedbbpjddjbnaa
open Go.RowKit Go.Shelf
attribute [local go_sem] Oper.semAt_some

/-- A picture in memory: its block and numbers. -/
abbrev PicV := Nat × List Int
abbrev encP (x : PicV) : Array Value := #[.slice (some ⟨x.1, 0, none⟩) x.2.length x.2.length]
def MemP (x : PicV) (W : World) : Prop := OwnI W 0 (.slice (some ⟨x.1, 0, none⟩) x.2.length x.2.length) x.2
theorem memP_put (x : PicV) (W : World) (l : Nat) (r r' : Loop) (h : MemP x W) (hl : W.heap[l]? = some (.loop r)) : MemP x (W.putObj l (.loop r')) := by
  refine OwnI.sameBlock h (World.putObj_heap_other fun e => ?_)
  subst e
  obtain ⟨_, ⟨e, _⟩ | ⟨g, cap, cur, e, _, hh, _⟩⟩ := h
  · cases e
  · obtain ⟨rfl, _⟩ : x.1 = g ∧ _ := by simpa using e
    rw [hl] at hh; cases hh
/-- What pictures' closure holds: the field in a box, and the picture's own block. -/
structure PF (B G P T : Nat) (xs : List Int) (W : World) : Prop where
  c0 : W.cell? ⟨B, 0, none⟩ = some (.int .i64 P)
  c1 : W.cell? ⟨B, 1, none⟩ = some (.int .i64 T)
  own : OwnI W 0 (.slice (some ⟨G, 0, none⟩) P P) xs
  len : xs.length = P
  ne : G ≠ B
theorem PF.turned {B G P T : Nat} {xs : List Int} {W W' : World} {C : Blk} (h : PF B G P T xs W) (ht : Turned C W W') (ha : ∀ b, (b = B ∨ b = G) → ¬ C b) : PF B G P T xs W' :=
  ⟨ht.cell h.c0 (ha _ (.inl rfl)), ht.cell h.c1 (ha _ (.inl rfl)), h.own.sameBlock (ht.same _ (OwnI.lt h.own).1 (ha _ (.inr rfl))), h.len, h.ne⟩
theorem wpListIn_make_fullB {F : Fence} {n' : Nat} {P : Program} (w : World) {ops : Array Oper} {rest : List Oper} {o : Oper} {a : Act} {Q : Exit → Act → World → Prop}
    (hg : o.guard = none) (l c : Operand) (t : TypeId) (hop : o.op = Op.makeSlice t l c)
    (base : Nat) (e : TypeId) (i : TypeInfo) (z : Value) (size : Nat) (h1 : P.underlying t = some (.slice e)) (h2 : P.info? e = some i) (h3 : i.zero = some z) (h4 : i.size = size)
    (kl kc : IntKind) (L C : Int) (n : Nat) (hl : a.eval l = .int kl L) (hc : a.eval c = .int kc C) (hL : L = (n : Int)) (hC : C = (n : Int)) (b2 : i.bytes * n ≤ 281474976710656) (b3 : n ≤ maxLen) (b4 : base ≤ w.heap.size)
    (hK : ∀ w', w'.ownsRow base e size (.slice (some ⟨w.heap.size, 0, none⟩) n n) n (madeCells z.cells (n * size)).toList → w.grownBy w' none → wpListIn F n' P ops Q rest (a.put o.dst (.slice (some ⟨w.heap.size, 0, none⟩) n n)) w') :
    wpListIn F n' P ops Q (o :: rest) a w := by
  refine wpListIn_plain hg fun K hK' => ?_
  obtain ⟨w', hrun, r1, r2⟩ := run_make_full (P := P) w base t e i z size h1 h2 h3 h4 kl kc n b2 b3 b4
  subst hL
  subst hC
  unfold Oper.wpIn
  refine ⟨?_, ?_⟩
  · simp [Oper.about, hop]
  · rw [Oper.semAt_plain F _ _ (by rw [hop]; intro c hc'; cases hc')]
    simp [execOp, hop, hl, hc, hrun, Result.andThen]
    exact hK' _ _ (hK w' r1 r2)
theorem take_dig {T P m : Nat} (h : m < (T + 1) ^ P) : (picsTo T P).take (m + 1) = (picsTo T P).take m ++ [dig T P m] := by
  rw [List.take_add_one]
  congr 1
  rw [picsTo_dig, List.getElem?_map, List.getElem?_range h]; rfl
theorem dig_in (T : Nat) : ∀ (k m : Nat), ∀ x ∈ dig T k m, 0 ≤ x ∧ x < (T : Int) + 1
  | 0, _, x, h => by simp [dig] at h
  | k + 1, m, x, h => by
    rcases List.mem_append.1 h with h | h
    · exact dig_in T k _ x h
    · have := Nat.mod_lt m (show 0 < T + 1 by omega)
      obtain rfl := List.mem_singleton.1 h
      omega
set_option maxRecDepth 100000 in
set_option maxHeartbeats 2000000 in
theorem pictures1_seq (P T B : Nat) (hP1 : 1 ≤ P) (hP : P ≤ 8) (hT : T ≤ 3) (w : World) (h0 : w.cell? ⟨B, 0, none⟩ = some (.int .i64 P)) (h1 : w.cell? ⟨B, 1, none⟩ = some (.int .i64 T)) :
    SeqM Try.prog 100 #[.pointer (some ⟨B, 0, none⟩)] encP MemP (fun _ _ => False) Prod.snd (picsTo T P) (fun b => b = B) w := by
  intro l J Jx C Tb W hW hJ hJx hneed hY hj0
  obtain ⟨i0, hi, hz0, hz1, hz2⟩ := info_parts Try.infoInt
  have c0 : W.cell? ⟨B, 0, none⟩ = some (.int .i64 P) := (hW.cell (p := ⟨B, 0, none⟩) (cell_lt h0)).trans h0
  have c1 : W.cell? ⟨B, 1, none⟩ = some (.int .i64 T) := (hW.cell (p := ⟨B, 1, none⟩) (cell_lt h1)).trans h1
  have LB : B < W.heap.size := cell_lt c0
  have HY := Lib.hid hY
  have HJ0 := Lib.hid hj0
  have HNEED := Lib.hid hneed
  have HC0 := Lib.hid c0
  have HC1 := Lib.hid c1
  clear hY hj0 hneed h0 h1 hW
  show Calls _ _ (#[.func (.yield l) #[] #[], .pointer (some ⟨B, 0, none⟩)]) _ _
  refine (callsIn_wide (n := 50)).1 ?_
  refine callsIn_of_wp Try.func100 rfl trivial ?_ rfl
  simp only [Try.ntmps100, List.size_toArray, List.length_cons, List.length_nil, Nat.reduceAdd, Nat.reduceSub, Array.replicate_succ, Array.replicate_zero, List.push_toArray, List.append_toArray, List.nil_append, List.cons_append]
  gi_wp2_with (gi_at_make; with_reducible refine wpListIn_make_fullB _ rfl (.tmp 5) (.tmp 5) 25 rfl W.heap.size 3 i0 (.int .i64 0) 1 Try.underlying25 hi hz0 hz1 .i64 .i64 (P : Int) (P : Int) P rfl rfl rfl rfl (by rw [hz2]; omega) (by unfold maxLen; omega) (Nat.le_refl _) ?_)
  intro w4 hown hgrow
  have hb4 : Below W.heap.size W w4 := (Below.refl _ _).grown hgrow (Nat.le_refl _) (fun k e => by cases e)
  have HO4 : Hid (OwnI w4 0 (.slice (some ⟨W.heap.size, 0, none⟩) P P) (dig T P 0)) := by
    rw [dig_zero]
    have z := zeros_are P
    rw [Nat.mul_one] at z
    refine OwnI.mono (base := W.heap.size) ?_ (Nat.zero_le _)
    show w4.ownsRow _ _ _ _ _ _
    rw [List.length_replicate, ← z]; exact hown
  have HPF : Hid (PF B W.heap.size P T (dig T P 0) w4) := ⟨(hb4.cell (p := ⟨B, 0, none⟩) LB).trans c0, (hb4.cell (p := ⟨B, 1, none⟩) LB).trans c1, HO4.out, dig_len _ _ _, by omega⟩
  have HJ4 : Hid (J [] C (fun b => Tb b ∨ W.heap.size ≤ b) w4) := hJ.keep HJ0.out (turned_below hb4) (fun b e => e)
  have HC4 : Hid (∀ b, (b = B ∨ b = W.heap.size) → ¬ C b) := by
    rintro b (rfl | rfl) hb
    · exact HNEED.out _ rfl hb
    · have := (hJ.lt HJ0.out _ hb).1; omega
  have HTG : Hid (Tb W.heap.size ∨ W.heap.size ≤ W.heap.size) := .inr (Nat.le_refl _)
  obtain ⟨N, hN⟩ : ∃ N, (T + 1) ^ P = N := ⟨_, rfl⟩
  have HN := Lib.hid hN
  have hN0 : 0 < N := by rw [← hN]; exact Nat.pow_pos (by omega)
  clear hown hgrow hb4 HO4 c0 c1 hN LB HJ0 HC0 HC1
  generalize W.heap.size = G at *
  gi_wp2
  gi_loopg [] N (fun c wr => ∃ (m : Nat) (pre : List PicV) (C' T' : Blk), m + c = N ∧ 0 < c ∧ pre.map Prod.snd = (picsTo T P).take m ∧ J pre C' T' wr ∧ PF B G P T (dig T P m) wr ∧ T' G ∧ (∀ b, (b = B ∨ b = G) → ¬ C' b))
  case atStart => exact ⟨0, [], C, _, by omega, hN0, by simp, HJ4.out, HPF.out, HTG.out, HC4.out⟩
  case round =>
    clear HJ4 HPF HTG HC4
    obtain ⟨m, pre, C', T', hmc, hc0, hpre, hj, hpf, htg, hcn⟩ := hrel
    have HMC := Lib.hid hmc
    have HJ1 := Lib.hid hj
    have HPF := Lib.hid hpf
    have HTG := Lib.hid htg
    have HCN := Lib.hid hcn
    have HPRE := Lib.hid hpre
    have hmN : m < (T + 1) ^ P := by rw [HN.out]; omega
    have HMN := Lib.hid hmN
    have HM : Hid (MemP (G, dig T P m) wr) := by show OwnI _ _ _ _; dsimp only; rw [dig_len]; exact hpf.own
    have hy := HY.out pre (G, dig T P m) C' T' wr hj HM.out (fun _ h => h.elim) (by
      refine ⟨(picsTo T P).drop (m + 1), ?_⟩
      rw [hpre]
      have h := (List.take_append_drop (m + 1) (picsTo T P)).symm
      rw [take_dig hmN, List.append_assoc] at h
      exact h)
    obtain ⟨fn, tmps, assign, body, hy1, hR⟩ := hy 49
    dsimp only [encP] at hy1
    rw [dig_len] at hy1
    clear hy hj hpf htg hcn hpre hmc hmN
    gi_wp2
    refine hR.mono ?_
    clear hR hy1
    rintro e W3 (⟨rfl, hw⟩ | ⟨rfl, hw⟩)
    · obtain ⟨C3, T3, hj3, hT3, hC3, ht3⟩ := hw
      have hpf3 : PF B G P T (dig T P m) W3 := HPF.out.turned ht3 (fun b hb e => e.elim (HCN.out b hb) id)
      have HT3 : Hid (T3 G) := hT3 _ HTG.out (OwnI.lt HPF.out.own).1 id
      have HC3 : Hid (∀ b, (b = B ∨ b = G) → ¬ C3 b) := by
        intro b hb e
        rcases hC3 b e with q | q | q
        · exact HCN.out b hb q
        · exact q
        · have l1 := cell_lt HPF.out.c0
          have l2 := (OwnI.lt HPF.out.own).1
          dsimp only at l1
          rcases hb with rfl | rfl <;> omega
      have HJ3 := Lib.hid hj3
      have HPF3 := Lib.hid hpf3
      have c1 := hpf3.c1
      clear hj3 hT3 hC3 ht3 hpf3
      gi_wp2_with (refine ⟨trivial, ?_⟩; gi_at_call 101; refine CallsIn.mono (callsIn_wide.2 (advance_any G (dig T P m) P T W3 (dig_len _ _ _) hP (fun x hx => by have := dig_in T P m x hx; omega) HPF3.out.own)) ?_; rintro e W4 ⟨ys, b, rfl, ho, hadv, ht⟩; have HA := Lib.hid (dig_next T P m ys b HMN.out hadv); have HO := Lib.hid ho; have HT := Lib.hid ht; clear ho hadv ht; cases b)
      · go_end0
        have hm := HA.out.2 trivial
        refine ⟨⟨_, rfl⟩, .inl ⟨pre ++ [(G, dig T P m)], C3, T3, ?_, hJ.keep HJ3.out (HT.out.mono fun b _ e => by subst e; exact HT3.out) (fun b e => .inl e)⟩⟩
        rw [List.map_append, HPRE.out]
        show _ ++ [dig T P m] = _
        rw [← take_dig HMN.out, List.take_of_length_le (by rw [picsTo_len]; omega)]
      · obtain ⟨hm, hys⟩ := HA.out.1 trivial
        have HM1 := Lib.hid hm
        have HYS := Lib.hid hys
        clear hm hys
        gi_roundg (gk - 1)
        case measure => omega
        case rel =>
          have h1 := HM1.out
          rw [HN.out] at h1
          have h2 := HMC.out
          refine ⟨m + 1, pre ++ [(G, dig T P m)], C3, T3, by omega, by omega, ?_, hJ.keep HJ3.out (HT.out.mono fun b _ e => by subst e; exact HT3.out) (fun b e => .inl e), ⟨HT.out.cell HPF3.out.c0 (Ne.symm HPF3.out.ne), HT.out.cell HPF3.out.c1 (Ne.symm HPF3.out.ne), by rw [← HYS.out]; exact HO.out, dig_len _ _ _, HPF3.out.ne⟩, HT3.out, HC3.out⟩
          rw [List.map_append, HPRE.out]
          show _ ++ [dig T P m] = _
          rw [← take_dig HMN.out]
    · have HW := Lib.hid hw; clear hw
      obtain ⟨C3, T3, hj3, _⟩ := HW.out
      have HJ3 := Lib.hid hj3
      clear hj3
      gi_wp2
      refine ⟨trivial, ?_⟩
      gi_wp2
      go_end0
      exact ⟨⟨_, rfl⟩, .inr ⟨_, C3, T3, HJ3.out⟩⟩
end Go.Proofs.Ytoedbbpjddjbnaa
/- The marks that ranges over functions leave behind, and what is owed at the return. -/
namespace Go.Proofs.Ytoedbbpjddjbnaa
open Go.RowKit

def mark (D : Nat) : Deferred := { target := .collected D, args := #[] }
/-- The marks' blocks are there, as they were laid, and beyond a bound. -/
def Marks (B : Nat) (ms : List Nat) (W : World) : Prop := ms.Nodup ∧ ∀ D, D ∈ ms → B ≤ D ∧ W.heap[D]? = some (.deferred (some []))
theorem Marks.kept {B : Nat} {ms : List Nat} {W W' : World} (h : Marks B ms W) (k : ∀ D, D ∈ ms → W'.heap[D]? = W.heap[D]?) : Marks B ms W' := ⟨h.1, fun D hD => ⟨(h.2 D hD).1, (k D hD).trans (h.2 D hD).2⟩⟩
theorem Marks.others {B : Nat} {ms : List Nat} {W W' : World} (h : Marks B ms W) (k : KeepsOthers W W') : Marks B ms W' := ⟨h.1, fun D hD => ⟨(h.2 D hD).1, k.same D _ (h.2 D hD).2 rfl⟩⟩
theorem Marks.lt {B : Nat} {ms : List Nat} {W : World} (h : Marks B ms W) {D : Nat} (hD : D ∈ ms) : D < W.heap.size := (Array.getElem?_eq_some_iff.1 (h.2 D hD).2).1
/-- At the return each mark's block is shut. -/
theorem leaves_marks {F : Fence} {n : Nat} {P : Program} {fn : Func} {tmps : Array Value} {R : Ending → World → Prop} {B : Nat} (p : World → Prop)
    (hp : ∀ W D, B ≤ D → W.heap[D]? = some (.deferred (some [])) → p W → p (W.putObj D (.deferred none))) (hR : ∀ W, p W → LeavesIn F n P fn tmps R [] .returning W) :
    ∀ (ms : List Nat) (W : World), Marks B ms W → p W → LeavesInM F n P fn tmps R (ms.map mark) .returning W := by
  intro ms
  induction ms with
  | nil => intro W _ h; exact hR W h
  | cons D ms ih =>
    intro W hM h
    have hD := hM.2 D (by simp)
    refine ⟨by simp, .inl ⟨D, W.putObj D (.deferred none), rfl, run_takeDeferred hD.2, ih _ ?_ (hp W D hD.1 hD.2 h)⟩⟩
    have hn := List.nodup_cons.1 hM.1
    exact ⟨hn.2, fun E hE => ⟨(hM.2 E (by simp [hE])).1, (World.putObj_heap_other (fun e => hn.1 (by rw [← e]; exact hE))).trans (hM.2 E (by simp [hE])).2⟩⟩
end Go.Proofs.Ytoedbbpjddjbnaa
/- fitting of layer 7: the contract of what it hands back. -/
namespace Go.Proofs.Ytoedbbpjddjbnaa
open Go.RowKit Go.Shelf
attribute [local go_sem] Oper.semAt_some

/-- What fitting's walk keeps between two pictures. -/
structure FIn (w0 : World) (Q Y l : Nat) (ca : Option Addr) (n cap : Nat) (K : List PicV → Blk → Blk → World → Prop) (pre : List PicV) (C T : Blk) (W : World) : Prop where
  cl : ∃ T2, K pre C T2 W ∧ (∀ b, T b → T2 b) ∧ T2 Y
  nc : ∀ b, b < w0.heap.size ∨ b = Q → ¬ C b
  nt : ∀ b, b < w0.heap.size ∨ b = Q ∨ b = Y → ¬ T b
  bw : Below w0.heap.size w0 W
  cQ : W.cell? ⟨Q, 0, none⟩ = some (.slice ca n cap)
  cY : W.cell? ⟨Y, 0, none⟩ = some (.func (.yield l) #[] #[])
theorem FIn.client {w0 : World} {Q Y l : Nat} {ca : Option Addr} {n cap : Nat} {K : List PicV → Blk → Blk → World → Prop} {β : Type} {q : List β → List PicV → Prop} (hK : Client K) : Client fun (s : List β) C T W => ∃ pre, q s pre ∧ FIn w0 Q Y l ca n cap K pre C T W where
  lt := by
    rintro s C T W ⟨pre, _, h⟩ b hb
    obtain ⟨T2, hk, h1, _⟩ := h.cl
    exact ⟨(hK.lt hk b hb).1, fun e => (hK.lt hk b hb).2 (h1 b e)⟩
  keep := by
    rintro s C T T' W W' ⟨pre, hq, h⟩ ht hT
    obtain ⟨T2, hk, h1, h2⟩ := h.cl
    have lB := cell_lt h.cQ
    have lY := cell_lt h.cY
    have hnt : ∀ b, b < w0.heap.size ∨ b = Q ∨ b = Y → ¬ T' b := by
      intro b hb e
      rcases hT b e with q | q
      · exact h.nt b hb q
      · have := h.bw.size
        rcases hb with hb | rfl | rfl
        · omega
        · dsimp only at lB; omega
        · dsimp only at lY; omega
    exact ⟨pre, hq, ⟨fun b => T2 b ∨ W.heap.size ≤ b, hK.keep hk (ht.mono fun b _ e => h1 b e) (fun b e => e), fun b e => (hT b e).elim (fun e => .inl (h1 b e)) .inr, .inl h2⟩, h.nc, hnt, h.bw.trans (ht.below h.bw.size fun b hb => h.nt b (.inl hb)), ht.cell h.cQ (h.nt _ (by simp)), ht.cell h.cY (h.nt _ (by simp))⟩
theorem fin_next {w0 V2 W5 W6 : World} {Q Y l n cap : Nat} {ca : Option Addr} {J K : List PicV → Blk → Blk → World → Prop} {pre' : List PicV} {x : PicV} {C3 T3 T2 : Blk} (hJ : Client J) (hI : FIn w0 Q Y l ca n cap J pre' C3 T3 V2)
    (hk : J pre' C3 T2 V2) (h1 : ∀ b, T3 b → T2 b) (h2 : T2 Y) (hb5 : Below V2.heap.size V2 W5) (hw : Went K (fun _ _ => False) pre' x C3 (fun b => T2 b ∨ V2.heap.size ≤ b) W5 W6) :
    ∃ C', FIn w0 Q Y l ca n cap K (pre' ++ [x]) C' (fun b => T3 b ∧ b < V2.heap.size) W6 ∧ (∀ b, C' b → C3 b ∨ V2.heap.size ≤ b) ∧ Turned C3 V2 W6 := by
  obtain ⟨C', T', hj6, hT', hC', ht'⟩ := hw
  have s5 := hb5.size
  have lB := cell_lt hI.cQ
  have lY := cell_lt hI.cY
  dsimp only at lB lY
  have lw := hI.bw.size
  have nC : ∀ b, T2 b → ¬ C3 b := fun b hb hc => (hJ.lt hk b hc).2 hb
  have no : ∀ b, ¬ C3 b → ¬ (C3 b ∨ False) := fun b hn e => e.elim hn id
  have t5 : Turned C3 V2 W5 := turned_below hb5
  have hc5 : ∀ {a : Addr} {v : Value}, a.block < V2.heap.size → V2.cell? a = some v → ¬ C3 a.block → W6.cell? a = some v := fun hl hc hn => ht'.cell ((hb5.cell hl).trans hc) (no _ hn)
  refine ⟨C', ⟨⟨T', hj6, fun b hb => hT' b (.inl (h1 b hb.1)) (by omega) (fun e => e), hT' Y (.inl h2) (by omega) (fun e => e)⟩, ?_, fun b hb e => hI.nt b hb e.1, ?_, hc5 lB hI.cQ (hI.nc Q (.inr rfl)), hc5 lY hI.cY (nC Y h2)⟩, ?_, ?_⟩
  · intro b hb e
    rcases hC' b e with q | q | q
    · exact hI.nc b hb q
    · exact q
    · rcases hb with hb | hb <;> omega
  · exact hI.bw.trans ((hb5.mono lw).trans (ht'.below (by omega) fun b hb => no b (hI.nc b (.inl hb))))
  · intro b hb
    rcases hC' b hb with q | q | q
    · exact .inl q
    · exact q.elim
    · exact .inr (by omega)
  · exact t5.trans ht' fun b e => e.elim .inl fun e => e.elim
theorem picturesmk_any (p t : Int) (w : World) : Calls Try.prog 82 #[.agg #[.int .i64 p, .int .i64 t]] w fun e w' => e = .returned (.func (.func 100) #[] #[.pointer (some ⟨w.heap.size, 0, none⟩)]) ∧ w' = w.alloc (.cells #[.int .i64 p, .int .i64 t] 23) := by
  go_enter Try.func82, Try.ntmps82
  go_wp2
  go_ret
  exact ⟨rfl, rfl⟩
theorem leavesP_marks {F : Fence} {n : Nat} {P : Program} {fn : Func} {tmps : Array Value} {R : Ending → World → Prop} (p : World → Prop) (ms0 : List Nat)
    (hp : ∀ W D, D ∈ ms0 → p W → p (W.putObj D (.deferred none))) (hR : ∀ W, p W → LeavesIn F n P fn tmps R [] .returning W) :
    ∀ (ms : List Nat) (W : World), (∀ D, D ∈ ms → D ∈ ms0) → ms.Nodup → (∀ D, D ∈ ms → W.heap[D]? = some (.deferred (some []))) → p W → LeavesInM F n P fn tmps R (ms.map mark) .returning W := by
  intro ms
  induction ms with
  | nil => intro W _ _ _ h; exact hR W h
  | cons D ms ih =>
    intro W hs hn hd h
    have hn' := List.nodup_cons.1 hn
    refine ⟨by simp, .inl ⟨D, W.putObj D (.deferred none), rfl, run_takeDeferred (hd D (by simp)), ih _ (fun E hE => hs E (by simp [hE])) hn'.2 (fun E hE => ?_) (hp W D (hs D (by simp)) h)⟩⟩
    exact (World.putObj_heap_other (fun e => hn'.1 (by rw [← e]; exact hE))).trans (hd E (by simp [hE]))
/-- At a return: what the caller is told. -/
theorem pic_leaves {fn : Func} {tmps : Array Value} {K J Jx : List PicV → Blk → Blk → World → Prop} {Z : List (List Int)} {pre : List PicV} {C T2 : Blk} {ms : List Nat} {V : World} (hf : fn.results = #[]) (hK : Client K) (hk : K pre C T2 V) (hT : ∀ D, D ∈ ms → T2 D) (hn : ms.Nodup) (hd : ∀ D, D ∈ ms → V.heap[D]? = some (.deferred (some [])))
    (hR : ∀ C T W, K pre C T W → (∃ xs C T, xs.map Prod.snd = Z ∧ J xs C T W) ∨ (∃ pre C T, Jx pre C T W)) :
    LeavesInM Fence.wide 50 Try.prog fn tmps (fun e W' => (∃ v, e = .returned v) ∧ ((∃ xs C T, xs.map Prod.snd = Z ∧ J xs C T W') ∨ (∃ pre C T, Jx pre C T W'))) (ms.map mark) .returning V := by
  refine leavesP_marks (fun W => ∃ C T, K pre C T W ∧ ∀ D, D ∈ ms → T D) ms ?_ ?_ ms V (fun _ h => h) hn hd ⟨C, T2, hk, hT⟩
  · rintro W D hD ⟨C', T', h1, h2⟩
    exact ⟨C', T', hK.keep h1 (turned_put W _ (h2 D hD)) (fun b e => .inl e), h2⟩
  · rintro W ⟨C', T', h1, _⟩
    exact ⟨_, results_none hf _ _ _, ⟨_, rfl⟩, hR _ _ _ h1⟩
/-- The pictures that fit. -/
def fitP (T P : Nat) (cs : List Cl) : List (List Int) := (picsTo T P).filter fun x => cs.all (inC x)
theorem dig_ok {T : Nat} (hT : T ≤ 3) {P : Nat} {x : List Int} (h : x ∈ picsTo T P) : x.length = P ∧ okL 0 3 x = true := by
  rw [picsTo_dig] at h
  obtain ⟨m, _, rfl⟩ := List.mem_map.1 h
  refine ⟨dig_len _ _ _, ?_⟩
  unfold okL; rw [List.all_eq_true]
  intro y hy
  have := dig_in T P m y hy
  simp only [rangeB, Bool.and_eq_true, decide_eq_true_eq]; omega
set_option maxRecDepth 100000 in
set_option maxHeartbeats 4000000 in
theorem fitting1_seq (P T F Q : Nat) (hP1 : 1 ≤ P) (hP : P ≤ 8) (hT : T ≤ 3) (ca : Option Addr) (cs : List Cl) (cap : Nat) (hn : cs.length ≤ 1000000) (hv : ∀ c ∈ cs, c.1.length = P ∧ okL (-1) 1 c.1 = true) (w0 w : World) (hcs : Cs w0 ca cs) (hw0 : Below w0.heap.size w0 w)
    (h0 : w.cell? ⟨F, 0, none⟩ = some (.int .i64 P)) (h1 : w.cell? ⟨F, 1, none⟩ = some (.int .i64 T)) (hq : w.cell? ⟨Q, 0, none⟩ = some (.slice ca cs.length cap)) :
    SeqM Try.prog 95 #[.pointer (some ⟨F, 0, none⟩), .pointer (some ⟨Q, 0, none⟩)] encP MemP (fun _ _ => False) Prod.snd (fitP T P cs) (fun b => b < w0.heap.size ∨ b = F ∨ b = Q) w := by
  intro l J Jx C Tb W hW hJ hJx hneed hY hj0
  have HCS := Lib.hid hcs
  have HV := Lib.hid hv
  have HY := Lib.hid hY
  have HJ0 := Lib.hid hj0
  have HNEED := Lib.hid hneed
  have HW0 : Hid (Below w0.heap.size w0 W) := hw0.trans (hW.mono hw0.size)
  have cF0 : W.cell? ⟨F, 0, none⟩ = some (.int .i64 P) := (hW.cell (p := ⟨F, 0, none⟩) (cell_lt h0)).trans h0
  have cF1 : W.cell? ⟨F, 1, none⟩ = some (.int .i64 T) := (hW.cell (p := ⟨F, 1, none⟩) (cell_lt h1)).trans h1
  have cQ : W.cell? ⟨Q, 0, none⟩ = some (.slice ca cs.length cap) := (hW.cell (p := ⟨Q, 0, none⟩) (cell_lt hq)).trans hq
  clear hcs hv hY hj0 hneed h0 h1 hq hw0 hW
  obtain ⟨V, hV⟩ : ∃ V, W.alloc (.cells #[.func (.yield l) #[] #[]] 112) = V := ⟨_, rfl⟩
  have HB0 : Hid (Below W.heap.size W V) := by rw [← hV]; exact (Below.refl _ _).alloc (Nat.le_refl _) _
  have HVS : Hid (V.heap.size = W.heap.size + 1) := by rw [← hV]; exact World.size_alloc _ _
  have HCY : Hid (V.cell? ⟨W.heap.size, 0, none⟩ = some (.func (.yield l) #[] #[])) := by rw [← hV]; exact alloc_cell _ _ _ _ _ rfl
  have LQ : Hid (Q < W.heap.size) := cell_lt cQ
  have vF0 := (HB0.out.cell (p := ⟨F, 0, none⟩) (cell_lt cF0)).trans cF0
  have vF1 := (HB0.out.cell (p := ⟨F, 1, none⟩) (cell_lt cF1)).trans cF1
  have HVQ : Hid (V.cell? ⟨Q, 0, none⟩ = some (.slice ca cs.length cap)) := (HB0.out.cell (p := ⟨Q, 0, none⟩) LQ.out).trans cQ
  clear cF0 cF1 cQ
  obtain ⟨V1, hV1⟩ : ∃ V1, V.alloc (.cells #[.int .i64 P, .int .i64 T] 23) = V1 := ⟨_, rfl⟩
  have HB1 : Hid (Below V.heap.size V V1) := by rw [← hV1]; exact (Below.refl _ _).alloc (Nat.le_refl _) _
  have HV1S : Hid (V1.heap.size = V.heap.size + 1) := by rw [← hV1]; exact World.size_alloc _ _
  have HBW1 : Hid (Below W.heap.size W V1) := HB0.out.trans (HB1.out.mono HB0.out.size)
  have g0 : V1.cell? ⟨V.heap.size, 0, none⟩ = some (.int .i64 P) := by rw [← hV1]; exact alloc_cell _ _ _ _ _ rfl
  have g1 : V1.cell? ⟨V.heap.size, 1, none⟩ = some (.int .i64 T) := by rw [← hV1]; exact alloc_cell _ _ _ _ _ rfl
  have HSEQ := Lib.hid (pictures1_seq P T V.heap.size hP1 hP hT V1 g0 g1)
  have HCL : Hid (∀ b, C b → b < W.heap.size) := fun b hb => (hJ.lt HJ0.out b hb).1
  have HI1 : Hid (∃ pre' : List PicV, pre'.map Prod.snd = (([] : List PicV).map Prod.snd).filter (fun x => cs.all (inC x)) ∧ FIn w0 Q W.heap.size l ca cs.length cap J pre' C (fun _ => False) V1) := by
    refine ⟨[], rfl, ⟨fun b => Tb b ∨ W.heap.size ≤ b, hJ.keep HJ0.out (turned_below HBW1.out) (fun b e => e), fun b e => e.elim, .inr (Nat.le_refl _)⟩, ?_, fun b _ e => e, HW0.out.trans (HBW1.out.mono HW0.out.size), (HB1.out.cell (p := ⟨Q, 0, none⟩) (by show Q < _; have := LQ.out; have := HVS.out; omega)).trans HVQ.out, (HB1.out.cell (p := ⟨W.heap.size, 0, none⟩) (by show W.heap.size < _; have := HVS.out; omega)).trans HCY.out⟩
    rintro b (hb | rfl) hc
    · exact HNEED.out b (.inl hb) hc
    · exact HNEED.out b (.inr (.inr rfl)) hc
  clear g0 g1
  show Calls _ _ (#[.func (.yield l) #[] #[], .pointer (some ⟨F, 0, none⟩), .pointer (some ⟨Q, 0, none⟩)]) _ _
  refine (callsIn_wide (n := 50)).1 ?_
  refine callsIn_of_wp_marks Try.func95 rfl trivial ?_ rfl
  simp only [Try.ntmps95, List.size_toArray, List.length_cons, List.length_nil, Nat.reduceAdd, Nat.reduceSub, Array.replicate_succ, Array.replicate_zero, List.push_toArray, List.append_toArray, List.nil_append, List.cons_append]
  gi_wp2_with (refine ⟨trivial, ?_⟩; gi_at_call 82; refine (callsIn_wide.2 (picturesmk_any _ _ _)).mono ?_; rintro e w1 ⟨rfl, rfl⟩)
  (try rw [hV1])
  refine wpIn_rangeFunc_M (by omega) (gf := 100) (lb := #[.pointer (some ⟨V.heap.size, 0, none⟩)]) rfl (enters_of Try.func100 (by kernel_rfl) rfl)
    HSEQ.out (Below.refl _ _) (fun _ => rfl) memP_put
    (fun s C T W' => ∃ pre' : List PicV, pre'.map Prod.snd = (s.map Prod.snd).filter (fun x => cs.all (inC x)) ∧ FIn w0 Q W.heap.size l ca cs.length cap J pre' C T W')
    (fun c s C T W' => ∃ pre' : List PicV, c = .ret ∧ FIn w0 Q W.heap.size l ca cs.length cap Jx pre' C T W')
    (FIn.client hJ) (fun c => FIn.client hJx (q := fun _ _ => c = .ret)) C (fun _ => False) ?need (fun _ e => e.elim) HI1.out
    (fun x => { tmps := #[.func (.yield l) #[] #[], .pointer (some ⟨F, 0, none⟩), .pointer (some ⟨Q, 0, none⟩), .pointer (some ⟨W.heap.size, 0, none⟩), .slice (some ⟨x.1, 0, none⟩) x.2.length x.2.length, .agg #[.int .i64 P, .int .i64 T], .func (.func 100) #[] #[.pointer (some ⟨V.heap.size, 0, none⟩)], .slice (some ⟨x.1, 0, none⟩) x.2.length x.2.length, undef, undef, undef, undef, undef, undef, undef, undef, undef, undef], defers := [] }) ?assign ?body ?done ?stop
  case need =>
    have h1 := HVS.out
    have h2 := HV1S.out
    rintro b rfl
    exact ⟨fun e => by have := HCL.out _ e; omega, by omega⟩
  case assign =>
    intro l2 x V K hK
    gi_wp2
    exact hK
  case body =>
    rintro l2 pre2 ⟨xb, xs⟩ C3 T3 V2 ⟨pre', hpre', hI'⟩ hmem - ⟨rest, hrest⟩
    dsimp only at hmem hrest
    have hin : xs ∈ picsTo T P := by rw [hrest]; simp
    obtain ⟨hxl, hxo⟩ := dig_ok hT hin
    have XSL := Lib.hid (OwnI.sl hmem)
    have HMM : Hid (MemP (xb, xs) V2) := hmem
    have XI := Lib.hid hI'
    have XP := Lib.hid hpre'
    have XR := Lib.hid hrest
    have hcQ := hI'.cQ
    have hcY := hI'.cY
    have HAL : Hid (∀ B W, Below V2.heap.size V2 W → W.cell? ⟨B, 0, none⟩ = some (.slice (some ⟨xb, 0, none⟩) xs.length xs.length) → Calls Try.prog 61 #[.slice ca cs.length cap, .func (.func 94) #[] #[.pointer (some ⟨B, 0, none⟩)]] W fun e w' => e = .returned (.bool (cs.all (inC xs))) ∧ Below W.heap.size W w') := fun B W hb hc =>
      holdsall_any B (some ⟨xb, 0, none⟩) xs xs.length ca cs cap W hn (fun c hc => ⟨by rw [(HV.out c hc).1]; exact hP, by rw [(HV.out c hc).1, hxl], (HV.out c hc).2⟩) (HCS.out.below (XI.out.bw.trans (hb.mono XI.out.bw.size))) hxo hc (XSL.out.below hb)
    clear hmem hrest hin hxl hxo hI' hpre' vF0 vF1
    dsimp only
    cases hfit : cs.all (inC xs)
    · have HFT := Lib.hid hfit
      rw [hfit] at HAL
      gi_wp2
      gi_region_with (first
        | (refine ⟨trivial, ?_⟩; gi_at_call 65; refine (callsIn_wide.2 (holdsmk_any _ _ _ _)).mono ?_; rintro e w5 ⟨rfl, hb5, hc5⟩; have F5 : Below V2.heap.size V2 w5 := (Below.refl V2.heap.size V2).drew.trans hb5; have hq5 := (F5.cell (p := ⟨Q, 0, none⟩) (cell_lt hcQ)).trans hcQ; have hy5 := (F5.cell (p := ⟨W.heap.size, 0, none⟩) (cell_lt hcY)).trans hcY)
        | (refine ⟨trivial, ?_⟩; gi_at_call 61; refine (callsIn_wide.2 (HAL.out _ _ F5 hc5)).mono ?_; rintro e w6 ⟨rfl, hb6⟩)
        | (refine ⟨fun _ h => (by cases h), ?_⟩))
      all_goals
        have F6 : Below V2.heap.size V2 w6 := F5.trans (hb6.mono F5.size)
        obtain ⟨q1, q2, q3⟩ := (FIn.client hJ (q := fun (s : List PicV) pre' => pre'.map Prod.snd = (s.map Prod.snd).filter (fun x => cs.all (inC x)))).keep (pre := pre2) ⟨pre', XP.out, XI.out⟩ (turned_below F6) (fun b e => .inl e)
        have HF6 := Lib.hid F6
        have Q2 := Lib.hid q2
        have Q3 := Lib.hid q3
        clear q2 q3 F6 hb6 hb5 hc5 F5
        gi_wp2
        refine ⟨C3, T3, ⟨q1, ?_, Q3.out⟩, fun b hb _ _ => hb, fun b hb => .inl hb, turned_below HF6.out⟩
        rw [Q2.out, List.map_append, List.filter_append]
        simp [HFT.out]
    · have HFT := Lib.hid hfit
      rw [hfit] at HAL
      obtain ⟨T2, q1, q2, q3⟩ := XI.out.cl
      have Q1 := Lib.hid q1
      have Q2 := Lib.hid q2
      have Q3 := Lib.hid q3
      have XPR : Hid (∃ rest2, fitP T P cs = pre'.map Prod.snd ++ xs :: rest2) := by
        refine ⟨rest.filter fun x => cs.all (inC x), ?_⟩
        unfold fitP
        rw [XR.out, XP.out, List.filter_append, List.filter_cons, if_pos HFT.out]
      have HYY : Hid (∀ W6, Below V2.heap.size V2 W6 → YieldAt Fence.wide 47 Try.prog l (encP (xb, xs)) W6 fun e W' => ∃ bb : Bool, e = .returned (.bool bb) ∧ ((bb = true ∧ Went J (fun _ _ => False) pre' (xb, xs) C3 (fun b => T2 b ∨ V2.heap.size ≤ b) W6 W') ∨ (bb = false ∧ Went Jx (fun _ _ => False) pre' (xb, xs) C3 (fun b => T2 b ∨ V2.heap.size ≤ b) W6 W'))) := fun W6 hb => by
        obtain ⟨fn, tmps, assign, body, hy1, hR⟩ := HY.out pre' (xb, xs) C3 (fun b => T2 b ∨ V2.heap.size ≤ b) W6 (hJ.keep Q1.out (turned_below hb) (fun b e => e)) (OwnI.below HMM.out hb) (fun _ e => e.elim) XPR.out 47
        exact ⟨fn, tmps, assign, body, hy1, hR.mono fun e W' h => h.elim (fun h => ⟨true, h.1, .inl ⟨rfl, h.2⟩⟩) (fun h => ⟨false, h.1, .inr ⟨rfl, h.2⟩⟩)⟩
      clear q1 q2 q3
      gi_wp2
      gi_region_with (first
        | (refine ⟨trivial, ?_⟩; gi_at_call 65; refine (callsIn_wide.2 (holdsmk_any _ _ _ _)).mono ?_; rintro e w5 ⟨rfl, hb5, hc5⟩; have F5 : Below V2.heap.size V2 w5 := (Below.refl V2.heap.size V2).drew.trans hb5; have hq5 := (F5.cell (p := ⟨Q, 0, none⟩) (cell_lt hcQ)).trans hcQ; have hy5 := (F5.cell (p := ⟨W.heap.size, 0, none⟩) (cell_lt hcY)).trans hcY)
        | (refine ⟨trivial, ?_⟩; gi_at_call 61; refine (callsIn_wide.2 (HAL.out _ _ F5 hc5)).mono ?_; rintro e w6 ⟨rfl, hb6⟩; have F6 : Below V2.heap.size V2 w6 := F5.trans (hb6.mono F5.size); have hy6 := (F6.cell (p := ⟨W.heap.size, 0, none⟩) (cell_lt hcY)).trans hcY; obtain ⟨fn, tmps, assign, body, hy1, hR⟩ := HYY.out w6 F6; dsimp only [encP] at hy1)
        | (refine hR.mono ?_; rintro e w7 ⟨bb, rfl, hw⟩; have HW := Lib.hid hw; clear hw))
      all_goals
        have HF6 := Lib.hid F6
        clear hb6 hb5 hc5 F5 F6 hq5 hy5 hy6 hy1 hR
        cases bb
        · obtain ⟨h, _⟩ | ⟨_, hw⟩ := HW.out
          · cases h
          · obtain ⟨C', r1, r2, r3⟩ := fin_next hJ XI.out Q1.out Q2.out Q3.out HF6.out hw
            have R1 := Lib.hid r1; have R2 := Lib.hid r2; have R3 := Lib.hid r3
            clear r1 r2 r3 hw
            gi_wp2
            exact ⟨C', fun b => T3 b ∧ b < V2.heap.size, ⟨rfl, _, R1.out⟩, fun b hb hl _ => ⟨hb, hl⟩, fun b hb => (R2.out b hb).elim .inl (fun q => .inr (.inr q)), R3.out.mono fun b _ e => .inl e⟩
        · obtain ⟨_, hw⟩ | ⟨h, _⟩ := HW.out
          · obtain ⟨C', r1, r2, r3⟩ := fin_next hJ XI.out Q1.out Q2.out Q3.out HF6.out hw
            have R1 := Lib.hid r1; have R2 := Lib.hid r2; have R3 := Lib.hid r3
            clear r1 r2 r3 hw
            gi_wp2
            refine ⟨C', fun b => T3 b ∧ b < V2.heap.size, ⟨_, ?_, R1.out⟩, fun b hb hl _ => ⟨hb, hl⟩, fun b hb => (R2.out b hb).elim .inl (fun q => .inr (.inr q)), R3.out.mono fun b _ e => .inl e⟩
            rw [List.map_append, XP.out, List.map_append, List.filter_append]
            simp [HFT.out]
          · cases h
  case done =>
    rintro D ys C3 T3 V2 hD hys ⟨pre', hpre', hI'⟩ hTD hK2
    obtain ⟨T2, q1, q2, q3⟩ := hI'.cl
    have X1 := Lib.hid q1
    have XT := Lib.hid (q2 D hTD)
    have XD := Lib.hid hK2
    have XP : Hid (pre'.map Prod.snd = fitP T P cs) := by show _ = _; rw [hpre', hys]; rfl
    clear q1 q2 q3 hI' hK2 hTD hD hys hpre'
    gi_wp2
    refine pic_leaves (ms := [D]) rfl hJ X1.out ?_ (by simp) ?_ (fun C T W h => .inl ⟨_, _, _, XP.out, h⟩)
    · intro E hE; rw [List.mem_singleton.1 hE]; exact XT.out
    · intro E hE; rw [List.mem_singleton.1 hE]; exact XD.out
  case stop =>
    rintro D c pre2 C3 T3 V2 hD ⟨pre', rfl, hI'⟩ hTD hK2
    obtain ⟨T2, q1, q2, q3⟩ := hI'.cl
    have X1 := Lib.hid q1
    have XT := Lib.hid (q2 D hTD)
    have XD := Lib.hid hK2
    clear q1 q2 q3 hI' hK2 hTD hD
    gi_wp2
    refine pic_leaves (ms := [D]) rfl hJx X1.out ?_ (by simp) ?_ (fun C T W h => .inr ⟨_, _, _, h⟩)
    · intro E hE; rw [List.mem_singleton.1 hE]; exact XT.out
    · intro E hE; rw [List.mem_singleton.1 hE]; exact XD.out
end Go.Proofs.Ytoedbbpjddjbnaa
