/- Parts of the proof of TopTwins: plain words, walks and contracts, each under its own heading. -/
import Derived.WalkKit
import Derived.WalkSpells
import Derived.WalkLawsBesides
import Derived.Handy
import Derived.Lib.Hide
import Derived.ProofKit
import Derived.OpenShut
import Derived.Lib.SmallJoins
import Derived.WideKeyArr2
import Derived.Test.YtgbnfhfkehpfaaaGreatProg
import Derived.Lib.SliceRun
import Derived.StillTailTactics
import Derived.Deep.Matrix
import Derived.Deep.RegionHeldLaw
import Derived.Deep.RegionLaw
import Derived.Deep.AppendLies
import Derived.StillTail
import Derived.OrdersIn
import Derived.TacticsIn
import Derived.RangeFuncCalls
import Derived.Deep.RegionHeld3
import Derived.Laws.ResultCell
import Derived.Laws.NewBlocks
import Derived.Test.YtgbnfhfkehpfaaaGreatShelf
import Derived.Deep.QuietTactic
import Derived.BigQuiet
import Derived.Laws.Externs
/- Words and lemmas for the walks that speak of no program: how a slice of ints reads, endings, plain boolean tests of layer 1. -/
namespace Go.Proofs.YtgbnfhfkehpfaaaGreat
open Go.RowKit

theorem ret_bool {a b : Bool} (h : a = b) : Ending.returned (.bool a) = .returned (.bool b) := by rw [h]
theorem ret_i64 {a b : Int} (h : a = b) : Ending.returned (.int .i64 a) = .returned (.int .i64 b) := by rw [h]

def Sl (w : World) (a : Option Addr) (xs : List Int) : Prop :=
  ∀ k, k < xs.length → ∃ b off, a = some ⟨b, off, none⟩ ∧ w.cell? ⟨b, off + k, none⟩ = some (.int .i64 (xs[k]?.getD 0))

theorem Sl.at {w : World} {a : Option Addr} {xs : List Int} (h : Sl w a xs) {k : Nat} (hk : k < xs.length) :
    ∃ b off x, a = some ⟨b, off, none⟩ ∧ w.cell? ⟨b, off + k, none⟩ = some (.int .i64 x) ∧ Hid (xs[k]? = some x) := by
  obtain ⟨b, off, h1, h2⟩ := h k hk
  exact ⟨b, off, xs[k], h1, by simpa [hk] using h2, by show xs[k]? = some xs[k]; simp [hk]⟩

theorem cell_lt {w : World} {a : Addr} {v : Value} (h : w.cell? a = some v) : a.block < w.heap.size := by
  unfold World.cell? at h
  rcases Nat.lt_or_ge a.block w.heap.size with hl | hl
  · exact hl
  · simp [Array.getElem?_eq_none hl] at h

theorem Sl.below {w w' : World} {a : Option Addr} {xs : List Int} (h : Sl w a xs) (hb : Below w.heap.size w w') : Sl w' a xs := by
  intro k hk
  obtain ⟨b, off, h1, h2⟩ := h k hk
  exact ⟨b, off, h1, (hb.cell (p := ⟨b, off + k, none⟩) (cell_lt h2)).trans h2⟩
theorem Sl.alloc {w : World} {a : Option Addr} {xs : List Int} (h : Sl w a xs) (o : Obj) : Sl (w.alloc o) a xs := h.below ((Below.refl _ _).alloc (Nat.le_refl _) _)
theorem Sl.drew {w : World} {a : Option Addr} {xs : List Int} (h : Sl w a xs) : Sl w.drew a xs := h.below ((Below.refl _ _).drew)

def outB (lim n : Int) : Bool := decide (n < -lim) || decide (lim < n)
def allB (lim : Int) (xs : List Int) : Bool := xs.all fun x => !outB lim x

theorem allB_no {lim : Int} {xs : List Int} {k : Nat} {x : Int} (hx : xs[k]? = some x) (ho : outB lim x = true) : allB lim xs = false := by
  unfold allB; rw [List.all_eq_false]
  exact ⟨x, List.mem_of_getElem? hx, by simp [ho]⟩
theorem allB_yes {lim : Int} {xs : List Int} (h : ∀ j, j < xs.length → outB lim (xs[j]?.getD 0) = false) : allB lim xs = true := by
  unfold allB; rw [List.all_eq_true]; intro x hx
  obtain ⟨j, hj, rfl⟩ := List.mem_iff_getElem.1 hx
  have := h j hj
  simp [hj] at this
  simp [this]
theorem allB_get {lim : Int} {xs : List Int} (h : allB lim xs = true) {k : Nat} {x : Int} (hx : xs[k]? = some x) : -lim ≤ x ∧ x ≤ lim := by
  unfold allB at h; rw [List.all_eq_true] at h
  have := h x (List.mem_of_getElem? hx)
  simp [outB] at this; omega

def rangeB (n lo hi : Int) : Bool := decide (lo ≤ n) && decide (n ≤ hi)
end Go.Proofs.YtgbnfhfkehpfaaaGreat
/- How the arguments of the statements of layer 1 are opened: slices of ints, pictures, pairs of ints, ints. Speaks of no function. -/
namespace Go.Proofs.YtgbnfhfkehpfaaaGreat
open Go.ChangeShapes Go.WideShapes Go.ChangeAt Go.RowKit Go.Joins

def I64 (n : Int) : Prop := -9223372036854775808 ≤ n ∧ n ≤ 9223372036854775807
theorem I64_of {n : Int} (h : (Lit.int .i64 n).wf = true) : I64 n := by
  have h1 : IntKind.i64.min = -9223372036854775808 := rfl
  have h2 : IntKind.i64.max = 9223372036854775807 := rfl
  simp only [Lit.wf, Bool.and_eq_true, decide_eq_true_eq] at h
  unfold I64; omega
section
variable {H : Type} {enc : TypeId × Value → H} {P : Program} {w : World} {base : Nat} {held : Bool}
theorem in_int {t : TypeId} {fuel : Nat} {v : Value} {x : DataW H × List MemPlace} {spare : Nat → Bool} (ht : P.underlying t = some (.int .i64)) (h : DataW.trod enc P w base spare held fuel t [v] = some x) : ∃ n, v = .int .i64 n ∧ I64 n := by
  obtain ⟨n, e, _, wf⟩ := DataW.trod_int ht h
  simp only [List.cons.injEq, and_true] at e
  exact ⟨n, e, I64_of wf⟩
end
end Go.Proofs.YtgbnfhfkehpfaaaGreat
/- What new blocks hold; boxes. Speaks of no function. -/
namespace Go.Proofs.YtgbnfhfkehpfaaaGreat
open Go.RowKit

theorem alloc_cell (V : World) (vs : Array Value) (t : TypeId) (k : Nat) (v : Value) (h : vs[k]? = some v) : (V.alloc (.cells vs t)).cell? ⟨V.heap.size, k, none⟩ = some v := by
  have e : (V.alloc (.cells vs t)).heap[V.heap.size]? = some (.cells vs t) := by
    show (V.heap.push _)[V.heap.size]? = _
    simp
  unfold World.cell?
  rw [e]
  exact h
theorem alloc_old (V : World) (o : Obj) (b k : Nat) (h : b < V.heap.size) : (V.alloc o).cell? ⟨b, k, none⟩ = V.cell? ⟨b, k, none⟩ := ((Below.refl V.heap.size V).alloc (Nat.le_refl _) o).cell (p := ⟨b, k, none⟩) h
theorem alloc_lt' {V : World} {o : Obj} {b : Nat} (h : b = V.heap.size) : b < (V.alloc o).heap.size := by rw [World.size_alloc]; omega
def Box (b : Nat) (vs : Array Value) (V : World) : Prop := b < V.heap.size ∧ ∀ k v, vs[k]? = some v → V.cell? ⟨b, k, none⟩ = some v
theorem Box.next {b : Nat} {vs : Array Value} {V V' : World} (h : Box b vs V) (hb : Below V.heap.size V V') : Box b vs V' :=
  ⟨Nat.lt_of_lt_of_le h.1 hb.size, fun k v hv => (hb.cell (p := ⟨b, k, none⟩) h.1).trans (h.2 k v hv)⟩
theorem Box.drew {b : Nat} {vs : Array Value} {V : World} (h : Box b vs V) : Box b vs V.drew := h.next ((Below.refl _ _).drew)
end Go.Proofs.YtgbnfhfkehpfaaaGreat
/- Slices of ints in new memory: words. -/
namespace Go.Proofs.YtgbnfhfkehpfaaaGreat
open Go.RowKit

theorem Tryz.infoInt : (Tryz.prog.info? 3).map (fun i => (i.zero, i.size, i.bytes)) = some (some (.int .i64 0), 1, 8) := by kernel_rfl
def OwnI (w : World) (base : Nat) (v : Value) (xs : List Int) : Prop := w.ownsRow base 3 1 v xs.length (xs.map (Value.int .i64))
theorem map_oneCell (xs : List Int) : ∀ u ∈ xs.map (Value.int .i64), u.oneCell' = true := by
  intro u hu; obtain ⟨x, _, rfl⟩ := List.mem_map.1 hu; rfl
theorem addr_add (b off j : Nat) : (⟨b, off, none⟩ : Addr).add j = ⟨b, off + j, none⟩ := by
  unfold Addr.add; split
  · subst_vars; rfl
  · rfl
theorem Sl.news {w : World} {b off : Nat} {xs : List Int} (h : Sl w (some ⟨b, off, none⟩) xs) : ∀ j u, (xs.map (Value.int .i64))[j]? = some u → w.cell? ((⟨b, off, none⟩ : Addr).add j) = some u := by
  intro j u hu
  have hj : j < xs.length := by have := (List.getElem?_eq_some_iff.1 hu).1; simpa using this
  obtain ⟨b', off', e, h2⟩ := h j hj
  obtain ⟨rfl, rfl⟩ : b = b' ∧ off = off' := by simpa using e
  rw [addr_add, h2]
  simp [hj] at hu ⊢; exact hu
theorem OwnI.shape {w : World} {base : Nat} {v : Value} {xs : List Int} (h : OwnI w base v xs) (h1 : 1 ≤ xs.length) : ∃ g cap, v = .slice (some ⟨g, 0, none⟩) xs.length cap ∧ base ≤ g := by
  obtain ⟨_, ⟨_, h0⟩ | ⟨g, cap, cur, rfl, hg, _⟩⟩ := h
  · omega
  · exact ⟨g, cap, rfl, hg⟩
theorem OwnI.sl {w : World} {base : Nat} {a : Option Addr} {n cap : Nat} {xs : List Int} (h : OwnI w base (.slice a n cap) xs) : Sl w a xs := by
  intro k hk
  obtain ⟨hx, ⟨_, h0⟩ | ⟨g, cap', cur, e, hg, hb, hn, hm, hsz, ht⟩⟩ := h
  · omega
  · obtain ⟨rfl, rfl, rfl⟩ : a = some ⟨g, 0, none⟩ ∧ n = xs.length ∧ cap = cap' := by simpa using e
    refine ⟨g, 0, rfl, ?_⟩
    have : w.ownsRow base 3 1 (.slice (some ⟨g, 0, none⟩) xs.length cap) xs.length (xs.map (Value.int .i64)) := ⟨hx, .inr ⟨g, cap, cur, rfl, hg, hb, hn, hm, hsz, ht⟩⟩
    have h2 := this.cellAt k (by omega)
    rw [Nat.zero_add, h2]; simp [hk]
end Go.Proofs.YtgbnfhfkehpfaaaGreat
/- One int appended; what a function that returns a list and an error leaves. -/
namespace Go.Proofs.YtgbnfhfkehpfaaaGreat
open Go.RowKit

theorem OwnI.nil (w : World) (base : Nat) : OwnI w base (.slice none 0 0) [] := World.ownsRow_nil _ _ _ _
theorem wpList_push {ops : Array Oper} {rest : List Oper} {o : Oper} {a : Act} {Q : Exit → Act → World → Prop} (hgd : o.guard = none) (s x : Operand)
    (ho : o.op = .call { callee := .builtin .append, args := #[s, x], argTypes := #[22, 22] }) (base : Nat) (v : Value) (zs : List Int) (y : Int) (V : World) (B : Nat) (t : TypeId)
    (hs : a.eval s = v) (hx : a.eval x = .slice (some ⟨B, 0, none⟩) 1 1) (hB : B = V.heap.size) (hown : OwnI V base v zs) (hl : zs.length ≤ 100000) (hbase : base ≤ V.heap.size)
    (h : ∀ v' w', OwnI w' base v' (zs ++ [y]) → Below base V w' → wpList Tryz.prog ops Q rest (a.put o.dst v') w') : wpList Tryz.prog ops Q (o :: rest) a (V.alloc (.cells #[.int .i64 y] t)) := by
  obtain ⟨i0, hi, hz0, hz1, hz2⟩ := info_parts Tryz.infoInt
  subst hB
  refine wpList_append_own (V.alloc (.cells #[.int .i64 y] t)) hgd s x 22 ho base 3 i0 (.int .i64 0) 1 8 Tryz.underlying22 hi hz0 hz1 hz2 rfl (by decide) v zs.length (zs.map (Value.int .i64)) hs (hown.alloc _) ⟨V.heap.size, 0, none⟩ 1 1 [.int .i64 y] hx rfl ?_ ?_ (by unfold maxLen; omega) (by omega) (by rw [World.size_alloc]; omega) ?_
  · intro j u hj
    match j, hj with
    | 0, hj =>
      simp at hj; subst hj
      rw [addr_add]
      exact alloc_cell V #[.int .i64 y] t 0 _ rfl
    | j + 1, hj => simp at hj
  · intro u hu; simp at hu; subst hu; rfl
  · intro v' w' h1 h2 h3
    refine h v' w' ?_ ?_
    · simpa [OwnI] using h1
    · exact ((Below.refl base V).alloc hbase _).grown h2 (by rw [World.size_alloc]; omega) (fun k e => (World.ownsRow.lt hown k e).1)

theorem step_push {ops : Array Oper} {o : Oper} {a : Act} {K : Act → World → Prop} {Q : Exit → Act → World → Prop} {E : Prop} (hgd : o.guard = none) (s x : Operand)
    (ho : o.op = .call { callee := .builtin .append, args := #[s, x], argTypes := #[22, 22] }) (base : Nat) (v : Value) (zs : List Int) (y : Int) (W : World) (B : Nat)
    (hs : a.eval s = v) (hx : a.eval x = .slice (some ⟨B, 0, none⟩) 1 1) (hnew : W.cell? ⟨B, 0, none⟩ = some (.int .i64 y)) (hown : OwnI W base v zs) (hl : zs.length ≤ 100000) (hbase : base ≤ W.heap.size)
    (h : ∀ v' w', OwnI w' base v' (zs ++ [y]) → Below base W w' → K (a.put o.dst v') w') : if Region.wanted o (yielded ops a.tmps) = true then Oper.wp Tryz.prog o a W K Q else E := by
  have hw : Region.wanted o (yielded ops a.tmps) = true := by simp [Region.wanted, hgd]
  rw [if_pos hw]
  obtain ⟨i0, hi, hz0, hz1, hz2⟩ := info_parts Tryz.infoInt
  refine wp_append_own W s x 22 ho base 3 i0 (.int .i64 0) 1 8 Tryz.underlying22 hi hz0 hz1 hz2 rfl (by decide) v zs.length (zs.map (Value.int .i64)) hs hown ⟨B, 0, none⟩ 1 1 [.int .i64 y] hx rfl ?_ ?_ (by unfold maxLen; omega) (by omega) hbase ?_
  · intro j u hj
    match j, hj with
    | 0, hj =>
      simp at hj; subst hj
      rw [addr_add]
      exact hnew
    | j + 1, hj => simp at hj
  · intro u hu; simp at hu; subst hu; rfl
  · intro v' w' h1 h2 h3
    refine h v' w' ?_ ?_
    · simpa [OwnI] using h1
    · exact (Below.refl base W).grown h2 hbase (fun k e => (World.ownsRow.lt hown k e).1)

def LPost (r : List Int × Int) (w : World) (e : Ending) (w' : World) : Prop :=
  Below w.heap.size w w' ∧ ∃ a cap, e = .returned (.tuple #[.slice a r.1.length cap, .int .i64 r.2]) ∧ Sl w' a r.1
theorem Sl.none (w : World) : Sl w none [] := fun k h => absurd h (by simp)
theorem LPost.err {w w' : World} (n : Int) {r : List Int × Int} (hr : r = ([], n)) (hb : Below w.heap.size w w') : LPost r w (.returned (.tuple #[.slice none 0 0, .int .i64 n])) w' := by
  subst hr; exact ⟨hb, none, 0, rfl, Sl.none _⟩
theorem LPost.ok {w w' : World} {base n cap : Nat} {a : Option Addr} {ys : List Int} {r : List Int × Int} (hr : r = (ys, 0)) (hb : Below w.heap.size w w') (ho : OwnI w' base (.slice a n cap) ys) (hn : n = ys.length) : LPost r w (.returned (.tuple #[.slice a n cap, .int .i64 0])) w' := by
  subst hr hn; exact ⟨hb, a, cap, rfl, ho.sl⟩
end Go.Proofs.YtgbnfhfkehpfaaaGreat
/- Sums and places of lists: plain words that speak of no program. -/
namespace Go.Proofs.YtgbnfhfkehpfaaaGreat
open Go.RowKit

def sumTo (g : Nat → Int) : Nat → Int
  | 0 => 0
  | n + 1 => sumTo g n + g n
theorem sumTo_add (f g : Nat → Int) : ∀ n, sumTo (fun i => f i + g i) n = sumTo f n + sumTo g n
  | 0 => rfl
  | n + 1 => by simp only [sumTo, sumTo_add f g n]; omega
theorem sumTo_mul (c : Int) (f : Nat → Int) : ∀ n, sumTo (fun i => c * f i) n = c * sumTo f n
  | 0 => by simp [sumTo]
  | n + 1 => by simp only [sumTo, sumTo_mul c f n, Int.mul_add]
theorem sumTo_congr {f g : Nat → Int} : ∀ n, (∀ i, i < n → f i = g i) → sumTo f n = sumTo g n
  | 0, _ => rfl
  | n + 1, h => by simp only [sumTo, sumTo_congr n (fun i hi => h i (by omega)), h n (by omega)]
def gt (xs : List Int) (i : Nat) : Int := xs[i]?.getD 0
theorem gt_some' {xs : List Int} {k : Nat} {x : Int} (h : xs[k]? = some x) : gt xs k = x := by unfold gt; rw [h]; rfl
theorem gt_set {ys : List Int} {i j : Nat} {v : Int} (hi : i < ys.length) : gt (ys.set i v) j = if j = i then v else gt ys j := by
  unfold gt
  rw [List.getElem?_set]
  by_cases h : i = j
  · subst h; simp [hi]
  · rw [if_neg h, if_neg (Ne.symm h)]
theorem list_ext_gt {xs ys : List Int} (hl : xs.length = ys.length) (h : ∀ k, k < xs.length → gt xs k = gt ys k) : xs = ys := by
  refine List.ext_getElem hl fun k h1 h2 => ?_
  have := h k h1
  unfold gt at this
  simpa [h1, h2] using this
theorem gt_map_range (f : Nat → Int) {n k : Nat} (hk : k < n) : gt ((List.range n).map f) k = f k := by unfold gt; simp [hk]
end Go.Proofs.YtgbnfhfkehpfaaaGreat
/- Slices of ints in new memory: what keeps, reads and writes them. -/
namespace Go.Proofs.YtgbnfhfkehpfaaaGreat
open Go.RowKit

theorem OwnI.stored {w : World} {base g cap n : Nat} {xs : List Int} (h : OwnI w base (.slice (some ⟨g, 0, none⟩) n cap) xs) (j : Nat) (x : Int) : OwnI (w.setCell ⟨g, j, none⟩ (.int .i64 x)) base (.slice (some ⟨g, 0, none⟩) n cap) (xs.set j x) := by
  unfold OwnI at *
  obtain rfl : n = xs.length := by
    obtain ⟨_, ⟨e, _⟩ | ⟨_, _, _, e, _⟩⟩ := h
    · cases e
    · simpa using congrArg (fun v => match v with | .slice _ n _ => n | _ => 0) e
  rw [List.length_set, List.map_set]
  exact (World.ownsRow.stored h j _).1
theorem OwnI.drew {w : World} {base : Nat} {v : Value} {xs : List Int} (h : OwnI w base v xs) : OwnI w.drew base v xs := h
theorem OwnI.below {w w' : World} {base : Nat} {v : Value} {xs : List Int} (h : OwnI w base v xs) (hb : Below w.heap.size w w') : OwnI w' base v xs := by
  obtain ⟨h0, h1 | ⟨g, cap, cur, e, hg, hh, rest⟩⟩ := h
  · exact ⟨h0, .inl h1⟩
  · exact ⟨h0, .inr ⟨g, cap, cur, e, hg, (hb.block g (Array.getElem?_eq_some_iff.1 hh).1).trans hh, rest⟩⟩
theorem OwnI.sameBlock {w w' : World} {base g n cap : Nat} {xs : List Int} (h : OwnI w base (.slice (some ⟨g, 0, none⟩) n cap) xs) (hb : w'.heap[g]? = w.heap[g]?) : OwnI w' base (.slice (some ⟨g, 0, none⟩) n cap) xs := by
  obtain ⟨h0, ⟨e, _⟩ | ⟨g', cap', cur, e, hg, hh, rest⟩⟩ := h
  · cases e
  · obtain rfl : g = g' := by simpa using congrArg (fun v => match v with | .slice (some a) _ _ => a.block | _ => 0) e
    exact ⟨h0, .inr ⟨g, cap', cur, e, hg, hb.trans hh, rest⟩⟩
theorem cell_other (w : World) (a : Addr) (v : Value) (o : Nat) {b : Nat} (hb : b ≠ a.block) : (w.setCell a v).cell? ⟨b, o, none⟩ = w.cell? ⟨b, o, none⟩ := World.cell?_of_block (Below.heap_setCell w a v b hb)
theorem wrap_is (n : Int) : wrap64 n = IntKind.i64.wrap n := by rw [IntKind.wrap_i64]; unfold wrap64; omega
theorem OwnI.mono {w : World} {base base' : Nat} {v : Value} {xs : List Int} (h : OwnI w base v xs) (hb : base' ≤ base) : OwnI w base' v xs := by
  obtain ⟨h0, h1 | ⟨g, cap, cur, e, hg, rest⟩⟩ := h
  · exact ⟨h0, .inl h1⟩
  · exact ⟨h0, .inr ⟨g, cap, cur, e, Nat.le_trans hb hg, rest⟩⟩
theorem OwnI.cap_le {w : World} {base g n cap : Nat} {xs : List Int} (h : OwnI w base (.slice (some ⟨g, 0, none⟩) n cap) xs) : n ≤ cap := by
  obtain ⟨h0, ⟨e, _⟩ | ⟨g', cap', cur, e, hg, hh, hle, _⟩⟩ := h
  · cases e
  · have e1 : n = xs.length := by simpa using congrArg (fun v => match v with | .slice _ n _ => n | _ => 0) e
    have e2 : cap = cap' := by simpa using congrArg (fun v => match v with | .slice _ _ c => c | _ => 0) e
    omega
theorem OwnI.lt {w : World} {base : Nat} {g n cap : Nat} {xs : List Int} (h : OwnI w base (.slice (some ⟨g, 0, none⟩) n cap) xs) : g < w.heap.size ∧ base ≤ g := by
  obtain ⟨_, ⟨e, _⟩ | ⟨g', _, _, e, hg, hh, _⟩⟩ := h
  · cases e
  · obtain ⟨rfl, _⟩ : g = g' ∧ _ := by simpa using e
    exact ⟨(Array.getElem?_eq_some_iff.1 hh).1, hg⟩
theorem OwnI.cell {w : World} {base g n cap : Nat} {xs : List Int} (h : OwnI w base (.slice (some ⟨g, 0, none⟩) n cap) xs) {j : Nat} (hj : j < xs.length) :
    w.cell? ⟨g, j, none⟩ = some (.int .i64 (xs[j]?.getD 0)) ∧ w.frozen? ⟨g, j, none⟩ = false := by
  have hs := h.sl
  obtain ⟨b, off, e, h2⟩ := hs j hj
  obtain ⟨rfl, rfl⟩ : g = b ∧ 0 = off := by simpa using e
  rw [Nat.zero_add] at h2
  refine ⟨h2, ?_⟩
  obtain rfl : n = xs.length := by
    obtain ⟨_, ⟨e, _⟩ | ⟨_, _, _, e, _⟩⟩ := h
    · cases e
    · simpa using congrArg (fun v => match v with | .slice _ n _ => n | _ => 0) e
  exact World.ownsRow.frozenAt h j

theorem OwnI.any {w : World} {base : Nat} {v : Value} {xs : List Int} (h : OwnI w base v xs) : ∃ a cap, v = .slice a xs.length cap ∧ Sl w a xs := by
  have h' := h
  obtain ⟨hx, ⟨rfl, h0⟩ | ⟨g, cap, cur, rfl, _⟩⟩ := h
  · have : xs = [] := List.eq_nil_of_length_eq_zero h0
    subst this
    exact ⟨none, 0, rfl, Sl.none _⟩
  · exact ⟨some ⟨g, 0, none⟩, cap, rfl, h'.sl⟩
theorem LPost.own {w w' : World} {base : Nat} {v : Value} {ys : List Int} {r : List Int × Int} (hr : r = (ys, 0)) (hb : Below w.heap.size w w') (ho : OwnI w' base v ys) : LPost r w (.returned (.tuple #[v, .int .i64 0])) w' := by
  obtain ⟨a, cap, rfl, hs⟩ := ho.any
  subst hr; exact ⟨hb, a, cap, rfl, hs⟩
theorem OwnI.drewN {w : World} {base : Nat} {v : Value} {xs : List Int} (h : OwnI w base v xs) (n : Nat) : OwnI (w.drewN n) base v xs := h
theorem zeros_are (n : Nat) : (madeCells (Value.int .i64 0).cells (n * 1)).toList = (List.replicate n (0 : Int)).map (Value.int .i64) := by
  rw [Nat.mul_one]
  show (madeCells #[Value.int .i64 0] n).toList = _
  rw [toList_madeCells_one]; simp
theorem OwnI.setBelow {w : World} {base : Nat} {v : Value} {xs : List Int} (h : OwnI w base v xs) {p : Addr} (hp : p.block < base) (u : Value) : OwnI (w.setCell p u) base v xs := ownsRow_setCell_below h hp u
end Go.Proofs.YtgbnfhfkehpfaaaGreat
/- Masks: how a slice of slices of ints reads, and how it is opened as an argument. Speaks of no function. -/
namespace Go.Proofs.YtgbnfhfkehpfaaaGreat
open Go.ChangeShapes Go.WideShapes Go.ChangeAt Go.RowKit Go.Joins

theorem Below.next {n : Nat} {w w1 w2 : World} (h : Below n w w1) (h2 : Below w1.heap.size w1 w2) (hn : n ≤ w.heap.size) : Below n w w2 := h.trans (h2.mono (Nat.le_trans hn h.size))
def Ms (w : World) (a : Option Addr) (m : List (List Int)) : Prop :=
  ∀ i, i < m.length → ∃ b off ai ci, a = some ⟨b, off, none⟩ ∧ w.cell? ⟨b, off + i, none⟩ = some (.slice ai (m[i]?.getD []).length ci) ∧ Sl w ai (m[i]?.getD [])

theorem Ms.at {w : World} {a : Option Addr} {m : List (List Int)} (h : Ms w a m) {i : Nat} (hi : i < m.length) :
    ∃ b off ai r ci, a = some ⟨b, off, none⟩ ∧ w.cell? ⟨b, off + i, none⟩ = some (.slice ai r.length ci) ∧ Sl w ai r ∧ Hid (m[i]? = some r) := by
  obtain ⟨b, off, ai, ci, h1, h2, h3⟩ := h i hi
  have e : m[i]? = some m[i] := by simp [hi]
  rw [e] at h2 h3
  exact ⟨b, off, ai, m[i], ci, h1, h2, h3, e⟩
theorem Ms.below {w w' : World} {a : Option Addr} {m : List (List Int)} (h : Ms w a m) (hb : Below w.heap.size w w') : Ms w' a m := by
  intro i hi
  obtain ⟨b, off, ai, ci, h1, h2, h3⟩ := h i hi
  exact ⟨b, off, ai, ci, h1, (hb.cell (p := ⟨b, off + i, none⟩) (cell_lt h2)).trans h2, h3.below hb⟩
theorem Ms.alloc {w : World} {a : Option Addr} {m : List (List Int)} (h : Ms w a m) (o : Obj) : Ms (w.alloc o) a m := h.below ((Below.refl _ _).alloc (Nat.le_refl _) _)
theorem Ms.drew {w : World} {a : Option Addr} {m : List (List Int)} (h : Ms w a m) : Ms w.drew a m := h.below ((Below.refl _ _).drew)
def MOk (m : List (List Int)) : Prop := m.length ≤ 9223372036854775807 ∧ ∀ r ∈ m, r.length ≤ 9223372036854775807 ∧ ∀ x ∈ r, I64 x
theorem MOk.row {m : List (List Int)} (h : MOk m) {i : Nat} {r : List Int} (e : m[i]? = some r) : r.length ≤ 9223372036854775807 ∧ ∀ x ∈ r, I64 x := h.2 r (List.mem_of_getElem? e)
def InMask (w : World) (v : Value) (a : Option Addr) (m : List (List Int)) (cap : Nat) : Prop := v = .slice a m.length cap ∧ Ms w a m ∧ MOk m

section
variable {H : Type} {enc : TypeId × Value → H} {P : Program} {w : World} {base : Nat} {held : Bool}
theorem addr_flat {ad : Addr} {v : Value} (h : w.cell? (ad.add 0) = some v) : ∃ b off, ad = ⟨b, off, none⟩ := by
  obtain ⟨b, off, sp⟩ := ad
  cases sp with
  | none => exact ⟨b, off, rfl⟩
  | some s =>
    have e : (⟨b, off, some s⟩ : Addr).add 0 = ⟨b, off, some s⟩ := by simp [Addr.add]
    rw [e] at h
    unfold World.cell? at h
    split at h <;> simp at h
theorem flat_add (b off k : Nat) : (⟨b, off, none⟩ : Addr).add k = ⟨b, off + k, none⟩ := by
  unfold Addr.add; split
  · subst_vars; rfl
  · rfl
theorem sl_of_cells {A : Option Addr} {C L : Nat} {zs : List Int} (hC : zs.length = C) (hL : L ≤ C) (hn : A = none → C = 0) (h : ∀ a', A = some a' → ∀ c, c < C → w.cell? (a'.add c) = some (.int .i64 (zs.getD c 0))) : Sl w A (zs.take L) := by
  intro k hk
  have hk' : k < L := by simp at hk; omega
  cases A with
  | none => have := hn rfl; omega
  | some ad =>
    obtain ⟨b, off, rfl⟩ := addr_flat (h ad rfl 0 (by omega))
    have h0 := h _ rfl k (by omega)
    rw [flat_add] at h0
    refine ⟨b, off, rfl, ?_⟩
    rw [h0]; simp [hk', List.getD]
theorem in_mask {t e q : TypeId} {fuel : Nat} {v : Value} {x : DataW H × List MemPlace} (ht : P.underlying t = some (.slice e)) (he : P.underlying e = some (.slice q)) (hq : P.underlying q = some (.int .i64)) (ce : P.cellsOf e = 1) (cq : P.cellsOf q = 1)
    (h : DataW.trod enc P w base (fun _ => true) held fuel t [v] = some x) : ∃ a m cap, InMask w v a m cap := by
  rcases Go.Deep.open_int_rows ht he hq ce cq h with ⟨hcs, _⟩ | ⟨ad, len, cap, A, L, C, Z, hcs, _, hl, hm, _, hr⟩
  · simp only [List.cons.injEq, and_true] at hcs
    exact ⟨none, [], 0, hcs, fun k hk => absurd hk (by simp), by simp, fun x hx => by cases hx⟩
  · simp only [List.cons.injEq, and_true] at hcs
    unfold maxLen at hm hr
    have hlen : ((List.range len).map fun r => (Z r).take (L r)).length = len := by simp
    refine ⟨some ad, (List.range len).map fun r => (Z r).take (L r), cap, by rw [hlen]; exact hcs, fun i hi => ?_, by rw [hlen]; omega, fun r hr' => ?_⟩
    · rw [hlen] at hi
      obtain ⟨h1, h2, h3, h4, h5, h6, h7⟩ := hr i (by omega)
      obtain ⟨b, off, rfl⟩ := addr_flat (hr 0 (by omega)).1
      rw [flat_add] at h1
      have e : ((List.range len).map fun r => (Z r).take (L r))[i]? = some ((Z i).take (L i)) := by simp [hi]
      rw [e]
      refine ⟨b, off, A i, C i, rfl, ?_, sl_of_cells h4 h2 h6 (fun a' ha => (h7 a' ha).2)⟩
      rw [h1]; simp; omega
    · obtain ⟨i, hi, rfl⟩ := List.mem_map.1 hr'
      have hi' := List.mem_range.1 hi
      obtain ⟨h1, h2, h3, h4, h5, h6, h7⟩ := hr i (by omega)
      exact ⟨by simp; omega, fun x hx => I64_of (h5 x (List.mem_of_mem_take hx))⟩
end
end Go.Proofs.YtgbnfhfkehpfaaaGreat
/- Rows of the call's own behind a slice of rows, each in a block of its own: what keeps and turns them. -/
namespace Go.Proofs.YtgbnfhfkehpfaaaGreat
open Go.RowKit

structure SI (w : World) (base g : Nat) (ads : List (Nat × Nat)) (M : List (List Int)) : Prop where
  len : ads.length = M.length
  row : ∀ (i : Nat) (x : Nat × Nat) (r : List Int), ads[i]? = some x → M[i]? = some r → w.cell? ⟨g, i, none⟩ = some (.slice (some ⟨x.1, 0, none⟩) r.length x.2) ∧ OwnI w base (.slice (some ⟨x.1, 0, none⟩) r.length x.2) r
  apart : ∀ (i j : Nat) (x y : Nat × Nat), ads[i]? = some x → ads[j]? = some y → i ≠ j → x.1 ≠ y.1
  out : ∀ (i : Nat) (x : Nat × Nat), ads[i]? = some x → x.1 ≠ g ∧ base ≤ x.1
theorem SI.below {w w' : World} {base g : Nat} {ads : List (Nat × Nat)} {M : List (List Int)} (h : SI w base g ads M) (hb : Below w.heap.size w w') : SI w' base g ads M :=
  ⟨h.len, fun i x r e1 e2 => by
    obtain ⟨h1, h2⟩ := h.row i x r e1 e2
    exact ⟨(hb.cell (p := ⟨g, i, none⟩) (cell_lt h1)).trans h1, h2.below hb⟩, h.apart, h.out⟩
theorem SI.ms {w : World} {base g : Nat} {ads : List (Nat × Nat)} {M : List (List Int)} (h : SI w base g ads M) : Ms w (some ⟨g, 0, none⟩) M := by
  intro i hi
  have e1 : ads[i]? = some (ads[i]'(by rw [h.len]; exact hi)) := by simp [h.len, hi]
  have e2 : M[i]? = some M[i] := by simp [hi]
  obtain ⟨h1, h2⟩ := h.row i _ _ e1 e2
  rw [e2]
  exact ⟨g, 0, _, _, rfl, by rw [Nat.zero_add]; exact h1, h2.sl⟩
theorem SI.stored {w : World} {base g : Nat} {ads : List (Nat × Nat)} {M : List (List Int)} (h : SI w base g ads M) {i : Nat} {x : Nat × Nat} {r : List Int} (e1 : ads[i]? = some x) (e2 : M[i]? = some r) (j : Nat) (v : Int) :
    SI (w.setCell ⟨x.1, j, none⟩ (.int .i64 v)) base g ads (M.set i (r.set j v)) := by
  have hxg := (h.out i x e1).1
  refine ⟨by rw [List.length_set]; exact h.len, fun k y q k1 k2 => ?_, h.apart, h.out⟩
  by_cases hk : k = i
  · subst hk
    rw [e1] at k1
    obtain rfl : x = y := by simpa using k1
    have hlt := (List.getElem?_eq_some_iff.1 e2).1
    rw [List.getElem?_set_self hlt] at k2
    obtain rfl : r.set j v = q := by simpa using k2
    obtain ⟨h1, h2⟩ := h.row k x r e1 e2
    refine ⟨?_, ?_⟩
    · rw [List.length_set]; exact (cell_other _ _ _ _ (fun e => hxg e.symm)).trans h1
    · rw [List.length_set]; exact h2.stored j v
  · rw [List.getElem?_set_ne (Ne.symm hk)] at k2
    obtain ⟨h1, h2⟩ := h.row k y q k1 k2
    have hne := h.apart k i y x k1 e1 hk
    refine ⟨(cell_other _ _ _ _ (fun e => hxg e.symm)).trans h1, h2.sameBlock ?_⟩
    exact Below.heap_setCell w _ _ _ hne
structure OnlyB (b : Nat) (w w' : World) : Prop where
  size : w'.heap.size = w.heap.size
  same : ∀ k, k ≠ b → w'.heap[k]? = w.heap[k]?
theorem OnlyB.refl (b : Nat) (w : World) : OnlyB b w w := ⟨rfl, fun _ _ => rfl⟩
theorem OnlyB.trans {b : Nat} {w w' w2 : World} (h : OnlyB b w w') (k : OnlyB b w' w2) : OnlyB b w w2 := ⟨k.size.trans h.size, fun i hi => (k.same i hi).trans (h.same i hi)⟩
theorem OnlyB.setCell {b : Nat} {w w' : World} (h : OnlyB b w w') (o : Nat) (v : Value) : OnlyB b w (w'.setCell ⟨b, o, none⟩ v) :=
  ⟨by rw [← h.size]; simp, fun k hk => (Below.heap_setCell w' ⟨b, o, none⟩ v k hk).trans (h.same k hk)⟩
theorem OnlyB.drew {b : Nat} {w w' : World} (h : OnlyB b w w') : OnlyB b w w'.drew := ⟨h.size, h.same⟩
theorem OnlyB.drewN {b : Nat} {w w' : World} (h : OnlyB b w w') (n : Nat) : OnlyB b w (w'.drewN n) := ⟨h.size, h.same⟩
theorem OnlyB.cell {b : Nat} {w w' : World} (h : OnlyB b w w') {k o : Nat} (hk : k ≠ b) : w'.cell? ⟨k, o, none⟩ = w.cell? ⟨k, o, none⟩ := World.cell?_of_block (h.same k hk)
theorem OwnI.only {b : Nat} {w w' : World} (h : OnlyB b w w') {base g n cap : Nat} {xs : List Int} (ho : OwnI w base (.slice (some ⟨g, 0, none⟩) n cap) xs) (hg : g ≠ b) : OwnI w' base (.slice (some ⟨g, 0, none⟩) n cap) xs := ho.sameBlock (h.same g hg)
theorem SI.only {w w' : World} {base g : Nat} {ads : List (Nat × Nat)} {M : List (List Int)} (h : SI w base g ads M) {i : Nat} {x : Nat × Nat} {r r' : List Int} (e1 : ads[i]? = some x) (e2 : M[i]? = some r) (hl : r'.length = r.length) (hb : OnlyB x.1 w w')
    (ho : OwnI w' base (.slice (some ⟨x.1, 0, none⟩) r.length x.2) r') : SI w' base g ads (M.set i r') := by
  refine ⟨by rw [List.length_set]; exact h.len, fun k y q k1 k2 => ?_, h.apart, h.out⟩
  have hxg := (h.out i x e1).1
  by_cases hk : k = i
  · subst hk
    rw [e1] at k1
    obtain rfl : x = y := by simpa using k1
    rw [List.getElem?_set_self (List.getElem?_eq_some_iff.1 e2).1] at k2
    obtain rfl : r' = q := by simpa using k2
    obtain ⟨h1, h2⟩ := h.row k x r e1 e2
    rw [hl]
    exact ⟨(hb.cell (fun e => hxg e.symm)).trans h1, ho⟩
  · rw [List.getElem?_set_ne (Ne.symm hk)] at k2
    obtain ⟨h1, h2⟩ := h.row k y q k1 k2
    exact ⟨(hb.cell (fun e => hxg e.symm)).trans h1, h2.only hb (h.apart k i y x k1 e1 hk)⟩
end Go.Proofs.YtgbnfhfkehpfaaaGreat
/- Masks as lists of lists of numbers: the plain words of layer 2. Speaks of no program. -/
namespace Go.Proofs.YtgbnfhfkehpfaaaGreat
open Go.RowKit

def rowB (r : List Int) : Bool := rangeB r.length 1 10 && allB 1 r
def colsM (m : List (List Int)) : Nat := (m[0]?.getD []).length
def validM (m : List (List Int)) : Bool := rangeB m.length 1 6 && m.all fun r => decide (r.length = colsM m) && rowB r
def dot (a b : List Int) : Int := sumTo (fun i => gt a i * gt b i) a.length
def readL (m : List (List Int)) (x : List Int) : List Int := m.map fun r => dot r x
def fitsV (l : List Int) (n lim : Int) : Int := if (l.length : Int) = n then (if allB lim l = true then 0 else 7) else 9
def readV (m : List (List Int)) (x : List Int) : List Int × Int := if validM m = true then (if fitsV x (colsM m) 1000000 = 0 then (readL m x, 0) else ([], fitsV x (colsM m) 1000000)) else ([], 1)
def shownM (m : List (List Int)) (x : List Int) : Bool := validM m && decide (fitsV x (colsM m) 1000000 = 0)
def thereB (m : List (List Int)) (j : Int) : Bool := decide (0 ≤ j) && decide (j < colsM m)

theorem validM_of {m : List (List Int)} (h : validM m = true) : 1 ≤ m.length ∧ m.length ≤ 6 ∧ 1 ≤ colsM m ∧ colsM m ≤ 10 ∧ ∀ r ∈ m, r.length = colsM m ∧ allB 1 r = true := by
  simp only [validM, Bool.and_eq_true, rangeB, decide_eq_true_eq, List.all_eq_true, rowB] at h
  obtain ⟨⟨h1, h2⟩, h3⟩ := h
  have h0 : m[0]? = some (m[0]'(by omega)) := by simp
  have hc := h3 (m[0]'(by omega)) (List.getElem_mem _)
  refine ⟨by omega, by omega, ?_, ?_, fun r hr => ⟨(h3 r hr).1, (h3 r hr).2.2⟩⟩
  · have := hc.2.1.1; rw [hc.1] at this; omega
  · have := hc.2.1.2; rw [hc.1] at this; omega
theorem validM_row {m : List (List Int)} (h : validM m = true) {i : Nat} {r : List Int} (e : m[i]? = some r) : r.length = colsM m ∧ allB 1 r = true := (validM_of h).2.2.2.2 r (List.mem_of_getElem? e)
theorem mul_le {a b x y : Int} (ha : -x ≤ a ∧ a ≤ x) (hb : -y ≤ b ∧ b ≤ y) : -(x * y) ≤ a * b ∧ a * b ≤ x * y := by
  obtain ⟨a1, a2⟩ := ha
  obtain ⟨b1, b2⟩ := hb
  have hx : 0 ≤ x := by omega
  have hy : 0 ≤ y := by omega
  have h : (a * b).natAbs ≤ (x * y).natAbs := by
    rw [Int.natAbs_mul, Int.natAbs_mul]; exact Nat.mul_le_mul (by omega) (by omega)
  have hxy : 0 ≤ x * y := Int.mul_nonneg hx hy
  omega
theorem sumTo_bd {f : Nat → Int} {M : Int} : ∀ n, (∀ i, i < n → -M ≤ f i ∧ f i ≤ M) → -(n * M) ≤ sumTo f n ∧ sumTo f n ≤ n * M
  | 0, _ => by simp [sumTo]
  | n + 1, h => by
    have ih := sumTo_bd n (fun i hi => h i (by omega))
    have h1 := h n (by omega)
    have e : ((n + 1 : Nat) : Int) * M = n * M + M := by rw [Int.natCast_add, Int.add_mul]; simp
    rw [e]; simp only [sumTo]; omega
theorem gt_in {xs : List Int} {M : Int} (h : allB M xs = true) {k : Nat} (hk : k < xs.length) : -M ≤ gt xs k ∧ gt xs k ≤ M := by
  have e : xs[k]? = some (xs[k]) := by simp
  have := allB_get h e
  unfold gt; rw [e]; exact this

end Go.Proofs.YtgbnfhfkehpfaaaGreat
/- The reduction of layer 3 as a function on lists, wraps and quotients as they stand: plain words. Speaks of no program. -/
namespace Go.Proofs.YtgbnfhfkehpfaaaGreat
open Go.RowKit

def rowL (m : List (List Int)) (i : Nat) : List Int := m[i]?.getD []
theorem rowL_some {m : List (List Int)} {i : Nat} {r : List Int} (h : m[i]? = some r) : rowL m i = r := by unfold rowL; rw [h]; rfl
def negL (xs : List Int) : List Int := xs.map fun n => IntKind.i64.wrap (-n)
def negTo (xs : List Int) (q : Nat) : List Int := (List.range xs.length).map fun k => if k < q then IntKind.i64.wrap (-gt xs k) else gt xs k
theorem negTo_len (xs : List Int) (q : Nat) : (negTo xs q).length = xs.length := by simp [negTo]
theorem negTo_zero (xs : List Int) : negTo xs 0 = xs := by
  refine list_ext_gt (negTo_len _ _) fun k hk => ?_
  rw [negTo_len] at hk
  unfold negTo; rw [gt_map_range _ hk, if_neg (by omega)]
theorem negTo_at (xs : List Int) {q : Nat} (hq : q < xs.length) : gt (negTo xs q) q = gt xs q := by unfold negTo; rw [gt_map_range _ hq, if_neg (by omega)]
theorem negTo_succ {xs : List Int} {q : Nat} (hq : q < xs.length) : (negTo xs q).set q (IntKind.i64.wrap (-gt xs q)) = negTo xs (q + 1) := by
  refine list_ext_gt (by rw [List.length_set, negTo_len, negTo_len]) fun k hk => ?_
  rw [List.length_set, negTo_len] at hk
  rw [gt_set (by rw [negTo_len]; exact hq)]
  unfold negTo
  rw [gt_map_range _ hk, gt_map_range _ hk]
  by_cases e : k = q
  · subst e; rw [if_pos rfl, if_pos (by omega)]
  · rw [if_neg e]
    by_cases h : k < q
    · rw [if_pos h, if_pos (by omega)]
    · rw [if_neg h, if_neg (by omega)]
theorem negTo_full (xs : List Int) : negTo xs xs.length = negL xs := by
  refine list_ext_gt (by simp [negTo, negL]) fun k hk => ?_
  rw [negTo_len] at hk
  unfold negTo negL
  rw [gt_map_range _ hk, if_pos hk]
  unfold gt; simp [hk]
def combI (next times dv n o : Int) : Int := IntKind.i64.wrap ((IntKind.i64.wrap (IntKind.i64.wrap (next * n) - IntKind.i64.wrap (times * o))).tdiv dv)
def combTo (next times dv : Int) (own row : List Int) (q : Nat) : List Int := (List.range row.length).map fun k => if k < q then combI next times dv (gt row k) (gt own k) else gt row k
theorem combTo_len (next times dv : Int) (own row : List Int) (q : Nat) : (combTo next times dv own row q).length = row.length := by simp [combTo]
theorem combTo_zero (next times dv : Int) (own row : List Int) : combTo next times dv own row 0 = row := by
  refine list_ext_gt (combTo_len _ _ _ _ _ _) fun k hk => ?_
  rw [combTo_len] at hk
  unfold combTo; rw [gt_map_range _ hk, if_neg (by omega)]
theorem combTo_at (next times dv : Int) (own row : List Int) {q : Nat} (hq : q < row.length) : gt (combTo next times dv own row q) q = gt row q := by unfold combTo; rw [gt_map_range _ hq, if_neg (by omega)]
theorem combTo_succ {next times dv : Int} {own row : List Int} {q : Nat} (hq : q < row.length) : (combTo next times dv own row q).set q (combI next times dv (gt row q) (gt own q)) = combTo next times dv own row (q + 1) := by
  refine list_ext_gt (by rw [List.length_set, combTo_len, combTo_len]) fun k hk => ?_
  rw [List.length_set, combTo_len] at hk
  rw [gt_set (by rw [combTo_len]; exact hq)]
  unfold combTo
  rw [gt_map_range _ hk, gt_map_range _ hk]
  by_cases e : k = q
  · subst e; rw [if_pos rfl, if_pos (by omega)]
  · rw [if_neg e]
    by_cases h : k < q
    · rw [if_pos h, if_pos (by omega)]
    · rw [if_neg h, if_neg (by omega)]
def combL (next times dv : Int) (own row : List Int) : List Int := combTo next times dv own row row.length
def pivRow (M : List (List Int)) (c : Nat) : Nat → Nat → Option Nat
  | 0, _ => none
  | n + 1, i => if gt (rowL M i) c ≠ 0 then some i else pivRow M c n (i + 1)
structure Rd where
  cols : Nat
  rows : List (List Int)
  piv : List Int
  dv : Int
def swapR (M : List (List Int)) (i j : Nat) : List (List Int) := (M.set i (rowL M j)).set j (rowL M i)
def ownR (r : List Int) (c : Nat) : List Int := if gt r c < 0 then negL r else r
def clearTo (M : List (List Int)) (own : List Int) (p c : Nat) (dv : Int) (k : Nat) : List (List Int) :=
  (List.range M.length).map fun i => if i = p then own else if i < k then combL (gt own c) (gt (rowL M i) c) dv own (rowL M i) else rowL M i
def clearR (c : Nat) (r : Rd) : Rd :=
  match pivRow r.rows c (r.rows.length - r.piv.length) r.piv.length with
  | none => r
  | some i =>
    let M := swapR r.rows r.piv.length i
    let own := ownR (rowL M r.piv.length) c
    { cols := r.cols, rows := clearTo M own r.piv.length c r.dv M.length, piv := r.piv ++ [(c : Int)], dv := gt own c }
end Go.Proofs.YtgbnfhfkehpfaaaGreat
/- turn of layer 3: a contract. -/
namespace Go.Proofs.YtgbnfhfkehpfaaaGreat
open Go.RowKit

set_option maxRecDepth 100000 in
theorem turn_any (base b c : Nat) (xs : List Int) (w : World) (hl : xs.length ≤ 1000) (ho : OwnI w base (.slice (some ⟨b, 0, none⟩) xs.length c) xs) :
    Calls Tryz.prog 99 #[.slice (some ⟨b, 0, none⟩) xs.length c] w fun e w' => e = .returned (.tuple #[]) ∧ OnlyB b w w' ∧ Below base w w' ∧ OwnI w' base (.slice (some ⟨b, 0, none⟩) xs.length c) (negL xs) := by
  have HO := Lib.hid ho; clear ho
  go_enter Tryz.func99, Tryz.ntmps99
  go_wp2
  go_loopw [6] (fun i wr => ∃ q : Nat, q ≤ xs.length ∧ i = .int .i64 q ∧ OwnI wr base (.slice (some ⟨b, 0, none⟩) xs.length c) (negTo xs q) ∧ OnlyB b w wr ∧ Below base w wr) (fun i _ => xs.length - (intOf i).toNat)
  case atStart => exact ⟨0, Nat.zero_le _, rfl, by rw [negTo_zero]; exact HO.out, OnlyB.refl _ _, Below.refl _ _⟩
  case round =>
    obtain ⟨q, hq, rfl, hO, hB, hb⟩ := hrel
    have HOR := Lib.hid hO; clear hO
    have HB := Lib.hid hB; clear hB
    have HBB := Lib.hid hb; clear hb
    by_cases hlt : q < xs.length
    · obtain ⟨c1, f1⟩ := HOR.out.cell (j := q) (by rw [negTo_len]; exact hlt)
      have hv : (negTo xs q)[q]?.getD 0 = gt xs q := negTo_at xs hlt
      rw [hv] at c1
      have HG := HOR.out.lt
      obtain ⟨x, hx⟩ : ∃ x, gt xs q = x := ⟨_, rfl⟩
      have HN : Hid ((negTo xs q).set q (IntKind.i64.wrap (-x)) = negTo xs (q + 1)) := by show _ = _; rw [← hx]; exact negTo_succ hlt
      rw [hx] at c1
      have HST := Lib.hid (HOR.out.stored q (IntKind.i64.wrap (-x)))
      clear hv hx
      go_wp2
      go_roundw
      case rel => exact ⟨q + 1, by omega, by go_num, by rw [← HN.out]; first | exact HST.out | (rw [wrap_is]; exact HST.out), HB.out.setCell _ _, HBB.out.setCell HG.2 _⟩
      case measure => simp [intOf]; omega
    · obtain rfl : q = xs.length := by omega
      have HF := Lib.hid (negTo_full xs)
      rw [HF.out] at HOR
      go_wp2
      go_end0
      exact ⟨rfl, HB.out, HBB.out, HOR.out⟩
end Go.Proofs.YtgbnfhfkehpfaaaGreat
/- The rows of a reduction behind the multiples of the pivot's own row: the loop of clear. -/
namespace Go.Proofs.YtgbnfhfkehpfaaaGreat
open Go.RowKit

def seqTail : Nat → Code → Code
  | 0, c => c
  | n + 1, .seq _ b => seqTail n b
  | _ + 1, c => c
structure RdB (B : Nat) (cols : Int) (g n cap : Nat) (pv : Value) (dv : Int) (w : World) : Prop where
  c0 : w.cell? ⟨B, 0, none⟩ = some (.int .i64 cols)
  c1 : w.cell? ⟨B, 1, none⟩ = some (.slice (some ⟨g, 0, none⟩) n cap)
  c2 : w.cell? ⟨B, 2, none⟩ = some pv
  c3 : w.cell? ⟨B, 3, none⟩ = some (.int .i64 dv)
  f1 : w.frozen? ⟨B, 1, none⟩ = false
  f2 : w.frozen? ⟨B, 2, none⟩ = false
  f3 : w.frozen? ⟨B, 3, none⟩ = false
theorem frozen_of_block {w w' : World} {b o : Nat} (h : w'.heap[b]? = w.heap[b]?) : w'.frozen? ⟨b, o, none⟩ = w.frozen? ⟨b, o, none⟩ := by
  unfold World.frozen?; rw [h]
theorem RdB.kept {B : Nat} {cols : Int} {g n cap : Nat} {pv : Value} {dv : Int} {w w' : World} (h : RdB B cols g n cap pv dv w) (k : w'.heap[B]? = w.heap[B]?) : RdB B cols g n cap pv dv w' :=
  have c : ∀ o, w'.cell? ⟨B, o, none⟩ = w.cell? ⟨B, o, none⟩ := fun _ => World.cell?_of_block k
  have f : ∀ o, w'.frozen? ⟨B, o, none⟩ = w.frozen? ⟨B, o, none⟩ := fun _ => frozen_of_block k
  ⟨(c 0).trans h.c0, (c 1).trans h.c1, (c 2).trans h.c2, (c 3).trans h.c3, (f 1).trans h.f1, (f 2).trans h.f2, (f 3).trans h.f3⟩
theorem clearTo_len (M : List (List Int)) (own : List Int) (p c : Nat) (dv : Int) (k : Nat) : (clearTo M own p c dv k).length = M.length := by simp [clearTo]
theorem clearTo_get {M : List (List Int)} {own : List Int} {p c : Nat} {dv : Int} {k i : Nat} (h : i < M.length) : (clearTo M own p c dv k)[i]? = some (if i = p then own else if i < k then combL (gt own c) (gt (rowL M i) c) dv own (rowL M i) else rowL M i) := by
  unfold clearTo; simp [h]
theorem clearTo_zero {M : List (List Int)} {own : List Int} {p c : Nat} {dv : Int} (hp : M[p]? = some own) : clearTo M own p c dv 0 = M := by
  refine List.ext_getElem? fun i => ?_
  by_cases h : i < M.length
  · rw [clearTo_get h]
    by_cases e : i = p
    · subst e; rw [if_pos rfl, hp]
    · rw [if_neg e, if_neg (by omega)]; unfold rowL; simp [h]
  · rw [List.getElem?_eq_none (by rw [clearTo_len]; omega), List.getElem?_eq_none (by omega)]
theorem clearTo_skip {M : List (List Int)} {own : List Int} {p c : Nat} {dv : Int} : clearTo M own p c dv (p + 1) = clearTo M own p c dv p := by
  refine List.ext_getElem? fun i => ?_
  by_cases h : i < M.length
  · rw [clearTo_get h, clearTo_get h]
    by_cases e : i = p
    · rw [if_pos e, if_pos e]
    · rw [if_neg e, if_neg e]
      by_cases e2 : i < p
      · rw [if_pos e2, if_pos (by omega)]
      · rw [if_neg e2, if_neg (by omega)]
  · rw [List.getElem?_eq_none (by rw [clearTo_len]; omega), List.getElem?_eq_none (by rw [clearTo_len]; omega)]
theorem clearTo_succ {M : List (List Int)} {own : List Int} {p c : Nat} {dv : Int} {k : Nat} (hk : k < M.length) (hp : k ≠ p) : (clearTo M own p c dv k).set k (combL (gt own c) (gt (rowL M k) c) dv own (rowL M k)) = clearTo M own p c dv (k + 1) := by
  refine List.ext_getElem? fun i => ?_
  by_cases h : i < M.length
  · rw [clearTo_get h]
    by_cases e : i = k
    · subst e
      rw [List.getElem?_set_self (by rw [clearTo_len]; exact h), if_neg hp, if_pos (by omega)]
    · rw [List.getElem?_set_ne (fun e' => e e'.symm), clearTo_get h]
      by_cases e2 : i = p
      · rw [if_pos e2, if_pos e2]
      · rw [if_neg e2, if_neg e2]
        by_cases e3 : i < k
        · rw [if_pos e3, if_pos (by omega)]
        · rw [if_neg e3, if_neg (by omega)]
  · rw [List.getElem?_eq_none (by rw [List.length_set, clearTo_len]; omega), List.getElem?_eq_none (by rw [clearTo_len]; omega)]
structure CW (base B Cb g n cap : Nat) (cols : Int) (pv : Value) (dv : Int) (c : Nat) (pz : List Int) (ads : List (Nat × Nat)) (M : List (List Int)) (w : World) : Prop where
  bx : RdB B cols g n cap pv dv w
  cb : w.cell? ⟨Cb, 0, none⟩ = some (.int .i64 (c : Int))
  si : SI w base g ads M
  pi : OwnI w base pv pz
  fg : ∀ k, w.frozen? ⟨g, k, none⟩ = false
def Apt (B Cb : Nat) (pv : Value) (ads : List (Nat × Nat)) : Prop := ∀ (i : Nat) (x : Nat × Nat), ads[i]? = some x → x.1 ≠ B ∧ x.1 ≠ Cb ∧ ∀ b, pv.ownBlock = some b → x.1 ≠ b
theorem CW.row {base B Cb g n cap : Nat} {cols : Int} {pv : Value} {dv : Int} {c : Nat} {pz : List Int} {ads : List (Nat × Nat)} {M : List (List Int)} {w w' : World} (h : CW base B Cb g n cap cols pv dv c pz ads M w) (ha : Apt B Cb pv ads)
    {i : Nat} {x : Nat × Nat} {r r' : List Int} (e1 : ads[i]? = some x) (e2 : M[i]? = some r) (hl : r'.length = r.length) (hb : OnlyB x.1 w w') (ho : OwnI w' base (.slice (some ⟨x.1, 0, none⟩) r.length x.2) r') : CW base B Cb g n cap cols pv dv c pz ads (M.set i r') w' := by
  obtain ⟨a1, a2, a3⟩ := ha i x e1
  refine ⟨h.bx.kept (hb.same B (fun e => a1 e.symm)), (hb.cell (fun e => a2 e.symm)).trans h.cb, h.si.only e1 e2 hl hb ho, ?_, fun k => (frozen_of_block (hb.same g (fun e => (h.si.out i x e1).1 e.symm))).trans (h.fg k)⟩
  obtain ⟨h0, h1 | ⟨g', cap', cur, e, hg, hh, rest⟩⟩ := h.pi
  · exact ⟨h0, .inl h1⟩
  · exact ⟨h0, .inr ⟨g', cap', cur, e, hg, (hb.same g' (fun e2 => a3 g' (by rw [e]; rfl) e2.symm)).trans hh, rest⟩⟩
theorem combL_len (next times dv : Int) (own row : List Int) : (combL next times dv own row).length = row.length := combTo_len _ _ _ _ _ _
set_option maxRecDepth 100000 in
set_option maxHeartbeats 3200000 in
theorem clear_t8 {base B Cb g n cap : Nat} {cols : Int} {pv : Value} {dv : Int} {c p bo co : Nat} {pz own : List Int} {ads : List (Nat × Nat)} {M : List (List Int)} {w w0 : World}
    (HAP : Hid (Apt B Cb pv ads)) (hn : Hid (M.length = n)) (hn6 : n ≤ 100) (hrl : Hid (∀ r ∈ M, r.length = own.length)) (hN : own.length ≤ 100) (hc : c < own.length) (hp : p < n)
    (hop : Hid (M[p]? = some own)) (hap : Hid (ads[p]? = some (bo, co))) (hdv : dv ≠ 0)
    (h : Hid (CW base B Cb g n cap cols pv dv c pz ads M w)) (hb0 : Hid (Below base w0 w)) (u1 u2 u5 u8 u9 u10 u11 u12 u13 u14 u15 u16 u17 u18 u19 u20 u21 u22 u23 u24 u25 u26 u27 u28 u29 u30 u31 u32 u33 u34 u35 u36 u37 u38 u39 u40 u41 u42 u43 u44 u45 u46 u47 u48 u49 u50 u51 u52 u53 u54 u55 u56 u57 u58 u59 u60 u61 u62 u63 u64 u65 u66 u67 u68 u69 u70 u71 u72 u73 u74 u75 u76 u77 u78 u79 u80 u81 u82 u83 u84 u85 u86 u87 u88 u89 u90 u91 u92 u93 u94 u95 u96 u97 u98 u99 u100 u101 u102 u103 u104 u105 u106 u107 u108 u109 u110 u111 u112 u113 u114 u115 u116 u117 u118 u119 u120 u121 u122 u123 u124 u125 u126 u127 u128 u129 u130 u131 u132 u133 : Value) (R : Ending → World → Prop)
    (hR : Hid (∀ w', CW base B Cb g n cap cols pv dv c pz ads (clearTo M own p c dv n) w' → Below base w0 w' → ∀ (u1 u2 u5 u8 u9 u10 u11 u12 u13 u14 u15 u16 u17 u18 u19 u20 u21 u22 u23 u24 u25 u26 u27 u28 u29 u30 u31 u32 u33 u34 u35 u36 u37 u38 u39 u40 u41 u42 u43 u44 u45 u46 u47 u48 u49 u50 u51 u52 u53 u54 u55 u56 u57 u58 u59 u60 u61 u62 u63 u64 u65 u66 u67 u68 u69 u70 u71 u72 u73 u74 u75 u76 u77 u78 u79 u80 u81 u82 u83 u84 u85 u86 u87 u88 u89 u90 u91 u92 u93 u94 u95 u96 u97 u98 u99 u100 u101 u102 u103 u104 u105 u106 u107 u108 u109 u110 u111 u112 u113 u114 u115 u116 u117 u118 u119 u120 u121 u122 u123 u124 u125 u126 u127 u128 u129 u130 u131 u132 u133 : Value), Code.wp Tryz.prog (seqTail 9 ((Tryz.f95.body).getD .skip)) (bodyPost Tryz.prog Tryz.f95 R) { tmps := #[.pointer (some ⟨B, 0, none⟩), u1, u2, .pointer (some ⟨Cb, 0, none⟩), .int .i64 (p : Nat), u5, .slice (some ⟨bo, 0, none⟩) own.length co, .int .i64 (gt own c), u8, u9, u10, u11, u12, u13, u14, u15, u16, u17, u18, u19, u20, u21, u22, u23, u24, u25, u26, u27, u28, u29, u30, u31, u32, u33, u34, u35, u36, u37, u38, u39, u40, u41, u42, u43, u44, u45, u46, u47, u48, u49, u50, u51, u52, u53, u54, u55, u56, u57, u58, u59, u60, u61, u62, u63, u64, u65, u66, u67, u68, u69, u70, u71, u72, u73, u74, u75, u76, u77, u78, u79, u80, u81, u82, u83, u84, u85, u86, u87, u88, u89, u90, u91, u92, u93, u94, u95, u96, u97, u98, u99, u100, u101, u102, u103, u104, u105, u106, u107, u108, u109, u110, u111, u112, u113, u114, u115, u116, u117, u118, u119, u120, u121, u122, u123, u124, u125, u126, u127, u128, u129, u130, u131, u132, u133], defers := [] } w')) :
    Code.wp Tryz.prog (seqTail 8 ((Tryz.f95.body).getD .skip)) (bodyPost Tryz.prog Tryz.f95 R) { tmps := #[.pointer (some ⟨B, 0, none⟩), u1, u2, .pointer (some ⟨Cb, 0, none⟩), .int .i64 (p : Nat), u5, .slice (some ⟨bo, 0, none⟩) own.length co, .int .i64 (gt own c), u8, u9, u10, u11, u12, u13, u14, u15, u16, u17, u18, u19, u20, u21, u22, u23, u24, u25, u26, u27, u28, u29, u30, u31, u32, u33, u34, u35, u36, u37, u38, u39, u40, u41, u42, u43, u44, u45, u46, u47, u48, u49, u50, u51, u52, u53, u54, u55, u56, u57, u58, u59, u60, u61, u62, u63, u64, u65, u66, u67, u68, u69, u70, u71, u72, u73, u74, u75, u76, u77, u78, u79, u80, u81, u82, u83, u84, u85, u86, u87, u88, u89, u90, u91, u92, u93, u94, u95, u96, u97, u98, u99, u100, u101, u102, u103, u104, u105, u106, u107, u108, u109, u110, u111, u112, u113, u114, u115, u116, u117, u118, u119, u120, u121, u122, u123, u124, u125, u126, u127, u128, u129, u130, u131, u132, u133], defers := [] } w := by
  conv => arg 2; whnf
  refine wp_seq_k (fun K hK => ?_)
  have HK := Lib.hid hK; clear hK
  have H0 : Hid (CW base B Cb g n cap cols pv dv c pz ads (clearTo M own p c dv 0) w) := by show CW _ _ _ _ _ _ _ _ _ _ _ _ _ _; rw [clearTo_zero hop.out]; exact h.out
  have c1 := h.out.bx.c1
  obtain ⟨next, hnext⟩ : ∃ x, gt own c = x := ⟨_, rfl⟩
  have HNX := Lib.hid hnext
  rw [hnext]
  go_wp2
  clear c1
  go_loopw [81] (fun i wr => ∃ k : Nat, k ≤ n ∧ i = .int .i64 k ∧ CW base B Cb g n cap cols pv dv c pz ads (clearTo M own p c dv k) wr ∧ Below base w0 wr) (fun i _ => n - (intOf i).toNat)
  case atStart => exact ⟨0, Nat.zero_le _, rfl, H0.out, hb0.out⟩
  case round =>
    clear H0
    obtain ⟨k, hk, rfl, hC, hB⟩ := hrel
    have HC := Lib.hid hC; clear hC
    have HB := Lib.hid hB; clear hB
    by_cases hlt : k < n
    · obtain ⟨x, hx⟩ : ∃ x, ads[k]? = some x := ⟨ads[k]'(by rw [HC.out.si.len, clearTo_len, hn.out]; exact hlt), by simp [HC.out.si.len, clearTo_len, hn.out, hlt]⟩
      obtain ⟨xb, xc⟩ := x
      have HX := Lib.hid hx; clear hx
      have hget := clearTo_get (own := own) (p := p) (c := c) (dv := dv) (k := k) (i := k) (show k < M.length by rw [hn.out]; exact hlt)
      by_cases hkp : k = p
      · subst hkp
        rw [if_pos rfl] at hget
        have hcell := (HC.out.si.row k (xb, xc) own HX.out hget).1
        have HSK : Hid (clearTo M own k c dv (k + 1) = clearTo M own k c dv k) := clearTo_skip
        dsimp only at hcell
        clear hget
        go_wp2
        go_roundw
        case rel => exact ⟨k + 1, by omega, by go_num, by rw [HSK.out]; exact HC.out, HB.out⟩
        case measure => simp [intOf]; omega
      · rw [if_neg hkp, if_neg (by omega)] at hget
        obtain ⟨row, hrow⟩ : ∃ row, rowL M k = row := ⟨_, rfl⟩
        have HSU : Hid ((clearTo M own p c dv k).set k (combL next (gt row c) dv own row) = clearTo M own p c dv (k + 1)) := by show _ = _; rw [← hnext, ← hrow]; exact clearTo_succ (by rw [hn.out]; exact hlt) hkp
        have hrlen : row.length = own.length := by
          apply hrl.out
          rw [← hrow]; unfold rowL
          rw [List.getElem?_eq_getElem (show k < M.length by rw [hn.out]; exact hlt), Option.getD_some]
          exact List.getElem_mem _
        rw [hrow] at hget
        have HGET := Lib.hid hget; clear hget
        have hcell := (HC.out.si.row k (xb, xc) row HX.out HGET.out).1
        dsimp only at hcell
        obtain ⟨times, ht⟩ : ∃ t, gt row c = t := ⟨_, rfl⟩
        have hct := (OwnI.cell (HC.out.si.row k (xb, xc) row HX.out HGET.out).2 (j := c) (by omega)).1
        have hct2 : wr.cell? ⟨xb, c, none⟩ = some (.int .i64 times) := by rw [← ht]; exact hct
        have ccb := HC.out.cb
        rw [ht] at HSU
        have HXA := Lib.hid (HAP.out k (xb, xc) HX.out)
        have HBO : Hid (bo ≠ xb) := by show bo ≠ xb; exact HC.out.si.apart p k (bo, co) (xb, xc) hap.out HX.out (fun e => hkp e.symm)
        have HPG : Hid ((clearTo M own p c dv k)[p]? = some own) := by show _ = _; rw [clearTo_get (show p < M.length by rw [hn.out]; exact hp), if_pos rfl]
        have HS0 : Hid (CW base B Cb g n cap cols pv dv c pz ads ((clearTo M own p c dv k).set k (combTo next times dv own row 0)) wr) := by
          show CW _ _ _ _ _ _ _ _ _ _ _ _ _ _
          rw [combTo_zero]
          have : (clearTo M own p c dv k).set k row = clearTo M own p c dv k := by
            have e := List.getElem?_eq_some_iff.1 HGET.out
            conv => lhs; rw [← e.2]
            exact List.set_getElem_self e.1
          rw [this]; exact HC.out
        clear hct hrow ht
        have hcr : c < row.length := by omega
        go_wp2
        clear hcell hct2 ccb
        go_loopw [95] (fun j wq => ∃ q : Nat, q ≤ row.length ∧ j = .int .i64 q ∧ CW base B Cb g n cap cols pv dv c pz ads ((clearTo M own p c dv k).set k (combTo next times dv own row q)) wq ∧ Below base w0 wq) (fun j _ => row.length - (intOf j).toNat)
        case atStart => exact ⟨0, Nat.zero_le _, rfl, HS0.out, HB.out⟩
        case round =>
          clear HS0 HC HB
          obtain ⟨q, hq, rfl, hC, hB⟩ := hrel
          have HC := Lib.hid hC; clear hC
          have HB := Lib.hid hB; clear hB
          have hkl : k < (clearTo M own p c dv k).length := by rw [clearTo_len, hn.out]; exact hlt
          have HE2 : Hid (((clearTo M own p c dv k).set k (combTo next times dv own row q))[k]? = some (combTo next times dv own row q)) := List.getElem?_set_self hkl
          by_cases hlq : q < row.length
          · have hro := (HC.out.si.row k (xb, xc) _ HX.out HE2.out).2
            obtain ⟨cx, fx⟩ := OwnI.cell hro (j := q) (by rw [combTo_len]; exact hlq)
            have hvx : (combTo next times dv own row q)[q]?.getD 0 = gt row q := combTo_at _ _ _ _ _ hlq
            rw [hvx] at cx
            have hpo := (HC.out.si.row p (bo, co) own hap.out (by rw [List.getElem?_set_ne hkp]; exact HPG.out)).2
            have co1 := (OwnI.cell hpo (j := q) (by omega)).1
            obtain ⟨nn, hnn⟩ : ∃ x, gt row q = x := ⟨_, rfl⟩
            obtain ⟨oo, hoo⟩ : ∃ x, gt own q = x := ⟨_, rfl⟩
            have co2 : wr.cell? ⟨bo, q, none⟩ = some (.int .i64 oo) := by rw [← hoo]; exact co1
            have c3 := HC.out.bx.c3
            have HN : Hid ((combTo next times dv own row q).set q (combI next times dv nn oo) = combTo next times dv own row (q + 1)) := by show _ = _; rw [← hnn, ← hoo]; exact combTo_succ hlq
            rw [hnn] at cx
            have hq7 : q < own.length := by omega
            have hne1 : bo ≠ xb := HBO.out
            have hne2 : B ≠ xb := fun e => HXA.out.1 e.symm
            have HLR : Hid ((combTo next times dv own row q).length = row.length) := combTo_len _ _ _ _ _ _
            have cx2 : wr.cell? ⟨xb, q, none⟩ = some (.int .i64 nn) := cx
            have fx2 : wr.frozen? ⟨xb, q, none⟩ = false := fx
            have HST := (OwnI.stored hro q (combI next times dv nn oo)).drew
            have hbl := (HC.out.si.out k (xb, xc) HX.out).2
            have HEQ : Hid (wrap64 ((wrap64 (wrap64 (next * nn) - wrap64 (times * oo))).tdiv dv) = combI next times dv nn oo) := by show _ = _; unfold combI; rw [wrap_is, wrap_is, wrap_is, wrap_is]
            have HCN : Hid (CW base B Cb g n cap cols pv dv c pz ads ((clearTo M own p c dv k).set k (combTo next times dv own row (q + 1))) (wr.setCell ⟨xb, q, none⟩ (.int .i64 (combI next times dv nn oo))).drew) := by
              have h := HC.out.row HAP.out (r' := (combTo next times dv own row q).set q (combI next times dv nn oo)) HX.out HE2.out (by rw [List.length_set]) (((OnlyB.refl xb wr).setCell q (.int .i64 (combI next times dv nn oo))).drew) HST
              rw [List.set_set, HN.out] at h
              exact h
            have HBN : Hid (Below base w0 (wr.setCell ⟨xb, q, none⟩ (.int .i64 (combI next times dv nn oo))).drew) := (HB.out.setCell (p := ⟨xb, q, none⟩) hbl _).drew
            clear hro hpo co1 hvx hnn hoo cx fx HST hbl
            go_wp2
            go_region_held_law (fun w' => w'.cell? ⟨bo, q, none⟩ = some (.int .i64 oo) ∧ w'.cell? ⟨B, 3, none⟩ = some (.int .i64 dv)) (first | exact ⟨by assumption, by assumption⟩ | exact ⟨(cell_other _ _ _ _ hne1).trans (by assumption), (cell_other _ _ _ _ hne2).trans (by assumption)⟩ | go_keep) (fail)
            all_goals
              go_wp2
              go_roundw
              case rel =>
                (try rw [HEQ.out])
                exact ⟨q + 1, by omega, by go_num, HCN.out, HBN.out⟩
              case measure => simp [intOf]; omega
          · obtain rfl : q = row.length := by omega
            have HCE : Hid (CW base B Cb g n cap cols pv dv c pz ads (clearTo M own p c dv (k + 1)) wr) := by show CW _ _ _ _ _ _ _ _ _ _ _ _ _ _; rw [← HSU.out]; exact HC.out
            go_wp2
            go_roundw
            case rel => exact ⟨k + 1, by omega, by go_num, HCE.out, HB.out⟩
            case measure => simp [intOf]; omega
    · obtain rfl : k = n := by omega
      go_wp2
      have HK1 := HK.out
      refine HK1 _ _ ?_
      have hRR := hR.out
      rw [HNX.out] at hRR
      exact hRR _ HC.out HB.out _ _ _ _ _ _ _ _ _ _ _ _ _ _ _ _ _ _ _ _ _ _ _ _ _ _ _ _ _ _ _ _ _ _ _ _ _ _ _ _ _ _ _ _ _ _ _ _ _ _ _ _ _ _ _ _ _ _ _ _ _ _ _ _ _ _ _ _ _ _ _ _ _ _ _ _ _ _ _ _ _ _ _ _ _ _ _ _ _ _ _ _ _ _ _ _ _ _ _ _ _ _ _ _ _ _ _ _ _ _ _ _ _ _ _ _ _ _ _ _ _ _ _ _ _ _ _ _ _
end Go.Proofs.YtgbnfhfkehpfaaaGreat
/- The end of clear: the pivot and the divisor laid; the rows swapped and turned: parts of a contract. -/
namespace Go.Proofs.YtgbnfhfkehpfaaaGreat
open Go.RowKit

theorem step_pushA {ops : Array Oper} {o : Oper} {a : Act} {K : Act → World → Prop} {Q : Exit → Act → World → Prop} {E : Prop} (hgd : o.guard = none) (s x : Operand)
    (ho : o.op = .call { callee := .builtin .append, args := #[s, x], argTypes := #[22, 22] }) (base : Nat) (v : Value) (zs : List Int) (y : Int) (W : World) (A : Nat)
    (hs : a.eval s = v) (hx : a.eval x = .slice (some ⟨A, 0, none⟩) 1 1) (hnew : W.cell? ⟨A, 0, none⟩ = some (.int .i64 y)) (hown : OwnI W base v zs) (hl : zs.length ≤ 100000) (hbase : base ≤ W.heap.size)
    (h : ∀ g cap w', OwnI w' base (.slice (some ⟨g, 0, none⟩) (zs.length + 1) cap) (zs ++ [y]) → W.grownBy w' v.ownBlock → (v.ownBlock = some g ∨ g = W.heap.size) → K (a.put o.dst (.slice (some ⟨g, 0, none⟩) (zs.length + 1) cap)) w') : if Region.wanted o (yielded ops a.tmps) = true then Oper.wp Tryz.prog o a W K Q else E := by
  obtain ⟨i0, hi, hz0, hz1, hz2⟩ := info_parts Tryz.infoInt
  refine step_append_lies W hgd s x 22 ho base 3 i0 (.int .i64 0) 1 8 Tryz.underlying22 hi hz0 hz1 hz2 rfl (by decide) v zs.length (zs.map (Value.int .i64)) hs hown ⟨A, 0, none⟩ 1 1 [.int .i64 y] hx rfl ?_ ?_ (by decide) (by unfold maxLen; omega) (by omega) hbase W.heap.size rfl ?_
  · intro j u hj
    match j, hj with
    | 0, hj =>
      simp at hj; subst hj
      rw [addr_add]; exact hnew
    | j + 1, hj => simp at hj
  · intro u hu; simp at hu; subst hu; rfl
  · intro g cap w' h1 h2 h3 _
    refine h g cap w' ?_ h2 h3
    show w'.ownsRow _ _ _ _ _ _
    simpa using h1
theorem SI.same {w w' : World} {base g : Nat} {ads : List (Nat × Nat)} {M : List (List Int)} (h : SI w base g ads M) (hg : w'.heap[g]? = w.heap[g]?) (hr : ∀ (i : Nat) (x : Nat × Nat), ads[i]? = some x → w'.heap[x.1]? = w.heap[x.1]?) : SI w' base g ads M :=
  ⟨h.len, fun i x r e1 e2 => by
    obtain ⟨h1, h2⟩ := h.row i x r e1 e2
    exact ⟨(World.cell?_of_block hg).trans h1, h2.sameBlock (hr i x e1)⟩, h.apart, h.out⟩
theorem cell_of_block {w w' : World} {b : Nat} (h : w'.heap[b]? = w.heap[b]?) (o : Nat) : w'.cell? ⟨b, o, none⟩ = w.cell? ⟨b, o, none⟩ := World.cell?_of_block h
theorem frozen_of_block' {w w' : World} {b : Nat} (h : w'.heap[b]? = w.heap[b]?) (o : Nat) : w'.frozen? ⟨b, o, none⟩ = w.frozen? ⟨b, o, none⟩ := frozen_of_block h
structure ClP (base B g n cap : Nat) (cols : Int) (pv : Value) (H : Nat) (next : Int) (pz : List Int) (ads : List (Nat × Nat)) (M : List (List Int)) (w0 w' : World) : Prop where
  ex : ∃ pv', RdB B cols g n cap pv' next w' ∧ OwnI w' base pv' pz ∧ (pv'.ownBlock = pv.ownBlock ∨ ∃ G, pv'.ownBlock = some G ∧ H ≤ G)
  si : SI w' base g ads M
  below : Below base w0 w'
  fg : ∀ k, w'.frozen? ⟨g, k, none⟩ = false
theorem ClP.drew {base B g n cap : Nat} {cols : Int} {pv : Value} {H : Nat} {next : Int} {pz : List Int} {ads : List (Nat × Nat)} {M : List (List Int)} {w0 w' : World} (h : ClP base B g n cap cols pv H next pz ads M w0 w') : ClP base B g n cap cols pv H next pz ads M w0 w'.drew := by
  obtain ⟨⟨pv', ⟨c0, c1, c2, c3, f1, f2, f3⟩, ho, hx⟩, hs, hb, hf⟩ := h
  exact ⟨⟨pv', ⟨c0, c1, c2, c3, f1, f2, f3⟩, ho, hx⟩, ⟨hs.len, hs.row, hs.apart, hs.out⟩, hb.drew, hf⟩
theorem setB {w : World} {B : Nat} {cols : Int} {g n cap : Nat} {pv pv' : Value} {dv next : Int} (h : RdB B cols g n cap pv dv w) : RdB B cols g n cap pv' next ((w.setCell ⟨B, 2, none⟩ pv').setCell ⟨B, 3, none⟩ (.int .i64 next)) := by
  obtain ⟨c0, c1, c2, c3, f1, f2, f3⟩ := h
  refine ⟨?_, ?_, ?_, ?_, ?_, ?_, ?_⟩ <;> go_simp
theorem clP_done {base B Cb g n cap : Nat} {cols : Int} {pv : Value} {dv next : Int} {c : Nat} {pz : List Int} {ads : List (Nat × Nat)} {M : List (List Int)} {w w0 w9 : World} {o : Obj} {G cp : Nat}
    (HAP : Apt B Cb pv ads) (hBb : base ≤ B) (hg : g ≠ B ∧ g < w.heap.size ∧ B < w.heap.size ∧ pv.ownBlock ≠ some B ∧ pv.ownBlock ≠ some g) (hr : ∀ (i : Nat) (x : Nat × Nat), ads[i]? = some x → x.1 < w.heap.size)
    (h : CW base B Cb g n cap cols pv dv c pz ads M w) (hb0 : Below base w0 w)
    (ho' : OwnI w9 base (.slice (some ⟨G, 0, none⟩) (pz.length + 1) cp) (pz ++ [(c : Int)])) (hg' : (w.alloc o).drew.grownBy w9 pv.ownBlock) (hat : pv.ownBlock = some G ∨ G = (w.alloc o).drew.heap.size) :
    ClP base B g n cap cols pv w.heap.size next (pz ++ [(c : Int)]) ads M w0 ((w9.setCell ⟨B, 2, none⟩ (.slice (some ⟨G, 0, none⟩) (pz.length + 1) cp)).setCell ⟨B, 3, none⟩ (.int .i64 next)) := by
  have hsz : (w.alloc o).drew.heap.size = w.heap.size + 1 := World.size_alloc _ _
  have hal : ∀ k, k < w.heap.size → (w.alloc o).drew.heap[k]? = w.heap[k]? := fun k hk => (((Below.refl w.heap.size w).alloc (Nat.le_refl _) o).drew).block k hk
  have hw9 : ∀ k, k < w.heap.size → some k ≠ pv.ownBlock → w9.heap[k]? = w.heap[k]? := fun k hk hn => (hg'.block k (by rw [hsz]; omega) hn).trans (hal k hk)
  have hset : ∀ (W : World) (a b : Value) k, k ≠ B → ((W.setCell ⟨B, 2, none⟩ a).setCell ⟨B, 3, none⟩ b).heap[k]? = W.heap[k]? := fun W a b k hk => (Below.heap_setCell _ ⟨B, 3, none⟩ b k hk).trans (Below.heap_setCell W ⟨B, 2, none⟩ a k hk)
  have hGB : G ≠ B := by
    rcases hat with e | e
    · intro e2; rw [e2] at e; exact hg.2.2.2.1 e
    · rw [hsz] at e; omega
  refine ⟨⟨_, setB (h.bx.kept (hw9 B hg.2.2.1 (fun e => hg.2.2.2.1 e.symm))), ho'.sameBlock (hset _ _ _ G hGB), ?_⟩, ?_, ?_, fun k => (frozen_of_block ((hset _ _ _ g hg.1).trans (hw9 g hg.2.1 (fun e => hg.2.2.2.2 e.symm)))).trans (h.fg k)⟩
  · rcases hat with e | e
    · exact .inl (by rw [e]; rfl)
    · exact .inr ⟨G, rfl, by rw [hsz] at e; omega⟩
  · refine h.si.same ((hset _ _ _ g hg.1).trans (hw9 g hg.2.1 (fun e => hg.2.2.2.2 e.symm))) fun i x e => ?_
    obtain ⟨a1, _, a3⟩ := HAP i x e
    exact (hset _ _ _ x.1 a1).trans (hw9 x.1 (hr i x e) (fun e2 => a3 x.1 e2.symm rfl))
  · refine (((hb0.alloc (by have := hg.2.2.1; omega) o).drew.grown hg' (by rw [hsz]; have := hg.2.2.1; omega) (fun k e => ?_)).setCell (p := ⟨B, 2, none⟩) hBb _).setCell (p := ⟨B, 3, none⟩) hBb _
    exact (World.ownsRow.lt h.pi k e).1
set_option maxRecDepth 100000 in
set_option maxHeartbeats 3200000 in
theorem clear_t9 {base B Cb g n cap : Nat} {cols : Int} {pv : Value} {dv next : Int} {c p bo co on : Nat} {pz : List Int} {ads : List (Nat × Nat)} {M : List (List Int)} {w w0 : World}
    (HAP : Hid (Apt B Cb pv ads)) (hBb : base ≤ B) (hg : Hid (g ≠ B ∧ g < w.heap.size ∧ B < w.heap.size ∧ pv.ownBlock ≠ some B ∧ pv.ownBlock ≠ some g)) (hr : Hid (∀ (i : Nat) (x : Nat × Nat), ads[i]? = some x → x.1 < w.heap.size)) (hpz : pz.length ≤ 100)
    (h : Hid (CW base B Cb g n cap cols pv dv c pz ads M w)) (hb0 : Hid (Below base w0 w)) (u1 u2 u5 u8 u9 u10 u11 u12 u13 u14 u15 u16 u17 u18 u19 u20 u21 u22 u23 u24 u25 u26 u27 u28 u29 u30 u31 u32 u33 u34 u35 u36 u37 u38 u39 u40 u41 u42 u43 u44 u45 u46 u47 u48 u49 u50 u51 u52 u53 u54 u55 u56 u57 u58 u59 u60 u61 u62 u63 u64 u65 u66 u67 u68 u69 u70 u71 u72 u73 u74 u75 u76 u77 u78 u79 u80 u81 u82 u83 u84 u85 u86 u87 u88 u89 u90 u91 u92 u93 u94 u95 u96 u97 u98 u99 u100 u101 u102 u103 u104 u105 u106 u107 u108 u109 u110 u111 u112 u113 u114 u115 u116 u117 u118 u119 u120 u121 u122 u123 u124 u125 u126 u127 u128 u129 u130 u131 u132 u133 : Value) :
    Code.wp Tryz.prog (seqTail 9 ((Tryz.f95.body).getD .skip)) (bodyPost Tryz.prog Tryz.f95 fun e w' => e = .returned (.tuple #[]) ∧ ClP base B g n cap cols pv w.heap.size next (pz ++ [(c : Int)]) ads M w0 w') { tmps := #[.pointer (some ⟨B, 0, none⟩), u1, u2, .pointer (some ⟨Cb, 0, none⟩), .int .i64 (p : Nat), u5, .slice (some ⟨bo, 0, none⟩) on co, .int .i64 next, u8, u9, u10, u11, u12, u13, u14, u15, u16, u17, u18, u19, u20, u21, u22, u23, u24, u25, u26, u27, u28, u29, u30, u31, u32, u33, u34, u35, u36, u37, u38, u39, u40, u41, u42, u43, u44, u45, u46, u47, u48, u49, u50, u51, u52, u53, u54, u55, u56, u57, u58, u59, u60, u61, u62, u63, u64, u65, u66, u67, u68, u69, u70, u71, u72, u73, u74, u75, u76, u77, u78, u79, u80, u81, u82, u83, u84, u85, u86, u87, u88, u89, u90, u91, u92, u93, u94, u95, u96, u97, u98, u99, u100, u101, u102, u103, u104, u105, u106, u107, u108, u109, u110, u111, u112, u113, u114, u115, u116, u117, u118, u119, u120, u121, u122, u123, u124, u125, u126, u127, u128, u129, u130, u131, u132, u133], defers := [] } w := by
  conv => arg 2; whnf
  obtain ⟨bx, cb, si, pi, _⟩ := h.out
  have c2 := bx.c2
  have c3 := bx.c3
  have f2 := bx.f2
  have f3 := bx.f3
  have HPI := Lib.hid pi
  have HSI := Lib.hid si
  have HBX := Lib.hid bx
  have hbw : base ≤ w.heap.size := by have := hg.out; omega
  have lB : B < w.heap.size := hg.out.2.2.1
  clear bx si pi
  go_wp2
  go_region_law (refine step_pushA rfl (.tmp 125) (.tmp 127) rfl base pv pz (c : Int) _ w.heap.size (by rfl) (by rfl) (by go_simp) (HPI.out.below (((Below.refl w.heap.size w).alloc (Nat.le_refl _) _).drew)) (by omega) (by simp; omega) ?_; intro G cp w9 ho' hg' hat; have hk9 := (hg'.block B (by simp; omega) (fun e => hg.out.2.2.2.1 e.symm)).trans (((Below.refl w.heap.size w).alloc (Nat.le_refl _) (.cells #[.int .i64 (c : Int)] 3)).drew.block B lB); have c29 := (cell_of_block hk9 2).trans c2; have c39 := (cell_of_block hk9 3).trans c3; have f29 := (frozen_of_block' hk9 2).trans f2; have f39 := (frozen_of_block' hk9 3).trans f3)
  all_goals
    go_end0
    first
      | exact ⟨rfl, clP_done HAP.out hBb hg.out hr.out h.out hb0.out ho' hg' hat⟩
      | exact ⟨rfl, (clP_done HAP.out hBb hg.out hr.out h.out hb0.out ho' hg' hat).drew⟩
end Go.Proofs.YtgbnfhfkehpfaaaGreat
/- clear behind the swap: the row of the pivot turned, and the others behind its multiples: parts of a contract. -/
namespace Go.Proofs.YtgbnfhfkehpfaaaGreat
open Go.RowKit

theorem ClP.mono {base B g n cap : Nat} {cols : Int} {pv : Value} {H H' : Nat} {next : Int} {pz : List Int} {ads : List (Nat × Nat)} {M : List (List Int)} {w0 w' : World} (h : ClP base B g n cap cols pv H next pz ads M w0 w') (hh : H' ≤ H) : ClP base B g n cap cols pv H' next pz ads M w0 w' := by
  obtain ⟨⟨pv', hb, ho, hx⟩, hs, hbl, hf⟩ := h
  refine ⟨⟨pv', hb, ho, ?_⟩, hs, hbl, hf⟩
  rcases hx with e | ⟨G, e, hG⟩
  · exact .inl e
  · exact .inr ⟨G, e, Nat.le_trans hh hG⟩
theorem bodyPost_mono {P : Program} {fn : Func} {R R' : Ending → World → Prop} {e : Exit} {a : Act} {w : World} (h : bodyPost P fn R e a w) (k : ∀ e w, R e w → R' e w) : bodyPost P fn R' e a w := by
  cases e with
  | normal => obtain ⟨d, v, hr, hR⟩ := h; exact ⟨d, v, hr, k _ _ hR⟩
  | ret => obtain ⟨d, v, hr, hR⟩ := h; exact ⟨d, v, hr, k _ _ hR⟩
  | panic c => obtain ⟨d, hR⟩ := h; exact ⟨d, k _ _ hR⟩
  | outgrown => exact k _ _ h
  | _ => exact h.elim
set_option maxRecDepth 100000 in
set_option maxHeartbeats 3200000 in
theorem clear_t5 {base B Cb g n cap : Nat} {cols : Int} {pv : Value} {dv : Int} {c p bo co : Nat} {pz own0 : List Int} {ads : List (Nat × Nat)} {M : List (List Int)} {w w0 : World}
    (HAP : Hid (Apt B Cb pv ads)) (hBb : base ≤ B) (hg : Hid (g ≠ B ∧ pv.ownBlock ≠ some B ∧ pv.ownBlock ≠ some g)) (hn : Hid (M.length = n)) (hn6 : n ≤ 100) (hrl : Hid (∀ r ∈ M, r.length = own0.length)) (hN : own0.length ≤ 100) (HC2 : Hid (c < own0.length)) (hp : p < n)
    (hop : Hid (M[p]? = some own0)) (hap : Hid (ads[p]? = some (bo, co))) (hdv : dv ≠ 0) (hpz : pz.length ≤ 100)
    (h : Hid (CW base B Cb g n cap cols pv dv c pz ads M w)) (hb0 : Hid (Below base w0 w)) (u1 u2 u5 u6 u7 u8 u9 u10 u11 u12 u13 u14 u15 u16 u17 u18 u19 u20 u21 u22 u23 u24 u25 u26 u27 u28 u29 u30 u31 u32 u33 u34 u35 u36 u37 u38 u39 u40 u41 u42 u43 u44 u45 u46 u47 u48 u49 u50 u51 u52 u53 u54 u55 u56 u57 u58 u59 u60 u61 u62 u63 u64 u65 u66 u67 u68 u69 u70 u71 u72 u73 u74 u75 u76 u77 u78 u79 u80 u81 u82 u83 u84 u85 u86 u87 u88 u89 u90 u91 u92 u93 u94 u95 u96 u97 u98 u99 u100 u101 u102 u103 u104 u105 u106 u107 u108 u109 u110 u111 u112 u113 u114 u115 u116 u117 u118 u119 u120 u121 u122 u123 u124 u125 u126 u127 u128 u129 u130 u131 u132 u133 : Value) :
    Code.wp Tryz.prog (seqTail 5 ((Tryz.f95.body).getD .skip)) (bodyPost Tryz.prog Tryz.f95 fun e w' => e = .returned (.tuple #[]) ∧ ClP base B g n cap cols pv w0.heap.size (gt (ownR own0 c) c) (pz ++ [(c : Int)]) ads (clearTo (M.set p (ownR own0 c)) (ownR own0 c) p c dv n) w0 w') { tmps := #[.pointer (some ⟨B, 0, none⟩), u1, u2, .pointer (some ⟨Cb, 0, none⟩), .int .i64 (p : Nat), u5, u6, u7, u8, u9, u10, u11, u12, u13, u14, u15, u16, u17, u18, u19, u20, u21, u22, u23, u24, u25, u26, u27, u28, u29, u30, u31, u32, u33, u34, u35, u36, u37, u38, u39, u40, u41, u42, u43, u44, u45, u46, u47, u48, u49, u50, u51, u52, u53, u54, u55, u56, u57, u58, u59, u60, u61, u62, u63, u64, u65, u66, u67, u68, u69, u70, u71, u72, u73, u74, u75, u76, u77, u78, u79, u80, u81, u82, u83, u84, u85, u86, u87, u88, u89, u90, u91, u92, u93, u94, u95, u96, u97, u98, u99, u100, u101, u102, u103, u104, u105, u106, u107, u108, u109, u110, u111, u112, u113, u114, u115, u116, u117, u118, u119, u120, u121, u122, u123, u124, u125, u126, u127, u128, u129, u130, u131, u132, u133], defers := [] } w := by
  conv => arg 2; whnf
  have c1 := h.out.bx.c1
  have ccb := h.out.cb
  obtain ⟨hhd, hown⟩ := h.out.si.row p (bo, co) own0 hap.out hop.out
  have HOWN := Lib.hid hown
  dsimp only at hhd
  have hct := (OwnI.cell hown (j := c) HC2.out).1
  obtain ⟨x, hx⟩ : ∃ x, gt own0 c = x := ⟨_, rfl⟩
  have hcx : w.cell? ⟨bo, c, none⟩ = some (.int .i64 x) := by rw [← hx]; exact hct
  have hc0 := HC2.out
  clear hct hown
  have hbx := h.out.bx
  refine wp_seq_k (fun K hK => ?_)
  have HK := Lib.hid hK; clear hK
  go_wp2
  have HK1 := HK.out
  refine HK1 _ _ ?_
  clear HK1 HK K
  refine wp_seq_k (fun K hK => ?_)
  have HK := Lib.hid hK; clear hK
  have hmem : ∀ r ∈ M.set p (ownR own0 c), r.length = own0.length := fun r hr => by
    rcases List.mem_or_eq_of_mem_set hr with e | e
    · exact hrl.out r e
    · rw [e]; unfold ownR; split
      · simp [negL]
      · rfl
  have HMEM := Lib.hid hmem; clear hmem
  have HN2 : Hid ((M.set p (ownR own0 c)).length = n) := by show _ = _; rw [List.length_set]; exact hn.out
  have HOP2 : Hid ((M.set p (ownR own0 c))[p]? = some (ownR own0 c)) := List.getElem?_set_self (by rw [hn.out]; exact hp)
  have HOL : Hid ((ownR own0 c).length = own0.length) := by
    show _ = _; unfold ownR; split
    · simp [negL]
    · rfl
  have HRL2 : Hid (∀ r ∈ M.set p (ownR own0 c), r.length = (ownR own0 c).length) := fun r hr => by rw [HOL.out]; exact HMEM.out r hr
  have HC3 : c < (ownR own0 c).length := by rw [HOL.out]; exact HC2.out
  by_cases hneg : x < 0
  · have HOWR : Hid (ownR own0 c = negL own0) := by show _ = _; unfold ownR; rw [if_pos (by rw [hx]; exact hneg)]
    go_wp2_with fail
    refine (turn_any base bo co own0 w (by omega) HOWN.out).mono ?_
    rintro e w1 ⟨rfl, hob, hbl, hown⟩
    have HCW2 : Hid (CW base B Cb g n cap cols pv dv c pz ads (M.set p (ownR own0 c)) w1) := by
      show CW _ _ _ _ _ _ _ _ _ _ _ _ _ _
      rw [HOWR.out]
      exact h.out.row HAP.out hap.out hop.out (by simp [negL]) hob hown
    have HB2 : Hid (Below base w0 w1) := hb0.out.trans hbl
    obtain ⟨y, hy⟩ : ∃ y, gt (ownR own0 c) c = y := ⟨_, rfl⟩
    have hcy : w1.cell? ⟨bo, c, none⟩ = some (.int .i64 y) := by
      rw [← hy]
      exact (OwnI.cell (HCW2.out.si.row p (bo, co) _ hap.out HOP2.out).2 (j := c) HC3).1
    have ccb2 := HCW2.out.cb
    clear hob hbl hown hcx ccb hhd c1 hbx
    go_wp2
    have HK1 := HK.out
    refine HK1 _ _ ?_
    clear HK1 HK K
    refine wp_seq_k (fun K hK => ?_)
    have HK := Lib.hid hK; clear hK
    go_wp2
    have HK1 := HK.out
    refine HK1 _ _ ?_
    clear HK1 HK K
    obtain ⟨own, how⟩ : ∃ own, ownR own0 c = own := ⟨_, rfl⟩
    rw [how] at hy HN2 HOP2 HOL HRL2 HC3 HCW2
    rw [how]
    have hol : own0.length = own.length := HOL.out.symm
    rw [hol]
    subst hy
    refine clear_t8 (own := own) (M := M.set p own) HAP HN2 hn6 HRL2 (by omega) HC3 hp HOP2 hap hdv HCW2 HB2 _ _ _ _ _ _ _ _ _ _ _ _ _ _ _ _ _ _ _ _ _ _ _ _ _ _ _ _ _ _ _ _ _ _ _ _ _ _ _ _ _ _ _ _ _ _ _ _ _ _ _ _ _ _ _ _ _ _ _ _ _ _ _ _ _ _ _ _ _ _ _ _ _ _ _ _ _ _ _ _ _ _ _ _ _ _ _ _ _ _ _ _ _ _ _ _ _ _ _ _ _ _ _ _ _ _ _ _ _ _ _ _ _ _ _ _ _ _ _ _ _ _ _ _ _ _ _ _ _ _ ?_
    show _
    intro w' hcw hbl u1 u2 u5 u8 u9 u10 u11 u12 u13 u14 u15 u16 u17 u18 u19 u20 u21 u22 u23 u24 u25 u26 u27 u28 u29 u30 u31 u32 u33 u34 u35 u36 u37 u38 u39 u40 u41 u42 u43 u44 u45 u46 u47 u48 u49 u50 u51 u52 u53 u54 u55 u56 u57 u58 u59 u60 u61 u62 u63 u64 u65 u66 u67 u68 u69 u70 u71 u72 u73 u74 u75 u76 u77 u78 u79 u80 u81 u82 u83 u84 u85 u86 u87 u88 u89 u90 u91 u92 u93 u94 u95 u96 u97 u98 u99 u100 u101 u102 u103 u104 u105 u106 u107 u108 u109 u110 u111 u112 u113 u114 u115 u116 u117 u118 u119 u120 u121 u122 u123 u124 u125 u126 u127 u128 u129 u130 u131 u132 u133
    have hrr : ∀ (i : Nat) (x : Nat × Nat), ads[i]? = some x → x.1 < w'.heap.size := fun i x e => by
      have hi : i < (clearTo (M.set p own) own p c dv n).length := by rw [← hcw.si.len]; exact (List.getElem?_eq_some_iff.1 e).1
      exact (OwnI.lt (hcw.si.row i x _ e (List.getElem?_eq_getElem hi)).2).1
    have hgl : g < w'.heap.size := by
      have hi : p < (clearTo (M.set p own) own p c dv n).length := by rw [clearTo_len, HN2.out]; exact hp
      exact cell_lt (hcw.si.row p (bo, co) _ hap.out (List.getElem?_eq_getElem hi)).1
    have t := clear_t9 (w0 := w0) (next := gt own c) (p := p) (bo := bo) (co := co) (on := own.length) HAP hBb (Lib.hid ⟨hg.out.1, hgl, cell_lt hcw.bx.c0, hg.out.2.1, hg.out.2.2⟩) (Lib.hid hrr) hpz (Lib.hid hcw) (Lib.hid hbl) u1 u2 u5 u8 u9 u10 u11 u12 u13 u14 u15 u16 u17 u18 u19 u20 u21 u22 u23 u24 u25 u26 u27 u28 u29 u30 u31 u32 u33 u34 u35 u36 u37 u38 u39 u40 u41 u42 u43 u44 u45 u46 u47 u48 u49 u50 u51 u52 u53 u54 u55 u56 u57 u58 u59 u60 u61 u62 u63 u64 u65 u66 u67 u68 u69 u70 u71 u72 u73 u74 u75 u76 u77 u78 u79 u80 u81 u82 u83 u84 u85 u86 u87 u88 u89 u90 u91 u92 u93 u94 u95 u96 u97 u98 u99 u100 u101 u102 u103 u104 u105 u106 u107 u108 u109 u110 u111 u112 u113 u114 u115 u116 u117 u118 u119 u120 u121 u122 u123 u124 u125 u126 u127 u128 u129 u130 u131 u132 u133
    exact wp_mono t fun e a W hq => bodyPost_mono hq fun e2 W2 h2 => ⟨h2.1, h2.2.mono hbl.size⟩
  · have HOWR : Hid (ownR own0 c = own0) := by show _ = _; unfold ownR; rw [if_neg (by rw [hx]; exact hneg)]
    have hse : M.set p own0 = M := by
      have e := List.getElem?_eq_some_iff.1 hop.out
      conv => lhs; rw [← e.2]
      exact List.set_getElem_self e.1
    have HCW2 : Hid (CW base B Cb g n cap cols pv dv c pz ads (M.set p (ownR own0 c)) w) := by
      show CW _ _ _ _ _ _ _ _ _ _ _ _ _ _
      rw [HOWR.out, hse]; exact h.out
    have HB2 := hb0
    have hy : gt (ownR own0 c) c = x := by rw [HOWR.out]; exact hx
    clear hse hhd c1 hbx
    go_wp2
    have HK1 := HK.out
    refine HK1 _ _ ?_
    clear HK1 HK K
    refine wp_seq_k (fun K hK => ?_)
    have HK := Lib.hid hK; clear hK
    go_wp2
    have HK1 := HK.out
    refine HK1 _ _ ?_
    clear HK1 HK K
    obtain ⟨own, how⟩ : ∃ own, ownR own0 c = own := ⟨_, rfl⟩
    rw [how] at hy HN2 HOP2 HOL HRL2 HC3 HCW2
    rw [how]
    have hol : own0.length = own.length := HOL.out.symm
    rw [hol]
    subst hy
    refine clear_t8 (own := own) (M := M.set p own) HAP HN2 hn6 HRL2 (by omega) HC3 hp HOP2 hap hdv HCW2 HB2 _ _ _ _ _ _ _ _ _ _ _ _ _ _ _ _ _ _ _ _ _ _ _ _ _ _ _ _ _ _ _ _ _ _ _ _ _ _ _ _ _ _ _ _ _ _ _ _ _ _ _ _ _ _ _ _ _ _ _ _ _ _ _ _ _ _ _ _ _ _ _ _ _ _ _ _ _ _ _ _ _ _ _ _ _ _ _ _ _ _ _ _ _ _ _ _ _ _ _ _ _ _ _ _ _ _ _ _ _ _ _ _ _ _ _ _ _ _ _ _ _ _ _ _ _ _ _ _ _ _ ?_
    show _
    intro w' hcw hbl u1 u2 u5 u8 u9 u10 u11 u12 u13 u14 u15 u16 u17 u18 u19 u20 u21 u22 u23 u24 u25 u26 u27 u28 u29 u30 u31 u32 u33 u34 u35 u36 u37 u38 u39 u40 u41 u42 u43 u44 u45 u46 u47 u48 u49 u50 u51 u52 u53 u54 u55 u56 u57 u58 u59 u60 u61 u62 u63 u64 u65 u66 u67 u68 u69 u70 u71 u72 u73 u74 u75 u76 u77 u78 u79 u80 u81 u82 u83 u84 u85 u86 u87 u88 u89 u90 u91 u92 u93 u94 u95 u96 u97 u98 u99 u100 u101 u102 u103 u104 u105 u106 u107 u108 u109 u110 u111 u112 u113 u114 u115 u116 u117 u118 u119 u120 u121 u122 u123 u124 u125 u126 u127 u128 u129 u130 u131 u132 u133
    have hrr : ∀ (i : Nat) (x : Nat × Nat), ads[i]? = some x → x.1 < w'.heap.size := fun i x e => by
      have hi : i < (clearTo (M.set p own) own p c dv n).length := by rw [← hcw.si.len]; exact (List.getElem?_eq_some_iff.1 e).1
      exact (OwnI.lt (hcw.si.row i x _ e (List.getElem?_eq_getElem hi)).2).1
    have hgl : g < w'.heap.size := by
      have hi : p < (clearTo (M.set p own) own p c dv n).length := by rw [clearTo_len, HN2.out]; exact hp
      exact cell_lt (hcw.si.row p (bo, co) _ hap.out (List.getElem?_eq_getElem hi)).1
    have t := clear_t9 (w0 := w0) (next := gt own c) (p := p) (bo := bo) (co := co) (on := own.length) HAP hBb (Lib.hid ⟨hg.out.1, hgl, cell_lt hcw.bx.c0, hg.out.2.1, hg.out.2.2⟩) (Lib.hid hrr) hpz (Lib.hid hcw) (Lib.hid hbl) u1 u2 u5 u8 u9 u10 u11 u12 u13 u14 u15 u16 u17 u18 u19 u20 u21 u22 u23 u24 u25 u26 u27 u28 u29 u30 u31 u32 u33 u34 u35 u36 u37 u38 u39 u40 u41 u42 u43 u44 u45 u46 u47 u48 u49 u50 u51 u52 u53 u54 u55 u56 u57 u58 u59 u60 u61 u62 u63 u64 u65 u66 u67 u68 u69 u70 u71 u72 u73 u74 u75 u76 u77 u78 u79 u80 u81 u82 u83 u84 u85 u86 u87 u88 u89 u90 u91 u92 u93 u94 u95 u96 u97 u98 u99 u100 u101 u102 u103 u104 u105 u106 u107 u108 u109 u110 u111 u112 u113 u114 u115 u116 u117 u118 u119 u120 u121 u122 u123 u124 u125 u126 u127 u128 u129 u130 u131 u132 u133
    exact wp_mono t fun e a W hq => bodyPost_mono hq fun e2 W2 h2 => ⟨h2.1, h2.2.mono hbl.size⟩
end Go.Proofs.YtgbnfhfkehpfaaaGreat
/- Which row has a number at a column: contracts. -/
namespace Go.Proofs.YtgbnfhfkehpfaaaGreat
open Go.RowKit

theorem clear1_any (Cb : Nat) (b : Nat) (r : List Int) (cap c : Nat) (base : Nat) (w : World) (hc : c < r.length) (hcb : w.cell? ⟨Cb, 0, none⟩ = some (.int .i64 (c : Int))) (ho : OwnI w base (.slice (some ⟨b, 0, none⟩) r.length cap) r) :
    Calls Tryz.prog 111 #[.slice (some ⟨b, 0, none⟩) r.length cap, .pointer (some ⟨Cb, 0, none⟩)] w fun e w' => e = .returned (.bool (decide (gt r c ≠ 0))) ∧ w = w' := by
  have h1 := (OwnI.cell ho (j := c) hc).1
  obtain ⟨x, hx⟩ : ∃ x, gt r c = x := ⟨_, rfl⟩
  have h2 : w.cell? ⟨b, c, none⟩ = some (.int .i64 x) := by rw [← hx]; exact h1
  rw [hx]
  clear h1 ho
  go_enter Tryz.func111, Tryz.ntmps111
  go_wp2
  go_ret
  exact ⟨ret_bool (by by_cases e : x = 0 <;> simp [e]), rfl⟩
def ixV (M : List (List Int)) (c at_ : Nat) : Int := match pivRow M c (M.length - at_) at_ with | some i => (i : Int) - at_ | none => -1
theorem pivRow_skip {M : List (List Int)} {c : Nat} : ∀ (k n i : Nat), k ≤ n → (∀ j, j < k → gt (rowL M (i + j)) c = 0) → pivRow M c n i = pivRow M c (n - k) (i + k)
  | 0, n, i, _, _ => by simp
  | k + 1, n, i, h, hz => by
    obtain ⟨n', rfl⟩ : ∃ n', n = n' + 1 := ⟨n - 1, by omega⟩
    have h0 := hz 0 (by omega)
    rw [Nat.add_zero] at h0
    rw [show pivRow M c (n' + 1) i = pivRow M c n' (i + 1) by conv => lhs; unfold pivRow; rw [if_neg (by omega)]]
    rw [pivRow_skip k n' (i + 1) (by omega) (fun j hj => by have := hz (j + 1) (by omega); rwa [show i + (j + 1) = i + 1 + j by omega] at this)]
    rw [show n' + 1 - (k + 1) = n' - k by omega, show i + 1 + k = i + (k + 1) by omega]
theorem ixV_hit {M : List (List Int)} {c at_ k : Nat} (h : at_ + k < M.length) (hz : ∀ j, j < k → gt (rowL M (at_ + j)) c = 0) (hk : gt (rowL M (at_ + k)) c ≠ 0) : ixV M c at_ = k ∧ pivRow M c (M.length - at_) at_ = some (at_ + k) := by
  have e := pivRow_skip k (M.length - at_) at_ (by omega) hz
  obtain ⟨d, hd⟩ : ∃ d, M.length - at_ - k = d + 1 := ⟨M.length - at_ - k - 1, by omega⟩
  have e2 : pivRow M c (M.length - at_) at_ = some (at_ + k) := by
    rw [e, hd]; unfold pivRow; rw [if_pos hk]
  refine ⟨?_, e2⟩
  unfold ixV; rw [e2]; show ((at_ + k : Nat) : Int) - at_ = k; omega
theorem ixV_miss {M : List (List Int)} {c at_ : Nat} (hz : ∀ j, j < M.length - at_ → gt (rowL M (at_ + j)) c = 0) : ixV M c at_ = -1 ∧ pivRow M c (M.length - at_) at_ = none := by
  have e := pivRow_skip (M.length - at_) (M.length - at_) at_ (Nat.le_refl _) hz
  have e2 : pivRow M c (M.length - at_) at_ = none := by rw [e, Nat.sub_self]; rfl
  refine ⟨?_, e2⟩
  unfold ixV; rw [e2]
set_option maxRecDepth 100000 in
set_option maxHeartbeats 800000 in
theorem indexFunc_any (base Cb g : Nat) (ads : List (Nat × Nat)) (M : List (List Int)) (c at_ k : Nat) (a : Option Addr) (cap N : Nat) (w : World) (hk : at_ + k = M.length) (hn6 : M.length ≤ 100) (ha : 0 < k → a = some ⟨g, at_, none⟩) (hrl : ∀ r ∈ M, r.length = N) (hc : c < N)
    (hcb : w.cell? ⟨Cb, 0, none⟩ = some (.int .i64 (c : Int))) (hs : SI w base g ads M) :
    Calls Tryz.prog 110 #[.slice a k cap, .func (.func 111) #[] #[.pointer (some ⟨Cb, 0, none⟩)]] w fun e w' => e = .returned (.int .i64 (ixV M c at_)) ∧ w = w' := by
  have HS := Lib.hid hs; clear hs
  have HRL := Lib.hid hrl; clear hrl
  have HK := Lib.hid hk
  go_enter Tryz.func110, Tryz.ntmps110
  have hk6 : k ≤ 100 := by omega
  clear hk
  go_wp2
  go_loop [8] (fun i => ∃ j : Nat, j ≤ k ∧ i = .int .i64 j ∧ Hid (∀ q, q < j → gt (rowL M (at_ + q)) c = 0)) (fun i => k - (intOf i).toNat)
  case atStart => exact ⟨0, Nat.zero_le _, rfl, fun q hq => by omega⟩
  case round =>
    obtain ⟨j, hj, rfl, HZ⟩ := hrel
    by_cases hlt : j < k
    · obtain rfl := ha (by omega)
      have hi : at_ + j < M.length := by have := HK.out; omega
      obtain ⟨r, hr⟩ : ∃ r, M[at_ + j]? = some r := ⟨M[at_ + j], by simp [hi]⟩
      obtain ⟨x, hx⟩ : ∃ x, ads[at_ + j]? = some x := ⟨ads[at_ + j]'(by rw [HS.out.len]; exact hi), by simp [HS.out.len, hi]⟩
      obtain ⟨xb, xc⟩ := x
      obtain ⟨h1, h2⟩ := HS.out.row (at_ + j) (xb, xc) r hx hr
      dsimp only at h1 h2
      have HRO := Lib.hid h2; clear h2
      have HLN := Lib.hid (HRL.out r (List.mem_of_getElem? hr))
      have HRW : Hid (gt (rowL M (at_ + j)) c = gt r c) := by show _ = _; rw [rowL_some hr]
      have HI := Lib.hid hi; clear hi hr hx
      go_wp2_with fail
      refine (clear1_any Cb xb r xc c base w (by have := HLN.out; omega) hcb HRO.out).mono ?_
      rintro e w1 ⟨rfl, rfl⟩
      by_cases hz : gt r c = 0
      · rw [show decide (gt r c ≠ 0) = false by simp [hz]]
        have HZ2 : Hid (∀ q, q < j + 1 → gt (rowL M (at_ + q)) c = 0) := fun q hq => by
          by_cases e : q = j
          · rw [e, HRW.out]; exact hz
          · exact HZ.out q (by omega)
        clear hz
        go_wp2
        go_round
        case rel => exact ⟨j + 1, by omega, by go_num, HZ2⟩
        case measure => simp [intOf]; omega
      · rw [show decide (gt r c ≠ 0) = true by simp [hz]]
        have HV := Lib.hid (ixV_hit HI.out HZ.out (by rw [HRW.out]; exact hz))
        clear hz
        go_wp2
        go_ret
        exact ⟨ret_i64 (by rw [HV.out.1]), rfl⟩
    · obtain rfl : j = k := by omega
      have HV := Lib.hid (ixV_miss (M := M) (c := c) (at_ := at_) (fun q hq => HZ.out q (by have := HK.out; omega)))
      go_wp2
      go_ret
      exact ⟨ret_i64 (by rw [HV.out.1]), rfl⟩
end Go.Proofs.YtgbnfhfkehpfaaaGreat
/- clear of layer 3, whole: a contract. -/
namespace Go.Proofs.YtgbnfhfkehpfaaaGreat
open Go.RowKit

def swapA (ads : List (Nat × Nat)) (i j : Nat) : List (Nat × Nat) := (ads.set i (ads[j]?.getD (0, 0))).set j (ads[i]?.getD (0, 0))
theorem swapR_len (M : List (List Int)) (i j : Nat) : (swapR M i j).length = M.length := by simp [swapR]
theorem swapA_len (A : List (Nat × Nat)) (i j : Nat) : (swapA A i j).length = A.length := by simp [swapA]
def swI (i j k : Nat) : Nat := if k = j then i else if k = i then j else k
theorem swapR_get {M : List (List Int)} {i j k : Nat} (hi : i < M.length) (hj : j < M.length) : (swapR M i j)[k]? = M[swI i j k]? := by
  unfold swapR swI rowL
  by_cases e1 : k = j
  · subst e1; rw [List.getElem?_set_self (by rw [List.length_set]; exact hj), if_pos rfl]; simp [hi]
  · rw [List.getElem?_set_ne (fun e => e1 e.symm), if_neg e1]
    by_cases e2 : k = i
    · subst e2; rw [List.getElem?_set_self hi, if_pos rfl]; simp [hj]
    · rw [List.getElem?_set_ne (fun e => e2 e.symm), if_neg e2]
theorem swapA_get {A : List (Nat × Nat)} {i j k : Nat} (hi : i < A.length) (hj : j < A.length) : (swapA A i j)[k]? = A[swI i j k]? := by
  unfold swapA swI
  by_cases e1 : k = j
  · subst e1; rw [List.getElem?_set_self (by rw [List.length_set]; exact hj), if_pos rfl]; simp [hi]
  · rw [List.getElem?_set_ne (fun e => e1 e.symm), if_neg e1]
    by_cases e2 : k = i
    · subst e2; rw [List.getElem?_set_self hi, if_pos rfl]; simp [hj]
    · rw [List.getElem?_set_ne (fun e => e2 e.symm), if_neg e2]
theorem swI_inj {i j a b : Nat} (h : swI i j a = swI i j b) : a = b := by
  unfold swI at h
  split at h <;> split at h <;> (try split at h) <;> (try split at h) <;> omega
theorem SI.swap {w : World} {base g : Nat} {ads : List (Nat × Nat)} {M : List (List Int)} (h : SI w base g ads M) {i j : Nat} {x y : Nat × Nat} {r s : List Int} (ei : ads[i]? = some x) (ej : ads[j]? = some y) (ri : M[i]? = some r) (rj : M[j]? = some s) :
    SI ((w.setCell ⟨g, i, none⟩ (.slice (some ⟨y.1, 0, none⟩) s.length y.2)).setCell ⟨g, j, none⟩ (.slice (some ⟨x.1, 0, none⟩) r.length x.2)) base g (swapA ads i j) (swapR M i j) := by
  have hiA := (List.getElem?_eq_some_iff.1 ei).1
  have hjA := (List.getElem?_eq_some_iff.1 ej).1
  have hiM := (List.getElem?_eq_some_iff.1 ri).1
  have hjM := (List.getElem?_eq_some_iff.1 rj).1
  have same : ∀ b, b ≠ g → ((w.setCell ⟨g, i, none⟩ (.slice (some ⟨y.1, 0, none⟩) s.length y.2)).setCell ⟨g, j, none⟩ (.slice (some ⟨x.1, 0, none⟩) r.length x.2)).heap[b]? = w.heap[b]? := fun b hb =>
    (Below.heap_setCell _ ⟨g, j, none⟩ _ b hb).trans (Below.heap_setCell w ⟨g, i, none⟩ _ b hb)
  have c1 := (h.row i x r ei ri).1
  have c2 := (h.row j y s ej rj).1
  refine ⟨by rw [swapA_len, swapR_len]; exact h.len, fun k z q e1 e2 => ?_, fun a b z z' e1 e2 hab => ?_, fun k z e => ?_⟩
  · rw [swapA_get hiA hjA] at e1
    rw [swapR_get hiM hjM] at e2
    obtain ⟨h1, h2⟩ := h.row _ z q e1 e2
    refine ⟨?_, h2.sameBlock (same _ (h.out _ z e1).1)⟩
    by_cases ej' : k = j
    · subst ej'
      rw [show swI i k k = i by unfold swI; rw [if_pos rfl]] at e1 e2
      rw [ei] at e1; rw [ri] at e2
      obtain rfl : x = z := by simpa using e1
      obtain rfl : r = q := by simpa using e2
      by_cases eik : i = k
      · subst eik; go_simp
      · have hne1 : ¬ (k = i) := fun e => eik e.symm
        go_simp
    · by_cases ei' : k = i
      · subst ei'
        rw [show swI k j k = j by unfold swI; rw [if_neg ej', if_pos rfl]] at e1 e2
        rw [ej] at e1; rw [rj] at e2
        obtain rfl : y = z := by simpa using e1
        obtain rfl : s = q := by simpa using e2
        have hne : ¬ (j = k) := fun e => ej' e.symm
        go_simp
      · rw [show swI i j k = k by unfold swI; rw [if_neg ej', if_neg ei']] at h1
        have hne1 : ¬ (j = k) := fun e => ej' e.symm
        have hne2 : ¬ (i = k) := fun e => ei' e.symm
        go_simp
  · rw [swapA_get hiA hjA] at e1 e2
    exact h.apart _ _ z z' e1 e2 (fun e => hab (swI_inj e))
  · rw [swapA_get hiA hjA] at e
    exact h.out _ z e
end Go.Proofs.YtgbnfhfkehpfaaaGreat
/- A region that draws its order, within a round of a range over a function: what holds of it in a plain frame holds there, if it defers nothing. By the fenced twin's own laws, at the widest fence. -/
namespace Go.Proofs.YtgbnfhfkehpfaaaGreat
open Go.RowKit
section
variable {P : Program} {ops : Array Oper} {Q : Exit → Act → World → Prop} {md : Region.Mode}

/-! A walk over all orders of a region whose facts on the world depend on which operations have come up: what an operation reads may be written by one that waits for it. -/

def Shutdown (md : Region.Mode) (ops : Array Oper) (L : Array Bool) : Prop :=
  L.size = ops.size ∧ ∀ j oj, ops[j]? = some oj → L.getD j false = true → ∀ e ∈ oj.after, Region.binds md e = true → L.getD e.on false = true
theorem shutdown_start : Shutdown md ops (Array.replicate ops.size false) := ⟨by simp, fun j oj _ h => by rw [getD_replicate_false] at h; cases h⟩
theorem Shutdown.set {L : Array Bool} {i : Nat} (h : Shutdown md ops L) (hi : i ∈ Region.ready md ops L) : Shutdown md ops (L.setIfInBounds i true) := by
  obtain ⟨_, oi, hoi, hall⟩ := mem_ready.1 hi
  refine ⟨by simp [h.1], fun j oj hj hl e he hb => ?_⟩
  by_cases hij : i = j
  · subst hij
    obtain rfl : oj = oi := Option.some.inj (hj.symm.trans hoi)
    exact getD_set_true (hall e he hb)
  · rw [getD_set_ne false hij] at hl
    exact getD_set_true (h.2 j oj hj hl e he hb)
theorem Shutdown.not {L : Array Bool} {i j : Nat} (h : Shutdown md ops L) (hw : Region.waitsFor md ops j i = true) (hi : L.getD i true = false) : L.getD j false = false := by
  obtain ⟨oj, hoj, e, he, hb, rfl⟩ := Region.waitsFor_spec hw
  cases hj : L.getD j false with
  | false => rfl
  | true => have := h.2 j oj hoj hj e he hb; rw [getD_both hi] at this; cases this

def wpAnyG (P : Program) (md : Region.Mode) (ops : Array Oper) (Q : Exit → Act → World → Prop) (S : Array Bool → World → Prop) : Nat → Array Bool → Act → World → Prop
  | 0, listed, a, w => Region.ready md ops listed = [] ∧ Q .normal a w
  | fuel + 1, listed, a, w =>
    (Region.ready md ops listed = [] → Q .normal a w) ∧
    ∀ i ∈ Region.ready md ops listed, wpOp P ops Q i (fun a' w' => S (listed.setIfInBounds i true) w' ∧ wpAnyG P md ops Q S fuel (listed.setIfInBounds i true) a' w') a w
theorem wpAny_of_G {S : Array Bool → World → Prop} : ∀ (fuel : Nat) (listed : Array Bool) (a : Act) (w : World), wpAnyG P md ops Q S fuel listed a w → wpAny P md ops Q fuel listed a w
  | 0, _, _, _, h => h
  | fuel + 1, _, _, _, h => ⟨h.1, fun i hi => wpOp_mono (fun a' w' h' => wpAny_of_G fuel _ a' w' h'.2) (h.2 i hi)⟩

theorem wpAnyG_first {S : Array Bool → World → Prop} {i : Nat} {oi : Oper} {v : Value} (hi : ops[i]? = some oi) (hsel : ∀ (j : Nat) (o : Oper) cs b, ops[j]? = some o → o.op ≠ .select cs b)
    (hQ : ∀ c a w, Q (.panic c) (a.put oi.dst v) w → Q (.panic c) a w) (hSi : ∀ L w, S (L.setIfInBounds i true) w ↔ S L w) :
    ∀ (fuel : Nat) (listed : Array Bool) (a : Act) (w : World), Shutdown md ops listed →
      (∀ j oj, ops[j]? = some oj → j ≠ i → listed.getD j true = false → (∀ e ∈ oj.after, Region.binds md e = true → e.on ≠ i) → oi.apart ops oj = true) →
      i ∈ Region.ready md ops listed → YieldsIf P ops (fun w => ∃ L, Shutdown md ops L ∧ L.getD i true = false ∧ S L w) oi v a → S listed w →
      wpAnyG P md ops Q S fuel (listed.setIfInBounds i true) (a.put oi.dst v) w → wpAnyG P md ops Q S (fuel + 1) listed a w := by
  intro fuel
  induction fuel with
  | zero =>
    intro listed a w hc _ hr hy hS H
    refine ⟨fun h => (by rw [h] at hr; cases hr), fun j hj => ?_⟩
    by_cases hji : j = i
    · subst hji
      exact hy.wpOp hi ⟨listed, hc, (mem_ready.1 hj).1, hS⟩ ⟨(hSi _ _).2 hS, H⟩
    · have := ready_mono hj hji
      rw [H.1] at this
      cases this
  | succ fuel ih =>
    intro listed a w hc hfree hr hy hS H
    refine ⟨fun h => (by rw [h] at hr; cases hr), fun j hj => ?_⟩
    by_cases hji : j = i
    · subst hji
      exact hy.wpOp hi ⟨listed, hc, (mem_ready.1 hj).1, hS⟩ ⟨(hSi _ _).2 hS, H⟩
    · have h1 := H.2 j (ready_mono hj hji)
      obtain ⟨hjun, oj, hoj, hall⟩ := mem_ready.1 hj
      have hnot : ∀ e ∈ oj.after, Region.binds md e = true → e.on ≠ i := fun e he hb heq => by
        have h1 := hall e he hb
        rw [heq, getD_both (mem_ready.1 hr).1] at h1
        cases h1
      have h2 := wpOp_putIf hoj (hfree j oj hoj hji hjun hnot) (fun cs b => hsel i oi cs b hi) (fun cs b => hsel j oj cs b hoj) hQ hy h1
      have hfree' : ∀ k ok, ops[k]? = some ok → k ≠ i → (listed.setIfInBounds j true).getD k true = false →
          (∀ e ∈ ok.after, Region.binds md e = true → e.on ≠ i) → oi.apart ops ok = true := fun k ok hk hki hun hno => by
        refine hfree k ok hk hki ?_ hno
        by_cases hjk : j = k
        · subst hjk; exact hjun
        · rw [getD_set_ne true hjk] at hun; exact hun
      refine wpOp_mono (fun a' w' h3 => ?_) h2
      have hS' : S (listed.setIfInBounds j true) w' := (hSi _ _).1 (by rw [Array.setIfInBounds_comm _ _ hji]; exact h3.2.1)
      refine ⟨hS', ih (listed.setIfInBounds j true) a' w' (hc.set hj) hfree' (ready_mono hr (Ne.symm hji)) h3.1 hS' ?_⟩
      rw [Array.setIfInBounds_comm _ _ hji]
      exact h3.2.2

theorem wpAnyG_take {S : Array Bool → World → Prop} {i : Nat} {oi : Oper} {v : Value} {fuel : Nat} {listed : Array Bool} {a : Act} {w : World} (hi : ops[i]? = some oi)
    (hs : Region.noSelect ops = true) (hf : Region.free md ops listed i = true) (hr : (Region.ready md ops listed).contains i = true)
    (hQ : ∀ c a w, Q (.panic c) (a.put oi.dst v) w → Q (.panic c) a w) (hSi : ∀ L w, S (L.setIfInBounds i true) w ↔ S L w) (hc : Shutdown md ops listed)
    (hy : YieldsIf P ops (fun w => ∃ L, Shutdown md ops L ∧ L.getD i true = false ∧ S L w) oi v a) (hS : S listed w)
    (h : Shutdown md ops (listed.setIfInBounds i true) → S (listed.setIfInBounds i true) w → wpAnyG P md ops Q S fuel (listed.setIfInBounds i true) (a.put oi.dst v) w) : wpAnyG P md ops Q S (fuel + 1) listed a w :=
  wpAnyG_first hi (Region.noSelect_spec hs) hQ hSi fuel listed a w hc (Region.free_spec hi hf) (by simpa using hr) hy hS (h (hc.set (by simpa using hr)) ((hSi _ _).2 hS))
theorem wpAnyG_only {S : Array Bool → World → Prop} {i : Nat} {o : Oper} {fuel : Nat} {listed : Array Bool} {a : Act} {w : World} (hr : Region.ready md ops listed = [i]) (ho : ops[i]? = some o) (hc : Shutdown md ops listed)
    (h : Shutdown md ops (listed.setIfInBounds i true) → ∀ K : Act → World → Prop, (∀ a' w', S (listed.setIfInBounds i true) w' → (S (listed.setIfInBounds i true) w' → wpAnyG P md ops Q S fuel (listed.setIfInBounds i true) a' w') → K a' w') → if Region.wanted o (yielded ops a.tmps) = true then Oper.wp P o a w K Q else K (a.put o.dst undef) w) : wpAnyG P md ops Q S (fuel + 1) listed a w :=
  ⟨fun h0 => (by rw [hr] at h0; cases h0), fun j hj => by
    rw [hr] at hj
    obtain rfl : j = i := by simpa using hj
    exact wpOp_step ho (fun K hK => h (hc.set (by rw [hr]; simp)) K (fun a' w' hS hW => hK a' w' ⟨hS, hW hS⟩))⟩
theorem wpAnyG_done {S : Array Bool → World → Prop} {listed : Array Bool} {a : Act} {w : World} (hr : Region.ready md ops listed = []) (h : Q .normal a w) : ∀ fuel, wpAnyG P md ops Q S fuel listed a w
  | 0 => ⟨hr, h⟩
  | _ + 1 => ⟨fun _ => h, by rw [hr]; simp⟩
theorem wp_region_G {S : Array Bool → World → Prop} {id : Nat} {a : Act} {w : World} (hm : P.follows .mixedOrders = true) (hS : S (Array.replicate ops.size false) w.drew)
    (h : Shutdown .any ops (Array.replicate ops.size false) → S (Array.replicate ops.size false) w.drew → wpAnyG P .any ops Q S ops.size (Array.replicate ops.size false) a w.drew) : (Code.region id ops true).wp P Q a w :=
  wp_region_any hm (wpAny_of_G _ _ _ _ (h shutdown_start hS))
end
end Go.Proofs.YtgbnfhfkehpfaaaGreat
/- A region that draws its order and whose last operation stores what its loads read: the facts on the world in two parts, one that holds throughout and one that holds until that store. -/
namespace Go.Proofs.YtgbnfhfkehpfaaaGreat
open Go.RowKit

def untilS (t : Nat) (A B : World → Prop) (L : Array Bool) (W : World) : Prop := A W ∧ (L.getD t false = false → B W)
theorem untilS_set {t : Nat} {A B : World → Prop} {k : Nat} (h : k ≠ t) (L : Array Bool) (W : World) : untilS t A B (L.setIfInBounds k true) W ↔ untilS t A B L W := by
  unfold untilS; rw [getD_set_ne false h]
theorem untilS_all {t : Nat} {A B : World → Prop} {W : World} (h : A W ∧ B W) (L : Array Bool) : untilS t A B L W := ⟨h.1, fun _ => h.2⟩
theorem untilS_past {t : Nat} {A B : World → Prop} {W : World} (h : A W) {L : Array Bool} (hL : L.getD t false = true) : untilS t A B L W := ⟨h, fun e => by rw [hL] at e; cases e⟩
end Go.Proofs.YtgbnfhfkehpfaaaGreat
/- clear of layer 3, whole: a contract. -/
namespace Go.Proofs.YtgbnfhfkehpfaaaGreat
open Go.RowKit

structure RdW (base B g cap : Nat) (ads : List (Nat × Nat)) (pv : Value) (r : Rd) (w : World) : Prop where
  bx : RdB B (r.cols : Int) g r.rows.length cap pv r.dv w
  si : SI w base g ads r.rows
  pi : OwnI w base pv r.piv
  apt : ∀ (i : Nat) (x : Nat × Nat), ads[i]? = some x → x.1 ≠ B ∧ ∀ b, pv.ownBlock = some b → x.1 ≠ b
  fg : ∀ k, w.frozen? ⟨g, k, none⟩ = false
  gl : g < w.heap.size
  bg : base ≤ g
  sep : g ≠ B ∧ pv.ownBlock ≠ some B ∧ pv.ownBlock ≠ some g ∧ base ≤ B
structure RdOk (N : Nat) (r : Rd) : Prop where
  len : r.rows.length ≤ 100
  row : ∀ q ∈ r.rows, q.length = N
  hN : N ≤ 100
  piv : r.piv.length ≤ r.rows.length
  dv : r.dv ≠ 0
theorem RdW.far {base B g cap : Nat} {ads : List (Nat × Nat)} {pv : Value} {r : Rd} {w w' : World} (h : RdW base B g cap ads pv r w) (hb : Below w.heap.size w w') : RdW base B g cap ads pv r w' :=
  ⟨h.bx.kept (hb.block B (cell_lt h.bx.c0)), h.si.below hb, h.pi.below hb, h.apt, fun k => (frozen_of_block (hb.block g h.gl)).trans (h.fg k), Nat.lt_of_lt_of_le h.gl hb.size, h.bg, h.sep⟩
theorem clear_none {base B g cap c N : Nat} {ads : List (Nat × Nat)} {pv : Value} {r : Rd} {w w' : World} (_hok : RdOk N r) (h : RdW base B g cap ads pv r w) (hb : Below w.heap.size w w') (hn : pivRow r.rows c (r.rows.length - r.piv.length) r.piv.length = none) : RdW base B g cap ads pv (clearR c r) w' := by
  have e : clearR c r = r := by unfold clearR; rw [hn]
  rw [e]
  exact h.far hb
theorem clearTo_set {M : List (List Int)} {own : List Int} {p c : Nat} {dv : Int} {k : Nat} : clearTo (M.set p own) own p c dv k = clearTo M own p c dv k := by
  refine List.ext_getElem? fun i => ?_
  by_cases h : i < M.length
  · rw [clearTo_get (by rw [List.length_set]; exact h), clearTo_get h]
    by_cases e : i = p
    · rw [if_pos e, if_pos e]
    · rw [if_neg e, if_neg e]
      have : rowL (M.set p own) i = rowL M i := by unfold rowL; rw [List.getElem?_set_ne (fun e' => e e'.symm)]
      rw [this]
  · rw [List.getElem?_eq_none (by rw [clearTo_len, List.length_set]; omega), List.getElem?_eq_none (by rw [clearTo_len]; omega)]
theorem CW.swapped {base B Cb g cap c : Nat} {ads : List (Nat × Nat)} {pv : Value} {r : Rd} {W : World} (h : RdW base B g cap ads pv r W) (hcb : W.cell? ⟨Cb, 0, none⟩ = some (.int .i64 (c : Int))) (hCg : Cb ≠ g) {p i : Nat} {x y : Nat × Nat} {rp ri : List Int}
    (ep : ads[p]? = some x) (ei : ads[i]? = some y) (rp' : r.rows[p]? = some rp) (ri' : r.rows[i]? = some ri) :
    CW base B Cb g r.rows.length cap (r.cols : Int) pv r.dv c r.piv (swapA ads p i) (swapR r.rows p i) ((W.setCell ⟨g, p, none⟩ (.slice (some ⟨y.1, 0, none⟩) ri.length y.2)).setCell ⟨g, i, none⟩ (.slice (some ⟨x.1, 0, none⟩) rp.length x.2)).drew := by
  have same : ∀ b, b ≠ g → ((W.setCell ⟨g, p, none⟩ (.slice (some ⟨y.1, 0, none⟩) ri.length y.2)).setCell ⟨g, i, none⟩ (.slice (some ⟨x.1, 0, none⟩) rp.length x.2)).drew.heap[b]? = W.heap[b]? := fun b hb =>
    (Below.heap_setCell _ ⟨g, i, none⟩ _ b hb).trans (Below.heap_setCell W ⟨g, p, none⟩ _ b hb)
  have hs := h.si.swap ep ei rp' ri'
  refine ⟨h.bx.kept (same B (fun e => h.sep.1 e.symm)), (World.cell?_of_block (same Cb hCg)).trans hcb, ⟨hs.len, hs.row, hs.apart, hs.out⟩, ?_, fun k => ?_⟩
  · obtain ⟨h0, h1 | ⟨g', cap', cur, e, hg, hh, rest⟩⟩ := h.pi
    · exact ⟨h0, .inl h1⟩
    · exact ⟨h0, .inr ⟨g', cap', cur, e, hg, (same g' (fun e2 => h.sep.2.2.1 (by rw [e, ← e2]; rfl))).trans hh, rest⟩⟩
  · have := h.fg k
    show ((W.setCell _ _).setCell _ _).frozen? _ = false
    go_simp
theorem RdW.cleared {base B g cap c : Nat} {ads ads' : List (Nat × Nat)} {pv : Value} {r : Rd} {w W w' : World} {i : Nat} {ri : List Int} (h : RdW base B g cap ads pv r w) (hW : Below w.heap.size w W) (hpv : pivRow r.rows c (r.rows.length - r.piv.length) r.piv.length = some i) (hri : rowL (swapR r.rows r.piv.length i) r.piv.length = ri)
    (ha : ∀ (k : Nat) (x : Nat × Nat), ads'[k]? = some x → ∃ j : Nat, ads[j]? = some x)
    (hc : ClP base B g r.rows.length cap (r.cols : Int) pv W.heap.size (gt (ownR ri c) c) (r.piv ++ [(c : Int)]) ads' (clearTo (swapR r.rows r.piv.length i) (ownR ri c) r.piv.length c r.dv r.rows.length) W w') : ∃ pv', RdW base B g cap ads' pv' (clearR c r) w' := by
  have e : clearR c r = { cols := r.cols, rows := clearTo (swapR r.rows r.piv.length i) (ownR ri c) r.piv.length c r.dv r.rows.length, piv := r.piv ++ [(c : Int)], dv := gt (ownR ri c) c } := by
    unfold clearR; rw [hpv]; dsimp only; rw [hri, swapR_len]
  rw [e]
  obtain ⟨⟨pv', hb, ho, hx⟩, hs, hbl, hf⟩ := hc
  have hsz := hW.size
  have hlt : ∀ (k : Nat) (x : Nat × Nat), ads[k]? = some x → x.1 < w.heap.size := fun k x ek => by
    have hk : k < r.rows.length := by rw [← h.si.len]; exact (List.getElem?_eq_some_iff.1 ek).1
    exact (OwnI.lt (h.si.row k x _ ek (List.getElem?_eq_getElem hk)).2).1
  have hBl : B < w.heap.size := cell_lt h.bx.c0
  have hgl := h.gl
  refine ⟨pv', by simpa [clearTo_len, swapR_len] using hb, hs, ho, fun k x ek => ?_, hf, Nat.lt_of_lt_of_le (Nat.lt_of_lt_of_le hgl hsz) hbl.size, h.bg, h.sep.1, ?_, ?_, h.sep.2.2.2⟩
  · obtain ⟨j, ej⟩ := ha k x ek
    obtain ⟨a1, a2⟩ := h.apt j x ej
    refine ⟨a1, fun b eb => ?_⟩
    rcases hx with e1 | ⟨G, e1, hG⟩
    · exact a2 b (by rw [← e1]; exact eb)
    · rw [e1] at eb
      obtain rfl : G = b := by simpa using eb
      have := hlt j x ej; omega
  · intro e2
    rcases hx with e1 | ⟨G, e1, hG⟩
    · exact h.sep.2.1 (by rw [← e1]; exact e2)
    · rw [e1] at e2
      obtain rfl : G = B := by simpa using e2
      omega
  · intro e2
    rcases hx with e1 | ⟨G, e1, hG⟩
    · exact h.sep.2.2.1 (by rw [← e1]; exact e2)
    · rw [e1] at e2
      obtain rfl : G = g := by simpa using e2
      omega
theorem pivRow_some {M : List (List Int)} {c : Nat} : ∀ {n i j : Nat}, pivRow M c n i = some j → i ≤ j ∧ j < i + n ∧ gt (rowL M j) c ≠ 0
  | 0, i, j, h => by cases h
  | n + 1, i, j, h => by
    unfold pivRow at h
    split at h
    · rename_i hne
      obtain rfl : i = j := by simpa using h
      exact ⟨Nat.le_refl _, by omega, hne⟩
    · obtain ⟨h1, h2, h3⟩ := pivRow_some h
      exact ⟨by omega, by omega, h3⟩
set_option maxRecDepth 100000 in
set_option maxHeartbeats 3200000 in
theorem clear_any (base B g cap c N : Nat) (ads : List (Nat × Nat)) (pv : Value) (r : Rd) (w : World) (hok : RdOk N r) (hc : c < N) (hcap : r.rows.length ≤ cap) (h : RdW base B g cap ads pv r w) :
    Calls Tryz.prog 95 #[.pointer (some ⟨B, 0, none⟩), .int .i64 (c : Int)] w fun e w' => e = .returned (.tuple #[]) ∧ Below base w w' ∧ ∃ ads' pv', RdW base B g cap ads' pv' (clearR c r) w' := by
  obtain ⟨n, hn⟩ : ∃ n, r.rows.length = n := ⟨_, rfl⟩
  obtain ⟨p, hp⟩ : ∃ p, r.piv.length = p := ⟨_, rfl⟩
  obtain ⟨pa, pc, rfl, _⟩ := h.pi.any
  have HOK := Lib.hid hok; clear hok
  have H := Lib.hid h; clear h
  have HNN := Lib.hid hn
  have HPP := Lib.hid hp
  have hn6 : n ≤ 100 := by have := HOK.out.len; omega
  have hpn : p ≤ n := by have := HOK.out.piv; omega
  rw [hn] at hcap
  have hB : B < w.heap.size := cell_lt H.out.bx.c0
  have hbb : base ≤ w.heap.size := by have := H.out.sep; omega
  have HB0 : Hid (Below w.heap.size w (w.alloc (.cells #[.int .i64 (c : Int)] 3))) := (Below.refl _ _).alloc (Nat.le_refl _) _
  have hcb : (w.alloc (.cells #[.int .i64 (c : Int)] 3)).cell? ⟨w.heap.size, 0, none⟩ = some (.int .i64 (c : Int)) := alloc_cell _ _ _ _ _ rfl
  have c1 : (w.alloc (.cells #[.int .i64 (c : Int)] 3)).cell? ⟨B, 1, none⟩ = some (.slice (some ⟨g, 0, none⟩) n cap) := by rw [← hn]; exact (HB0.out.cell (p := ⟨B, 1, none⟩) hB).trans H.out.bx.c1
  have c2 : (w.alloc (.cells #[.int .i64 (c : Int)] 3)).cell? ⟨B, 2, none⟩ = some (.slice pa p pc) := by rw [← hp]; exact (HB0.out.cell (p := ⟨B, 2, none⟩) hB).trans H.out.bx.c2
  have HSI : Hid (SI (w.alloc (.cells #[.int .i64 (c : Int)] 3)) base g ads r.rows) := H.out.si.below HB0.out
  clear hn hp
  go_enter Tryz.func95, Tryz.ntmps95
  have hwr := clear_none (c := c) (N := N) HOK.out H.out HB0.out
  by_cases hcp : cap = p
  · have hc0 : cap - p = 0 := by omega
    have hnp : n - p = 0 := by omega
    have HPN : Hid (pivRow r.rows c (r.rows.length - r.piv.length) r.piv.length = none) := by
      show _ = _; rw [HNN.out, HPP.out, hnp]; rfl
    clear hnp
    have HIX : Hid (ixV r.rows c p = -1) := by show _ = _; unfold ixV; rw [← HPP.out, HPN.out]
    go_wp2_with fail
    refine (indexFunc_any base w.heap.size g ads r.rows c p (n - p) (some ⟨g, 0, none⟩) 0 N _ (by rw [HNN.out]; omega) HOK.out.len (fun h => by omega) HOK.out.row hc hcb HSI.out).mono ?_
    rintro e w1 ⟨rfl, rfl⟩
    rw [HIX.out]
    go_wp2
    refine bodyPost_ret (results_none rfl _ _ _) rfl ?_
    exact ⟨rfl, HB0.out.mono hbb, _, _, hwr HPN.out⟩
  · have hc0 : ¬ (cap - p = 0) := by omega
    have hc1 : (cap : Int) - (p : Int) ≠ 0 := by omega
    go_wp2_with fail
    refine (indexFunc_any base w.heap.size g ads r.rows c p (n - p) (some ⟨g, p, none⟩) (cap - p) N _ (by rw [HNN.out]; omega) HOK.out.len (fun _ => rfl) HOK.out.row hc hcb HSI.out).mono ?_
    rintro e w1 ⟨rfl, rfl⟩
    clear hc0 hc1 hcp
    cases hpv : pivRow r.rows c (r.rows.length - r.piv.length) r.piv.length with
    | none =>
      have HIX : Hid (ixV r.rows c p = -1) := by show _ = _; unfold ixV; rw [← HPP.out, hpv]
      have HPN := Lib.hid (hwr hpv)
      clear hpv hwr
      rw [HIX.out]
      go_wp2
      refine bodyPost_ret (results_none rfl _ _ _) rfl ?_
      exact ⟨rfl, HB0.out.mono hbb, _, _, HPN.out⟩
    | some i =>
      obtain ⟨i1, i2, i3⟩ := pivRow_some hpv
      rw [HPP.out] at i1
      rw [HNN.out, HPP.out] at i2
      obtain ⟨d, hd⟩ : ∃ d, i = p + d := ⟨i - p, by omega⟩
      have HIX : Hid (ixV r.rows c p = (d : Int)) := by show _ = _; unfold ixV; rw [← HPP.out, hpv]; show (i : Int) - _ = _; rw [HPP.out]; omega
      have HPV := Lib.hid hpv
      have HI3 := Lib.hid i3
      rw [HIX.out]
      have di : (p : Int) + (d : Int) = (i : Int) := by omega
      clear hpv hwr i3 hd
      have hpn' : p < r.rows.length := by rw [HNN.out]; omega
      have hin' : i < r.rows.length := by rw [HNN.out]; omega
      obtain ⟨rp, hrp⟩ : ∃ q, r.rows[p]? = some q := ⟨r.rows[p], by simp [hpn']⟩
      obtain ⟨ri, hri⟩ : ∃ q, r.rows[i]? = some q := ⟨r.rows[i], by simp [hin']⟩
      obtain ⟨x, hx⟩ : ∃ x, ads[p]? = some x := ⟨ads[p]'(by rw [H.out.si.len]; exact hpn'), by simp [H.out.si.len, hpn']⟩
      obtain ⟨y, hy⟩ : ∃ x, ads[i]? = some x := ⟨ads[i]'(by rw [H.out.si.len]; exact hin'), by simp [H.out.si.len, hin']⟩
      have HPX := Lib.hid hx
      have HIY := Lib.hid hy
      have HRP := Lib.hid hrp
      have HRI := Lib.hid hri
      have hcp1 := (HSI.out.row p x rp hx hrp).1
      have hci1 := (HSI.out.row i y ri hy hri).1
      have HSW := Lib.hid (HSI.out.swap (i := p) (j := i) hx hy hrp hri)
      have hfg : ∀ k, (w.alloc (.cells #[.int .i64 (c : Int)] 3)).frozen? ⟨g, k, none⟩ = false := fun k => (frozen_of_block (HB0.out.block g H.out.gl)).trans (H.out.fg k)
      have hf1 := hfg p
      have hf2 := hfg i
      have HFG := Lib.hid hfg
      have hlp : rp.length = N := HOK.out.row rp (List.mem_of_getElem? hrp)
      have hli : ri.length = N := HOK.out.row ri (List.mem_of_getElem? hri)
      have HLP := Lib.hid hlp
      have HLI := Lib.hid hli
      have hgB : g ≠ B := H.out.sep.1
      have HCN := Lib.hid hc
      have hBg : B ≠ g := fun e => hgB e.symm
      have HC1A : Hid (∀ (W : World) (o : Nat) (v : Value), W.cell? ⟨B, 1, none⟩ = some (.slice (some ⟨g, 0, none⟩) n cap) → (W.setCell ⟨g, o, none⟩ v).cell? ⟨B, 1, none⟩ = some (.slice (some ⟨g, 0, none⟩) n cap)) := fun W o v h => (cell_other W _ _ _ hBg).trans h
      obtain ⟨xb, xc⟩ := x
      obtain ⟨yb, yc⟩ := y
      dsimp only at hcp1 hci1 HSW
      have g1 : (p : Int) < (n : Int) := by omega
      have g2 : (i : Int) < (n : Int) := by omega
      have g3 : 0 ≤ (p : Int) := by omega
      have g4 : 0 ≤ (i : Int) := by omega
      have d4 : IntKind.i64.wrap (i : Int) = (i : Int) := IntWalk.i64_in _ (by omega)
      clear hlp hli hx hy hrp hri hfg hpn' hin'
      by_cases hip : p = i
      · subst hip
        obtain rfl : d = 0 := by omega
        obtain ⟨rfl, rfl⟩ : xb = yb ∧ xc = yc := by
          have := HPX.out.symm.trans HIY.out
          simpa using this
        obtain rfl : rp = ri := by
          have := HRP.out.symm.trans HRI.out
          simpa using this
        have dz : (p : Int) + 0 = (p : Int) := by omega
        go_wp2
        rename_i aK
        have HK := Lib.hid aK
        clear aK
        refine wp_region_G (S := untilS 29 (fun w' => w'.cell? ⟨B, 1, none⟩ = some (.slice (some ⟨g, 0, none⟩) n cap)) (fun w' => w'.cell? ⟨g, p, none⟩ = some (.slice (some ⟨xb, 0, none⟩) rp.length xc) ∧ w'.cell? ⟨g, p, none⟩ = some (.slice (some ⟨xb, 0, none⟩) rp.length xc))) (by kernel_rfl) (untilS_all ⟨c1, hcp1, hcp1⟩ _) ?_
        intro hc hS
        refine wpAnyG_take (i := 0) (oi := ?oi0t) (v := ?v0t) ?hi0t (by kernel_rfl) (by kernel_rfl) (by kernel_rfl) ?hQ0t (untilS_set (by decide)) hc ?hy0t hS ?rest0t
        case hi0t => (simp only [List.getElem?_toArray, List.getElem?_cons_zero]; exact rfl)
        case hQ0t => exact fun _ _ _ h => h
        case hy0t => (refine Or.inl ⟨rfl, ?_⟩; (intro w _; go_simp; (try with_reducible rfl)))
        clear hc hS; intro hc hS
        simp only [Act.put, List.setIfInBounds_toArray, List.set_cons_zero, List.set_cons_succ]
        refine wpAnyG_take (i := 1) (oi := ?oi1t) (v := ?v1t) ?hi1t (by kernel_rfl) (by kernel_rfl) (by kernel_rfl) ?hQ1t (untilS_set (by decide)) hc ?hy1t hS ?rest1t
        case hi1t => (simp only [List.getElem?_toArray, List.getElem?_cons_succ, List.getElem?_cons_zero]; exact rfl)
        case hQ1t => exact fun _ _ _ h => h
        case hy1t => (refine Or.inl ⟨rfl, ?_⟩; (intro w _; go_simp; (try with_reducible rfl)))
        clear hc hS; intro hc hS
        simp only [Act.put, List.setIfInBounds_toArray, List.set_cons_zero, List.set_cons_succ]
        refine wpAnyG_take (i := 2) (oi := ?oi2t) (v := ?v2t) ?hi2t (by kernel_rfl) (by kernel_rfl) (by kernel_rfl) ?hQ2t (untilS_set (by decide)) hc ?hy2t hS ?rest2t
        case hi2t => (simp only [List.getElem?_toArray, List.getElem?_cons_succ, List.getElem?_cons_zero]; exact rfl)
        case hQ2t => exact fun _ _ _ h => h
        case hy2t => (refine Or.inl ⟨rfl, ?_⟩; (intro w _; go_simp; (try with_reducible rfl)))
        clear hc hS; intro hc hS
        simp only [Act.put, List.setIfInBounds_toArray, List.set_cons_zero, List.set_cons_succ]
        refine wpAnyG_take (i := 3) (oi := ?oi3t) (v := ?v3t) ?hi3t (by kernel_rfl) (by kernel_rfl) (by kernel_rfl) ?hQ3t (untilS_set (by decide)) hc ?hy3t hS ?rest3t
        case hi3t => (simp only [List.getElem?_toArray, List.getElem?_cons_succ, List.getElem?_cons_zero]; exact rfl)
        case hQ3t => exact fun _ _ _ h => h
        case hy3t => (refine Or.inl ⟨rfl, ?_⟩; (rintro w ⟨L, hsd, hL, hA, hB⟩; clear hsd hL hB; (try dsimp only at hA); go_simp; (try with_reducible rfl)))
        clear hc hS; intro hc hS
        simp only [Act.put, List.setIfInBounds_toArray, List.set_cons_zero, List.set_cons_succ]
        refine wpAnyG_take (i := 4) (oi := ?oi4t) (v := ?v4t) ?hi4t (by kernel_rfl) (by kernel_rfl) (by kernel_rfl) ?hQ4t (untilS_set (by decide)) hc ?hy4t hS ?rest4t
        case hi4t => (simp only [List.getElem?_toArray, List.getElem?_cons_succ, List.getElem?_cons_zero]; exact rfl)
        case hQ4t => exact fun _ _ _ h => h
        case hy4t => (refine Or.inl ⟨rfl, ?_⟩; (intro w _; go_simp; (try with_reducible rfl)))
        clear hc hS; intro hc hS
        simp only [Act.put, List.setIfInBounds_toArray, List.set_cons_zero, List.set_cons_succ]
        refine wpAnyG_take (i := 5) (oi := ?oi5t) (v := ?v5t) ?hi5t (by kernel_rfl) (by kernel_rfl) (by kernel_rfl) ?hQ5t (untilS_set (by decide)) hc ?hy5t hS ?rest5t
        case hi5t => (simp only [List.getElem?_toArray, List.getElem?_cons_succ, List.getElem?_cons_zero]; exact rfl)
        case hQ5t => exact fun _ _ _ h => h
        case hy5t => (refine Or.inl ⟨rfl, ?_⟩; (intro w _; go_simp; (try with_reducible rfl)))
        clear hc hS; intro hc hS
        simp only [Act.put, List.setIfInBounds_toArray, List.set_cons_zero, List.set_cons_succ]
        refine wpAnyG_take (i := 6) (oi := ?oi6t) (v := ?v6t) ?hi6t (by kernel_rfl) (by kernel_rfl) (by kernel_rfl) ?hQ6t (untilS_set (by decide)) hc ?hy6t hS ?rest6t
        case hi6t => (simp only [List.getElem?_toArray, List.getElem?_cons_succ, List.getElem?_cons_zero]; exact rfl)
        case hQ6t => exact fun _ _ _ h => h
        case hy6t => (refine Or.inl ⟨rfl, ?_⟩; (intro w _; go_simp; (try with_reducible rfl)))
        clear hc hS; intro hc hS
        simp only [Act.put, List.setIfInBounds_toArray, List.set_cons_zero, List.set_cons_succ]
        refine wpAnyG_take (i := 7) (oi := ?oi7t) (v := ?v7t) ?hi7t (by kernel_rfl) (by kernel_rfl) (by kernel_rfl) ?hQ7t (untilS_set (by decide)) hc ?hy7t hS ?rest7t
        case hi7t => (simp only [List.getElem?_toArray, List.getElem?_cons_succ, List.getElem?_cons_zero]; exact rfl)
        case hQ7t => exact fun _ _ _ h => h
        case hy7t => (refine Or.inl ⟨rfl, ?_⟩; (intro w _; go_simp; (try with_reducible rfl)))
        clear hc hS; intro hc hS
        simp only [Act.put, List.setIfInBounds_toArray, List.set_cons_zero, List.set_cons_succ]
        refine wpAnyG_take (i := 8) (oi := ?oi8t) (v := ?v8t) ?hi8t (by kernel_rfl) (by kernel_rfl) (by kernel_rfl) ?hQ8t (untilS_set (by decide)) hc ?hy8t hS ?rest8t
        case hi8t => (simp only [List.getElem?_toArray, List.getElem?_cons_succ, List.getElem?_cons_zero]; exact rfl)
        case hQ8t => exact fun _ _ _ h => h
        case hy8t => (refine Or.inl ⟨rfl, ?_⟩; (rintro w ⟨L, hsd, hL, hA, hB⟩; clear hsd hL hB; (try dsimp only at hA); go_simp; (try with_reducible rfl)))
        clear hc hS; intro hc hS
        simp only [Act.put, List.setIfInBounds_toArray, List.set_cons_zero, List.set_cons_succ]
        refine wpAnyG_take (i := 9) (oi := ?oi9t) (v := ?v9t) ?hi9t (by kernel_rfl) (by kernel_rfl) (by kernel_rfl) ?hQ9t (untilS_set (by decide)) hc ?hy9t hS ?rest9t
        case hi9t => (simp only [List.getElem?_toArray, List.getElem?_cons_succ, List.getElem?_cons_zero]; exact rfl)
        case hQ9t => exact fun _ _ _ h => h
        case hy9t => (refine Or.inl ⟨rfl, ?_⟩; (intro w _; go_simp; (try with_reducible rfl)))
        clear hc hS; intro hc hS
        simp only [Act.put, List.setIfInBounds_toArray, List.set_cons_zero, List.set_cons_succ]
        refine wpAnyG_take (i := 10) (oi := ?oi10t) (v := ?v10t) ?hi10t (by kernel_rfl) (by kernel_rfl) (by kernel_rfl) ?hQ10t (untilS_set (by decide)) hc ?hy10t hS ?rest10t
        case hi10t => (simp only [List.getElem?_toArray, List.getElem?_cons_succ, List.getElem?_cons_zero]; exact rfl)
        case hQ10t => exact fun _ _ _ h => h
        case hy10t => (refine Or.inl ⟨rfl, ?_⟩; (intro w _; go_simp; (try with_reducible rfl)))
        clear hc hS; intro hc hS
        simp only [Act.put, List.setIfInBounds_toArray, List.set_cons_zero, List.set_cons_succ]
        refine wpAnyG_take (i := 11) (oi := ?oi11t) (v := ?v11t) ?hi11t (by kernel_rfl) (by kernel_rfl) (by kernel_rfl) ?hQ11t (untilS_set (by decide)) hc ?hy11t hS ?rest11t
        case hi11t => (simp only [List.getElem?_toArray, List.getElem?_cons_succ, List.getElem?_cons_zero]; exact rfl)
        case hQ11t => exact fun _ _ _ h => h
        case hy11t => (refine Or.inl ⟨rfl, ?_⟩; (intro w _; go_simp; (try with_reducible rfl)))
        clear hc hS; intro hc hS
        simp only [Act.put, List.setIfInBounds_toArray, List.set_cons_zero, List.set_cons_succ]
        refine wpAnyG_take (i := 12) (oi := ?oi12t) (v := ?v12t) ?hi12t (by kernel_rfl) (by kernel_rfl) (by kernel_rfl) ?hQ12t (untilS_set (by decide)) hc ?hy12t hS ?rest12t
        case hi12t => (simp only [List.getElem?_toArray, List.getElem?_cons_succ, List.getElem?_cons_zero]; exact rfl)
        case hQ12t => exact fun _ _ _ h => h
        case hy12t => (refine Or.inl ⟨rfl, ?_⟩; (intro w _; go_simp; (try with_reducible rfl)))
        clear hc hS; intro hc hS
        simp only [Act.put, List.setIfInBounds_toArray, List.set_cons_zero, List.set_cons_succ]
        refine wpAnyG_take (i := 13) (oi := ?oi13t) (v := ?v13t) ?hi13t (by kernel_rfl) (by kernel_rfl) (by kernel_rfl) ?hQ13t (untilS_set (by decide)) hc ?hy13t hS ?rest13t
        case hi13t => (simp only [List.getElem?_toArray, List.getElem?_cons_succ, List.getElem?_cons_zero]; exact rfl)
        case hQ13t => exact fun _ _ _ h => h
        case hy13t => (refine Or.inl ⟨rfl, ?_⟩; (intro w _; go_simp; (try with_reducible rfl)))
        clear hc hS; intro hc hS
        simp only [Act.put, List.setIfInBounds_toArray, List.set_cons_zero, List.set_cons_succ]
        refine wpAnyG_take (i := 14) (oi := ?oi14t) (v := ?v14t) ?hi14t (by kernel_rfl) (by kernel_rfl) (by kernel_rfl) ?hQ14t (untilS_set (by decide)) hc ?hy14t hS ?rest14t
        case hi14t => (simp only [List.getElem?_toArray, List.getElem?_cons_succ, List.getElem?_cons_zero]; exact rfl)
        case hQ14t => exact fun _ _ _ h => h
        case hy14t => (refine Or.inl ⟨rfl, ?_⟩; (intro w _; go_simp; (try with_reducible rfl)))
        clear hc hS; intro hc hS
        simp only [Act.put, List.setIfInBounds_toArray, List.set_cons_zero, List.set_cons_succ]
        refine wpAnyG_take (i := 15) (oi := ?oi15t) (v := ?v15t) ?hi15t (by kernel_rfl) (by kernel_rfl) (by kernel_rfl) ?hQ15t (untilS_set (by decide)) hc ?hy15t hS ?rest15t
        case hi15t => (simp only [List.getElem?_toArray, List.getElem?_cons_succ, List.getElem?_cons_zero]; exact rfl)
        case hQ15t => exact fun _ _ _ h => h
        case hy15t => (refine Or.inl ⟨rfl, ?_⟩; (rintro w ⟨L, hsd, hL, hA, hB⟩; clear hsd hL hB; (try dsimp only at hA); go_simp; (try with_reducible rfl)))
        clear hc hS; intro hc hS
        simp only [Act.put, List.setIfInBounds_toArray, List.set_cons_zero, List.set_cons_succ]
        refine wpAnyG_take (i := 16) (oi := ?oi16t) (v := ?v16t) ?hi16t (by kernel_rfl) (by kernel_rfl) (by kernel_rfl) ?hQ16t (untilS_set (by decide)) hc ?hy16t hS ?rest16t
        case hi16t => (simp only [List.getElem?_toArray, List.getElem?_cons_succ, List.getElem?_cons_zero]; exact rfl)
        case hQ16t => exact fun _ _ _ h => h
        case hy16t => (refine Or.inl ⟨rfl, ?_⟩; (intro w _; go_simp; (try with_reducible rfl)))
        clear hc hS; intro hc hS
        simp only [Act.put, List.setIfInBounds_toArray, List.set_cons_zero, List.set_cons_succ]
        refine wpAnyG_take (i := 17) (oi := ?oi17t) (v := ?v17t) ?hi17t (by kernel_rfl) (by kernel_rfl) (by kernel_rfl) ?hQ17t (untilS_set (by decide)) hc ?hy17t hS ?rest17t
        case hi17t => (simp only [List.getElem?_toArray, List.getElem?_cons_succ, List.getElem?_cons_zero]; exact rfl)
        case hQ17t => exact fun _ _ _ h => h
        case hy17t => (refine Or.inl ⟨rfl, ?_⟩; (intro w _; go_simp; (try with_reducible rfl)))
        clear hc hS; intro hc hS
        simp only [Act.put, List.setIfInBounds_toArray, List.set_cons_zero, List.set_cons_succ]
        refine wpAnyG_take (i := 18) (oi := ?oi18t) (v := ?v18t) ?hi18t (by kernel_rfl) (by kernel_rfl) (by kernel_rfl) ?hQ18t (untilS_set (by decide)) hc ?hy18t hS ?rest18t
        case hi18t => (simp only [List.getElem?_toArray, List.getElem?_cons_succ, List.getElem?_cons_zero]; exact rfl)
        case hQ18t => exact fun _ _ _ h => h
        case hy18t => (refine Or.inl ⟨rfl, ?_⟩; (intro w _; go_simp; (try with_reducible rfl)))
        clear hc hS; intro hc hS
        simp only [Act.put, List.setIfInBounds_toArray, List.set_cons_zero, List.set_cons_succ]
        refine wpAnyG_take (i := 19) (oi := ?oi19t) (v := ?v19t) ?hi19t (by kernel_rfl) (by kernel_rfl) (by kernel_rfl) ?hQ19t (untilS_set (by decide)) hc ?hy19t hS ?rest19t
        case hi19t => (simp only [List.getElem?_toArray, List.getElem?_cons_succ, List.getElem?_cons_zero]; exact rfl)
        case hQ19t => exact fun _ _ _ h => h
        case hy19t => (refine Or.inl ⟨rfl, ?_⟩; (intro w _; go_simp; (try with_reducible rfl)))
        clear hc hS; intro hc hS
        simp only [Act.put, List.setIfInBounds_toArray, List.set_cons_zero, List.set_cons_succ]
        refine wpAnyG_take (i := 20) (oi := ?oi20t) (v := ?v20t) ?hi20t (by kernel_rfl) (by kernel_rfl) (by kernel_rfl) ?hQ20t (untilS_set (by decide)) hc ?hy20t hS ?rest20t
        case hi20t => (simp only [List.getElem?_toArray, List.getElem?_cons_succ, List.getElem?_cons_zero]; exact rfl)
        case hQ20t => exact fun _ _ _ h => h
        case hy20t => (refine Or.inl ⟨rfl, ?_⟩; (rintro w ⟨L, hsd, hL, hA, hB⟩; replace hB := hB (hsd.not (i := 20) (by kernel_rfl) hL); obtain ⟨q1, q2⟩ := hB; clear hsd hL; (try dsimp only at hA); go_simp; (try with_reducible rfl)))
        clear hc hS; intro hc hS
        simp only [Act.put, List.setIfInBounds_toArray, List.set_cons_zero, List.set_cons_succ]
        refine wpAnyG_take (i := 21) (oi := ?oi21t) (v := ?v21t) ?hi21t (by kernel_rfl) (by kernel_rfl) (by kernel_rfl) ?hQ21t (untilS_set (by decide)) hc ?hy21t hS ?rest21t
        case hi21t => (simp only [List.getElem?_toArray, List.getElem?_cons_succ, List.getElem?_cons_zero]; exact rfl)
        case hQ21t => exact fun _ _ _ h => h
        case hy21t => (refine Or.inl ⟨rfl, ?_⟩; (intro w _; go_simp; (try with_reducible rfl)))
        clear hc hS; intro hc hS
        simp only [Act.put, List.setIfInBounds_toArray, List.set_cons_zero, List.set_cons_succ]
        refine wpAnyG_take (i := 22) (oi := ?oi22t) (v := ?v22t) ?hi22t (by kernel_rfl) (by kernel_rfl) (by kernel_rfl) ?hQ22t (untilS_set (by decide)) hc ?hy22t hS ?rest22t
        case hi22t => (simp only [List.getElem?_toArray, List.getElem?_cons_succ, List.getElem?_cons_zero]; exact rfl)
        case hQ22t => exact fun _ _ _ h => h
        case hy22t => (refine Or.inl ⟨rfl, ?_⟩; (intro w _; go_simp; (try with_reducible rfl)))
        clear hc hS; intro hc hS
        simp only [Act.put, List.setIfInBounds_toArray, List.set_cons_zero, List.set_cons_succ]
        refine wpAnyG_take (i := 23) (oi := ?oi23t) (v := ?v23t) ?hi23t (by kernel_rfl) (by kernel_rfl) (by kernel_rfl) ?hQ23t (untilS_set (by decide)) hc ?hy23t hS ?rest23t
        case hi23t => (simp only [List.getElem?_toArray, List.getElem?_cons_succ, List.getElem?_cons_zero]; exact rfl)
        case hQ23t => exact fun _ _ _ h => h
        case hy23t => (refine Or.inl ⟨rfl, ?_⟩; (intro w _; go_simp; (try with_reducible rfl)))
        clear hc hS; intro hc hS
        simp only [Act.put, List.setIfInBounds_toArray, List.set_cons_zero, List.set_cons_succ]
        refine wpAnyG_take (i := 24) (oi := ?oi24t) (v := ?v24t) ?hi24t (by kernel_rfl) (by kernel_rfl) (by kernel_rfl) ?hQ24t (untilS_set (by decide)) hc ?hy24t hS ?rest24t
        case hi24t => (simp only [List.getElem?_toArray, List.getElem?_cons_succ, List.getElem?_cons_zero]; exact rfl)
        case hQ24t => exact fun _ _ _ h => h
        case hy24t => (refine Or.inl ⟨rfl, ?_⟩; (rintro w ⟨L, hsd, hL, hA, hB⟩; clear hsd hL hB; (try dsimp only at hA); go_simp; (try with_reducible rfl)))
        clear hc hS; intro hc hS
        simp only [Act.put, List.setIfInBounds_toArray, List.set_cons_zero, List.set_cons_succ]
        refine wpAnyG_take (i := 25) (oi := ?oi25t) (v := ?v25t) ?hi25t (by kernel_rfl) (by kernel_rfl) (by kernel_rfl) ?hQ25t (untilS_set (by decide)) hc ?hy25t hS ?rest25t
        case hi25t => (simp only [List.getElem?_toArray, List.getElem?_cons_succ, List.getElem?_cons_zero]; exact rfl)
        case hQ25t => exact fun _ _ _ h => h
        case hy25t => (refine Or.inl ⟨rfl, ?_⟩; (intro w _; go_simp; (try with_reducible rfl)))
        clear hc hS; intro hc hS
        simp only [Act.put, List.setIfInBounds_toArray, List.set_cons_zero, List.set_cons_succ]
        refine wpAnyG_take (i := 26) (oi := ?oi26t) (v := ?v26t) ?hi26t (by kernel_rfl) (by kernel_rfl) (by kernel_rfl) ?hQ26t (untilS_set (by decide)) hc ?hy26t hS ?rest26t
        case hi26t => (simp only [List.getElem?_toArray, List.getElem?_cons_succ, List.getElem?_cons_zero]; exact rfl)
        case hQ26t => exact fun _ _ _ h => h
        case hy26t => (refine Or.inl ⟨rfl, ?_⟩; (intro w _; go_simp; (try with_reducible rfl)))
        clear hc hS; intro hc hS
        simp only [Act.put, List.setIfInBounds_toArray, List.set_cons_zero, List.set_cons_succ]
        refine wpAnyG_take (i := 27) (oi := ?oi27t) (v := ?v27t) ?hi27t (by kernel_rfl) (by kernel_rfl) (by kernel_rfl) ?hQ27t (untilS_set (by decide)) hc ?hy27t hS ?rest27t
        case hi27t => (simp only [List.getElem?_toArray, List.getElem?_cons_succ, List.getElem?_cons_zero]; exact rfl)
        case hQ27t => exact fun _ _ _ h => h
        case hy27t => (refine Or.inl ⟨rfl, ?_⟩; (rintro w ⟨L, hsd, hL, hA, hB⟩; replace hB := hB (hsd.not (i := 27) (by kernel_rfl) hL); obtain ⟨q1, q2⟩ := hB; clear hsd hL; (try dsimp only at hA); go_simp; (try with_reducible rfl)))
        clear hc hS; intro hc hS
        simp only [Act.put, List.setIfInBounds_toArray, List.set_cons_zero, List.set_cons_succ]
        refine wpAnyG_take (i := 28) (oi := ?oi28t) (v := ?v28t) ?hi28t (by kernel_rfl) (by kernel_rfl) (by kernel_rfl) ?hQ28t (untilS_set (by decide)) hc ?hy28t hS ?rest28t
        case hi28t => (simp only [List.getElem?_toArray, List.getElem?_cons_succ, List.getElem?_cons_zero]; exact rfl)
        case hQ28t => exact fun _ _ _ h => h
        case hy28t => (refine Or.inl ⟨rfl, ?_⟩; (intro w _; go_simp; (try with_reducible rfl)))
        clear hc hS; intro hc hS
        simp only [Act.put, List.setIfInBounds_toArray, List.set_cons_zero, List.set_cons_succ]
        refine wpAnyG_only (i := 29) (o := ?oi29t) (by kernel_rfl) ?hi29t hc ?rest29t
        case hi29t => (simp only [List.getElem?_toArray, List.getElem?_cons_succ, List.getElem?_cons_zero]; exact rfl)
        clear hc; intro hc K hK; have HK := Lib.hid hK; clear hK
        go_simp
        refine HK.out _ _ (untilS_past (HC1A.out _ _ _ c1) (by first | rfl | decide)) ?_
        clear HK K hS; intro hS
        refine wpAnyG_take (i := 30) (oi := ?oi30t) (v := ?v30t) ?hi30t (by kernel_rfl) (by kernel_rfl) (by kernel_rfl) ?hQ30t (untilS_set (by decide)) hc ?hy30t hS ?rest30t
        case hi30t => (simp only [List.getElem?_toArray, List.getElem?_cons_succ, List.getElem?_cons_zero]; exact rfl)
        case hQ30t => exact fun _ _ _ h => h
        case hy30t => (refine Or.inl ⟨rfl, ?_⟩; (intro w _; go_simp; (try with_reducible rfl)))
        clear hc hS; intro hc hS
        simp only [Act.put, List.setIfInBounds_toArray, List.set_cons_zero, List.set_cons_succ]
        refine wpAnyG_only (i := 31) (o := ?oi31t) (by kernel_rfl) ?hi31t hc ?rest31t
        case hi31t => (simp only [List.getElem?_toArray, List.getElem?_cons_succ, List.getElem?_cons_zero]; exact rfl)
        clear hc; intro hc K hK; have HK := Lib.hid hK; clear hK
        go_simp
        refine HK.out _ _ (untilS_past (HC1A.out _ _ _ (HC1A.out _ _ _ c1)) (by first | rfl | decide)) ?_
        clear HK K hS; intro hS
        refine wpAnyG_done (by kernel_rfl) ?_ _
        refine HK.out _ _ ?_
        have hsp : (swapR r.rows p p)[p]? = some rp := by rw [swapR_get (by rw [HNN.out]; omega) (by rw [HNN.out]; omega)]; rw [show swI p p p = p by unfold swI; rw [if_pos rfl]]; exact HRI.out
        have hsa : (swapA ads p p)[p]? = some (xb, xc) := by rw [swapA_get (by rw [H.out.si.len, HNN.out]; omega) (by rw [H.out.si.len, HNN.out]; omega)]; rw [show swI p p p = p by unfold swI; rw [if_pos rfl]]; exact HIY.out
        have hCW := CW.swapped (H.out.far HB0.out) hcb (fun e => by have := H.out.gl; omega) HPX.out HIY.out HRP.out HRI.out
        rw [HNN.out] at hCW
        have hall : ∀ (k : Nat) (x : Nat × Nat), (swapA ads p p)[k]? = some x → ∃ j : Nat, ads[j]? = some x := fun k x e => by
          rw [swapA_get (by rw [H.out.si.len, HNN.out]; omega) (by rw [H.out.si.len, HNN.out]; omega)] at e
          exact ⟨_, e⟩
        have hltA : ∀ (k : Nat) (x : Nat × Nat), ads[k]? = some x → x.1 < w.heap.size := fun k x ek => by
          have hk : k < r.rows.length := by rw [← H.out.si.len]; exact (List.getElem?_eq_some_iff.1 ek).1
          exact (OwnI.lt (H.out.si.row k x _ ek (List.getElem?_eq_getElem hk)).2).1
        have hrows : ∀ q ∈ swapR r.rows p p, q.length = rp.length := fun q hq => by
          obtain ⟨k, hk, rfl⟩ := List.mem_iff_getElem.1 hq
          have e : (swapR r.rows p p)[k]? = some (swapR r.rows p p)[k] := List.getElem?_eq_getElem hk
          rw [swapR_get (by rw [HNN.out]; omega) (by rw [HNN.out]; omega)] at e
          rw [HLI.out]; exact HOK.out.row _ (List.mem_of_getElem? e)
        have hBW : Below base (w.alloc (.cells #[.int .i64 (c : Int)] 3)) (((w.alloc (.cells #[.int .i64 (c : Int)] 3)).setCell ⟨g, p, none⟩ (.slice (some ⟨xb, 0, none⟩) rp.length xc)).setCell ⟨g, p, none⟩ (.slice (some ⟨xb, 0, none⟩) rp.length xc)).drew := (((Below.refl _ _).setCell (p := ⟨g, p, none⟩) H.out.bg _).setCell (p := ⟨g, p, none⟩) H.out.bg _).drew
        refine wp_mono (clear_t5 (w0 := (w.alloc (.cells #[.int .i64 (c : Int)] 3))) (n := n) (p := p) (own0 := rp) (bo := xb) (co := xc) (ads := swapA ads p p) (M := swapR r.rows p p) (Lib.hid (fun k x e => by
            obtain ⟨j, ej⟩ := hall k x e
            obtain ⟨a1, a2⟩ := H.out.apt j x ej
            exact ⟨a1, by have := hltA j x ej; omega, a2⟩)) H.out.sep.2.2.2 (Lib.hid ⟨H.out.sep.1, H.out.sep.2.1, H.out.sep.2.2.1⟩) (Lib.hid (by rw [swapR_len]; exact HNN.out)) hn6 (Lib.hid hrows) (by rw [HLI.out]; exact HOK.out.hN) (Lib.hid (by rw [HLI.out]; exact HCN.out)) (by omega) (Lib.hid hsp) (Lib.hid hsa) HOK.out.dv (by rw [HPP.out]; omega) (Lib.hid hCW) (Lib.hid hBW) _ _ _ _ _ _ _ _ _ _ _ _ _ _ _ _ _ _ _ _ _ _ _ _ _ _ _ _ _ _ _ _ _ _ _ _ _ _ _ _ _ _ _ _ _ _ _ _ _ _ _ _ _ _ _ _ _ _ _ _ _ _ _ _ _ _ _ _ _ _ _ _ _ _ _ _ _ _ _ _ _ _ _ _ _ _ _ _ _ _ _ _ _ _ _ _ _ _ _ _ _ _ _ _ _ _ _ _ _ _ _ _ _ _ _ _ _ _ _ _ _ _ _ _ _ _ _ _ _ _ _) fun e a W' hq => bodyPost_mono hq fun e2 w9 h2 => ?_
        refine ⟨h2.1, (HB0.out.mono hbb).trans h2.2.below, swapA ads p p, ?_⟩
        refine RdW.cleared H.out HB0.out HPV.out (i := p) (ri := rp) (by rw [HPP.out]; exact rowL_some hsp) hall ?_
        have h3 := h2.2
        rw [clearTo_set, HPP.out] at h3
        rw [HPP.out, HNN.out]
        exact h3
      · have hip' : ¬ (i = p) := fun e => hip e.symm
        go_wp2
        rename_i aK
        have HK := Lib.hid aK
        clear aK
        refine wp_region_G (S := untilS 29 (fun w' => w'.cell? ⟨B, 1, none⟩ = some (.slice (some ⟨g, 0, none⟩) n cap)) (fun w' => w'.cell? ⟨g, p, none⟩ = some (.slice (some ⟨xb, 0, none⟩) rp.length xc) ∧ w'.cell? ⟨g, i, none⟩ = some (.slice (some ⟨yb, 0, none⟩) ri.length yc))) (by kernel_rfl) (untilS_all ⟨c1, hcp1, hci1⟩ _) ?_
        intro hc hS
        refine wpAnyG_take (i := 0) (oi := ?oi0s) (v := ?v0s) ?hi0s (by kernel_rfl) (by kernel_rfl) (by kernel_rfl) ?hQ0s (untilS_set (by decide)) hc ?hy0s hS ?rest0s
        case hi0s => (simp only [List.getElem?_toArray, List.getElem?_cons_zero]; exact rfl)
        case hQ0s => exact fun _ _ _ h => h
        case hy0s => (refine Or.inl ⟨rfl, ?_⟩; (intro w _; go_simp; (try with_reducible rfl)))
        clear hc hS; intro hc hS
        simp only [Act.put, List.setIfInBounds_toArray, List.set_cons_zero, List.set_cons_succ]
        refine wpAnyG_take (i := 1) (oi := ?oi1s) (v := ?v1s) ?hi1s (by kernel_rfl) (by kernel_rfl) (by kernel_rfl) ?hQ1s (untilS_set (by decide)) hc ?hy1s hS ?rest1s
        case hi1s => (simp only [List.getElem?_toArray, List.getElem?_cons_succ, List.getElem?_cons_zero]; exact rfl)
        case hQ1s => exact fun _ _ _ h => h
        case hy1s => (refine Or.inl ⟨rfl, ?_⟩; (intro w _; go_simp; (try with_reducible rfl)))
        clear hc hS; intro hc hS
        simp only [Act.put, List.setIfInBounds_toArray, List.set_cons_zero, List.set_cons_succ]
        refine wpAnyG_take (i := 2) (oi := ?oi2s) (v := ?v2s) ?hi2s (by kernel_rfl) (by kernel_rfl) (by kernel_rfl) ?hQ2s (untilS_set (by decide)) hc ?hy2s hS ?rest2s
        case hi2s => (simp only [List.getElem?_toArray, List.getElem?_cons_succ, List.getElem?_cons_zero]; exact rfl)
        case hQ2s => exact fun _ _ _ h => h
        case hy2s => (refine Or.inl ⟨rfl, ?_⟩; (intro w _; go_simp; (try with_reducible rfl)))
        clear hc hS; intro hc hS
        simp only [Act.put, List.setIfInBounds_toArray, List.set_cons_zero, List.set_cons_succ]
        refine wpAnyG_take (i := 3) (oi := ?oi3s) (v := ?v3s) ?hi3s (by kernel_rfl) (by kernel_rfl) (by kernel_rfl) ?hQ3s (untilS_set (by decide)) hc ?hy3s hS ?rest3s
        case hi3s => (simp only [List.getElem?_toArray, List.getElem?_cons_succ, List.getElem?_cons_zero]; exact rfl)
        case hQ3s => exact fun _ _ _ h => h
        case hy3s => (refine Or.inl ⟨rfl, ?_⟩; (rintro w ⟨L, hsd, hL, hA, hB⟩; clear hsd hL hB; (try dsimp only at hA); go_simp; (try with_reducible rfl)))
        clear hc hS; intro hc hS
        simp only [Act.put, List.setIfInBounds_toArray, List.set_cons_zero, List.set_cons_succ]
        refine wpAnyG_take (i := 4) (oi := ?oi4s) (v := ?v4s) ?hi4s (by kernel_rfl) (by kernel_rfl) (by kernel_rfl) ?hQ4s (untilS_set (by decide)) hc ?hy4s hS ?rest4s
        case hi4s => (simp only [List.getElem?_toArray, List.getElem?_cons_succ, List.getElem?_cons_zero]; exact rfl)
        case hQ4s => exact fun _ _ _ h => h
        case hy4s => (refine Or.inl ⟨rfl, ?_⟩; (intro w _; go_simp; (try with_reducible rfl)))
        clear hc hS; intro hc hS
        simp only [Act.put, List.setIfInBounds_toArray, List.set_cons_zero, List.set_cons_succ]
        refine wpAnyG_take (i := 5) (oi := ?oi5s) (v := ?v5s) ?hi5s (by kernel_rfl) (by kernel_rfl) (by kernel_rfl) ?hQ5s (untilS_set (by decide)) hc ?hy5s hS ?rest5s
        case hi5s => (simp only [List.getElem?_toArray, List.getElem?_cons_succ, List.getElem?_cons_zero]; exact rfl)
        case hQ5s => exact fun _ _ _ h => h
        case hy5s => (refine Or.inl ⟨rfl, ?_⟩; (intro w _; go_simp; (try with_reducible rfl)))
        clear hc hS; intro hc hS
        simp only [Act.put, List.setIfInBounds_toArray, List.set_cons_zero, List.set_cons_succ]
        refine wpAnyG_take (i := 6) (oi := ?oi6s) (v := ?v6s) ?hi6s (by kernel_rfl) (by kernel_rfl) (by kernel_rfl) ?hQ6s (untilS_set (by decide)) hc ?hy6s hS ?rest6s
        case hi6s => (simp only [List.getElem?_toArray, List.getElem?_cons_succ, List.getElem?_cons_zero]; exact rfl)
        case hQ6s => exact fun _ _ _ h => h
        case hy6s => (refine Or.inl ⟨rfl, ?_⟩; (intro w _; go_simp; (try with_reducible rfl)))
        clear hc hS; intro hc hS
        simp only [Act.put, List.setIfInBounds_toArray, List.set_cons_zero, List.set_cons_succ]
        refine wpAnyG_take (i := 7) (oi := ?oi7s) (v := ?v7s) ?hi7s (by kernel_rfl) (by kernel_rfl) (by kernel_rfl) ?hQ7s (untilS_set (by decide)) hc ?hy7s hS ?rest7s
        case hi7s => (simp only [List.getElem?_toArray, List.getElem?_cons_succ, List.getElem?_cons_zero]; exact rfl)
        case hQ7s => exact fun _ _ _ h => h
        case hy7s => (refine Or.inl ⟨rfl, ?_⟩; (intro w _; go_simp; (try with_reducible rfl)))
        clear hc hS; intro hc hS
        simp only [Act.put, List.setIfInBounds_toArray, List.set_cons_zero, List.set_cons_succ]
        refine wpAnyG_take (i := 8) (oi := ?oi8s) (v := ?v8s) ?hi8s (by kernel_rfl) (by kernel_rfl) (by kernel_rfl) ?hQ8s (untilS_set (by decide)) hc ?hy8s hS ?rest8s
        case hi8s => (simp only [List.getElem?_toArray, List.getElem?_cons_succ, List.getElem?_cons_zero]; exact rfl)
        case hQ8s => exact fun _ _ _ h => h
        case hy8s => (refine Or.inl ⟨rfl, ?_⟩; (rintro w ⟨L, hsd, hL, hA, hB⟩; clear hsd hL hB; (try dsimp only at hA); go_simp; (try with_reducible rfl)))
        clear hc hS; intro hc hS
        simp only [Act.put, List.setIfInBounds_toArray, List.set_cons_zero, List.set_cons_succ]
        refine wpAnyG_take (i := 9) (oi := ?oi9s) (v := ?v9s) ?hi9s (by kernel_rfl) (by kernel_rfl) (by kernel_rfl) ?hQ9s (untilS_set (by decide)) hc ?hy9s hS ?rest9s
        case hi9s => (simp only [List.getElem?_toArray, List.getElem?_cons_succ, List.getElem?_cons_zero]; exact rfl)
        case hQ9s => exact fun _ _ _ h => h
        case hy9s => (refine Or.inl ⟨rfl, ?_⟩; (intro w _; go_simp; (try with_reducible rfl)))
        clear hc hS; intro hc hS
        simp only [Act.put, List.setIfInBounds_toArray, List.set_cons_zero, List.set_cons_succ]
        refine wpAnyG_take (i := 10) (oi := ?oi10s) (v := ?v10s) ?hi10s (by kernel_rfl) (by kernel_rfl) (by kernel_rfl) ?hQ10s (untilS_set (by decide)) hc ?hy10s hS ?rest10s
        case hi10s => (simp only [List.getElem?_toArray, List.getElem?_cons_succ, List.getElem?_cons_zero]; exact rfl)
        case hQ10s => exact fun _ _ _ h => h
        case hy10s => (refine Or.inl ⟨rfl, ?_⟩; (intro w _; go_simp; (try with_reducible rfl)))
        clear hc hS; intro hc hS
        simp only [Act.put, List.setIfInBounds_toArray, List.set_cons_zero, List.set_cons_succ]
        refine wpAnyG_take (i := 11) (oi := ?oi11s) (v := ?v11s) ?hi11s (by kernel_rfl) (by kernel_rfl) (by kernel_rfl) ?hQ11s (untilS_set (by decide)) hc ?hy11s hS ?rest11s
        case hi11s => (simp only [List.getElem?_toArray, List.getElem?_cons_succ, List.getElem?_cons_zero]; exact rfl)
        case hQ11s => exact fun _ _ _ h => h
        case hy11s => (refine Or.inl ⟨rfl, ?_⟩; (intro w _; go_simp; (try with_reducible rfl)))
        clear hc hS; intro hc hS
        simp only [Act.put, List.setIfInBounds_toArray, List.set_cons_zero, List.set_cons_succ]
        refine wpAnyG_take (i := 12) (oi := ?oi12s) (v := ?v12s) ?hi12s (by kernel_rfl) (by kernel_rfl) (by kernel_rfl) ?hQ12s (untilS_set (by decide)) hc ?hy12s hS ?rest12s
        case hi12s => (simp only [List.getElem?_toArray, List.getElem?_cons_succ, List.getElem?_cons_zero]; exact rfl)
        case hQ12s => exact fun _ _ _ h => h
        case hy12s => (refine Or.inl ⟨rfl, ?_⟩; (intro w _; go_simp; (try with_reducible rfl)))
        clear hc hS; intro hc hS
        simp only [Act.put, List.setIfInBounds_toArray, List.set_cons_zero, List.set_cons_succ]
        refine wpAnyG_take (i := 13) (oi := ?oi13s) (v := ?v13s) ?hi13s (by kernel_rfl) (by kernel_rfl) (by kernel_rfl) ?hQ13s (untilS_set (by decide)) hc ?hy13s hS ?rest13s
        case hi13s => (simp only [List.getElem?_toArray, List.getElem?_cons_succ, List.getElem?_cons_zero]; exact rfl)
        case hQ13s => exact fun _ _ _ h => h
        case hy13s => (refine Or.inl ⟨rfl, ?_⟩; (intro w _; go_simp; (try with_reducible rfl)))
        clear hc hS; intro hc hS
        simp only [Act.put, List.setIfInBounds_toArray, List.set_cons_zero, List.set_cons_succ]
        refine wpAnyG_take (i := 14) (oi := ?oi14s) (v := ?v14s) ?hi14s (by kernel_rfl) (by kernel_rfl) (by kernel_rfl) ?hQ14s (untilS_set (by decide)) hc ?hy14s hS ?rest14s
        case hi14s => (simp only [List.getElem?_toArray, List.getElem?_cons_succ, List.getElem?_cons_zero]; exact rfl)
        case hQ14s => exact fun _ _ _ h => h
        case hy14s => (refine Or.inl ⟨rfl, ?_⟩; (intro w _; go_simp; (try with_reducible rfl)))
        clear hc hS; intro hc hS
        simp only [Act.put, List.setIfInBounds_toArray, List.set_cons_zero, List.set_cons_succ]
        refine wpAnyG_take (i := 15) (oi := ?oi15s) (v := ?v15s) ?hi15s (by kernel_rfl) (by kernel_rfl) (by kernel_rfl) ?hQ15s (untilS_set (by decide)) hc ?hy15s hS ?rest15s
        case hi15s => (simp only [List.getElem?_toArray, List.getElem?_cons_succ, List.getElem?_cons_zero]; exact rfl)
        case hQ15s => exact fun _ _ _ h => h
        case hy15s => (refine Or.inl ⟨rfl, ?_⟩; (rintro w ⟨L, hsd, hL, hA, hB⟩; clear hsd hL hB; (try dsimp only at hA); go_simp; (try with_reducible rfl)))
        clear hc hS; intro hc hS
        simp only [Act.put, List.setIfInBounds_toArray, List.set_cons_zero, List.set_cons_succ]
        refine wpAnyG_take (i := 16) (oi := ?oi16s) (v := ?v16s) ?hi16s (by kernel_rfl) (by kernel_rfl) (by kernel_rfl) ?hQ16s (untilS_set (by decide)) hc ?hy16s hS ?rest16s
        case hi16s => (simp only [List.getElem?_toArray, List.getElem?_cons_succ, List.getElem?_cons_zero]; exact rfl)
        case hQ16s => exact fun _ _ _ h => h
        case hy16s => (refine Or.inl ⟨rfl, ?_⟩; (intro w _; go_simp; (try with_reducible rfl)))
        clear hc hS; intro hc hS
        simp only [Act.put, List.setIfInBounds_toArray, List.set_cons_zero, List.set_cons_succ]
        refine wpAnyG_take (i := 17) (oi := ?oi17s) (v := ?v17s) ?hi17s (by kernel_rfl) (by kernel_rfl) (by kernel_rfl) ?hQ17s (untilS_set (by decide)) hc ?hy17s hS ?rest17s
        case hi17s => (simp only [List.getElem?_toArray, List.getElem?_cons_succ, List.getElem?_cons_zero]; exact rfl)
        case hQ17s => exact fun _ _ _ h => h
        case hy17s => (refine Or.inl ⟨rfl, ?_⟩; (intro w _; go_simp; (try with_reducible rfl)))
        clear hc hS; intro hc hS
        simp only [Act.put, List.setIfInBounds_toArray, List.set_cons_zero, List.set_cons_succ]
        refine wpAnyG_take (i := 18) (oi := ?oi18s) (v := ?v18s) ?hi18s (by kernel_rfl) (by kernel_rfl) (by kernel_rfl) ?hQ18s (untilS_set (by decide)) hc ?hy18s hS ?rest18s
        case hi18s => (simp only [List.getElem?_toArray, List.getElem?_cons_succ, List.getElem?_cons_zero]; exact rfl)
        case hQ18s => exact fun _ _ _ h => h
        case hy18s => (refine Or.inl ⟨rfl, ?_⟩; (intro w _; go_simp; (try with_reducible rfl)))
        clear hc hS; intro hc hS
        simp only [Act.put, List.setIfInBounds_toArray, List.set_cons_zero, List.set_cons_succ]
        refine wpAnyG_take (i := 19) (oi := ?oi19s) (v := ?v19s) ?hi19s (by kernel_rfl) (by kernel_rfl) (by kernel_rfl) ?hQ19s (untilS_set (by decide)) hc ?hy19s hS ?rest19s
        case hi19s => (simp only [List.getElem?_toArray, List.getElem?_cons_succ, List.getElem?_cons_zero]; exact rfl)
        case hQ19s => exact fun _ _ _ h => h
        case hy19s => (refine Or.inl ⟨rfl, ?_⟩; (intro w _; go_simp; (try with_reducible rfl)))
        clear hc hS; intro hc hS
        simp only [Act.put, List.setIfInBounds_toArray, List.set_cons_zero, List.set_cons_succ]
        refine wpAnyG_take (i := 20) (oi := ?oi20s) (v := ?v20s) ?hi20s (by kernel_rfl) (by kernel_rfl) (by kernel_rfl) ?hQ20s (untilS_set (by decide)) hc ?hy20s hS ?rest20s
        case hi20s => (simp only [List.getElem?_toArray, List.getElem?_cons_succ, List.getElem?_cons_zero]; exact rfl)
        case hQ20s => exact fun _ _ _ h => h
        case hy20s => (refine Or.inl ⟨rfl, ?_⟩; (rintro w ⟨L, hsd, hL, hA, hB⟩; replace hB := hB (hsd.not (i := 20) (by kernel_rfl) hL); obtain ⟨q1, q2⟩ := hB; clear hsd hL; (try dsimp only at hA); go_simp; (try with_reducible rfl)))
        clear hc hS; intro hc hS
        simp only [Act.put, List.setIfInBounds_toArray, List.set_cons_zero, List.set_cons_succ]
        refine wpAnyG_take (i := 21) (oi := ?oi21s) (v := ?v21s) ?hi21s (by kernel_rfl) (by kernel_rfl) (by kernel_rfl) ?hQ21s (untilS_set (by decide)) hc ?hy21s hS ?rest21s
        case hi21s => (simp only [List.getElem?_toArray, List.getElem?_cons_succ, List.getElem?_cons_zero]; exact rfl)
        case hQ21s => exact fun _ _ _ h => h
        case hy21s => (refine Or.inl ⟨rfl, ?_⟩; (intro w _; go_simp; (try with_reducible rfl)))
        clear hc hS; intro hc hS
        simp only [Act.put, List.setIfInBounds_toArray, List.set_cons_zero, List.set_cons_succ]
        refine wpAnyG_take (i := 22) (oi := ?oi22s) (v := ?v22s) ?hi22s (by kernel_rfl) (by kernel_rfl) (by kernel_rfl) ?hQ22s (untilS_set (by decide)) hc ?hy22s hS ?rest22s
        case hi22s => (simp only [List.getElem?_toArray, List.getElem?_cons_succ, List.getElem?_cons_zero]; exact rfl)
        case hQ22s => exact fun _ _ _ h => h
        case hy22s => (refine Or.inl ⟨rfl, ?_⟩; (intro w _; go_simp; (try with_reducible rfl)))
        clear hc hS; intro hc hS
        simp only [Act.put, List.setIfInBounds_toArray, List.set_cons_zero, List.set_cons_succ]
        refine wpAnyG_take (i := 23) (oi := ?oi23s) (v := ?v23s) ?hi23s (by kernel_rfl) (by kernel_rfl) (by kernel_rfl) ?hQ23s (untilS_set (by decide)) hc ?hy23s hS ?rest23s
        case hi23s => (simp only [List.getElem?_toArray, List.getElem?_cons_succ, List.getElem?_cons_zero]; exact rfl)
        case hQ23s => exact fun _ _ _ h => h
        case hy23s => (refine Or.inl ⟨rfl, ?_⟩; (intro w _; go_simp; (try with_reducible rfl)))
        clear hc hS; intro hc hS
        simp only [Act.put, List.setIfInBounds_toArray, List.set_cons_zero, List.set_cons_succ]
        refine wpAnyG_take (i := 24) (oi := ?oi24s) (v := ?v24s) ?hi24s (by kernel_rfl) (by kernel_rfl) (by kernel_rfl) ?hQ24s (untilS_set (by decide)) hc ?hy24s hS ?rest24s
        case hi24s => (simp only [List.getElem?_toArray, List.getElem?_cons_succ, List.getElem?_cons_zero]; exact rfl)
        case hQ24s => exact fun _ _ _ h => h
        case hy24s => (refine Or.inl ⟨rfl, ?_⟩; (rintro w ⟨L, hsd, hL, hA, hB⟩; clear hsd hL hB; (try dsimp only at hA); go_simp; (try with_reducible rfl)))
        clear hc hS; intro hc hS
        simp only [Act.put, List.setIfInBounds_toArray, List.set_cons_zero, List.set_cons_succ]
        refine wpAnyG_take (i := 25) (oi := ?oi25s) (v := ?v25s) ?hi25s (by kernel_rfl) (by kernel_rfl) (by kernel_rfl) ?hQ25s (untilS_set (by decide)) hc ?hy25s hS ?rest25s
        case hi25s => (simp only [List.getElem?_toArray, List.getElem?_cons_succ, List.getElem?_cons_zero]; exact rfl)
        case hQ25s => exact fun _ _ _ h => h
        case hy25s => (refine Or.inl ⟨rfl, ?_⟩; (intro w _; go_simp; (try with_reducible rfl)))
        clear hc hS; intro hc hS
        simp only [Act.put, List.setIfInBounds_toArray, List.set_cons_zero, List.set_cons_succ]
        refine wpAnyG_take (i := 26) (oi := ?oi26s) (v := ?v26s) ?hi26s (by kernel_rfl) (by kernel_rfl) (by kernel_rfl) ?hQ26s (untilS_set (by decide)) hc ?hy26s hS ?rest26s
        case hi26s => (simp only [List.getElem?_toArray, List.getElem?_cons_succ, List.getElem?_cons_zero]; exact rfl)
        case hQ26s => exact fun _ _ _ h => h
        case hy26s => (refine Or.inl ⟨rfl, ?_⟩; (intro w _; go_simp; (try with_reducible rfl)))
        clear hc hS; intro hc hS
        simp only [Act.put, List.setIfInBounds_toArray, List.set_cons_zero, List.set_cons_succ]
        refine wpAnyG_take (i := 27) (oi := ?oi27s) (v := ?v27s) ?hi27s (by kernel_rfl) (by kernel_rfl) (by kernel_rfl) ?hQ27s (untilS_set (by decide)) hc ?hy27s hS ?rest27s
        case hi27s => (simp only [List.getElem?_toArray, List.getElem?_cons_succ, List.getElem?_cons_zero]; exact rfl)
        case hQ27s => exact fun _ _ _ h => h
        case hy27s => (refine Or.inl ⟨rfl, ?_⟩; (rintro w ⟨L, hsd, hL, hA, hB⟩; replace hB := hB (hsd.not (i := 27) (by kernel_rfl) hL); obtain ⟨q1, q2⟩ := hB; clear hsd hL; (try dsimp only at hA); go_simp; (try with_reducible rfl)))
        clear hc hS; intro hc hS
        simp only [Act.put, List.setIfInBounds_toArray, List.set_cons_zero, List.set_cons_succ]
        refine wpAnyG_take (i := 28) (oi := ?oi28s) (v := ?v28s) ?hi28s (by kernel_rfl) (by kernel_rfl) (by kernel_rfl) ?hQ28s (untilS_set (by decide)) hc ?hy28s hS ?rest28s
        case hi28s => (simp only [List.getElem?_toArray, List.getElem?_cons_succ, List.getElem?_cons_zero]; exact rfl)
        case hQ28s => exact fun _ _ _ h => h
        case hy28s => (refine Or.inl ⟨rfl, ?_⟩; (intro w _; go_simp; (try with_reducible rfl)))
        clear hc hS; intro hc hS
        simp only [Act.put, List.setIfInBounds_toArray, List.set_cons_zero, List.set_cons_succ]
        refine wpAnyG_only (i := 29) (o := ?oi29s) (by kernel_rfl) ?hi29s hc ?rest29s
        case hi29s => (simp only [List.getElem?_toArray, List.getElem?_cons_succ, List.getElem?_cons_zero]; exact rfl)
        clear hc; intro hc K hK; have HK := Lib.hid hK; clear hK
        go_simp
        refine HK.out _ _ (untilS_past (HC1A.out _ _ _ c1) (by first | rfl | decide)) ?_
        clear HK K hS; intro hS
        refine wpAnyG_take (i := 30) (oi := ?oi30s) (v := ?v30s) ?hi30s (by kernel_rfl) (by kernel_rfl) (by kernel_rfl) ?hQ30s (untilS_set (by decide)) hc ?hy30s hS ?rest30s
        case hi30s => (simp only [List.getElem?_toArray, List.getElem?_cons_succ, List.getElem?_cons_zero]; exact rfl)
        case hQ30s => exact fun _ _ _ h => h
        case hy30s => (refine Or.inl ⟨rfl, ?_⟩; (intro w _; go_simp; (try with_reducible rfl)))
        clear hc hS; intro hc hS
        simp only [Act.put, List.setIfInBounds_toArray, List.set_cons_zero, List.set_cons_succ]
        refine wpAnyG_only (i := 31) (o := ?oi31s) (by kernel_rfl) ?hi31s hc ?rest31s
        case hi31s => (simp only [List.getElem?_toArray, List.getElem?_cons_succ, List.getElem?_cons_zero]; exact rfl)
        clear hc; intro hc K hK; have HK := Lib.hid hK; clear hK
        go_simp
        refine HK.out _ _ (untilS_past (HC1A.out _ _ _ (HC1A.out _ _ _ c1)) (by first | rfl | decide)) ?_
        clear HK K hS; intro hS
        refine wpAnyG_done (by kernel_rfl) ?_ _
        refine HK.out _ _ ?_
        have hsp : (swapR r.rows p i)[p]? = some ri := by rw [swapR_get (by rw [HNN.out]; omega) (by rw [HNN.out]; omega)]; rw [show swI p i p = i by unfold swI; rw [if_neg hip, if_pos rfl]]; exact HRI.out
        have hsa : (swapA ads p i)[p]? = some (yb, yc) := by rw [swapA_get (by rw [H.out.si.len, HNN.out]; omega) (by rw [H.out.si.len, HNN.out]; omega)]; rw [show swI p i p = i by unfold swI; rw [if_neg hip, if_pos rfl]]; exact HIY.out
        have hCW := CW.swapped (H.out.far HB0.out) hcb (fun e => by have := H.out.gl; omega) HPX.out HIY.out HRP.out HRI.out
        rw [HNN.out] at hCW
        have hall : ∀ (k : Nat) (x : Nat × Nat), (swapA ads p i)[k]? = some x → ∃ j : Nat, ads[j]? = some x := fun k x e => by
          rw [swapA_get (by rw [H.out.si.len, HNN.out]; omega) (by rw [H.out.si.len, HNN.out]; omega)] at e
          exact ⟨_, e⟩
        have hltA : ∀ (k : Nat) (x : Nat × Nat), ads[k]? = some x → x.1 < w.heap.size := fun k x ek => by
          have hk : k < r.rows.length := by rw [← H.out.si.len]; exact (List.getElem?_eq_some_iff.1 ek).1
          exact (OwnI.lt (H.out.si.row k x _ ek (List.getElem?_eq_getElem hk)).2).1
        have hrows : ∀ q ∈ swapR r.rows p i, q.length = ri.length := fun q hq => by
          obtain ⟨k, hk, rfl⟩ := List.mem_iff_getElem.1 hq
          have e : (swapR r.rows p i)[k]? = some (swapR r.rows p i)[k] := List.getElem?_eq_getElem hk
          rw [swapR_get (by rw [HNN.out]; omega) (by rw [HNN.out]; omega)] at e
          rw [HLI.out]; exact HOK.out.row _ (List.mem_of_getElem? e)
        have hBW : Below base (w.alloc (.cells #[.int .i64 (c : Int)] 3)) (((w.alloc (.cells #[.int .i64 (c : Int)] 3)).setCell ⟨g, p, none⟩ (.slice (some ⟨yb, 0, none⟩) ri.length yc)).setCell ⟨g, i, none⟩ (.slice (some ⟨xb, 0, none⟩) rp.length xc)).drew := (((Below.refl _ _).setCell (p := ⟨g, p, none⟩) H.out.bg _).setCell (p := ⟨g, i, none⟩) H.out.bg _).drew
        refine wp_mono (clear_t5 (w0 := (w.alloc (.cells #[.int .i64 (c : Int)] 3))) (n := n) (p := p) (own0 := ri) (bo := yb) (co := yc) (ads := swapA ads p i) (M := swapR r.rows p i) (Lib.hid (fun k x e => by
            obtain ⟨j, ej⟩ := hall k x e
            obtain ⟨a1, a2⟩ := H.out.apt j x ej
            exact ⟨a1, by have := hltA j x ej; omega, a2⟩)) H.out.sep.2.2.2 (Lib.hid ⟨H.out.sep.1, H.out.sep.2.1, H.out.sep.2.2.1⟩) (Lib.hid (by rw [swapR_len]; exact HNN.out)) hn6 (Lib.hid hrows) (by rw [HLI.out]; exact HOK.out.hN) (Lib.hid (by rw [HLI.out]; exact HCN.out)) (by omega) (Lib.hid hsp) (Lib.hid hsa) HOK.out.dv (by rw [HPP.out]; omega) (Lib.hid hCW) (Lib.hid hBW) _ _ _ _ _ _ _ _ _ _ _ _ _ _ _ _ _ _ _ _ _ _ _ _ _ _ _ _ _ _ _ _ _ _ _ _ _ _ _ _ _ _ _ _ _ _ _ _ _ _ _ _ _ _ _ _ _ _ _ _ _ _ _ _ _ _ _ _ _ _ _ _ _ _ _ _ _ _ _ _ _ _ _ _ _ _ _ _ _ _ _ _ _ _ _ _ _ _ _ _ _ _ _ _ _ _ _ _ _ _ _ _ _ _ _ _ _ _ _ _ _ _ _ _ _ _ _ _ _ _ _) fun e a W' hq => bodyPost_mono hq fun e2 w9 h2 => ?_
        refine ⟨h2.1, (HB0.out.mono hbb).trans h2.2.below, swapA ads p i, ?_⟩
        refine RdW.cleared H.out HB0.out HPV.out (i := i) (ri := ri) (by rw [HPP.out]; exact rowL_some hsp) hall ?_
        have h3 := h2.2
        rw [clearTo_set, HPP.out] at h3
        rw [HPP.out, HNN.out]
        exact h3
end Go.Proofs.YtgbnfhfkehpfaaaGreat
/- What clear keeps of a reduction: rows of one length, numbers of 64 bits, a divisor that is not 0. -/
namespace Go.Proofs.YtgbnfhfkehpfaaaGreat
open Go.RowKit

def In64 (x : Int) : Prop := -9223372036854775808 ≤ x ∧ x ≤ 9223372036854775807
theorem in64_wrap (n : Int) : In64 (IntKind.i64.wrap n) := by rw [← wrap_is]; unfold wrap64 In64; omega
theorem wrap_neg_ne {x : Int} (h : In64 x) (h0 : x ≠ 0) : IntKind.i64.wrap (-x) ≠ 0 := by rw [← wrap_is]; unfold In64 at h; unfold wrap64; omega
def All64 (M : List (List Int)) : Prop := ∀ q ∈ M, ∀ x ∈ q, In64 x
theorem gt_in64 {q : List Int} (h : ∀ x ∈ q, In64 x) (k : Nat) : In64 (gt q k) := by
  unfold gt
  cases e : q[k]? with
  | none => exact ⟨by decide, by decide⟩
  | some x => exact h x (List.mem_of_getElem? e)
theorem rowL_mem {M : List (List Int)} {i : Nat} (h : i < M.length) : rowL M i ∈ M := by
  rw [rowL_some (List.getElem?_eq_getElem h)]; exact List.getElem_mem h
theorem swapR_mem {M : List (List Int)} {i j : Nat} (hi : i < M.length) (hj : j < M.length) {q : List Int} (h : q ∈ swapR M i j) : q ∈ M := by
  unfold swapR at h
  rcases List.mem_or_eq_of_mem_set h with h | rfl
  · rcases List.mem_or_eq_of_mem_set h with h | rfl
    · exact h
    · exact rowL_mem hj
  · exact rowL_mem hi
theorem rowL_swapR {M : List (List Int)} {i j : Nat} (hi : i < M.length) (hj : j < M.length) : rowL (swapR M i j) i = rowL M j := by
  unfold swapR
  by_cases e : i = j
  · subst e; apply rowL_some; rw [List.getElem?_set_self (by simpa using hi)]
  · apply rowL_some; rw [List.getElem?_set_ne (Ne.symm e), List.getElem?_set_self hi]
theorem ownR_len (r : List Int) (c : Nat) : (ownR r c).length = r.length := by unfold ownR; split <;> simp [negL]
theorem ownR_in {r : List Int} {c : Nat} (h : ∀ x ∈ r, In64 x) : ∀ x ∈ ownR r c, In64 x := by
  unfold ownR
  split
  · intro x hx; unfold negL at hx; obtain ⟨y, _, rfl⟩ := List.mem_map.1 hx; exact in64_wrap _
  · exact h
theorem ownR_ne {r : List Int} {c : Nat} (h : ∀ x ∈ r, In64 x) (h0 : gt r c ≠ 0) : gt (ownR r c) c ≠ 0 := by
  unfold ownR
  split
  · have hc : c < r.length := by
      rcases Nat.lt_or_ge c r.length with hc | hc
      · exact hc
      · exact absurd (by unfold gt; rw [List.getElem?_eq_none hc]; rfl) h0
    have e : gt (negL r) c = IntKind.i64.wrap (-gt r c) := by unfold gt negL; simp [hc]
    rw [e]; exact wrap_neg_ne (gt_in64 h c) h0
  · exact h0
theorem combL_in {next times dv : Int} {own row : List Int} : ∀ x ∈ combL next times dv own row, In64 x := by
  intro x hx
  unfold combL combTo at hx
  obtain ⟨k, hk, rfl⟩ := List.mem_map.1 hx
  rw [if_pos (List.mem_range.1 hk)]
  exact in64_wrap _
theorem RdOk.clear {N c : Nat} {r : Rd} (h : RdOk N r) (h64 : All64 r.rows) : RdOk N (clearR c r) ∧ All64 (clearR c r).rows ∧ (clearR c r).rows.length = r.rows.length ∧ (clearR c r).cols = r.cols := by
  unfold clearR
  cases hp : pivRow r.rows c (r.rows.length - r.piv.length) r.piv.length with
  | none => exact ⟨h, h64, rfl, rfl⟩
  | some i =>
    obtain ⟨h1, h2, h3⟩ := pivRow_some hp
    have hpv := h.piv
    have hi : i < r.rows.length := by omega
    have hq : r.piv.length < r.rows.length := by omega
    have hl : (swapR r.rows r.piv.length i).length = r.rows.length := swapR_len _ _ _
    have eo := rowL_swapR hq hi
    have ho64 : ∀ x ∈ ownR (rowL (swapR r.rows r.piv.length i) r.piv.length) c, In64 x := by rw [eo]; exact ownR_in (h64 _ (rowL_mem hi))
    have hol : (ownR (rowL (swapR r.rows r.piv.length i) r.piv.length) c).length = N := by rw [ownR_len, eo]; exact h.row _ (rowL_mem hi)
    have hrow : ∀ q ∈ clearTo (swapR r.rows r.piv.length i) (ownR (rowL (swapR r.rows r.piv.length i) r.piv.length) c) r.piv.length c r.dv (swapR r.rows r.piv.length i).length, q.length = N ∧ ∀ x ∈ q, In64 x := by
      intro q hm
      unfold clearTo at hm
      obtain ⟨k, hk, rfl⟩ := List.mem_map.1 hm
      have hk := List.mem_range.1 hk
      split
      · exact ⟨hol, ho64⟩
      · exact ⟨by rw [combL_len]; exact h.row _ (swapR_mem hq hi (rowL_mem hk)), combL_in⟩
    have hcl : (clearTo (swapR r.rows r.piv.length i) (ownR (rowL (swapR r.rows r.piv.length i) r.piv.length) c) r.piv.length c r.dv (swapR r.rows r.piv.length i).length).length = r.rows.length := by simp [clearTo, hl]
    refine ⟨⟨?_, fun q hm => (hrow q hm).1, h.hN, ?_, ?_⟩, fun q hm => (hrow q hm).2, hcl, rfl⟩
    · show (clearTo _ _ _ _ _ _).length ≤ 100; rw [hcl]; exact h.len
    · show (r.piv ++ [(c : Int)]).length ≤ (clearTo _ _ _ _ _ _).length; rw [hcl]; simp; omega
    · show gt (ownR _ c) c ≠ 0
      rw [eo]; exact ownR_ne (h64 _ (rowL_mem hi)) h3
end Go.Proofs.YtgbnfhfkehpfaaaGreat
/- The columns of a reduction cleared: the second loop of reduce. -/
namespace Go.Proofs.YtgbnfhfkehpfaaaGreat
open Go.RowKit

theorem results_cell_one' {fn : Func} {p : Tmp} {ty : TypeId} (h : fn.results = #[.cell p ty]) (tmps : Array Value) (P : Program) (w : World) :
    (results fn tmps).run P w = ((asAddr (tmps.getD p undef)).run P w).andThen fun a w₁ => ((loadVar ty a).run P w₁).andThen fun v w₂ => .ok v w₂ := by
  simp only [results, h]
  simp [Sem.run_bind, Result.andThen]
  split <;> first | rfl | (split <;> rfl) | (split <;> simp_all)
def rdV (g cap : Nat) (pa : Option Addr) (pc : Nat) (r : Rd) : Value := .agg #[.int .i64 (r.cols : Int), .slice (some ⟨g, 0, none⟩) r.rows.length cap, .slice pa r.piv.length pc, .int .i64 r.dv]
def rdBox (T g cap : Nat) (pa : Option Addr) (pc : Nat) (r : Rd) (w : World) : World := (((w.setCell ⟨T, 0, none⟩ (.int .i64 (r.cols : Int))).setCell ⟨T, 1, none⟩ (.slice (some ⟨g, 0, none⟩) r.rows.length cap)).setCell ⟨T, 2, none⟩ (.slice pa r.piv.length pc)).setCell ⟨T, 3, none⟩ (.int .i64 r.dv)
def clearN (r : Rd) (k : Nat) : Rd := (List.range k).foldl (fun r c => clearR c r) r
theorem clearN_succ (r : Rd) (k : Nat) : clearN r (k + 1) = clearR k (clearN r k) := by unfold clearN; rw [List.range_succ, List.foldl_append]; rfl
theorem clearN_ok {N : Nat} {r : Rd} (h : RdOk N r) (h64 : All64 r.rows) (k : Nat) : RdOk N (clearN r k) ∧ All64 (clearN r k).rows ∧ (clearN r k).rows.length = r.rows.length ∧ (clearN r k).cols = r.cols := by
  induction k with
  | zero => exact ⟨h, h64, rfl, rfl⟩
  | succ k ih =>
    obtain ⟨a, b, c, d⟩ := ih
    obtain ⟨a', b', c', d'⟩ := a.clear (c := k) b
    rw [clearN_succ]
    exact ⟨a', b', c'.trans c, d'.trans d⟩
set_option maxRecDepth 100000 in
set_option maxHeartbeats 1600000 in
theorem reduce_t3 {base B T g cap N : Nat} {ads : List (Nat × Nat)} {pv : Value} {r : Rd} {pxa : Option Addr} {px : List Int} {pxc : Nat} {w w0 : World} (hT : T < base) (_hTw : T < w0.heap.size) (hok : Hid (RdOk N r)) (h64 : Hid (All64 r.rows)) (hpN : px.length ≤ N) (hp100 : px.length ≤ 100) (hcap : Hid (r.rows.length ≤ cap))
    (hbx : Hid (∀ k, k < 4 → (∃ u, w0.cell? ⟨T, k, none⟩ = some u) ∧ w0.frozen? ⟨T, k, none⟩ = false)) (h : Hid (RdW base B g cap ads pv r w)) (hb0 : Hid (Below base w0 w)) (u0 u2 u3 u4 u5 u8 u9 u10 u11 u12 u13 u14 u15 u16 u17 u18 u19 u20 u21 u22 u23 u24 u25 u26 u27 u28 u29 u30 u31 u32 u33 u34 u35 u36 u37 u38 u39 u40 u41 u42 u43 u44 u45 u46 u47 u48 u49 u50 u51 u52 u53 u54 u55 u56 u57 u58 : Value) (R : Ending → World → Prop)
    (hR : Hid (∀ (ads' : List (Nat × Nat)) (pa : Option Addr) (pc : Nat) (W : World), RdW base B g cap ads' (.slice pa (clearN r px.length).piv.length pc) (clearN r px.length) W → Below base w0 W → R (.returned (rdV g cap pa pc (clearN r px.length))) (rdBox T g cap pa pc (clearN r px.length) W))) :
    Code.wp Tryz.prog (seqTail 3 ((Tryz.f72.body).getD .skip)) (bodyPost Tryz.prog Tryz.f72 R) { tmps := #[u0, .slice pxa px.length pxc, u2, u3, u4, u5, .pointer (some ⟨T, 0, none⟩), .pointer (some ⟨B, 0, none⟩), u8, u9, u10, u11, u12, u13, u14, u15, u16, u17, u18, u19, u20, u21, u22, u23, u24, u25, u26, u27, u28, u29, u30, u31, u32, u33, u34, u35, u36, u37, u38, u39, u40, u41, u42, u43, u44, u45, u46, u47, u48, u49, u50, u51, u52, u53, u54, u55, u56, u57, u58], defers := [] } w := by
  conv => arg 2; whnf
  refine wp_seq_k (fun K hK => ?_)
  have HK := Lib.hid hK; clear hK
  go_wp2
  go_loopw [52] (fun i wr => ∃ (k : Nat) (ads' : List (Nat × Nat)) (pv' : Value), k ≤ px.length ∧ i = .int .i64 k ∧ Hid (RdW base B g cap ads' pv' (clearN r k) wr) ∧ Below base w0 wr) (fun i _ => px.length - (intOf i).toNat)
  case atStart => exact ⟨0, ads, pv, Nat.zero_le _, rfl, h, hb0.out⟩
  case round =>
    obtain ⟨k, ads', pv', hk, rfl, HR, hbl⟩ := hrel
    have HBL := Lib.hid hbl; clear hbl
    by_cases hlt : k < px.length
    · have HCO := Lib.hid (clearN_ok hok.out h64.out k)
      have HSU := Lib.hid (clearN_succ r k)
      go_wp2_with (go_at_call 95; refine (clear_any base B g cap k N ads' pv' (clearN r k) _ HCO.out.1 (Nat.lt_of_lt_of_le hlt hpN) (by rw [HCO.out.2.2.1]; exact hcap.out) HR.out).mono ?_; rintro e w2 ⟨rfl, hb2, ads2, pv2, hr2⟩)
      have HR2 : Hid (RdW base B g cap ads2 pv2 (clearN r (k + 1)) w2) := by rw [HSU.out]; exact hr2
      clear hr2
      go_wp2
      go_roundw
      case rel => exact ⟨k + 1, ads2, pv2, hlt, by go_num, HR2, HBL.out.trans hb2⟩
      case measure => simp [intOf]; omega
    · obtain rfl : k = px.length := by omega
      go_wp2
      refine HK.out _ _ ?_
      have c0 := HR.out.bx.c0
      have c1 := HR.out.bx.c1
      have c2 := HR.out.bx.c2
      have c3 := HR.out.bx.c3
      obtain ⟨pa, pc, rfl, _⟩ := HR.out.pi.any
      obtain ⟨⟨v0, t0⟩, z0⟩ := hbx.out 0 (by omega)
      obtain ⟨⟨v1, t1⟩, z1⟩ := hbx.out 1 (by omega)
      obtain ⟨⟨v2, t2⟩, z2⟩ := hbx.out 2 (by omega)
      obtain ⟨⟨v3, t3⟩, z3⟩ := hbx.out 3 (by omega)
      have t0' := (HBL.out.cell (p := ⟨T, 0, none⟩) hT).trans t0
      have t1' := (HBL.out.cell (p := ⟨T, 1, none⟩) hT).trans t1
      have t2' := (HBL.out.cell (p := ⟨T, 2, none⟩) hT).trans t2
      have t3' := (HBL.out.cell (p := ⟨T, 3, none⟩) hT).trans t3
      have z0' := (HBL.out.frozen (p := ⟨T, 0, none⟩) hT).trans z0
      have z1' := (HBL.out.frozen (p := ⟨T, 1, none⟩) hT).trans z1
      have z2' := (HBL.out.frozen (p := ⟨T, 2, none⟩) hT).trans z2
      have z3' := (HBL.out.frozen (p := ⟨T, 3, none⟩) hT).trans z3
      clear HK t0 t1 t2 t3 z0 z1 z2 z3
      go_wp2
      refine bodyPost_ret_by (v := rdV g cap pa pc (clearN r px.length)) ?_ rfl (hR.out ads' pa pc wr HR.out HBL.out)
      rw [results_cell_one' rfl]
      unfold rdV
      go_simp
end Go.Proofs.YtgbnfhfkehpfaaaGreat
/- Whole numbers of 128 bits in layer 3: widened, times, compare; cmp.Compare and cmp.Or of Go's library: contracts. -/
namespace Go.Proofs.YtgbnfhfkehpfaaaGreat
open Go.RowKit

def cmpZ (a b : Int) : Int := if a < b then -1 else if b < a then 1 else 0
def hi64 (x : Int) : Int := (x / 18446744073709551616) % 18446744073709551616
def lo64 (x : Int) : Int := x % 18446744073709551616
def wideV (x : Int) : Value := .agg #[.int .u64 (hi64 x), .int .u64 (lo64 x)]
theorem lo64_in (x : Int) : 0 ≤ lo64 x ∧ lo64 x < 18446744073709551616 := by unfold lo64; omega
theorem hi64_in (x : Int) : 0 ≤ hi64 x ∧ hi64 x < 18446744073709551616 := by unfold hi64; omega
theorem cmpi_any (a b : Int) (w : World) : Calls Tryz.prog 146 #[.int .i64 a, .int .i64 b] w fun e w' => e = .returned (.int .i64 (cmpZ a b)) ∧ w = w' := by
  have HN : Hid (∀ (a : Int) (w : World), Calls Tryz.prog 158 #[.int .i64 a] w fun e w' => e = .returned (.bool false) ∧ w = w') := fun a w => by
    go_enter Tryz.func158, Tryz.ntmps158
    go_wp2
    go_ret
    exact ⟨by simp, rfl⟩
  by_cases h1 : a < b
  · have HC : Hid (cmpZ a b = -1) := by show _ = _; unfold cmpZ; rw [if_pos h1]
    go_enter Tryz.func146, Tryz.ntmps146
    go_wp2_with (go_at_call 158; refine (HN.out _ _).mono ?_; rintro e w1 ⟨rfl, rfl⟩)
    go_ret
    exact ⟨ret_i64 HC.out.symm, rfl⟩
  · by_cases h2 : b < a
    · have HC : Hid (cmpZ a b = 1) := by show _ = _; unfold cmpZ; rw [if_neg h1, if_pos h2]
      go_enter Tryz.func146, Tryz.ntmps146
      go_wp2_with (go_at_call 158; refine (HN.out _ _).mono ?_; rintro e w1 ⟨rfl, rfl⟩)
      go_ret
      exact ⟨ret_i64 HC.out.symm, rfl⟩
    · have HC : Hid (cmpZ a b = 0) := by show _ = _; unfold cmpZ; rw [if_neg h1, if_neg h2]
      go_enter Tryz.func146, Tryz.ntmps146
      go_wp2_with (go_at_call 158; refine (HN.out _ _).mono ?_; rintro e w1 ⟨rfl, rfl⟩)
      go_ret
      exact ⟨ret_i64 HC.out.symm, rfl⟩
theorem cmpu_any (a b : Int) (w : World) : Calls Tryz.prog 147 #[.int .u64 a, .int .u64 b] w fun e w' => e = .returned (.int .i64 (cmpZ a b)) ∧ w = w' := by
  have HN : Hid (∀ (a : Int) (w : World), Calls Tryz.prog 159 #[.int .u64 a] w fun e w' => e = .returned (.bool false) ∧ w = w') := fun a w => by
    go_enter Tryz.func159, Tryz.ntmps159
    go_wp2
    go_ret
    exact ⟨by simp, rfl⟩
  by_cases h1 : a < b
  · have HC : Hid (cmpZ a b = -1) := by show _ = _; unfold cmpZ; rw [if_pos h1]
    go_enter Tryz.func147, Tryz.ntmps147
    go_wp2_with (go_at_call 159; refine (HN.out _ _).mono ?_; rintro e w1 ⟨rfl, rfl⟩)
    go_ret
    exact ⟨ret_i64 HC.out.symm, rfl⟩
  · by_cases h2 : b < a
    · have HC : Hid (cmpZ a b = 1) := by show _ = _; unfold cmpZ; rw [if_neg h1, if_pos h2]
      go_enter Tryz.func147, Tryz.ntmps147
      go_wp2_with (go_at_call 159; refine (HN.out _ _).mono ?_; rintro e w1 ⟨rfl, rfl⟩)
      go_ret
      exact ⟨ret_i64 HC.out.symm, rfl⟩
    · have HC : Hid (cmpZ a b = 0) := by show _ = _; unfold cmpZ; rw [if_neg h1, if_neg h2]
      go_enter Tryz.func147, Tryz.ntmps147
      go_wp2_with (go_at_call 159; refine (HN.out _ _).mono ?_; rintro e w1 ⟨rfl, rfl⟩)
      go_ret
      exact ⟨ret_i64 HC.out.symm, rfl⟩
def orZ (p q : Int) : Int := if p = 0 then q else p
theorem or_any (a : Option Addr) (p q : Int) (c : Nat) (w : World) (hs : Sl w a [p, q]) : Calls Tryz.prog 145 #[.slice a 2 c] w fun e w' => e = .returned (.int .i64 (orZ p q)) ∧ w = w' := by
  obtain ⟨b, o, x, rfl, h0, e0⟩ := hs.at (k := 0) (by simp)
  obtain ⟨b', o', y, hb, h1, e1⟩ := hs.at (k := 1) (by simp)
  obtain ⟨rfl, rfl⟩ : b = b' ∧ o = o' := by simpa using hb
  have q0 : p = x := Option.some.inj e0
  have q1 : q = y := Option.some.inj e1
  subst q0 q1
  rw [Nat.add_zero] at h0
  clear e0 e1 hb hs
  by_cases hp : p = 0
  · subst hp
    by_cases hq : q = 0
    · subst hq
      go_enter Tryz.func145, Tryz.ntmps145
      go_wp2
      go_loopw [8] (fun i wr => ∃ k : Nat, k ≤ 2 ∧ i = .int .i64 k ∧ wr = w) (fun i _ => 2 - (intOf i).toNat)
      case atStart => exact ⟨0, by omega, rfl, rfl⟩
      case round =>
        obtain ⟨k, hk, rfl, rfl⟩ := hrel
        match k, hk with
        | 0, _ =>
          go_wp2
          go_roundw
          case rel => exact ⟨1, by omega, by go_num, by first | trivial | rfl⟩
          case measure => simp [intOf]
        | 1, _ =>
          go_wp2
          go_roundw
          case rel => exact ⟨2, by omega, by go_num, by first | trivial | rfl⟩
          case measure => simp [intOf]
        | 2, _ =>
          go_wp2
          go_ret
          exact ⟨rfl, rfl⟩
    · have hq' : (q != 0) = true := by simpa using hq
      have HO : Hid (orZ 0 q = q) := by show _ = _; unfold orZ; simp
      go_enter Tryz.func145, Tryz.ntmps145
      go_wp2
      go_loopw [8] (fun i wr => ∃ k : Nat, k ≤ 1 ∧ i = .int .i64 k ∧ wr = w) (fun i _ => 2 - (intOf i).toNat)
      case atStart => exact ⟨0, by omega, rfl, rfl⟩
      case round =>
        obtain ⟨k, hk, rfl, rfl⟩ := hrel
        match k, hk with
        | 0, _ =>
          go_wp2
          go_roundw
          case rel => exact ⟨1, by omega, by go_num, by first | trivial | rfl⟩
          case measure => simp [intOf]
        | 1, _ =>
          go_wp2
          go_ret
          exact ⟨ret_i64 HO.out.symm, rfl⟩
  · have hp' : (p != 0) = true := by simpa using hp
    have HO : Hid (orZ p q = p) := by show _ = _; unfold orZ; rw [if_neg hp]
    go_enter Tryz.func145, Tryz.ntmps145
    go_wp2
    go_loopw [8] (fun i wr => i = .int .i64 0 ∧ wr = w) (fun i _ => 2 - (intOf i).toNat)
    case atStart => exact ⟨rfl, rfl⟩
    case round =>
      obtain ⟨rfl, rfl⟩ := hrel
      go_wp2
      go_ret
      exact ⟨ret_i64 HO.out.symm, rfl⟩
def I64' (n : Int) : Prop := -9223372036854775808 ≤ n ∧ n ≤ 9223372036854775807
theorem widened_any (n : Int) (w : World) (h : I64' n) : Calls Tryz.prog 120 #[.int .i64 n] w fun e w' => e = .returned (wideV n) ∧ Below w.heap.size w w' := by
  go_enter Tryz.func120, Tryz.ntmps120
  go_wp2
  have e1 : IntKind.u64.wrap (n / 9223372036854775808) = hi64 n := by rw [IntKind.wrap_u64]; unfold hi64; unfold I64' at h; omega
  have e2 : IntKind.u64.wrap n = lo64 n := by rw [IntKind.wrap_u64]; unfold lo64; omega
  rw [e1, e2]
  refine bodyPost_ret_by (v := wideV n) ?_ rfl ⟨rfl, (Below.refl _ _).alloc (Nat.le_refl _) _⟩
  rw [results_cell_one' rfl]
  unfold wideV
  go_simp
theorem cmp_wide {x y : Int} (hx : -170141183460469231731687303715884105728 ≤ x ∧ x < 170141183460469231731687303715884105728) (hy : -170141183460469231731687303715884105728 ≤ y ∧ y < 170141183460469231731687303715884105728) :
    orZ (cmpZ (IntKind.i64.wrap (hi64 x)) (IntKind.i64.wrap (hi64 y))) (cmpZ (lo64 x) (lo64 y)) = cmpZ x y := by
  have h1 : IntKind.i64.wrap (hi64 x) = x / 18446744073709551616 := by rw [← wrap_is]; unfold wrap64 hi64; omega
  have h2 : IntKind.i64.wrap (hi64 y) = y / 18446744073709551616 := by rw [← wrap_is]; unfold wrap64 hi64; omega
  rw [h1, h2]
  unfold orZ cmpZ lo64
  by_cases q1 : x / 18446744073709551616 < y / 18446744073709551616
  · rw [if_pos q1, if_neg (by omega), if_pos (by omega)]
  · by_cases q2 : y / 18446744073709551616 < x / 18446744073709551616
    · rw [if_neg q1, if_pos q2, if_neg (by omega), if_neg (by omega), if_pos (by omega)]
    · rw [if_neg q1, if_neg q2, if_pos rfl]
      by_cases q3 : x < y
      · rw [if_pos q3, if_pos (by omega)]
      · by_cases q4 : y < x
        · rw [if_neg q3, if_pos q4, if_neg (by omega), if_pos (by omega)]
        · rw [if_neg q3, if_neg q4, if_neg (by omega), if_neg (by omega)]
theorem hi_times (x y : Int) : hi64 (x * y) = (lo64 x * lo64 y / 18446744073709551616 + hi64 x * lo64 y + lo64 x * hi64 y) % 18446744073709551616 := by
  have ex : x = 18446744073709551616 * (x / 18446744073709551616) + lo64 x := by unfold lo64; omega
  have ey : y = 18446744073709551616 * (y / 18446744073709551616) + lo64 y := by unfold lo64; omega
  obtain ⟨X, hX⟩ : ∃ X, x / 18446744073709551616 = X := ⟨_, rfl⟩
  obtain ⟨Y, hY⟩ : ∃ Y, y / 18446744073709551616 = Y := ⟨_, rfl⟩
  have hx : hi64 x = X - 18446744073709551616 * (X / 18446744073709551616) := by unfold hi64; rw [hX]; omega
  have hy : hi64 y = Y - 18446744073709551616 * (Y / 18446744073709551616) := by unfold hi64; rw [hY]; omega
  rw [hX] at ex
  rw [hY] at ey
  obtain ⟨a, ha⟩ : ∃ a, lo64 x = a := ⟨_, rfl⟩
  obtain ⟨b, hb⟩ : ∃ b, lo64 y = b := ⟨_, rfl⟩
  obtain ⟨k, hk⟩ : ∃ k, X / 18446744073709551616 = k := ⟨_, rfl⟩
  obtain ⟨j, hj⟩ : ∃ j, Y / 18446744073709551616 = j := ⟨_, rfl⟩
  rw [ha] at ex ⊢
  rw [hb] at ey ⊢
  rw [hk] at hx
  rw [hj] at hy
  rw [hx, hy]
  unfold hi64
  have e1 : x * y = a * b + 18446744073709551616 * (18446744073709551616 * (X * Y) + X * b + a * Y) := by rw [ex, ey]; grind
  have e2 : x * y / 18446744073709551616 = a * b / 18446744073709551616 + (18446744073709551616 * (X * Y) + X * b + a * Y) := by rw [e1, Int.add_mul_ediv_left _ _ (by decide)]
  have e3 : x * y / 18446744073709551616 = (a * b / 18446744073709551616 + (X - 18446744073709551616 * k) * b + a * (Y - 18446744073709551616 * j)) + 18446744073709551616 * (X * Y + k * b + a * j) := by rw [e2]; grind
  rw [e3, Int.add_mul_emod_self_left]
theorem lo_times (x y : Int) : lo64 (x * y) = (lo64 x * lo64 y) % 18446744073709551616 := by unfold lo64; rw [← Int.mul_emod]
theorem times_any (x y : Int) (w : World) : Calls Tryz.prog 121 #[wideV x, wideV y] w fun e w' => e = .returned (wideV (x * y)) ∧ Below w.heap.size w w' := by
  obtain ⟨a, ha⟩ : ∃ a : Nat, lo64 x = (a : Int) := Int.eq_ofNat_of_zero_le (lo64_in x).1
  obtain ⟨b, hb⟩ : ∃ b : Nat, lo64 y = (b : Int) := Int.eq_ofNat_of_zero_le (lo64_in y).1
  obtain ⟨hx, hhx⟩ : ∃ a : Nat, hi64 x = (a : Int) := Int.eq_ofNat_of_zero_le (hi64_in x).1
  obtain ⟨hy, hhy⟩ : ∃ b : Nat, hi64 y = (b : Int) := Int.eq_ofNat_of_zero_le (hi64_in y).1
  have la := (lo64_in x).2
  have lb := (lo64_in y).2
  have hH := hi_times x y
  have hL := lo_times x y
  rw [ha, hb, hhx, hhy] at hH
  rw [ha, hb] at hL
  have HMU : Hid (∀ V, Calls Tryz.prog 144 #[.int .u64 (a : Int), .int .u64 (b : Int)] V fun e w' => e = .returned (.tuple #[.int .u64 ((a * b / 18446744073709551616 : Nat) : Int), .int .u64 ((a * b % 18446744073709551616 : Nat) : Int)]) ∧ w' = V) := fun V => Tryz.bits_Mul64 a b (by omega) (by omega) V
  have HV : Hid (wideV (x * y) = .agg #[.int .u64 (hi64 (x * y)), .int .u64 (lo64 (x * y))]) := rfl
  have HH := Lib.hid hH
  have HL := Lib.hid hL
  unfold wideV
  rw [ha, hb, hhx, hhy]
  clear ha hb hhx hhy la lb hH hL
  obtain ⟨p, hp⟩ : ∃ p : Nat, a * b / 18446744073709551616 = p := ⟨_, rfl⟩
  obtain ⟨q, hq⟩ : ∃ q : Nat, a * b % 18446744073709551616 = q := ⟨_, rfl⟩
  rw [hp, hq] at HMU
  have HP := Lib.hid hp
  have HQ := Lib.hid hq
  clear hp hq
  go_enter Tryz.func121, Tryz.ntmps121
  go_wp2_with (go_at_call 144; refine (HMU.out _).mono ?_; rintro e w1 ⟨rfl, rfl⟩)
  have hlo : (q : Int) = lo64 (x * y) := by rw [HL.out, ← HQ.out]; omega
  have hhi : IntKind.u64.wrap (IntKind.u64.wrap ((p : Int) + IntKind.u64.wrap ((hx : Int) * b)) + IntKind.u64.wrap ((a : Int) * hy)) = hi64 (x * y) := by
    rw [HH.out]
    have e : (a : Int) * (b : Int) / 18446744073709551616 = (p : Int) := by rw [← HP.out]; omega
    rw [e]
    simp only [IntKind.wrap_u64]
    generalize (hx : Int) * b = u
    generalize (a : Int) * hy = v
    omega
  rw [hhi, hlo]
  have hs1 : (w.alloc (.cells #[.int .u64 (hx : Int), .int .u64 (a : Int)] 145)).heap.size = w.heap.size + 1 := World.size_alloc _ _
  refine bodyPost_ret_by (v := .agg #[.int .u64 (hi64 (x * y)), .int .u64 (lo64 (x * y))]) ?_ rfl ⟨rfl, (((Below.refl _ _).alloc (Nat.le_refl _) _).alloc (by omega) _).alloc (by rw [World.size_alloc]; omega) _⟩
  have hc : ∀ k v, (#[Value.int .u64 (hi64 (x * y)), Value.int .u64 (lo64 (x * y))] : Array Value)[k]? = some v → (((w.alloc (.cells #[.int .u64 (hx : Int), .int .u64 (a : Int)] 145)).alloc (.cells #[.int .u64 (hy : Int), .int .u64 (b : Int)] 145)).alloc (.cells #[.int .u64 (hi64 (x * y)), .int .u64 (lo64 (x * y))] 145)).cell? ⟨w.heap.size + 1 + 1, k, none⟩ = some v := fun k v h => by
    rw [← show _ = w.heap.size + 1 + 1 from (World.size_alloc (w.alloc (.cells #[.int .u64 (hx : Int), .int .u64 (a : Int)] 145)) (.cells #[.int .u64 (hy : Int), .int .u64 (b : Int)] 145)).trans (by rw [hs1])]
    exact alloc_cell _ _ _ _ _ h
  have hc0 := hc 0 _ rfl
  have hc1 := hc 1 _ rfl
  rw [results_cell_one' rfl]
  generalize (((w.alloc (.cells #[.int .u64 (hx : Int), .int .u64 (a : Int)] 145)).alloc (.cells #[.int .u64 (hy : Int), .int .u64 (b : Int)] 145)).alloc (.cells #[.int .u64 (hi64 (x * y)), .int .u64 (lo64 (x * y))] 145)) = V at *
  clear hc hs1 hhi hlo
  go_simp
set_option maxRecDepth 100000 in
theorem wcompare_any (x y : Int) (w : World) (hx : -170141183460469231731687303715884105728 ≤ x ∧ x < 170141183460469231731687303715884105728) (hy : -170141183460469231731687303715884105728 ≤ y ∧ y < 170141183460469231731687303715884105728) :
    Calls Tryz.prog 123 #[wideV x, wideV y] w fun e w' => e = .returned (.int .i64 (cmpZ x y)) ∧ Below w.heap.size w w' := by
  have HC := Lib.hid (cmp_wide hx hy)
  clear hx hy
  unfold wideV
  obtain ⟨a, ha⟩ : ∃ a, lo64 x = a := ⟨_, rfl⟩
  obtain ⟨b, hb⟩ : ∃ b, lo64 y = b := ⟨_, rfl⟩
  obtain ⟨c, hc⟩ : ∃ c, hi64 x = c := ⟨_, rfl⟩
  obtain ⟨d, hd⟩ : ∃ d, hi64 y = d := ⟨_, rfl⟩
  rw [ha, hb, hc, hd] at HC
  rw [ha, hb, hc, hd]
  clear ha hb hc hd
  go_enter Tryz.func123, Tryz.ntmps123
  go_wp2
  have hs1 : (w.alloc (.cells #[.int .u64 c, .int .u64 a] 145)).heap.size = w.heap.size + 1 := World.size_alloc _ _
  have hb : Below w.heap.size w ((w.alloc (.cells #[.int .u64 c, .int .u64 a] 145)).alloc (.cells #[.int .u64 d, .int .u64 b] 145)) := ((Below.refl _ _).alloc (Nat.le_refl _) _).alloc (by omega) _
  have k0 : ((w.alloc (.cells #[.int .u64 c, .int .u64 a] 145)).alloc (.cells #[.int .u64 d, .int .u64 b] 145)).cell? ⟨w.heap.size, 0, none⟩ = some (.int .u64 c) := (alloc_old _ _ _ _ (by omega)).trans (alloc_cell _ _ _ _ _ rfl)
  have k1 : ((w.alloc (.cells #[.int .u64 c, .int .u64 a] 145)).alloc (.cells #[.int .u64 d, .int .u64 b] 145)).cell? ⟨w.heap.size, 1, none⟩ = some (.int .u64 a) := (alloc_old _ _ _ _ (by omega)).trans (alloc_cell _ _ _ _ _ rfl)
  have k2 : ((w.alloc (.cells #[.int .u64 c, .int .u64 a] 145)).alloc (.cells #[.int .u64 d, .int .u64 b] 145)).cell? ⟨w.heap.size + 1, 0, none⟩ = some (.int .u64 d) := by rw [← hs1]; exact alloc_cell _ _ _ _ _ rfl
  have k3 : ((w.alloc (.cells #[.int .u64 c, .int .u64 a] 145)).alloc (.cells #[.int .u64 d, .int .u64 b] 145)).cell? ⟨w.heap.size + 1, 1, none⟩ = some (.int .u64 b) := by rw [← hs1]; exact alloc_cell _ _ _ _ _ rfl
  have hsz : ((w.alloc (.cells #[.int .u64 c, .int .u64 a] 145)).alloc (.cells #[.int .u64 d, .int .u64 b] 145)).heap.size = w.heap.size + 2 := by rw [World.size_alloc, hs1]
  generalize ((w.alloc (.cells #[.int .u64 c, .int .u64 a] 145)).alloc (.cells #[.int .u64 d, .int .u64 b] 145)) = V at *
  have HB := Lib.hid hb
  have HSZ := Lib.hid hsz
  clear hb hs1 hsz
  obtain ⟨p, hp⟩ : ∃ p, cmpZ (IntKind.i64.wrap c) (IntKind.i64.wrap d) = p := ⟨_, rfl⟩
  obtain ⟨q, hq⟩ : ∃ q, cmpZ a b = q := ⟨_, rfl⟩
  rw [hp, hq] at HC
  have HP := Lib.hid hp
  have HQ := Lib.hid hq
  clear hp hq
  have HOR : Hid (∀ W : World, Calls Tryz.prog 145 #[.slice (some ⟨W.heap.size, 0, none⟩) 2 2] (W.alloc (.cells #[.int .i64 p, .int .i64 q] 3)).drew fun e w' => e = .returned (.int .i64 (orZ p q)) ∧ (W.alloc (.cells #[.int .i64 p, .int .i64 q] 3)).drew = w') := fun W => or_any _ p q 2 _ (by
    intro k hk
    match k, hk with
    | 0, _ => exact ⟨_, 0, rfl, alloc_cell _ _ _ _ _ rfl⟩
    | 1, _ => exact ⟨_, 0, rfl, alloc_cell _ _ _ _ _ rfl⟩)
  go_region_held_law (fun w' => w'.cell? ⟨w.heap.size, 0, none⟩ = some (.int .u64 c) ∧ w'.cell? ⟨w.heap.size, 1, none⟩ = some (.int .u64 a) ∧ w'.cell? ⟨w.heap.size + 1, 0, none⟩ = some (.int .u64 d) ∧ w'.cell? ⟨w.heap.size + 1, 1, none⟩ = some (.int .u64 b)) (first | exact ⟨by assumption, by assumption, by assumption, by assumption⟩ | go_keep) (first | (go_at_call 146; refine (cmpi_any _ _ _).mono ?_; rintro e w1 ⟨rfl, rfl⟩; rw [HP.out]) | (go_at_call 147; refine (cmpu_any _ _ _).mono ?_; rintro e w1 ⟨rfl, rfl⟩; rw [HQ.out]) | (go_at_call 145; refine (HOR.out _).mono ?_; rintro e w1 ⟨rfl, rfl⟩))
  have HBB : Hid (Below w.heap.size w (V.alloc (.cells #[.int .i64 p, .int .i64 q] 3)).drew) := (HB.out.alloc (by have := HSZ.out; omega) _).drew
  rw [HC.out]
  go_wp2
  go_ret
  exact ⟨rfl, HBB.out⟩
theorem lower_any (n d : Int) (w : World) : Calls Tryz.prog 122 #[.agg #[.int .i64 n, .int .i64 d]] w fun e w' => e = .returned (.int .i64 (if d ≤ 0 then 1 else d)) ∧ Below w.heap.size w w' := by
  have hb : Below w.heap.size w (w.alloc (.cells #[.int .i64 n, .int .i64 d] 38)) := (Below.refl _ _).alloc (Nat.le_refl _) _
  have HB := Lib.hid hb
  clear hb
  by_cases h : d ≤ 0
  · rw [if_pos h]
    go_enter Tryz.func122, Tryz.ntmps122
    go_wp2
    go_ret
    exact ⟨rfl, HB.out⟩
  · rw [if_neg h]
    go_enter Tryz.func122, Tryz.ntmps122
    go_wp2
    go_ret
    exact ⟨rfl, HB.out⟩
end Go.Proofs.YtgbnfhfkehpfaaaGreat
/- The sum of whole numbers of 128 bits in layer 3: math/bits.Add64 and plus: contracts. -/
namespace Go.Proofs.YtgbnfhfkehpfaaaGreat
open Go.RowKit

theorem add64 (x y c : Int) (hx : 0 ≤ x) (hy : 0 ≤ y) (hc0 : 0 ≤ c) (hc : c ≤ 1) (w : World) : (callFunc 156 #[.int .u64 x, .int .u64 y, .int .u64 c]).run Tryz.prog w =
    .ok (.value (.tuple #[.int .u64 ((x + y + c) % 18446744073709551616), .int .u64 ((x + y + c) / 18446744073709551616)])) w := by
  rw [run_callFunc_extern Tryz.func156 (by kernel_rfl) (by kernel_rfl) (by kernel_rfl) (e := add64Entry) (by kernel_rfl), run_add64 x y c hx hy hc0 hc]
  rfl
theorem add64_0 (x y : Int) (hx : 0 ≤ x) (hy : 0 ≤ y) (w : World) : (callFunc 156 #[.int .u64 x, .int .u64 y, .int .u64 0]).run Tryz.prog w =
    .ok (.value (.tuple #[.int .u64 ((x + y) % 18446744073709551616), .int .u64 ((x + y) / 18446744073709551616)])) w := by
  simpa using add64 x y 0 hx hy (Int.le_refl 0) (by decide) w
end Go.Proofs.YtgbnfhfkehpfaaaGreat
/- Rows of the call's own that are appended one by one to a slice of rows. -/
namespace Go.Proofs.YtgbnfhfkehpfaaaGreat
open Go.RowKit

theorem row_below {w w' : World} {base : Nat} {e : TypeId} {sz n : Nat} {v : Value} {xs : List Value} (h : w.ownsRow base e sz v n xs) (hb : Below w.heap.size w w') : w'.ownsRow base e sz v n xs := by
  obtain ⟨h0, h1 | ⟨g, cap, cur, e, hg, hh, rest⟩⟩ := h
  · exact ⟨h0, .inl h1⟩
  · exact ⟨h0, .inr ⟨g, cap, cur, e, hg, (hb.block g (Array.getElem?_eq_some_iff.1 hh).1).trans hh, rest⟩⟩
theorem Tryz.infoRowL : (Tryz.prog.info? 22).map (fun i => (i.zero, i.size, i.bytes)) = some (some (.slice none 0 0), 1, 24) := by kernel_rfl
def hdrs (ads : List (Nat × Nat)) (M : List (List Int)) : List Value := List.zipWith (fun x r => Value.slice (some ⟨x.1, 0, none⟩) r.length x.2) ads M
structure RS (base : Nat) (rv : Value) (ads : List (Nat × Nat)) (M : List (List Int)) (w : World) : Prop where
  len : ads.length = M.length
  own : w.ownsRow base 22 1 rv M.length (hdrs ads M)
  row : ∀ (i : Nat) (x : Nat × Nat) (r : List Int), ads[i]? = some x → M[i]? = some r → OwnI w base (.slice (some ⟨x.1, 0, none⟩) r.length x.2) r
  apart : ∀ (i j : Nat) (x y : Nat × Nat), ads[i]? = some x → ads[j]? = some y → i ≠ j → x.1 ≠ y.1
  out : ∀ (i : Nat) (x : Nat × Nat), ads[i]? = some x → base ≤ x.1 ∧ x.1 < w.heap.size ∧ rv.ownBlock ≠ some x.1
theorem RS.below {base : Nat} {rv : Value} {ads : List (Nat × Nat)} {M : List (List Int)} {w w' : World} (h : RS base rv ads M w) (hb : Below w.heap.size w w') : RS base rv ads M w' where
  len := h.len
  own := row_below h.own hb
  row := fun i x r e1 e2 => (h.row i x r e1 e2).below hb
  apart := h.apart
  out := fun i x e => ⟨(h.out i x e).1, Nat.lt_of_lt_of_le (h.out i x e).2.1 hb.size, (h.out i x e).2.2⟩
theorem get_snoc {α : Type} {l : List α} {y : α} {i : Nat} {x : α} (e : (l ++ [y])[i]? = some x) : l[i]? = some x ∨ (i = l.length ∧ x = y) := by
  rcases Nat.lt_trichotomy i l.length with hi | hi | hi
  · rw [List.getElem?_append_left hi] at e; exact .inl e
  · subst hi; simp at e; exact .inr ⟨rfl, e.symm⟩
  · have := (List.getElem?_eq_some_iff.1 e).1; simp at this; omega
theorem RS.push {base : Nat} {rv : Value} {ads : List (Nat × Nat)} {M : List (List Int)} {V w' : World} (h : RS base rv ads M V) {row : List Int} {nb nc g cap : Nat} (hrow : OwnI V base (.slice (some ⟨nb, 0, none⟩) row.length nc) row)
    (hap : ∀ (i : Nat) (x : Nat × Nat), ads[i]? = some x → x.1 ≠ nb) (hne : rv.ownBlock ≠ some nb)
    (h1 : w'.ownsRow base 22 1 (.slice (some ⟨g, 0, none⟩) (M.length + 1) cap) (M.length + 1) (hdrs ads M ++ [.slice (some ⟨nb, 0, none⟩) row.length nc])) (h2 : V.grownBy w' rv.ownBlock) (h3 : rv.ownBlock = some g ∨ g = V.heap.size) :
    RS base (.slice (some ⟨g, 0, none⟩) (M.length + 1) cap) (ads ++ [(nb, nc)]) (M ++ [row]) w' := by
  have far : ∀ b, b < V.heap.size → rv.ownBlock ≠ some b → w'.heap[b]? = V.heap[b]? := fun b hb hn => h2.block b hb (fun e => hn e.symm)
  have hne2 : ∀ b, b < V.heap.size → rv.ownBlock ≠ some b → g ≠ b := by
    intro b hb hn e
    rcases h3 with h3 | h3
    · exact hn (by rw [h3, e])
    · omega
  have hsz : V.heap.size ≤ w'.heap.size := h2.size
  have hnb := OwnI.lt hrow
  have hh : hdrs (ads ++ [(nb, nc)]) (M ++ [row]) = hdrs ads M ++ [.slice (some ⟨nb, 0, none⟩) row.length nc] := by
    unfold hdrs; rw [List.zipWith_append h.len]; rfl
  refine ⟨by simp [h.len], ?_, ?_, ?_, ?_⟩
  · rw [hh]; simpa using h1
  · intro i x r e1 e2
    have hl := h.len
    rcases get_snoc e1 with e1 | ⟨i1, rfl⟩
    · have hi := (List.getElem?_eq_some_iff.1 e1).1
      rw [List.getElem?_append_left (by omega)] at e2
      obtain ⟨_, a2, a3⟩ := h.out i x e1
      exact (h.row i x r e1 e2).sameBlock (far x.1 a2 a3)
    · subst i1
      rw [hl] at e2; simp at e2; subst e2
      exact hrow.sameBlock (far nb hnb.1 hne)
  · intro i j x y e1 e2 hij
    rcases get_snoc e1 with e1 | ⟨i1, rfl⟩ <;> rcases get_snoc e2 with e2 | ⟨i2, rfl⟩
    · exact h.apart i j x y e1 e2 hij
    · exact hap i x e1
    · exact fun e => hap j y e2 e.symm
    · omega
  · intro i x e
    have : base ≤ x.1 ∧ x.1 < V.heap.size ∧ rv.ownBlock ≠ some x.1 := by
      rcases get_snoc e with e | ⟨_, rfl⟩
      · exact h.out i x e
      · exact ⟨hnb.2, hnb.1, hne⟩
    exact ⟨this.1, by omega, fun e => hne2 x.1 this.2.1 this.2.2 (by simpa [Value.ownBlock] using e)⟩
theorem step_pushRow {ops : Array Oper} {o : Oper} {act : Act} {K : Act → World → Prop} {Q : Exit → Act → World → Prop} {E : Prop} (hgd : o.guard = none) (s x : Operand)
    (ho : o.op = .call { callee := .builtin .append, args := #[s, x], argTypes := #[25, 25] }) (base : Nat) (rv : Value) (ads : List (Nat × Nat)) (M : List (List Int)) (row : List Int) (nb nc : Nat) (W : World) (A : Nat)
    (hv : act.eval s = rv) (hx : act.eval x = .slice (some ⟨A, 0, none⟩) 1 1) (hnew : W.cell? ⟨A, 0, none⟩ = some (.slice (some ⟨nb, 0, none⟩) row.length nc)) (hown : RS base rv ads M W) (hrow : OwnI W base (.slice (some ⟨nb, 0, none⟩) row.length nc) row)
    (hap : ∀ (i : Nat) (x : Nat × Nat), ads[i]? = some x → x.1 ≠ nb) (hne : rv.ownBlock ≠ some nb) (hl : M.length ≤ 1000) (hbase : base ≤ W.heap.size)
    (h : ∀ g cap w', RS base (.slice (some ⟨g, 0, none⟩) (M.length + 1) cap) (ads ++ [(nb, nc)]) (M ++ [row]) w' → W.grownBy w' rv.ownBlock → (rv.ownBlock = some g ∨ g = W.heap.size) → K (act.put o.dst (.slice (some ⟨g, 0, none⟩) (M.length + 1) cap)) w') : if Region.wanted o (yielded ops act.tmps) = true then Oper.wp Tryz.prog o act W K Q else E := by
  obtain ⟨i0, hi, hz0, hz1, hz2⟩ := info_parts Tryz.infoRowL
  refine step_append_lies W hgd s x 25 ho base 22 i0 (.slice none 0 0) 1 24 Tryz.underlying25 hi hz0 hz1 hz2 rfl (by decide) rv M.length (hdrs ads M) hv hown.own ⟨A, 0, none⟩ 1 1 [.slice (some ⟨nb, 0, none⟩) row.length nc] hx rfl ?_ ?_ (by decide) (by unfold maxLen; omega) (by omega) hbase W.heap.size rfl ?_
  · intro j u hj
    match j, hj with
    | 0, hj =>
      simp at hj; subst hj
      rw [addr_add]; exact hnew
    | j + 1, hj => simp at hj
  · intro u hu; simp at hu; subst hu; rfl
  · intro g cap w' h1 h2 h3 _
    exact h g cap w' (hown.push hrow hap hne h1 h2 h3) h2 h3
theorem row_same {w w' : World} {base : Nat} {e : TypeId} {sz n : Nat} {v : Value} {xs : List Value} (h : w.ownsRow base e sz v n xs) (hb : ∀ b, v.ownBlock = some b → w'.heap[b]? = w.heap[b]?) : w'.ownsRow base e sz v n xs := by
  obtain ⟨h0, h1 | ⟨g, cap, cur, e, hg, hh, rest⟩⟩ := h
  · exact ⟨h0, .inl h1⟩
  · exact ⟨h0, .inr ⟨g, cap, cur, e, hg, (hb g (by rw [e]; rfl)).trans hh, rest⟩⟩
theorem RS.stored {base B : Nat} {rv : Value} {ads : List (Nat × Nat)} {M : List (List Int)} {w : World} (h : RS base rv ads M w) (h1 : rv.ownBlock ≠ some B) (h2 : ∀ (i : Nat) (x : Nat × Nat), ads[i]? = some x → x.1 ≠ B) (o : Nat) (u : Value) : RS base rv ads M (w.setCell ⟨B, o, none⟩ u) where
  len := h.len
  own := row_same h.own fun b e => Below.heap_setCell w _ _ b (by show b ≠ B; rintro rfl; exact h1 e)
  row := fun i x r e1 e2 => (h.row i x r e1 e2).sameBlock (Below.heap_setCell w _ _ x.1 (h2 i x e1))
  apart := h.apart
  out := fun i x e => ⟨(h.out i x e).1, by rw [World.size_setCell]; exact (h.out i x e).2.1, (h.out i x e).2.2⟩
structure RB (B : Nat) (cols : Int) (rv : Value) (w : World) : Prop where
  c0 : w.cell? ⟨B, 0, none⟩ = some (.int .i64 cols)
  c1 : w.cell? ⟨B, 1, none⟩ = some rv
  c2 : w.cell? ⟨B, 2, none⟩ = some (.slice none 0 0)
  c3 : w.cell? ⟨B, 3, none⟩ = some (.int .i64 1)
  f1 : w.frozen? ⟨B, 1, none⟩ = false
  f2 : w.frozen? ⟨B, 2, none⟩ = false
  f3 : w.frozen? ⟨B, 3, none⟩ = false
theorem RB.kept {B : Nat} {cols : Int} {rv : Value} {w w' : World} (h : RB B cols rv w) (hb : w'.heap[B]? = w.heap[B]?) : RB B cols rv w' :=
  ⟨(World.cell?_of_block hb).trans h.c0, (World.cell?_of_block hb).trans h.c1, (World.cell?_of_block hb).trans h.c2, (World.cell?_of_block hb).trans h.c3, (World.frozen?_of_block hb).trans h.f1, (World.frozen?_of_block hb).trans h.f2, (World.frozen?_of_block hb).trans h.f3⟩
theorem RB.stored {B : Nat} {cols : Int} {rv : Value} {w : World} (h : RB B cols rv w) (u : Value) : RB B cols u (w.setCell ⟨B, 1, none⟩ u) where
  c0 := (World.cell?_setCell_other w ⟨B, 1, none⟩ ⟨B, 0, none⟩ u (by simp)).trans h.c0
  c1 := World.cell?_setCell_same _ _ _ h.c1
  c2 := (World.cell?_setCell_other w ⟨B, 1, none⟩ ⟨B, 2, none⟩ u (by simp)).trans h.c2
  c3 := (World.cell?_setCell_other w ⟨B, 1, none⟩ ⟨B, 3, none⟩ u (by simp)).trans h.c3
  f1 := by simpa using h.f1
  f2 := by simpa using h.f2
  f3 := by simpa using h.f3
theorem rs_pushed {base B nb nc G2 cp2 : Nat} {rv : Value} {ads : List (Nat × Nat)} {M : List (List Int)} {row : List Int} {w0 wr w9 : World} {ob : Obj} (hb : Below base w0 wr) (hbB : base ≤ B) (lB : B < wr.heap.size) (hrs : RS base rv ads M wr)
    (hne : rv.ownBlock ≠ some B ∧ ∀ (i : Nat) (x : Nat × Nat), ads[i]? = some x → x.1 ≠ B) (hnb : B < nb)
    (ho : RS base (.slice (some ⟨G2, 0, none⟩) (M.length + 1) cp2) (ads ++ [(nb, nc)]) (M ++ [row]) w9) (hg : (wr.alloc ob).drew.grownBy w9 rv.ownBlock) (hat : rv.ownBlock = some G2 ∨ G2 = (wr.alloc ob).drew.heap.size) {cols : Int} (hc : RB B cols rv w9) :
    RS base (.slice (some ⟨G2, 0, none⟩) (M.length + 1) cp2) (ads ++ [(nb, nc)]) (M ++ [row]) (w9.setCell ⟨B, 1, none⟩ (.slice (some ⟨G2, 0, none⟩) (M.length + 1) cp2))
    ∧ RB B cols (.slice (some ⟨G2, 0, none⟩) (M.length + 1) cp2) (w9.setCell ⟨B, 1, none⟩ (.slice (some ⟨G2, 0, none⟩) (M.length + 1) cp2))
    ∧ ((Value.slice (some ⟨G2, 0, none⟩) (M.length + 1) cp2).ownBlock ≠ some B ∧ ∀ (i : Nat) (x : Nat × Nat), (ads ++ [(nb, nc)])[i]? = some x → x.1 ≠ B)
    ∧ Below base w0 (w9.setCell ⟨B, 1, none⟩ (.slice (some ⟨G2, 0, none⟩) (M.length + 1) cp2)) ∧ B < (w9.setCell ⟨B, 1, none⟩ (.slice (some ⟨G2, 0, none⟩) (M.length + 1) cp2)).heap.size := by
  have hsz : (wr.alloc ob).drew.heap.size = wr.heap.size + 1 := World.size_alloc ..
  have hG2 : G2 ≠ B := by
    rcases hat with h | h
    · rintro rfl; exact hne.1 h
    · omega
  have h1 : (Value.slice (some ⟨G2, 0, none⟩) (M.length + 1) cp2).ownBlock ≠ some B := fun e => hG2 (by simpa [Value.ownBlock] using e)
  have h2 : ∀ (i : Nat) (x : Nat × Nat), (ads ++ [(nb, nc)])[i]? = some x → x.1 ≠ B := by
    intro i x e
    rcases get_snoc e with e | ⟨_, rfl⟩
    · exact hne.2 i x e
    · show nb ≠ B; omega
  have h9 := hg.size
  exact ⟨ho.stored h1 h2 1 _, hc.stored _, ⟨h1, h2⟩, ((hb.alloc (by omega) ob).drew.grown hg (by omega) (fun k e => (World.ownsRow.lt hrs.own k e).1)).setCell (p := ⟨B, 1, none⟩) hbB _, by rw [World.size_setCell]; omega⟩
end Go.Proofs.YtgbnfhfkehpfaaaGreat
/- Rows that were appended one by one, as a reduction's. -/
namespace Go.Proofs.YtgbnfhfkehpfaaaGreat
open Go.RowKit

theorem hdrs_at {ads : List (Nat × Nat)} {M : List (List Int)} {i : Nat} {x : Nat × Nat} {r : List Int} (e1 : ads[i]? = some x) (e2 : M[i]? = some r) : (hdrs ads M)[i]? = some (.slice (some ⟨x.1, 0, none⟩) r.length x.2) := by
  unfold hdrs; rw [List.getElem?_zipWith, e1, e2]
theorem RS.reduction {base B cols : Nat} {rv : Value} {ads : List (Nat × Nat)} {M : List (List Int)} {w : World} (h : RS base rv ads M w) (h1 : 1 ≤ M.length) (hB : base ≤ B)
    (hne : rv.ownBlock ≠ some B ∧ ∀ (i : Nat) (x : Nat × Nat), ads[i]? = some x → x.1 ≠ B) (hbx : RB B (cols : Int) rv w) :
    ∃ g cap, rv = .slice (some ⟨g, 0, none⟩) M.length cap ∧ M.length ≤ cap ∧ RdW base B g cap ads (.slice none 0 0) { cols := cols, rows := M, piv := [], dv := 1 } w := by
  have ho := h.own
  obtain ⟨hx, ⟨_, h0⟩ | ⟨g, cap, cur, rfl, hg, hb, hn, hm, hsz, ht⟩⟩ := h.own
  · omega
  · have hl : (hdrs ads M).length = M.length := by simp [hdrs, h.len]
    have hgl : g < w.heap.size := (Array.getElem?_eq_some_iff.1 hb).1
    have hgB : g ≠ B := fun e => hne.1 (by rw [e]; rfl)
    refine ⟨g, cap, rfl, hn, ⟨⟨hbx.c0, hbx.c1, hbx.c2, hbx.c3, hbx.f1, hbx.f2, hbx.f3⟩, ⟨h.len, fun i x r e1 e2 => ⟨?_, h.row i x r e1 e2⟩, h.apart, fun i x e => ⟨fun e2 => (h.out i x e).2.2 (by rw [e2]; rfl), (h.out i x e).1⟩⟩, World.ownsRow_nil _ _ _ _, fun i x e => ⟨hne.2 i x e, fun b hb => by simp [Value.ownBlock] at hb⟩, fun k => World.ownsRow.frozenAt ho k, hgl, hg, hgB, by simp [Value.ownBlock], by simp [Value.ownBlock], hB⟩⟩
    have h2 := ho.cellAt i (by rw [Nat.mul_one]; exact (List.getElem?_eq_some_iff.1 e2).1)
    rw [h2]; exact hdrs_at e1 e2
end Go.Proofs.YtgbnfhfkehpfaaaGreat
/- One int appended to a slice of the call's own, told by what grows (for reduce). -/
namespace Go.Proofs.YtgbnfhfkehpfaaaGreat
open Go.RowKit

theorem wpList_pushG0 {ops : Array Oper} {rest : List Oper} {o : Oper} {act : Act} {Q : Exit → Act → World → Prop} (hgd : o.guard = none) (s x : Operand)
    (ho : o.op = .call { callee := .builtin .append, args := #[s, x], argTypes := #[22, 22] }) (base : Nat) (v : Value) (zs : List Int) (y : Int) (V : World) (B : Nat) (t : TypeId)
    (hs : act.eval s = v) (hx : act.eval x = .slice (some ⟨B, 0, none⟩) 1 1) (hB : B = V.heap.size) (hown : OwnI V base v zs) (hl : zs.length ≤ 100000) (hbase : base ≤ V.heap.size)
    (h : ∀ g cap w', OwnI w' base (.slice (some ⟨g, 0, none⟩) (zs.length + 1) cap) (zs ++ [y]) → (v.ownBlock = some g ∨ V.heap.size ≤ g) → Below base V w' → (V.alloc (.cells #[.int .i64 y] t)).grownBy w' v.ownBlock → wpList Tryz.prog ops Q rest (act.put o.dst (.slice (some ⟨g, 0, none⟩) (zs.length + 1) cap)) w') : wpList Tryz.prog ops Q (o :: rest) act (V.alloc (.cells #[.int .i64 y] t)) := by
  obtain ⟨i0, hi, hz0, hz1, hz2⟩ := info_parts Tryz.infoInt
  subst hB
  have hb1 : Below V.heap.size V (V.alloc (.cells #[.int .i64 y] t)) := (Below.refl _ _).alloc (Nat.le_refl _) _
  have hown' := OwnI.below hown hb1
  refine wpList_append_lies _ hgd s x 22 ho base 3 i0 (.int .i64 0) 1 8 Tryz.underlying22 hi hz0 hz1 hz2 rfl (by decide) v zs.length (zs.map (Value.int .i64)) hs hown' ⟨V.heap.size, 0, none⟩ 1 1 [.int .i64 y] hx rfl ?_ ?_ (by decide) (by unfold maxLen; omega) (by omega) (by rw [World.size_alloc]; omega) _ rfl ?_
  · intro j u hj
    match j, hj with
    | 0, hj =>
      simp at hj; subst hj
      rw [addr_add]; exact alloc_cell _ _ _ _ _ rfl
    | j + 1, hj => simp at hj
  · intro u hu; simp at hu; subst hu; rfl
  · intro g cap w' h1 h2 h3 _
    refine h g cap w' (by simpa [OwnI] using h1) ?_ (((Below.refl base V).alloc hbase _).grown h2 (by rw [World.size_alloc]; omega) (fun k e => (World.ownsRow.lt hown k e).1)) h2
    rcases h3 with h3 | h3
    · exact .inl h3
    · rw [World.size_alloc] at h3; exact .inr (by omega)
end Go.Proofs.YtgbnfhfkehpfaaaGreat
/- divisor and shorten of layer 3: contracts. -/
namespace Go.Proofs.YtgbnfhfkehpfaaaGreat
open Go.RowKit

def gcdTo (xs : List Int) : Nat → Nat
  | 0 => 0
  | k + 1 => Nat.gcd (gcdTo xs k) (gt xs k).natAbs
def gcdL (xs : List Int) : Nat := gcdTo xs xs.length
def Mid (x : Int) : Prop := -4611686018427387904 ≤ x ∧ x ≤ 4611686018427387904
set_option maxRecDepth 100000 in
set_option maxHeartbeats 800000 in
theorem divisor_any (a : Option Addr) (xs : List Int) (cap : Nat) (w : World) (hl : xs.length ≤ 1000) (hx : ∀ x ∈ xs, Mid x) (hs : Sl w a xs) :
    Calls Tryz.prog 96 #[.slice a xs.length cap] w fun e w' => e = .returned (.int .i64 (gcdL xs : Nat)) ∧ ∃ nd, w' = w.drewN nd := by
  have HS := Lib.hid hs; clear hs
  have HX := Lib.hid hx; clear hx
  go_enter Tryz.func96, Tryz.ntmps96
  go_wp2
  go_loopw [3, 8] (fun c i wr => ∃ (k : Nat) (v : Int) (nd : Nat), k ≤ xs.length ∧ i = .int .i64 k ∧ c = .int .i64 v ∧ Mid v ∧ Hid (v.natAbs = gcdTo xs k) ∧ wr = w.drewN nd) (fun _ i _ => xs.length - (intOf i).toNat)
  case atStart => exact ⟨0, 0, 0, Nat.zero_le _, rfl, rfl, by unfold Mid; omega, rfl, rfl⟩
  case round =>
    obtain ⟨k, v, nd, hk, rfl, rfl, hv, HG, rfl⟩ := hrel
    by_cases hlt : k < xs.length
    · obtain ⟨b, off, x, rfl, hcell, HXK⟩ := HS.out.at hlt
      have hmx := HX.out x (List.mem_of_getElem? HXK.out)
      have HGN : Hid (gcdTo xs (k + 1) = Nat.gcd v.natAbs x.natAbs) := by show _ = _; unfold gcdTo; rw [gt_some' HXK.out, HG.out]
      go_wp2
      clear hcell
      go_loopw [3, 5] (fun c n wr => ∃ (p q : Int) (nd' : Nat), c = .int .i64 p ∧ n = .int .i64 q ∧ Mid p ∧ Mid q ∧ Hid (Nat.gcd p.natAbs q.natAbs = Nat.gcd v.natAbs x.natAbs) ∧ wr = w.drewN nd') (fun _ n _ => (intOf n).natAbs)
      case atStart => exact ⟨v, x, nd, rfl, rfl, hv, hmx, rfl, rfl⟩
      case round =>
        obtain ⟨p, q, nd', rfl, rfl, hp, hq, HE, rfl⟩ := hrel
        by_cases hq0 : q = 0
        · subst hq0
          have HGE : Hid (p.natAbs = gcdTo xs (k + 1)) := by
            show _ = _
            rw [HGN.out, ← HE.out]; simp
          go_wp2
          go_roundw
          case rel => exact ⟨k + 1, p, nd', by omega, by go_num, rfl, hp, HGE, rfl⟩
          case measure => simp [intOf]; omega
        · have y0 : (q == 0) = false := by simpa using hq0
          have y1 : (q != 0) = true := by simpa using hq0
          obtain ⟨t, ht⟩ : ∃ t, p.tmod q = t := ⟨_, rfl⟩
          have hta : t.natAbs = p.natAbs % q.natAbs := by rw [← ht, Int.natAbs_tmod]
          have hlt2 : p.natAbs % q.natAbs < q.natAbs := Nat.mod_lt _ (by omega)
          have hmt : Mid t := by unfold Mid at hq ⊢; omega
          have HE2 : Hid (Nat.gcd q.natAbs t.natAbs = Nat.gcd v.natAbs x.natAbs) := by
            show _ = _
            rw [hta, ← HE.out, Nat.gcd_comm p.natAbs, Nat.gcd_rec q.natAbs p.natAbs]
            exact Nat.gcd_comm _ _
          have hmeas : t.natAbs < q.natAbs := by omega
          obtain ⟨t1, t2⟩ := hmt
          have w1 : IntKind.i64.wrap t = t := IntWalk.i64_in _ (by omega)
          have w2 : wrap64 t = t := IntWalk.wrap64_in _ (by omega)
          clear hta hlt2 hlt
          go_wp2
          go_quiet (fail)
          go_wp2
          go_roundw
          case rel => exact ⟨q, t, _, rfl, rfl, hq, ⟨t1, t2⟩, HE2, World.drewN_drewN _ _ _⟩
          case measure => simp [intOf]; omega
    · obtain rfl : k = xs.length := by omega
      obtain ⟨v1, v2⟩ := hv
      have HF : Hid ((gcdL xs : Int) = if v < -v then -v else v) := by
        show _ = _
        have := HG.out
        unfold gcdL; rw [← this]; split <;> omega
      go_wp2
      all_goals go_ret
      all_goals exact ⟨ret_i64 (by rw [HF.out]; split <;> omega), nd, rfl⟩
def shortL (xs : List Int) : List Int := xs.map fun n => n.tdiv (gcdL xs : Nat)
def shortTo (xs : List Int) (g : Int) (q : Nat) : List Int := (List.range xs.length).map fun k => if k < q then (gt xs k).tdiv g else gt xs k
theorem shortTo_len (xs : List Int) (g : Int) (q : Nat) : (shortTo xs g q).length = xs.length := by simp [shortTo]
theorem shortTo_zero (xs : List Int) (g : Int) : shortTo xs g 0 = xs := by
  refine list_ext_gt (shortTo_len _ _ _) fun k hk => ?_
  rw [shortTo_len] at hk
  unfold shortTo; rw [gt_map_range _ hk, if_neg (by omega)]
theorem shortTo_at (xs : List Int) (g : Int) {q : Nat} (hq : q < xs.length) : gt (shortTo xs g q) q = gt xs q := by unfold shortTo; rw [gt_map_range _ hq, if_neg (by omega)]
theorem shortTo_succ {xs : List Int} {g : Int} {q : Nat} (hq : q < xs.length) : (shortTo xs g q).set q ((gt xs q).tdiv g) = shortTo xs g (q + 1) := by
  refine list_ext_gt (by rw [List.length_set, shortTo_len, shortTo_len]) fun k hk => ?_
  rw [List.length_set, shortTo_len] at hk
  rw [gt_set (by rw [shortTo_len]; exact hq)]
  unfold shortTo
  rw [gt_map_range _ hk, gt_map_range _ hk]
  by_cases e : k = q
  · subst e; rw [if_pos rfl, if_pos (by omega)]
  · rw [if_neg e]
    by_cases h : k < q
    · rw [if_pos h, if_pos (by omega)]
    · rw [if_neg h, if_neg (by omega)]
theorem shortTo_full (xs : List Int) : shortTo xs (gcdL xs : Nat) xs.length = shortL xs := by
  refine list_ext_gt (by simp [shortTo, shortL]) fun k hk => ?_
  rw [shortTo_len] at hk
  unfold shortTo shortL
  rw [gt_map_range _ hk, if_pos hk]
  unfold gt; simp [hk]
theorem tdiv_mid {x g : Int} (hx : Mid x) (_hg : 1 ≤ g) : Mid (x.tdiv g) := by
  have h : (x.tdiv g).natAbs ≤ x.natAbs := by rw [Int.natAbs_tdiv]; exact Nat.div_le_self _ _
  unfold Mid at *; omega
theorem OnlyB.ofDrewN (b : Nat) (w : World) (n : Nat) : OnlyB b w (w.drewN n) := ⟨rfl, fun _ _ => rfl⟩
set_option maxRecDepth 100000 in
set_option maxHeartbeats 800000 in
theorem shorten_any (base b c : Nat) (xs : List Int) (w : World) (hl : xs.length ≤ 1000) (hx : ∀ x ∈ xs, Mid x) (hg : gcdL xs ≠ 0) (ho : OwnI w base (.slice (some ⟨b, 0, none⟩) xs.length c) xs) :
    Calls Tryz.prog 79 #[.slice (some ⟨b, 0, none⟩) xs.length c] w fun e w' => e = .returned (.slice (some ⟨b, 0, none⟩) xs.length c) ∧ OnlyB b w w' ∧ Below base w w' ∧ OwnI w' base (.slice (some ⟨b, 0, none⟩) xs.length c) (shortL xs) := by
  have HO := Lib.hid ho; clear ho
  have HX := Lib.hid hx; clear hx
  go_enter Tryz.func79, Tryz.ntmps79
  go_wp2_with fail
  refine (divisor_any _ xs c w hl HX.out HO.out.sl).mono ?_
  rintro e w1 ⟨rfl, nd, rfl⟩
  have HF := Lib.hid (shortTo_full xs)
  obtain ⟨g, hg'⟩ : ∃ g : Int, (gcdL xs : Nat) = g := ⟨_, rfl⟩
  have hg1 : 1 ≤ g := by omega
  rw [hg'] at HF
  rw [hg']
  have HO1 : Hid (OwnI (w.drewN nd) base (.slice (some ⟨b, 0, none⟩) xs.length c) (shortTo xs g 0)) := by show OwnI _ _ _ _; rw [shortTo_zero]; exact HO.out.drewN nd
  have HB1 : Hid (OnlyB b w (w.drewN nd)) := OnlyB.ofDrewN b w nd
  have HBB1 : Hid (Below base w (w.drewN nd)) := below_drewN (Below.refl _ _) nd
  clear hg hg'
  generalize w.drewN nd = w1 at *
  have y0 : (g == 0) = false := by simp; omega
  have y1 : (g != 0) = true := by simp; omega
  have y2 : ¬ (g = 0) := by omega
  have y3 : ¬ (g = -1) := by omega
  go_wp2
  go_loopw [10] (fun i wr => ∃ q : Nat, q ≤ xs.length ∧ i = .int .i64 q ∧ OwnI wr base (.slice (some ⟨b, 0, none⟩) xs.length c) (shortTo xs g q) ∧ OnlyB b w wr ∧ Below base w wr) (fun i _ => xs.length - (intOf i).toNat)
  case atStart => exact ⟨0, Nat.zero_le _, rfl, HO1.out, HB1.out, HBB1.out⟩
  case round =>
    clear HO1 HB1 HBB1
    obtain ⟨q, hq, rfl, hO, hB, hb⟩ := hrel
    have HOR := Lib.hid hO; clear hO
    have HB := Lib.hid hB; clear hB
    have HBB := Lib.hid hb; clear hb
    by_cases hlt : q < xs.length
    · obtain ⟨c1, f1⟩ := HOR.out.cell (j := q) (by rw [shortTo_len]; exact hlt)
      have hv : (shortTo xs g q)[q]?.getD 0 = gt xs q := shortTo_at xs g hlt
      rw [hv] at c1
      have HG := HOR.out.lt
      have hmx : Mid (gt xs q) := HX.out _ (by unfold gt; rw [List.getElem?_eq_getElem hlt, Option.getD_some]; exact List.getElem_mem hlt)
      obtain ⟨x, hx⟩ : ∃ x, gt xs q = x := ⟨_, rfl⟩
      have HN : Hid ((shortTo xs g q).set q (x.tdiv g) = shortTo xs g (q + 1)) := by show _ = _; rw [← hx]; exact shortTo_succ hlt
      rw [hx] at c1 hmx
      have HST := Lib.hid (HOR.out.stored q (x.tdiv g))
      obtain ⟨t1, t2⟩ := tdiv_mid hmx hg1
      have w1 : wrap64 (x.tdiv g) = x.tdiv g := IntWalk.wrap64_in _ (by omega)
      have w2 : IntKind.i64.wrap (x.tdiv g) = x.tdiv g := IntWalk.i64_in _ (by omega)
      clear hv hx
      go_wp2
      go_roundw
      case rel => exact ⟨q + 1, by omega, by go_num, by rw [← HN.out]; exact HST.out, HB.out.setCell _ _, HBB.out.setCell HG.2 _⟩
      case measure => simp [intOf]; omega
    · obtain rfl : q = xs.length := by omega
      rw [HF.out] at HOR
      go_wp2
      go_ret
      exact ⟨rfl, HB.out, HBB.out, HOR.out⟩
end Go.Proofs.YtgbnfhfkehpfaaaGreat
/- Whether a list has a number; rank and free of a reduction: contracts. -/
namespace Go.Proofs.YtgbnfhfkehpfaaaGreat
open Go.RowKit

def firstAt (xs : List Int) (v : Int) : Nat → Nat → Option Nat
  | 0, _ => none
  | n + 1, i => if gt xs i = v then some i else firstAt xs v n (i + 1)
theorem firstAt_skip {xs : List Int} {v : Int} : ∀ (k n i : Nat), k ≤ n → (∀ j, j < k → gt xs (i + j) ≠ v) → firstAt xs v n i = firstAt xs v (n - k) (i + k)
  | 0, n, i, _, _ => by simp
  | k + 1, n, i, h, hz => by
    obtain ⟨n', rfl⟩ : ∃ n', n = n' + 1 := ⟨n - 1, by omega⟩
    have h0 := hz 0 (by omega)
    rw [Nat.add_zero] at h0
    rw [show firstAt xs v (n' + 1) i = firstAt xs v n' (i + 1) by conv => lhs; unfold firstAt; rw [if_neg h0]]
    rw [firstAt_skip k n' (i + 1) (by omega) (fun j hj => by have := hz (j + 1) (by omega); rwa [show i + (j + 1) = i + 1 + j by omega] at this)]
    rw [show n' + 1 - (k + 1) = n' - k by omega, show i + 1 + k = i + (k + 1) by omega]
def indexV (xs : List Int) (v : Int) : Int := match firstAt xs v xs.length 0 with | some i => (i : Int) | none => -1
theorem indexV_hit {xs : List Int} {v : Int} {k : Nat} (h : k < xs.length) (hz : ∀ j, j < k → gt xs j ≠ v) (hk : gt xs k = v) : indexV xs v = k := by
  have e := firstAt_skip k xs.length 0 (by omega) (fun j hj => by rw [Nat.zero_add]; exact hz j hj)
  obtain ⟨d, hd⟩ : ∃ d, xs.length - k = d + 1 := ⟨xs.length - k - 1, by omega⟩
  unfold indexV
  rw [e, hd, Nat.zero_add]; unfold firstAt; rw [if_pos hk]
theorem indexV_miss {xs : List Int} {v : Int} (hz : ∀ j, j < xs.length → gt xs j ≠ v) : indexV xs v = -1 := by
  have e := firstAt_skip xs.length xs.length 0 (Nat.le_refl _) (fun j hj => by rw [Nat.zero_add]; exact hz j hj)
  unfold indexV
  rw [e, Nat.sub_self]; rfl
theorem indexV_mem {xs : List Int} {v : Int} : decide (0 ≤ indexV xs v) = decide (v ∈ xs) := by
  by_cases h : v ∈ xs
  · have : ∃ k, k < xs.length ∧ gt xs k = v := by
      obtain ⟨k, hk, e⟩ := List.mem_iff_getElem.1 h
      exact ⟨k, hk, by unfold gt; rw [List.getElem?_eq_getElem hk, Option.getD_some]; exact e⟩
    have hex : ∃ k, k < xs.length ∧ gt xs k = v ∧ ∀ j, j < k → gt xs j ≠ v := by
      obtain ⟨k, hk, e⟩ := this
      induction k using Nat.strongRecOn with
      | _ k ih =>
        by_cases hj : ∃ j, j < k ∧ gt xs j = v
        · obtain ⟨j, j1, j2⟩ := hj
          exact ih j j1 (by omega) j2
        · exact ⟨k, hk, e, fun j j1 j2 => hj ⟨j, j1, j2⟩⟩
    obtain ⟨k, k1, k2, k3⟩ := hex
    rw [indexV_hit k1 k3 k2]
    simp [h]
  · rw [indexV_miss (fun j hj e => h (by rw [← e]; unfold gt; rw [List.getElem?_eq_getElem hj, Option.getD_some]; exact List.getElem_mem hj))]
    simp [h]
set_option maxRecDepth 100000 in
theorem index_any (a : Option Addr) (xs : List Int) (cap : Nat) (v : Int) (w : World) (hl : xs.length ≤ 1000) (hs : Sl w a xs) :
    Calls Tryz.prog 76 #[.slice a xs.length cap, .int .i64 v] w fun e w' => e = .returned (.int .i64 (indexV xs v)) ∧ w = w' := by
  have HS := Lib.hid hs; clear hs
  go_enter Tryz.func76, Tryz.ntmps76
  go_wp2
  go_loop [8] (fun i => ∃ k : Nat, k ≤ xs.length ∧ i = .int .i64 k ∧ Hid (∀ j, j < k → gt xs j ≠ v)) (fun i => xs.length - (intOf i).toNat)
  case atStart => exact ⟨0, Nat.zero_le _, rfl, fun j hj => by omega⟩
  case round =>
    obtain ⟨k, hk, rfl, HZ⟩ := hrel
    by_cases hlt : k < xs.length
    · obtain ⟨b, off, x, rfl, hcell, HX⟩ := HS.out.at hlt
      have HG := Lib.hid (gt_some' HX.out)
      by_cases hx : v = x
      · have e0 : (v == x) = true := by simpa using hx
        have HV : Hid (indexV xs v = k) := indexV_hit hlt HZ.out (by rw [HG.out]; exact hx.symm)
        clear hx
        go_wp2
        go_ret
        exact ⟨ret_i64 (by rw [HV.out]), rfl⟩
      · have e0 : (v == x) = false := by simpa using hx
        have HZ2 : Hid (∀ j, j < k + 1 → gt xs j ≠ v) := fun j hj => by
          by_cases e : j = k
          · rw [e, HG.out]; exact fun e => hx e.symm
          · exact HZ.out j (by omega)
        clear hx
        go_wp2
        go_round
        case rel => exact ⟨k + 1, by omega, by go_num, HZ2⟩
        case measure => simp [intOf]; omega
    · obtain rfl : k = xs.length := by omega
      have HV := Lib.hid (indexV_miss (xs := xs) (v := v) HZ.out)
      go_wp2
      go_ret
      exact ⟨ret_i64 (by rw [HV.out]), rfl⟩
theorem contains_any (a : Option Addr) (xs : List Int) (cap : Nat) (v : Int) (w : World) (hl : xs.length ≤ 1000) (hs : Sl w a xs) :
    Calls Tryz.prog 78 #[.slice a xs.length cap, .int .i64 v] w fun e w' => e = .returned (.bool (decide (v ∈ xs))) ∧ w = w' := by
  have HS := Lib.hid hs; clear hs
  go_enter Tryz.func78, Tryz.ntmps78
  go_wp2_with fail
  refine (index_any a xs cap v w hl HS.out).mono ?_
  rintro e w1 ⟨rfl, rfl⟩
  have HV := Lib.hid (indexV_mem (xs := xs) (v := v))
  go_wp2
  go_ret
  exact ⟨ret_bool (by rw [← HV.out]), rfl⟩
def freeTo (pz : List Int) : Nat → List Int
  | 0 => []
  | k + 1 => if (k : Int) ∈ pz then freeTo pz k else freeTo pz k ++ [(k : Int)]
theorem freeTo_len (pz : List Int) : ∀ k, (freeTo pz k).length ≤ k
  | 0 => Nat.le_refl _
  | k + 1 => by
    have := freeTo_len pz k
    unfold freeTo; split
    · omega
    · rw [List.length_append, List.length_singleton]; omega
def RdV (cols : Nat) (g n cap : Nat) (pv : Value) (dv : Int) : Value := .agg #[.int .i64 (cols : Int), .slice (some ⟨g, 0, none⟩) n cap, pv, .int .i64 dv]
set_option maxRecDepth 100000 in
set_option maxHeartbeats 800000 in
theorem free_any (cols g n cap : Nat) (pa : Option Addr) (pz : List Int) (pc : Nat) (dv : Int) (w : World) (hc : cols ≤ 100) (hl : pz.length ≤ 1000) (hs : Sl w pa pz) :
    Calls Tryz.prog 46 #[RdV cols g n cap (.slice pa pz.length pc) dv] w fun e w' => Below w.heap.size w w' ∧ ∃ a k, e = .returned (.slice a (freeTo pz cols).length k) ∧ Sl w' a (freeTo pz cols) := by
  have HS := Lib.hid hs; clear hs
  unfold RdV
  go_enter Tryz.func46, Tryz.ntmps46
  have HB0 : Hid (Below w.heap.size w (w.alloc (.cells #[.int .i64 (cols : Int), .slice (some ⟨g, 0, none⟩) n cap, .slice pa pz.length pc, .int .i64 dv] 61))) := (Below.refl _ _).alloc (Nat.le_refl _) _
  have hc0 : (w.alloc (.cells #[.int .i64 (cols : Int), .slice (some ⟨g, 0, none⟩) n cap, .slice pa pz.length pc, .int .i64 dv] 61)).cell? ⟨w.heap.size, 0, none⟩ = some (.int .i64 (cols : Int)) := alloc_cell _ _ _ _ _ rfl
  have HC2 : Hid ((w.alloc (.cells #[.int .i64 (cols : Int), .slice (some ⟨g, 0, none⟩) n cap, .slice pa pz.length pc, .int .i64 dv] 61)).cell? ⟨w.heap.size, 2, none⟩ = some (.slice pa pz.length pc)) := alloc_cell _ _ _ _ _ rfl
  have hsz : w.heap.size < (w.alloc (.cells #[.int .i64 (cols : Int), .slice (some ⟨g, 0, none⟩) n cap, .slice pa pz.length pc, .int .i64 dv] 61)).heap.size := by rw [World.size_alloc]; omega
  go_wp2
  generalize (w.alloc (.cells #[.int .i64 (cols : Int), .slice (some ⟨g, 0, none⟩) n cap, .slice pa pz.length pc, .int .i64 dv] 61)) = V at *
  clear hc0
  go_loopw [3, 7] (fun v i wr => ∃ k : Nat, k ≤ cols ∧ i = .int .i64 k ∧ OwnI wr V.heap.size v (freeTo pz k) ∧ Below V.heap.size V wr) (fun _ i _ => cols - (intOf i).toNat)
  case atStart => exact ⟨0, Nat.zero_le _, rfl, OwnI.nil _ _, Below.refl _ _⟩
  case round =>
    obtain ⟨k, hk, rfl, hO, hB⟩ := hrel
    have HO := Lib.hid hO; clear hO
    have HB := Lib.hid hB; clear hB
    have HBw : Hid (Below w.heap.size w wr) := HB0.out.trans (HB.out.mono (Nat.le_of_lt hsz))
    by_cases hlt : k < cols
    · have c2 : wr.cell? ⟨w.heap.size, 2, none⟩ = some (.slice pa pz.length pc) := (HB.out.cell (p := ⟨w.heap.size, 2, none⟩) hsz).trans HC2.out
      have HLEN := Lib.hid (freeTo_len pz k)
      go_wp2_with fail
      refine (contains_any pa pz pc (k : Int) wr hl (HS.out.below HBw.out)).mono ?_
      rintro e w1 ⟨rfl, rfl⟩
      by_cases hm : (k : Int) ∈ pz
      · have HT : Hid (freeTo pz (k + 1) = freeTo pz k) := by show _ = _; conv => lhs; unfold freeTo; rw [if_pos hm]
        rw [show decide ((k : Int) ∈ pz) = true by simpa using hm]
        clear hm c2
        go_wp2
        go_roundw
        case rel => exact ⟨k + 1, by omega, by go_num, by rw [HT.out]; exact HO.out, HB.out⟩
        case measure => simp [intOf]; omega
      · have HT : Hid (freeTo pz (k + 1) = freeTo pz k ++ [(k : Int)]) := by show _ = _; conv => lhs; unfold freeTo; rw [if_neg hm]
        rw [show decide ((k : Int) ∈ pz) = false by simpa using hm]
        clear hm c2
        go_wp2_with (at_builtin; go_must (refine wpList_push rfl (.tmp 15) (.tmp 17) rfl V.heap.size _ (freeTo pz k) _ _ _ _ rfl rfl rfl HO.out (by have := HLEN.out; omega) HB.out.size ?_); intro v' w9 ho' hb')
        go_roundw
        case rel => exact ⟨k + 1, by omega, by go_num, by rw [HT.out]; exact ho', HB.out.trans hb'⟩
        case measure => simp [intOf]; omega
    · obtain rfl : k = cols := by omega
      obtain ⟨a5, c5, rfl, s5⟩ := HO.out.any
      have S5 := Lib.hid s5; clear s5
      go_wp2
      go_ret
      exact ⟨HBw.out, a5, c5, rfl, S5.out⟩
end Go.Proofs.YtgbnfhfkehpfaaaGreat
/- kernel, rank and nothing of layer 3: contracts. -/
namespace Go.Proofs.YtgbnfhfkehpfaaaGreat
open Go.RowKit

theorem nothing_any (i : Int) (w : World) : Calls Tryz.prog 45 #[.int .i64 i] w fun e w' => e = .returned (.slice none 0 0) ∧ w = w' := by
  go_enter Tryz.func45, Tryz.ntmps45
  go_wp2
  go_ret
  exact ⟨rfl, rfl⟩
theorem rank_any (cols g n cap : Nat) (pa : Option Addr) (pz : List Int) (pc : Nat) (dv : Int) (w : World) :
    Calls Tryz.prog 74 #[RdV cols g n cap (.slice pa pz.length pc) dv] w fun e w' => e = .returned (.int .i64 pz.length) ∧ Below w.heap.size w w' := by
  unfold RdV
  have HB0 : Hid (Below w.heap.size w (w.alloc (.cells #[.int .i64 (cols : Int), .slice (some ⟨g, 0, none⟩) n cap, .slice pa pz.length pc, .int .i64 dv] 61))) := (Below.refl _ _).alloc (Nat.le_refl _) _
  have c2 : (w.alloc (.cells #[.int .i64 (cols : Int), .slice (some ⟨g, 0, none⟩) n cap, .slice pa pz.length pc, .int .i64 dv] 61)).cell? ⟨w.heap.size, 2, none⟩ = some (.slice pa pz.length pc) := alloc_cell _ _ _ _ _ rfl
  go_enter Tryz.func74, Tryz.ntmps74
  go_wp2
  go_ret
  exact ⟨rfl, HB0.out⟩
def kerTo (cols : Nat) (M : List (List Int)) (pz : List Int) (dv : Int) (fr : Nat) : Nat → List Int
  | 0 => (List.replicate cols (0 : Int)).set fr dv
  | k + 1 => (kerTo cols M pz dv fr k).set (gt pz k).toNat (IntKind.i64.wrap (-gt (rowL M k) fr))
theorem kerTo_len (cols : Nat) (M : List (List Int)) (pz : List Int) (dv : Int) (fr : Nat) : ∀ k, (kerTo cols M pz dv fr k).length = cols
  | 0 => by simp [kerTo]
  | k + 1 => by unfold kerTo; rw [List.length_set]; exact kerTo_len cols M pz dv fr k
def kerL (cols : Nat) (M : List (List Int)) (pz : List Int) (dv : Int) (fr : Nat) : List Int := shortL (kerTo cols M pz dv fr pz.length)
set_option maxRecDepth 100000 in
set_option maxHeartbeats 1600000 in
theorem kernel_any (base cols g cap : Nat) (ads : List (Nat × Nat)) (M : List (List Int)) (pa : Option Addr) (pz : List Int) (pc : Nat) (dv : Int) (fr : Nat) (w : World) (hc : cols ≤ 100) (hf : fr < cols) (hl : pz.length ≤ M.length) (hM : M.length ≤ 100) (hp : ∀ k, k < pz.length → 0 ≤ gt pz k ∧ gt pz k < cols)
    (hrl : ∀ r ∈ M, fr < r.length) (hmid : ∀ x ∈ kerTo cols M pz dv fr pz.length, Mid x) (hg : gcdL (kerTo cols M pz dv fr pz.length) ≠ 0) (hs : Sl w pa pz) (hsi : SI w base g ads M) :
    Calls Tryz.prog 47 #[RdV cols g M.length cap (.slice pa pz.length pc) dv, .int .i64 (fr : Int)] w fun e w' => Below w.heap.size w w' ∧ ∃ b k, e = .returned (.slice (some ⟨b, 0, none⟩) cols k) ∧ OwnI w' w.heap.size (.slice (some ⟨b, 0, none⟩) cols k) (kerL cols M pz dv fr) := by
  have HS := Lib.hid hs; clear hs
  have HSI := Lib.hid hsi; clear hsi
  have HP := Lib.hid hp; clear hp
  have HRL := Lib.hid hrl; clear hrl
  have HMID := Lib.hid hmid; clear hmid
  have HG := Lib.hid hg; clear hg
  obtain ⟨i0, hi, hz0, hz1, hz2⟩ := info_parts Tryz.infoInt
  unfold RdV
  go_enter Tryz.func47, Tryz.ntmps47
  have HB0 : Hid (Below w.heap.size w (w.alloc (.cells #[.int .i64 (cols : Int), .slice (some ⟨g, 0, none⟩) M.length cap, .slice pa pz.length pc, .int .i64 dv] 61))) := (Below.refl _ _).alloc (Nat.le_refl _) _
  have c0 : (w.alloc (.cells #[.int .i64 (cols : Int), .slice (some ⟨g, 0, none⟩) M.length cap, .slice pa pz.length pc, .int .i64 dv] 61)).cell? ⟨w.heap.size, 0, none⟩ = some (.int .i64 (cols : Int)) := alloc_cell _ _ _ _ _ rfl
  have HC1 : Hid ((w.alloc (.cells #[.int .i64 (cols : Int), .slice (some ⟨g, 0, none⟩) M.length cap, .slice pa pz.length pc, .int .i64 dv] 61)).cell? ⟨w.heap.size, 1, none⟩ = some (.slice (some ⟨g, 0, none⟩) M.length cap)) := alloc_cell _ _ _ _ _ rfl
  have HC2 : Hid ((w.alloc (.cells #[.int .i64 (cols : Int), .slice (some ⟨g, 0, none⟩) M.length cap, .slice pa pz.length pc, .int .i64 dv] 61)).cell? ⟨w.heap.size, 2, none⟩ = some (.slice pa pz.length pc)) := alloc_cell _ _ _ _ _ rfl
  have HC3 : Hid ((w.alloc (.cells #[.int .i64 (cols : Int), .slice (some ⟨g, 0, none⟩) M.length cap, .slice pa pz.length pc, .int .i64 dv] 61)).cell? ⟨w.heap.size, 3, none⟩ = some (.int .i64 dv)) := alloc_cell _ _ _ _ _ rfl
  have hsz : w.heap.size < (w.alloc (.cells #[.int .i64 (cols : Int), .slice (some ⟨g, 0, none⟩) M.length cap, .slice pa pz.length pc, .int .i64 dv] 61)).heap.size := by rw [World.size_alloc]; omega
  go_wp2_with (with_reducible refine wpList_make_full _ rfl (.tmp 9) (.tmp 9) 22 rfl (w.alloc (.cells #[.int .i64 (cols : Int), .slice (some ⟨g, 0, none⟩) M.length cap, .slice pa pz.length pc, .int .i64 dv] 61)).heap.size 3 i0 (.int .i64 0) 1 Tryz.underlying22 hi hz0 hz1 .i64 .i64 (cols : Int) (cols : Int) cols rfl rfl rfl rfl (by rw [hz2]; omega) (by unfold maxLen; omega) (Nat.le_refl _) ?_)
  rotate_left
  intro w4 hown hgrow
  have hsz1 : (w.alloc (.cells #[.int .i64 (cols : Int), .slice (some ⟨g, 0, none⟩) M.length cap, .slice pa pz.length pc, .int .i64 dv] 61)).heap.size = w.heap.size + 1 := World.size_alloc _ _
  have HO4 : Hid (OwnI w4 w.heap.size (.slice (some ⟨w.heap.size + 1, 0, none⟩) cols cols) (List.replicate cols 0)) := by
    have z := zeros_are cols
    rw [Nat.mul_one] at z
    refine OwnI.mono (base := w.heap.size + 1) ?_ (Nat.le_succ _)
    show w4.ownsRow _ _ _ _ _ _
    rw [List.length_replicate, ← z]; exact hown
  have hb4 : Below (w.heap.size + 1) (w.alloc (.cells #[.int .i64 (cols : Int), .slice (some ⟨g, 0, none⟩) M.length cap, .slice pa pz.length pc, .int .i64 dv] 61)) w4 := (Below.refl (w.heap.size + 1) _).grown hgrow (by rw [hsz1]; exact Nat.le_refl _) (fun k e => by cases e)
  have HB4 : Hid (Below w.heap.size w w4) := HB0.out.trans (hb4.mono (Nat.le_succ _))
  have HD1 : Hid (w4.cell? ⟨w.heap.size, 1, none⟩ = some (.slice (some ⟨g, 0, none⟩) M.length cap)) := (hb4.cell (p := ⟨w.heap.size, 1, none⟩) (Nat.lt_succ_self _)).trans HC1.out
  have HD2 : Hid (w4.cell? ⟨w.heap.size, 2, none⟩ = some (.slice pa pz.length pc)) := (hb4.cell (p := ⟨w.heap.size, 2, none⟩) (Nat.lt_succ_self _)).trans HC2.out
  have d3 : w4.cell? ⟨w.heap.size, 3, none⟩ = some (.int .i64 dv) := (hb4.cell (p := ⟨w.heap.size, 3, none⟩) (Nat.lt_succ_self _)).trans HC3.out
  have HK0 : Hid ((List.replicate cols (0 : Int)).set fr dv = kerTo cols M pz dv fr 0) := rfl
  obtain ⟨cz, fz⟩ := HO4.out.cell (j := fr) (by rw [List.length_replicate]; exact hf)
  have HO5 := Lib.hid (HO4.out.stored fr dv)
  have HON : Hid (OnlyB (w.heap.size + 1) w4 (w4.setCell ⟨w.heap.size + 1, fr, none⟩ (.int .i64 dv))) := (OnlyB.refl _ _).setCell fr _
  have HB5 : Hid (Below w.heap.size w (w4.setCell ⟨w.heap.size + 1, fr, none⟩ (.int .i64 dv))) := HB4.out.setCell (p := ⟨w.heap.size + 1, fr, none⟩) (Nat.le_succ _) _
  have d2' : (w4.setCell ⟨w.heap.size + 1, fr, none⟩ (.int .i64 dv)).cell? ⟨w.heap.size, 2, none⟩ = some (.slice pa pz.length pc) := (HON.out.cell (by omega)).trans HD2.out
  clear hown hgrow hb4 hsz hsz1 c0
  go_wp2
  clear d2' d3 cz fz
  go_loopw [19] (fun i wr => ∃ k : Nat, k ≤ pz.length ∧ i = .int .i64 k ∧ OwnI wr w.heap.size (.slice (some ⟨w.heap.size + 1, 0, none⟩) cols cols) (kerTo cols M pz dv fr k) ∧ OnlyB (w.heap.size + 1) w4 wr ∧ Below w.heap.size w wr) (fun i _ => pz.length - (intOf i).toNat)
  case atStart => exact ⟨0, Nat.zero_le _, rfl, HO5.out, HON.out, HB5.out⟩
  case round =>
    clear HO5 HON HB5 HO4
    obtain ⟨k, hk, rfl, hO, hN, hB⟩ := hrel
    have HO := Lib.hid hO; clear hO
    have HN := Lib.hid hN; clear hN
    have HB := Lib.hid hB; clear hB
    by_cases hlt : k < pz.length
    · obtain ⟨pb, po, v, rfl, hcv, HV⟩ := (HS.out.below HB.out).at hlt
      have hgv := gt_some' HV.out
      have hvr := HP.out k hlt
      rw [hgv] at hvr
      obtain ⟨j, rfl⟩ := Int.eq_ofNat_of_zero_le hvr.1
      have hj : j < cols := by omega
      have hkM : k < M.length := by omega
      obtain ⟨r, hr⟩ : ∃ r, M[k]? = some r := ⟨M[k], by simp [hkM]⟩
      obtain ⟨x, hx⟩ : ∃ x, ads[k]? = some x := ⟨ads[k]'(by rw [HSI.out.len]; exact hkM), by simp [HSI.out.len, hkM]⟩
      obtain ⟨xb, xc⟩ := x
      obtain ⟨hh, hro⟩ := (HSI.out.below HB.out).row k (xb, xc) r hx hr
      have hfr : fr < r.length := HRL.out r (List.mem_of_getElem? hr)
      dsimp only at hh
      have hcr := (OwnI.cell hro (j := fr) hfr).1
      obtain ⟨y, hy⟩ : ∃ y, gt r fr = y := ⟨_, rfl⟩
      have hcy : wr.cell? ⟨xb, fr, none⟩ = some (.int .i64 y) := by rw [← hy]; exact hcr
      have d1 : wr.cell? ⟨w.heap.size, 1, none⟩ = some (.slice (some ⟨g, 0, none⟩) M.length cap) := (HN.out.cell (by omega)).trans HD1.out
      obtain ⟨cz, fz⟩ := HO.out.cell (j := j) (by rw [kerTo_len]; exact hj)
      have HKN : Hid ((kerTo cols M pz dv fr k).set j (IntKind.i64.wrap (-y)) = kerTo cols M pz dv fr (k + 1)) := by
        show _ = _
        conv => rhs; unfold kerTo
        rw [hgv, Int.toNat_natCast, rowL_some hr, hy]
      have HST := Lib.hid (HO.out.stored j (IntKind.i64.wrap (-y)))
      clear hcr hro hgv hvr hy hx hr
      go_wp2
      go_roundw
      case rel =>
        (try rw [wrap_is])
        exact ⟨k + 1, by omega, by go_num, by rw [← HKN.out]; exact HST.out, HN.out.setCell _ _, HB.out.setCell (p := ⟨w.heap.size + 1, j, none⟩) (Nat.le_succ _) _⟩
      case measure => simp [intOf]; omega
    · obtain rfl : k = pz.length := by omega
      have HKL : Hid ((kerTo cols M pz dv fr pz.length).length = cols) := kerTo_len _ _ _ _ _ _
      have HSH : Hid (Calls Tryz.prog 79 #[.slice (some ⟨w.heap.size + 1, 0, none⟩) cols cols] wr fun e w' => e = .returned (.slice (some ⟨w.heap.size + 1, 0, none⟩) cols cols) ∧ OnlyB (w.heap.size + 1) wr w' ∧ Below w.heap.size wr w' ∧ OwnI w' w.heap.size (.slice (some ⟨w.heap.size + 1, 0, none⟩) cols cols) (kerL cols M pz dv fr)) := by
        have h := shorten_any w.heap.size (w.heap.size + 1) cols (kerTo cols M pz dv fr pz.length) wr (by rw [HKL.out]; omega) HMID.out HG.out (by rw [HKL.out]; exact HO.out)
        rw [HKL.out] at h
        exact h
      go_wp2_with fail
      refine HSH.out.mono ?_
      rintro e w6 ⟨rfl, _, hbl, hown⟩
      have HB6 := Lib.hid (HB.out.trans hbl)
      have HO6 := Lib.hid hown
      clear hbl hown
      go_wp2
      go_ret
      exact ⟨HB6.out, _, _, rfl, HO6.out⟩
end Go.Proofs.YtgbnfhfkehpfaaaGreat
