
/- Masks in new memory: slices of rows that the call made itself. -/
import Derived.Test.YtacbciamehchjaaMBase
import Derived.Test.YtacbciamehchjaaOwnW
import Derived.Deep.AppendLies
namespace Go.Proofs.Ytacbciamehchjaa
open Go.RowKit

/-- A row's header: its address, its numbers, its capacity. -/
abbrev RH := Option Addr × List Int × Nat
def hdv (h : RH) : Value := .slice h.1 h.2.1.length h.2.2
def rowsOf (hs : List RH) : List (List Int) := hs.map fun h => h.2.1
theorem rowsOf_length (hs : List RH) : (rowsOf hs).length = hs.length := by simp [rowsOf]
theorem rowsOf_get {hs : List RH} {i : Nat} {h : RH} (e : hs[i]? = some h) : (rowsOf hs)[i]? = some h.2.1 := by simp [rowsOf, e]
theorem rowsOf_snoc (hs : List RH) (h : RH) : rowsOf (hs ++ [h]) = rowsOf hs ++ [h.2.1] := by simp [rowsOf]
theorem rowsOf_set (hs : List RH) (i : Nat) (h : RH) : rowsOf (hs.set i h) = (rowsOf hs).set i h.2.1 := by simp [rowsOf, List.map_set]
theorem Try.infoRow : (Try.prog.info? 22).map (fun i => (i.zero, i.size, i.bytes)) = some (some (.slice none 0 0), 1, 24) := by kernel_rfl
/-- A slice of rows in the call's own memory; all its rows but one that is being written read as they must. -/
structure OwnM (w : World) (base : Nat) (v : Value) (hs : List RH) (sk : Nat) : Prop where
  own : w.ownsRow base 22 1 v hs.length (hs.map hdv)
  rows : ∀ i h, hs[i]? = some h → i ≠ sk → Sl w h.1 h.2.1
  apart : ∀ i h, hs[i]? = some h → i ≠ sk → ∀ ad, h.1 = some ad → ad.block < w.heap.size ∧ v.ownBlock ≠ some ad.block
/-- No row of hs but one lies at B or behind. -/
def RowsLow (hs : List RH) (sk B : Nat) : Prop := ∀ i h, hs[i]? = some h → i ≠ sk → ∀ ad, h.1 = some ad → ad.block < B

theorem OwnM.nil (w : World) (base sk : Nat) : OwnM w base (.slice none 0 0) [] sk := ⟨World.ownsRow_nil _ _ _ _, fun i h e => by simp at e, fun i h e => by simp at e⟩
theorem rows_are (n : Nat) : (madeCells (Value.slice none 0 0).cells (n * 1)).toList = (List.replicate n ((none, [], 0) : RH)).map hdv := by
  rw [Nat.mul_one]
  show (madeCells #[Value.slice none 0 0] n).toList = _
  rw [toList_madeCells_one]; simp [hdv]
theorem OwnM.made {w : World} {base g n : Nat} (sk : Nat) (h : w.ownsRow base 22 1 (.slice (some ⟨g, 0, none⟩) n n) n (madeCells (Value.slice none 0 0).cells (n * 1)).toList) : OwnM w base (.slice (some ⟨g, 0, none⟩) n n) (List.replicate n (none, [], 0)) sk := by
  refine ⟨?_, fun i h' e _ => ?_, fun i h' e _ ad ha => ?_⟩
  · rw [rows_are] at h; rw [List.length_replicate]; exact h
  · obtain rfl := (List.mem_replicate.1 (List.mem_of_getElem? e)).2
    exact fun k hk => absurd hk (by simp)
  · obtain rfl := (List.mem_replicate.1 (List.mem_of_getElem? e)).2
    cases ha
theorem ownsRow_below' {w w' : World} {base : Nat} {e : TypeId} {size : Nat} {v : Value} {n : Nat} {xs : List Value} (h : w.ownsRow base e size v n xs) (hb : Below w.heap.size w w') : w'.ownsRow base e size v n xs := by
  obtain ⟨h0, h1 | ⟨g, cap, cur, e, hg, hh, rest⟩⟩ := h
  · exact ⟨h0, .inl h1⟩
  · exact ⟨h0, .inr ⟨g, cap, cur, e, hg, (hb.block g (Array.getElem?_eq_some_iff.1 hh).1).trans hh, rest⟩⟩
theorem OwnM.below {w w' : World} {base : Nat} {v : Value} {hs : List RH} {sk : Nat} (h : OwnM w base v hs sk) (hb : Below w.heap.size w w') : OwnM w' base v hs sk :=
  ⟨ownsRow_below' h.own hb, fun i x e n => (h.rows i x e n).below hb, fun i x e n ad ha => ⟨Nat.lt_of_lt_of_le (h.apart i x e n ad ha).1 hb.size, (h.apart i x e n ad ha).2⟩⟩
theorem OwnM.skip {w : World} {base : Nat} {v : Value} {hs : List RH} {sk : Nat} (h : OwnM w base v hs sk) (hk : hs.length ≤ sk) (sk' : Nat) : OwnM w base v hs sk' := by
  have hi : ∀ i x, hs[i]? = some x → i ≠ sk := fun i x e => by have := (List.getElem?_eq_some_iff.1 e).1; omega
  exact ⟨h.own, fun i x e _ => h.rows i x e (hi i x e), fun i x e _ => h.apart i x e (hi i x e)⟩
theorem OwnM.low {w : World} {base : Nat} {v : Value} {hs : List RH} {sk : Nat} (h : OwnM w base v hs sk) : RowsLow hs sk w.heap.size := fun i x e n ad ha => (h.apart i x e n ad ha).1
theorem RowsLow.set {hs : List RH} {sk B : Nat} (h : RowsLow hs sk B) (x : RH) : RowsLow (hs.set sk x) sk B := by
  intro i y e n ad ha
  rw [List.getElem?_set_ne (Ne.symm n)] at e
  exact h i y e n ad ha
theorem OwnM.sl_of {w : World} {base : Nat} {a : Option Addr} {n cap : Nat} {hs : List RH} {sk : Nat} (h : OwnM w base (.slice a n cap) hs sk) : n = hs.length := by
  obtain ⟨_, ⟨e, h0⟩ | ⟨g, c, cur, e, _⟩⟩ := h.own
  · have : n = 0 := by simpa using congrArg (fun v => match v with | .slice _ n _ => n | _ => 0) e
    omega
  · simpa using congrArg (fun v => match v with | .slice _ n _ => n | _ => 0) e
theorem OwnM.cell {w : World} {base g n cap : Nat} {hs : List RH} {sk : Nat} (h : OwnM w base (.slice (some ⟨g, 0, none⟩) n cap) hs sk) {i : Nat} {x : RH} (e : hs[i]? = some x) :
    w.cell? ⟨g, i, none⟩ = some (.slice x.1 x.2.1.length x.2.2) ∧ w.frozen? ⟨g, i, none⟩ = false := by
  obtain rfl := h.sl_of
  have hi := (List.getElem?_eq_some_iff.1 e).1
  refine ⟨?_, World.ownsRow.frozenAt h.own i⟩
  rw [World.ownsRow.cellAt h.own i (by omega)]
  simp [e, hdv]
theorem OwnM.lt {w : World} {base g n cap : Nat} {hs : List RH} {sk : Nat} (h : OwnM w base (.slice (some ⟨g, 0, none⟩) n cap) hs sk) : g < w.heap.size ∧ base ≤ g := by
  have := World.ownsRow.lt h.own g rfl
  omega
theorem OwnM.ms {w : World} {base : Nat} {a : Option Addr} {n cap : Nat} {hs : List RH} {sk : Nat} (h : OwnM w base (.slice a n cap) hs sk) (hk : hs.length ≤ sk) : Ms w a (rowsOf hs) := by
  have hn := h.sl_of
  intro i hi
  rw [rowsOf_length] at hi
  obtain ⟨x, e⟩ : ∃ x, hs[i]? = some x := ⟨hs[i], by simp [hi]⟩
  obtain ⟨_, ⟨_, h0⟩ | ⟨g, c, cur, ev, _⟩⟩ := h.own
  · omega
  · obtain ⟨rfl, _, _⟩ : a = some ⟨g, 0, none⟩ ∧ n = hs.length ∧ cap = c := by simpa using ev
    refine ⟨g, 0, x.1, x.2.2, rfl, ?_, ?_⟩
    · rw [Nat.zero_add, rowsOf_get e]; exact (h.cell e).1
    · rw [rowsOf_get e]; exact h.rows i x e (by omega)
/-- What is written at B or behind leaves a slice of rows that lies below. -/
theorem OwnM.grow {w w' : World} {base g n cap B : Nat} {hs : List RH} {sk : Nat} (h : OwnM w base (.slice (some ⟨g, 0, none⟩) n cap) hs sk) (hb : Below B w w') (hg : g < B) (hl : RowsLow hs sk B) : OwnM w' base (.slice (some ⟨g, 0, none⟩) n cap) hs sk := by
  refine ⟨?_, fun i x e hi k hk => ?_, fun i x e hi ad ha => ⟨Nat.lt_of_lt_of_le (h.apart i x e hi ad ha).1 hb.size, (h.apart i x e hi ad ha).2⟩⟩
  · obtain ⟨h0, ⟨e, _⟩ | ⟨g', cap', cur, e, hge, hh, rest⟩⟩ := h.own
    · cases e
    · obtain rfl : g = g' := by simpa using congrArg (fun v => match v with | .slice (some a) _ _ => a.block | _ => 0) e
      exact ⟨h0, .inr ⟨g, cap', cur, e, hge, (hb.block g hg).trans hh, rest⟩⟩
  · obtain ⟨b, off, ha, hc⟩ := h.rows i x e hi k hk
    exact ⟨b, off, ha, (hb.cell (p := ⟨b, off + k, none⟩) (show b < B from hl i x e hi ⟨b, off, none⟩ ha)).trans hc⟩
/-- A row's header is written. -/
theorem OwnM.put {w : World} {base g n cap : Nat} {hs : List RH} {k : Nat} (h : OwnM w base (.slice (some ⟨g, 0, none⟩) n cap) hs k) (sk : Nat) {a : Option Addr} {r : List Int} (c : Nat) (hs' : Sl w a r) (ha : ∀ ad, a = some ad → ad.block < w.heap.size ∧ ad.block ≠ g) :
    OwnM (w.setCell ⟨g, k, none⟩ (.slice a r.length c)) base (.slice (some ⟨g, 0, none⟩) n cap) (hs.set k (a, r, c)) sk := by
  obtain rfl := h.sl_of
  have keep : ∀ b o, b ≠ g → (w.setCell ⟨g, k, none⟩ (.slice a r.length c)).cell? ⟨b, o, none⟩ = w.cell? ⟨b, o, none⟩ := fun b o hb => cell_other w ⟨g, k, none⟩ _ o hb
  have hsz : (w.setCell ⟨g, k, none⟩ (.slice a r.length c)).heap.size = w.heap.size := by simp
  refine ⟨?_, fun i x e _ j hj => ?_, fun i x e _ ad had => ?_⟩
  · rw [List.length_set, List.map_set]
    exact (World.ownsRow.stored h.own k _).1
  · by_cases hik : i = k
    · subst hik
      have hlt : i < hs.length := by have := (List.getElem?_eq_some_iff.1 e).1; simpa using this
      rw [List.getElem?_set_self hlt] at e
      obtain rfl : (a, r, c) = x := by simpa using e
      obtain ⟨b, off, hb, hc⟩ := hs' j hj
      exact ⟨b, off, hb, (keep b _ (ha _ hb).2).trans hc⟩
    · rw [List.getElem?_set_ne (Ne.symm hik)] at e
      obtain ⟨b, off, hb, hc⟩ := h.rows i x e hik j hj
      have hne : b ≠ g := fun he => (h.apart i x e hik _ hb).2 (by simp [Value.ownBlock, he])
      exact ⟨b, off, hb, (keep b _ hne).trans hc⟩
  · rw [hsz]
    by_cases hik : i = k
    · subst hik
      have hlt : i < hs.length := by have := (List.getElem?_eq_some_iff.1 e).1; simpa using this
      rw [List.getElem?_set_self hlt] at e
      obtain rfl : (a, r, c) = x := by simpa using e
      refine ⟨(ha ad had).1, ?_⟩
      have := (ha ad had).2
      simp only [Value.ownBlock, Option.some.injEq, ne_eq]
      exact fun he => this he.symm
    · rw [List.getElem?_set_ne (Ne.symm hik)] at e
      exact h.apart i x e hik ad had
/-- The numbers of an owned row, and where they lie. -/
theorem OwnI.row {w : World} {base : Nat} {v : Value} {xs : List Int} (h : OwnI w base v xs) : ∃ a c, v = .slice a xs.length c ∧ Sl w a xs ∧ ∀ ad, a = some ad → ad.block < w.heap.size ∧ base ≤ ad.block := by
  have h' := h
  obtain ⟨hx, ⟨rfl, h0⟩ | ⟨g, cap, cur, rfl, _⟩⟩ := h
  · have : xs = [] := List.eq_nil_of_length_eq_zero h0
    subst this
    exact ⟨none, 0, rfl, Sl.none _, fun ad e => by cases e⟩
  · refine ⟨some ⟨g, 0, none⟩, cap, rfl, h'.sl, fun ad e => ?_⟩
    cases e
    exact h'.lt
/-- One row appended to a slice of rows of the call's own. -/
theorem pushM_after {V w' : World} {base : Nat} {v : Value} {hs : List RH} (hown : OwnM V base v hs hs.length) {a : Option Addr} {r : List Int} {c : Nat} {t : TypeId} (hsl : Sl V a r) (hap : ∀ ad, a = some ad → ad.block < V.heap.size ∧ v.ownBlock ≠ some ad.block)
    {g cap : Nat} (h1 : w'.ownsRow base 22 1 (.slice (some ⟨g, 0, none⟩) (hs.length + 1) cap) (hs.length + 1) (hs.map hdv ++ [.slice a r.length c])) (h2 : (V.alloc (.cells #[.slice a r.length c] t)).grownBy w' v.ownBlock) (h3 : v.ownBlock = some g ∨ g = V.heap.size + 1) :
    OwnM w' base (.slice (some ⟨g, 0, none⟩) (hs.length + 1) cap) (hs ++ [(a, r, c)]) (hs.length + 1) := by
  have far : ∀ b, b < V.heap.size → v.ownBlock ≠ some b → w'.heap[b]? = V.heap[b]? := fun b hb hn => (h2.block b (by rw [World.size_alloc]; omega) (fun e => hn e.symm)).trans (Below.heap_alloc V _ b hb)
  have hne : ∀ b, b < V.heap.size → v.ownBlock ≠ some b → g ≠ b := by
    intro b hb hn e
    rcases h3 with h3 | h3
    · exact hn (by rw [h3, e])
    · omega
  have hsz : V.heap.size ≤ w'.heap.size := by have := h2.size; rw [World.size_alloc] at this; omega
  have get : ∀ i x, (hs ++ [(a, r, c)])[i]? = some x → (hs[i]? = some x ∧ i ≠ hs.length) ∨ x = (a, r, c) := by
    intro i x e
    rcases Nat.lt_trichotomy i hs.length with hi | hi | hi
    · rw [List.getElem?_append_left hi] at e; exact .inl ⟨e, by omega⟩
    · subst hi; simp at e; exact .inr e.symm
    · have := (List.getElem?_eq_some_iff.1 e).1; simp at this; omega
  refine ⟨?_, fun i x e _ k hk => ?_, fun i x e _ ad had => ?_⟩
  · simpa [hdv] using h1
  · rcases get i x e with ⟨e', hi⟩ | rfl
    · obtain ⟨b, off, hb, hc⟩ := hown.rows i x e' hi k hk
      obtain ⟨l1, l2⟩ := hown.apart i x e' hi _ hb
      exact ⟨b, off, hb, (World.cell?_of_block (a := ⟨b, off + k, none⟩) (far b l1 l2)).trans hc⟩
    · obtain ⟨b, off, hb, hc⟩ := hsl k hk
      obtain ⟨l1, l2⟩ := hap _ hb
      exact ⟨b, off, hb, (World.cell?_of_block (a := ⟨b, off + k, none⟩) (far b l1 l2)).trans hc⟩
  · have hx : ad.block < V.heap.size ∧ v.ownBlock ≠ some ad.block := by
      rcases get i x e with ⟨e', hi⟩ | rfl
      · exact hown.apart i x e' hi ad had
      · exact hap ad had
    refine ⟨by omega, ?_⟩
    have := hne ad.block hx.1 hx.2
    simp only [Value.ownBlock, Option.some.injEq, ne_eq]
    exact this
theorem wpList_pushM {ops : Array Oper} {rest : List Oper} {o : Oper} {act : Act} {Q : Exit → Act → World → Prop} (hgd : o.guard = none) (s x : Operand)
    (ho : o.op = .call { callee := .builtin .append, args := #[s, x], argTypes := #[39, 39] }) (base : Nat) (v : Value) (hs : List RH) (a : Option Addr) (r : List Int) (c : Nat) (V : World) (B : Nat) (t : TypeId)
    (hv : act.eval s = v) (hx : act.eval x = .slice (some ⟨B, 0, none⟩) 1 1) (hB : B = V.heap.size) (hown : OwnM V base v hs hs.length) (hsl : Sl V a r) (hap : ∀ ad, a = some ad → ad.block < V.heap.size ∧ v.ownBlock ≠ some ad.block) (hl : hs.length ≤ 1000) (hbase : base ≤ V.heap.size)
    (h : ∀ v' w', OwnM w' base v' (hs ++ [(a, r, c)]) (hs.length + 1) → Below base V w' → wpList Try.prog ops Q rest (act.put o.dst v') w') : wpList Try.prog ops Q (o :: rest) act (V.alloc (.cells #[.slice a r.length c] t)) := by
  obtain ⟨i0, hi, hz0, hz1, hz2⟩ := info_parts Try.infoRow
  subst hB
  refine wpList_append_lies (V.alloc (.cells #[.slice a r.length c] t)) hgd s x 39 ho base 22 i0 (.slice none 0 0) 1 24 Try.underlying39 hi hz0 hz1 hz2 rfl (by decide) v hs.length (hs.map hdv) hv (hown.own.alloc _) ⟨V.heap.size, 0, none⟩ 1 1 [.slice a r.length c] hx rfl ?_ ?_ (by decide) (by unfold maxLen; omega) (by omega) (by rw [World.size_alloc]; omega) (V.heap.size + 1) (World.size_alloc _ _) ?_
  · intro j u hj
    match j, hj with
    | 0, hj =>
      simp at hj; subst hj
      rw [addr_add]
      exact alloc_cell V #[.slice a r.length c] t 0 _ rfl
    | j + 1, hj => simp at hj
  · intro u hu; simp at hu; subst hu; rfl
  · intro g cap w' h1 h2 h3 _
    refine h _ w' (pushM_after hown hsl hap h1 h2 h3) ?_
    exact ((Below.refl base V).alloc hbase _).grown h2 (by rw [World.size_alloc]; omega) (fun k e => (World.ownsRow.lt hown.own k e).1)
/-- What a function that returns a mask and an error returns. -/
def MPost (r : List (List Int) × Int) (w : World) (e : Ending) (w' : World) : Prop := Below w.heap.size w w' ∧ ∃ a cap, r.1.length ≤ cap ∧ e = .returned (.tuple #[.slice a r.1.length cap, .int .i64 r.2]) ∧ Ms w' a r.1
theorem Ms.take {w : World} {a : Option Addr} {m : List (List Int)} (h : Ms w a m) (n : Nat) : Ms w a (m.take n) := by
  intro i hi
  have h1 : i < m.length := by rw [List.length_take] at hi; omega
  have h2 : i < n := by rw [List.length_take] at hi; omega
  obtain ⟨b, off, ai, ci, e1, e2, e3⟩ := h i h1
  have e : (m.take n)[i]? = m[i]? := by rw [List.getElem?_take]; simp [h2]
  rw [e]
  exact ⟨b, off, ai, ci, e1, e2, e3⟩
theorem Ms.none (w : World) : Ms w none [] := fun k h => absurd h (by simp)
theorem MPost.err {w w' : World} (n : Int) {r : List (List Int) × Int} (hr : r = ([], n)) (hb : Below w.heap.size w w') : MPost r w (.returned (.tuple #[.slice none 0 0, .int .i64 n])) w' := by
  subst hr; exact ⟨hb, none, 0, Nat.le_refl _, rfl, Ms.none _⟩
theorem MPost.own {w w' : World} {base : Nat} {v : Value} {hs : List RH} {sk : Nat} {r : List (List Int) × Int} (hr : r = (rowsOf hs, 0)) (hb : Below w.heap.size w w') (ho : OwnM w' base v hs sk) (hk : hs.length ≤ sk) : MPost r w (.returned (.tuple #[v, .int .i64 0])) w' := by
  subst hr
  have h' := ho.own
  obtain ⟨hx, ⟨rfl, h0⟩ | ⟨g, cap, cur, rfl, _, _, hcap, _⟩⟩ := h'
  · have : hs = [] := List.eq_nil_of_length_eq_zero h0
    subst this
    exact ⟨hb, none, 0, Nat.le_refl _, rfl, Ms.none _⟩
  · exact ⟨hb, _, cap, by rw [rowsOf_length]; exact hcap, by rw [rowsOf_length], ho.ms hk⟩
end Go.Proofs.Ytacbciamehchjaa
