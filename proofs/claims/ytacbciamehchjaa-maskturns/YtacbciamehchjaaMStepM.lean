
/- One row appended to a slice of rows in a region that draws its order. -/
import Derived.Test.YtacbciamehchjaaMRows
namespace Go.Proofs.Ytacbciamehchjaa
open Go.RowKit

theorem pushM_after' {V w' : World} {base : Nat} {v : Value} {hs : List RH} (hown : OwnM V base v hs hs.length) {a : Option Addr} {r : List Int} {c : Nat} (hsl : Sl V a r) (hap : ∀ ad, a = some ad → ad.block < V.heap.size ∧ v.ownBlock ≠ some ad.block)
    {g cap : Nat} (h1 : w'.ownsRow base 22 1 (.slice (some ⟨g, 0, none⟩) (hs.length + 1) cap) (hs.length + 1) (hs.map hdv ++ [.slice a r.length c])) (h2 : V.grownBy w' v.ownBlock) (h3 : v.ownBlock = some g ∨ g = V.heap.size) :
    OwnM w' base (.slice (some ⟨g, 0, none⟩) (hs.length + 1) cap) (hs ++ [(a, r, c)]) (hs.length + 1) := by
  have far : ∀ b, b < V.heap.size → v.ownBlock ≠ some b → w'.heap[b]? = V.heap[b]? := fun b hb hn => h2.block b hb (fun e => hn e.symm)
  have hne : ∀ b, b < V.heap.size → v.ownBlock ≠ some b → g ≠ b := by
    intro b hb hn e
    rcases h3 with h3 | h3
    · exact hn (by rw [h3, e])
    · omega
  have hsz : V.heap.size ≤ w'.heap.size := h2.size
  have get : ∀ i x, (hs ++ [(a, r, c)])[i]? = some x → (hs[i]? = some x ∧ i ≠ hs.length) ∨ x = (a, r, c) := by
    intro i x e
    rcases Nat.lt_trichotomy i hs.length with hi | hi | hi
    · rw [List.getElem?_append_left hi] at e; exact .inl ⟨e, by omega⟩
    · subst hi; simp at e; exact .inr e.symm
    · have := (List.getElem?_eq_some_iff.1 e).1; simp at this; omega
  refine ⟨?_, fun i x e _ k hk => ?_, fun i x e _ ad had => ?_⟩
  · simpa [hdv] using h1
  · rcases get i x e with ⟨e', hi⟩ | rfl
    · obtain ⟨b, off, hb, hc⟩ := hown.rows i x e' hi k hk
      obtain ⟨l1, l2⟩ := hown.apart i x e' hi _ hb
      exact ⟨b, off, hb, (World.cell?_of_block (a := ⟨b, off + k, none⟩) (far b l1 l2)).trans hc⟩
    · obtain ⟨b, off, hb, hc⟩ := hsl k hk
      obtain ⟨l1, l2⟩ := hap _ hb
      exact ⟨b, off, hb, (World.cell?_of_block (a := ⟨b, off + k, none⟩) (far b l1 l2)).trans hc⟩
  · have hx : ad.block < V.heap.size ∧ v.ownBlock ≠ some ad.block := by
      rcases get i x e with ⟨e', hi⟩ | rfl
      · exact hown.apart i x e' hi ad had
      · exact hap ad had
    refine ⟨by omega, ?_⟩
    have := hne ad.block hx.1 hx.2
    simp only [Value.ownBlock, Option.some.injEq, ne_eq]
    exact this
theorem step_pushM {ops : Array Oper} {o : Oper} {act : Act} {K : Act → World → Prop} {Q : Exit → Act → World → Prop} {E : Prop} (hgd : o.guard = none) (s x : Operand)
    (ho : o.op = .call { callee := .builtin .append, args := #[s, x], argTypes := #[39, 39] }) (base : Nat) (v : Value) (hs : List RH) (a : Option Addr) (r : List Int) (c : Nat) (W : World) (B : Nat)
    (hv : act.eval s = v) (hx : act.eval x = .slice (some ⟨B, 0, none⟩) 1 1) (hnew : W.cell? ⟨B, 0, none⟩ = some (.slice a r.length c)) (hown : OwnM W base v hs hs.length) (hsl : Sl W a r) (hap : ∀ ad, a = some ad → ad.block < W.heap.size ∧ v.ownBlock ≠ some ad.block) (hl : hs.length ≤ 1000) (hbase : base ≤ W.heap.size)
    (h : ∀ v' w', OwnM w' base v' (hs ++ [(a, r, c)]) (hs.length + 1) → Below base W w' → K (act.put o.dst v') w') : if Region.wanted o (yielded ops act.tmps) = true then Oper.wp Try.prog o act W K Q else E := by
  obtain ⟨i0, hi, hz0, hz1, hz2⟩ := info_parts Try.infoRow
  refine step_append_lies W hgd s x 39 ho base 22 i0 (.slice none 0 0) 1 24 Try.underlying39 hi hz0 hz1 hz2 rfl (by decide) v hs.length (hs.map hdv) hv hown.own ⟨B, 0, none⟩ 1 1 [.slice a r.length c] hx rfl ?_ ?_ (by decide) (by unfold maxLen; omega) (by omega) hbase W.heap.size rfl ?_
  · intro j u hj
    match j, hj with
    | 0, hj =>
      simp at hj; subst hj
      rw [addr_add]
      exact hnew
    | j + 1, hj => simp at hj
  · intro u hu; simp at hu; subst hu; rfl
  · intro g cap w' h1 h2 h3 _
    refine h _ w' (pushM_after' hown hsl hap h1 h2 h3) ?_
    exact (Below.refl base W).grown h2 hbase (fun k e => (World.ownsRow.lt hown.own k e).1)
end Go.Proofs.Ytacbciamehchjaa
