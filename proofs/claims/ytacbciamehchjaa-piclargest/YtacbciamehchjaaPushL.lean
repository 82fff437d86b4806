
/- A list of ints appended to a slice of the call's own; Grow of a nil slice; Concat: contracts. -/
import Derived.Test.YtacbciamehchjaaOwnW
import Derived.Lib.AppendZerosOnto
import Derived.Lib.SliceRun
namespace Go.Proofs.Ytacbciamehchjaa
open Go.RowKit

theorem news_of {W : World} {b off : Nat} {ys : List Int} (h : Sl W (some ⟨b, off, none⟩) ys) : ∀ j u, (ys.map (Value.int .i64))[j]? = some u → W.cell? ((⟨b, off, none⟩ : Addr).add j) = some u := h.news
/-- A list of ints appended to a slice of the call's own. -/
theorem wpList_pushL {ops : Array Oper} {rest : List Oper} {o : Oper} {a : Act} {Q : Exit → Act → World → Prop} (hgd : o.guard = none) (s x : Operand)
    (ho : o.op = .call { callee := .builtin .append, args := #[s, x], argTypes := #[22, 22] }) (base : Nat) (v : Value) (zs : List Int) (b off : Nat) (ys : List Int) (c : Nat) (V : World)
    (hs : a.eval s = v) (hx : a.eval x = .slice (some ⟨b, off, none⟩) ys.length c) (hown : OwnI V base v zs) (hsl : Sl V (some ⟨b, off, none⟩) ys) (hl : zs.length + ys.length ≤ 100000) (hbase : base ≤ V.heap.size)
    (h : ∀ v' w', OwnI w' base v' (zs ++ ys) → Below base V w' → wpList Try.prog ops Q rest (a.put o.dst v') w') : wpList Try.prog ops Q (o :: rest) a V := by
  obtain ⟨i0, hi, hz0, hz1, hz2⟩ := info_parts Try.infoInt
  refine wpList_append_own V hgd s x 22 ho base 3 i0 (.int .i64 0) 1 8 Try.underlying22 hi hz0 hz1 hz2 rfl (by decide) v zs.length (zs.map (Value.int .i64)) hs hown ⟨b, off, none⟩ ys.length c (ys.map (Value.int .i64)) hx (by simp) (news_of hsl) (map_oneCell ys) (by unfold maxLen; omega) (by omega) hbase ?_
  intro v' w' h1 h2 h3
  refine h v' w' ?_ ((Below.refl base V).grown h2 hbase (fun k e => (World.ownsRow.lt hown k e).1))
  show w'.ownsRow _ _ _ _ _ _
  rw [List.length_append, List.map_append]; exact h1
/-- The same in a region that draws its order. -/
theorem step_pushL {ops : Array Oper} {o : Oper} {a : Act} {K : Act → World → Prop} {Q : Exit → Act → World → Prop} {E : Prop} (hgd : o.guard = none) (s x : Operand)
    (ho : o.op = .call { callee := .builtin .append, args := #[s, x], argTypes := #[22, 22] }) (base : Nat) (v : Value) (zs : List Int) (b off : Nat) (ys : List Int) (c : Nat) (V : World)
    (hs : a.eval s = v) (hx : a.eval x = .slice (some ⟨b, off, none⟩) ys.length c) (hown : OwnI V base v zs) (hsl : Sl V (some ⟨b, off, none⟩) ys) (hl : zs.length + ys.length ≤ 100000) (hbase : base ≤ V.heap.size)
    (h : ∀ v' w', OwnI w' base v' (zs ++ ys) → Below base V w' → K (a.put o.dst v') w') : if Region.wanted o (yielded ops a.tmps) = true then Oper.wp Try.prog o a V K Q else E := by
  have hw : Region.wanted o (yielded ops a.tmps) = true := by simp [Region.wanted, hgd]
  rw [if_pos hw]
  obtain ⟨i0, hi, hz0, hz1, hz2⟩ := info_parts Try.infoInt
  refine wp_append_own V s x 22 ho base 3 i0 (.int .i64 0) 1 8 Try.underlying22 hi hz0 hz1 hz2 rfl (by decide) v zs.length (zs.map (Value.int .i64)) hs hown ⟨b, off, none⟩ ys.length c (ys.map (Value.int .i64)) hx (by simp) (news_of hsl) (map_oneCell ys) (by unfold maxLen; omega) (by omega) hbase ?_
  intro v' w' h1 h2 h3
  refine h v' w' ?_ ((Below.refl base V).grown h2 hbase (fun k e => (World.ownsRow.lt hown k e).1))
  show w'.ownsRow _ _ _ _ _ _
  rw [List.length_append, List.map_append]; exact h1

theorem grow_cells {w : World} {n G : Nat} (hG : n ≤ G) (hm : G ≤ maxLen) (B : Nat) (hB : B ≤ w.heap.size) : OwnI (w.alloc (.cells (Builtin.zeroCells #[Value.int .i64 0] n ++ Builtin.zeroCells #[Value.int .i64 0] (G - n)) 3)).drew B (.slice (some ⟨w.heap.size, 0, none⟩) 0 G) [] := by
  refine ⟨by simp, .inr ⟨w.heap.size, G, Builtin.zeroCells #[Value.int .i64 0] n ++ Builtin.zeroCells #[Value.int .i64 0] (G - n), rfl, hB, ?_, by simp, hm, ?_, by simp⟩⟩
  · show (w.heap.push (.cells (Builtin.zeroCells #[Value.int .i64 0] n ++ Builtin.zeroCells #[Value.int .i64 0] (G - n)) 3))[w.heap.size]? = _
    rw [Array.getElem?_push_size]
  · simp [size_zeroCells]; omega
/-- The rows of ls up to k, one behind the other. -/
def catTo (ls : List (Nat × Nat × List Int × Nat)) (k : Nat) : List Int := ((ls.take k).map fun x => x.2.2.1).flatten
theorem catTo_succ {ls : List (Nat × Nat × List Int × Nat)} {k : Nat} {x : Nat × Nat × List Int × Nat} (h : ls[k]? = some x) : catTo ls (k + 1) = catTo ls k ++ x.2.2.1 := by
  have hk := (List.getElem?_eq_some_iff.1 h).1
  unfold catTo
  rw [List.take_succ_eq_append_getElem hk, List.map_append, List.flatten_append]
  simp [(List.getElem?_eq_some_iff.1 h).2]
theorem catTo_le {ls : List (Nat × Nat × List Int × Nat)} {k : Nat} (hk : k ≤ ls.length) : (catTo ls k).length ≤ (catTo ls ls.length).length := by
  unfold catTo
  have e : ls.take ls.length = ls.take k ++ ls.drop k := by simp
  rw [e, List.map_append, List.flatten_append, List.length_append]; omega
end Go.Proofs.Ytacbciamehchjaa
