/- Stacked masks: plain facts; a list appended under a guard. -/
import Derived.Test.YtkakjfijmekdjabMDelete
import Derived.Test.YtkakjfijmekdjabMAdjMath
import Derived.Test.YtkakjfijmekdjabMRead
import Derived.Test.YtkakjfijmekdjabMSeedMath
namespace Go.Proofs.Ytkakjfijmekdjab
open Go.RowKit

theorem stack_valid {a b : List (List Int)} (h1 : validM a = true) (h2 : validM b = true) (h : colsM a = colsM b) (h6 : a.length + b.length ≤ 6) : validM (a ++ b) = true ∧ colsM (a ++ b) = colsM a := by
  obtain ⟨a1, _, ac1, ac10, ar⟩ := validM_of h1
  obtain ⟨_, _, _, _, br⟩ := validM_of h2
  have hc : colsM (a ++ b) = colsM a := by
    unfold colsM; rw [List.getElem?_append_left (by omega)]
  refine ⟨validM_yes (by simp [rangeB]; omega) (fun i hi => ?_), hc⟩
  have hr : ∀ r ∈ a ++ b, (decide (r.length = colsM (a ++ b)) && rowB r) = true := by
    intro r hr
    have hx : r.length = colsM a ∧ allB 1 r = true := by
      rcases List.mem_append.1 hr with h' | h'
      · exact ar r h'
      · rw [h]; exact br r h'
    rw [hc]
    simp only [Bool.and_eq_true, decide_eq_true_eq]
    refine ⟨hx.1, ?_⟩
    unfold rowB
    rw [hx.2, hx.1]; simp [rangeB]; omega
  have e : (a ++ b)[i]? = some ((a ++ b)[i]) := by simp [hi]
  rw [e]
  exact hr _ (List.getElem_mem _)
theorem read_append (a b : List (List Int)) (x : List Int) : readL (a ++ b) x = readL a x ++ readL b x := by simp [readL]
theorem append_ok {a b : List (List Int)} (ha : MOk a) (hb : MOk b) (h : a.length + b.length ≤ 9223372036854775807) : MOk (a ++ b) :=
  ⟨by rw [List.length_append]; omega, fun r hr => by
    rcases List.mem_append.1 hr with h | h
    · exact ha.2 r h
    · exact hb.2 r h⟩
theorem stackedV_mok {a b : List (List Int)} (ha : MOk a) (hb : MOk b) : MOk (stackedV a b).1 := by
  unfold stackedV
  split
  · split
    · split
      · exact append_ok ha hb (by omega)
      · exact ⟨by simp, fun r h => by cases h⟩
    · exact ⟨by simp, fun r h => by cases h⟩
  · exact ⟨by simp, fun r h => by cases h⟩
theorem withoutV_mok {m : List (List Int)} (i : Int) (hm : MOk m) : MOk (withoutV m i).1 := by
  unfold withoutV
  split
  · split
    · split
      · exact ⟨by simp, fun r h => by cases h⟩
      · refine ⟨by have := hm.1; simp; omega, fun r hr => ?_⟩
        rcases List.mem_append.1 hr with h | h
        · exact hm.2 r (List.mem_of_mem_take h)
        · exact hm.2 r (List.mem_of_mem_drop h)
    · exact ⟨by simp, fun r h => by cases h⟩
  · exact ⟨by simp, fun r h => by cases h⟩
theorem stackedV_yes {a b p : List (List Int)} (h : stackedV a b = (p, 0)) : validM a = true ∧ validM b = true ∧ colsM a = colsM b ∧ a.length + b.length ≤ 6 ∧ p = a ++ b := by
  unfold stackedV at h
  split at h
  · rename_i hv
    simp only [Bool.and_eq_true] at hv
    split at h
    · rename_i hc
      split at h
      · rename_i h6
        exact ⟨hv.1, hv.2, hc, h6, (congrArg Prod.fst h).symm⟩
      · cases h
    · cases h
  · cases h
/-- A list of ints appended under a guard that stands open. -/
theorem wpList_pushLw {ops : Array Oper} {rest : List Oper} {o : Oper} {a : Act} {Q : Exit → Act → World → Prop} (hw : Region.wanted o (yielded ops a.tmps) = true) (s x : Operand)
    (ho : o.op = .call { callee := .builtin .append, args := #[s, x], argTypes := #[26, 26] }) (base : Nat) (v : Value) (zs : List Int) (b off : Nat) (ys : List Int) (c : Nat) (V : World)
    (hs : a.eval s = v) (hx : a.eval x = .slice (some ⟨b, off, none⟩) ys.length c) (hown : OwnI V base v zs) (hsl : Sl V (some ⟨b, off, none⟩) ys) (hl : zs.length + ys.length ≤ 100000) (hbase : base ≤ V.heap.size)
    (h : ∀ v' w', OwnI w' base v' (zs ++ ys) → Below base V w' → wpList Try.prog ops Q rest (a.put o.dst v') w') : wpList Try.prog ops Q (o :: rest) a V := by
  obtain ⟨i0, hi, hz0, hz1, hz2⟩ := info_parts Try.infoInt
  refine wpList_step fun K hK => ?_
  rw [if_pos hw]
  refine wp_append_own V s x 26 ho base 3 i0 (.int .i64 0) 1 8 Try.underlying26 hi hz0 hz1 hz2 rfl (by decide) v zs.length (zs.map (Value.int .i64)) hs hown ⟨b, off, none⟩ ys.length c (ys.map (Value.int .i64)) hx (by simp) (news_of hsl) (map_oneCell ys) (by unfold maxLen; omega) (by omega) hbase ?_
  intro v' w' h1 h2 h3
  refine hK _ _ (h v' w' ?_ ((Below.refl base V).grown h2 hbase (fun k e => (World.ownsRow.lt hown k e).1)))
  show w'.ownsRow _ _ _ _ _ _
  rw [List.length_append, List.map_append]; exact h1
end Go.Proofs.Ytkakjfijmekdjab
