/- How a mask that came in is opened, with its capacity. Speaks of no function. -/
import Derived.Test.YtkakjfijmekdjabMBase
namespace Go.Proofs.Ytkakjfijmekdjab
open Go.ChangeShapes Go.WideShapes Go.ChangeAt Go.RowKit Go.Joins
section
variable {H : Type} {enc : TypeId × Value → H} {P : Program} {w : World} {base : Nat} {held : Bool}
theorem in_mask_cap {t e q : TypeId} {fuel : Nat} {v : Value} {x : DataW H × List MemPlace} (ht : P.underlying t = some (.slice e)) (he : P.underlying e = some (.slice q)) (hq : P.underlying q = some (.int .i64)) (ce : P.cellsOf e = 1) (cq : P.cellsOf q = 1)
    (h : DataW.trod enc P w base (fun _ => true) held fuel t [v] = some x) : ∃ a m cap, InMask w v a m cap ∧ m.length ≤ cap ∧ cap ≤ 9223372036854775807 := by
  obtain ⟨a, m, cap, hin⟩ := in_mask ht he hq ce cq h
  refine ⟨a, m, cap, hin, ?_⟩
  rcases Go.Deep.open_int_rows ht he hq ce cq h with ⟨hcs, _⟩ | ⟨ad, len, cap', A, L, C, Z, hcs, _, hl, hm, _, _⟩
  · simp only [List.cons.injEq, and_true] at hcs
    have e1 := hin.1
    rw [hcs] at e1
    have h1 : (0 : Nat) = m.length := by simpa using congrArg (fun v => match v with | .slice _ n _ => n | _ => 0) e1
    have h2 : (0 : Nat) = cap := by simpa using congrArg (fun v => match v with | .slice _ _ c => c | _ => 0) e1
    omega
  · simp only [List.cons.injEq, and_true] at hcs
    have e1 := hin.1
    rw [hcs] at e1
    have h1 : len = m.length := by simpa using congrArg (fun v => match v with | .slice _ n _ => n | _ => 0) e1
    have h2 : cap' = cap := by simpa using congrArg (fun v => match v with | .slice _ _ c => c | _ => 0) e1
    unfold maxLen at hm
    omega
end
end Go.Proofs.Ytkakjfijmekdjab
