/- How an argument that is an array of three ints is opened. Speaks of no function. -/
import Derived.Test.YtkakjfijmekdjabOpen
namespace Go.Proofs.Ytkakjfijmekdjab
open Go.ChangeShapes Go.WideShapes Go.ChangeAt Go.RowKit Go.Joins

theorem array3' {cs : Array Value} (h : cs.size = 3) : ∃ c0 c1 c2, cs = #[c0, c1, c2] := by
  obtain ⟨l⟩ := cs
  match l, h with
  | [a, b, c], _ => exact ⟨a, b, c, rfl⟩
section
variable {H : Type} {enc : TypeId × Value → H} {P : Program} {w : World} {base : Nat} {held : Bool}
theorem in_triple {k e : TypeId} {r : Reach} {b0 : Nat} {v : Value} {d : DataW H} {p : List MemPlace} {spare : Nat → Bool} (hk : P.underlying k = some (.array 3 e)) (he : P.underlying e = some (.int .i64)) (hce : P.cellsOf e = 1) (hck : P.cellsOf k = 3)
    (hv : Value.okWide P w r b0 k v) (h : DataW.Trod enc P w base spare held k v d p) : ∃ m n q, v = .agg #[.int .i64 m, .int .i64 n, .int .i64 q] ∧ I64 m ∧ I64 n ∧ I64 q := by
  simp only [Value.okWide, hk] at hv
  obtain ⟨cs, rfl, hsz, _⟩ := hv
  obtain ⟨c0, c1, c2, rfl⟩ := array3' (hsz.trans hck)
  obtain ⟨fuel, hf⟩ := h
  obtain ⟨xs, m, _, _, _, hx, hi⟩ := DataW.trod_array hk hf
  have h0 := hi 0 (by omega)
  have h1 := hi 1 (by omega)
  have h2 := hi 2 (by omega)
  rw [hce] at h0 h1 h2
  obtain ⟨y0, e0⟩ : ∃ y, xs[0]? = some y := ⟨xs[0], by simp [hx]⟩
  obtain ⟨y1, e1⟩ : ∃ y, xs[1]? = some y := ⟨xs[1], by simp [hx]⟩
  obtain ⟨y2, e2⟩ : ∃ y, xs[2]? = some y := ⟨xs[2], by simp [hx]⟩
  rw [e0] at h0
  rw [e1] at h1
  rw [e2] at h2
  simp [Value.cells] at h0 h1 h2
  obtain ⟨a, rfl, ha⟩ := in_int he h0
  obtain ⟨b, rfl, hb⟩ := in_int he h1
  obtain ⟨c, rfl, hc⟩ := in_int he h2
  exact ⟨a, b, c, rfl, ha, hb, hc⟩
theorem in_ints_cap {t e : TypeId} {fuel : Nat} {v : Value} {x : DataW H × List MemPlace} (ht : P.underlying t = some (.slice e)) (he : P.underlying e = some (.int .i64)) (hc : P.cellsOf e = 1)
    (h : DataW.trod enc P w base (fun _ => true) held fuel t [v] = some x) : ∃ a xs cap, InInts w v a xs cap ∧ xs.length ≤ cap ∧ cap ≤ 9223372036854775807 := by
  obtain ⟨a, xs, cap, hin⟩ := in_ints ht he hc h
  refine ⟨a, xs, cap, hin, ?_⟩
  rcases open_ints ht he hc h with ⟨hcs, _⟩ | ⟨ad, len, cap', zs, hcs, _, hl, hm, _⟩
  · simp only [List.cons.injEq, and_true] at hcs
    have e1 := hin.1
    rw [hcs] at e1
    have h1 : (0 : Nat) = xs.length := by simpa using congrArg (fun v => match v with | .slice _ n _ => n | _ => 0) e1
    have h2 : (0 : Nat) = cap := by simpa using congrArg (fun v => match v with | .slice _ _ c => c | _ => 0) e1
    omega
  · simp only [List.cons.injEq, and_true] at hcs
    have e1 := hin.1
    rw [hcs] at e1
    have h1 : len = xs.length := by simpa using congrArg (fun v => match v with | .slice _ n _ => n | _ => 0) e1
    have h2 : cap' = cap := by simpa using congrArg (fun v => match v with | .slice _ _ c => c | _ => 0) e1
    unfold maxLen at hm
    omega
end
end Go.Proofs.Ytkakjfijmekdjab
