
/- motions of layer 1: a contract. -/
import Derived.Test.YtknhfliefkkpfabMot
import Derived.RegionTactic
import Derived.Laws.ResultCell
import Derived.Laws.EntriesVeiled
namespace Go.Proofs.Ytknhfliefkkpfab
open Go.RowKit

theorem alloc_cell' (V : World) (cs : Array Value) (t : TypeId) (B k : Nat) {v : Value} (hB : B = V.heap.size) (h : cs[k]? = some v) : (V.alloc (.cells cs t)).cell? ⟨B, k, none⟩ = some v := by
  subst hB; exact alloc_cell _ _ _ _ _ h
set_option maxRecDepth 100000 in
set_option maxHeartbeats 800000 in
theorem motions_any (W H : Nat) (hW : W ≤ 16) (hH : H ≤ 16) (a : Option Addr) (n ca : Nat) (w : World) :
    Calls Try.prog 53 #[.agg #[.int .i64 W, .int .i64 H, .slice a n ca]] w fun e w' => ∃ R B, e = .returned (.agg #[motF 0 R B, motF 1 R B, motF 2 R B, motF 3 R B, motF 4 R B]) ∧ Caps W H R B w' ∧ R < w'.heap.size ∧ B < w'.heap.size ∧ Below w.heap.size w w' := by
  have m1 : IntKind.i64.wrap ((W : Int) - 1) = (W : Int) - 1 := IntWalk.i64_in _ (by omega)
  have m2 : IntKind.i64.wrap ((H : Int) - 1) = (H : Int) - 1 := IntWalk.i64_in _ (by omega)
  go_enter Try.func53, Try.ntmps53
  go_wp2
  go_region
  · go_wp2
    refine bodyPost_ret (v := .agg #[motF 0 (w.heap.size + 1 + 1) (w.heap.size + 1 + 1 + 1), motF 1 (w.heap.size + 1 + 1) (w.heap.size + 1 + 1 + 1), motF 2 (w.heap.size + 1 + 1) (w.heap.size + 1 + 1 + 1), motF 3 (w.heap.size + 1 + 1) (w.heap.size + 1 + 1 + 1), motF 4 (w.heap.size + 1 + 1) (w.heap.size + 1 + 1 + 1)]) ?_ rfl ?_
    · simp [results, Try.results53, go_sem, motF]
    · refine ⟨(w.heap.size + 1 + 1), (w.heap.size + 1 + 1 + 1), rfl, ?_, by simp, by simp, ?_⟩
      · exact Caps.drewN (n := 1) ⟨(alloc_old _ _ _ _ (by simp)).trans ((by show World.cell? _ _ = _; exact alloc_cell' _ _ _ _ _ (by simp) rfl)), (by show World.cell? _ _ = _; exact alloc_cell' _ _ _ _ _ (by simp) rfl)⟩
      · exact (((((Below.refl _ _).alloc (Nat.le_refl _) _).alloc (by simp) _).alloc (by simp; omega) _).alloc (by simp; omega) _).drew
  · go_wp2
    refine bodyPost_ret (v := .agg #[motF 0 (w.heap.size + 1 + 1 + 1) (w.heap.size + 1 + 1), motF 1 (w.heap.size + 1 + 1 + 1) (w.heap.size + 1 + 1), motF 2 (w.heap.size + 1 + 1 + 1) (w.heap.size + 1 + 1), motF 3 (w.heap.size + 1 + 1 + 1) (w.heap.size + 1 + 1), motF 4 (w.heap.size + 1 + 1 + 1) (w.heap.size + 1 + 1)]) ?_ rfl ?_
    · simp [results, Try.results53, go_sem, motF]
    · refine ⟨(w.heap.size + 1 + 1 + 1), (w.heap.size + 1 + 1), rfl, ?_, by simp, by simp, ?_⟩
      · exact Caps.drewN (n := 1) ⟨(by show World.cell? _ _ = _; exact alloc_cell' _ _ _ _ _ (by simp) rfl), (alloc_old _ _ _ _ (by simp)).trans ((by show World.cell? _ _ = _; exact alloc_cell' _ _ _ _ _ (by simp) rfl))⟩
      · exact (((((Below.refl _ _).alloc (Nat.le_refl _) _).alloc (by simp) _).alloc (by simp; omega) _).alloc (by simp; omega) _).drew
end Go.Proofs.Ytknhfliefkkpfab
