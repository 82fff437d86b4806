
/- What a walk keeps of its boxes of pictures and its lists, from world to world. -/
import Derived.Test.YtknhfliefkkpfabPBox
import Derived.Test.YtknhfliefkkpfabAwk
namespace Go.Proofs.Ytknhfliefkkpfab
open Go.RowKit

structure St (w : World) (L : List (Nat × Int × Int × Value)) (M : List (Option Addr × List Int)) (V : World) : Prop where
  boxes : ∀ b ∈ L, b.1 < V.heap.size ∧ PBox b.1 b.2.1 b.2.2.1 b.2.2.2 V
  lists : ∀ s ∈ M, Sl V s.1 s.2
  below : Below w.heap.size w V
theorem St.next {w V V' : World} {L : List (Nat × Int × Int × Value)} {M : List (Option Addr × List Int)} (h : St w L M V) (hb : Below V.heap.size V V') : St w L M V' :=
  ⟨fun b hm => ⟨Nat.lt_of_lt_of_le (h.boxes b hm).1 hb.size, (h.boxes b hm).2.later hb (h.boxes b hm).1⟩, fun s hm => (h.lists s hm).below hb, h.below.trans (hb.mono h.below.size)⟩
theorem St.box {w V : World} {L : List (Nat × Int × Int × Value)} {M : List (Option Addr × List Int)} (h : St w L M V) (wd hg : Int) (v : Value) (t : TypeId) : St w ((V.heap.size, wd, hg, v) :: L) M (V.alloc (.cells #[.int .i64 wd, .int .i64 hg, v] t)) := by
  have h' := h.next ((Below.refl V.heap.size V).alloc (Nat.le_refl _) (.cells #[.int .i64 wd, .int .i64 hg, v] t))
  refine ⟨fun b hm => ?_, h'.lists, h'.below⟩
  rcases List.mem_cons.1 hm with rfl | hm
  · exact ⟨by rw [World.size_alloc]; exact Nat.lt_succ_self _, PBox.made _ _ _ _ _ rfl⟩
  · exact h'.boxes b hm
theorem St.list {w V : World} {L : List (Nat × Int × Int × Value)} {M : List (Option Addr × List Int)} (h : St w L M V) {a : Option Addr} {xs : List Int} (hs : Sl V a xs) : St w L ((a, xs) :: M) V := by
  refine ⟨h.boxes, fun s hm => ?_, h.below⟩
  rcases List.mem_cons.1 hm with rfl | hm
  · exact hs
  · exact h.lists s hm
theorem St.at {w V : World} {L : List (Nat × Int × Int × Value)} {M : List (Option Addr × List Int)} (h : St w L M V) {O : Nat} {wd hg : Int} {v : Value} (hm : (O, wd, hg, v) ∈ L) : V.cell? ⟨O, 0, none⟩ = some (.int .i64 wd) ∧ V.cell? ⟨O, 1, none⟩ = some (.int .i64 hg) ∧ V.cell? ⟨O, 2, none⟩ = some v :=
  ⟨(h.boxes _ hm).2.o0, (h.boxes _ hm).2.o1, (h.boxes _ hm).2.o2⟩
end Go.Proofs.Ytknhfliefkkpfab
