
/- awake of the statements of layer 1 is true: a contract. -/
import Derived.Test.YtacbciamehchjaaWal
namespace Go.Proofs.Ytacbciamehchjaa
open Go.RowKit

theorem sl_lit0 {w : World} {b : Nat} {t : TypeId} {fr : Nat × Nat} {xs : List Int} (h : w.heap[b]? = some (.cells (xs.map (Value.int .i64)).toArray t fr)) : Sl w (some ⟨b, 0, none⟩) xs := by
  intro k hk
  refine ⟨b, 0, rfl, ?_⟩
  rw [Nat.zero_add]
  simp [World.cell?, h, hk]
theorem Sl.drewN {w : World} {a : Option Addr} {xs : List Int} (h : Sl w a xs) (n : Nat) : Sl (w.drewN n) a xs := h
theorem heap_new (w : World) (o : Obj) : (w.alloc o).heap[w.heap.size]? = some o := by
  show (w.heap.push o)[w.heap.size]? = some o
  simp
theorem heap_new2 (w : World) (o o' : Obj) : ((w.alloc o).alloc o').heap[w.heap.size + 1]? = some o' := by
  have := heap_new (w.alloc o) o'
  rwa [World.size_alloc] at this
def wal1 : List Int := [1, 2, 3, 4]
def wal2 : List Int := [5, 2, 7, 7]
theorem wal1_is : powerB wal1 = true ∧ walshTo wal1 (lg wal1.length) = [10, -2, -4, 0] := by decide +kernel
theorem wal2_is : powerB wal2 = true ∧ liftTo wal2 (lg wal2.length) = [5, -4, 3, 0] := by decide +kernel

set_option maxRecDepth 100000 in
theorem awake_any (w : World) : Calls Try.prog 7 #[] w fun e w' => e = .returned (.bool true) ∧ Below w.heap.size w w' := by
  go_enter Try.func7, Try.ntmps7
  go_wp2_with fail
  refine (walsh_any (some ⟨w.heap.size, 0, none⟩) wal1 4 _ (by decide) (sl_lit0 (heap_new _ _))).mono ?_
  rintro e w1 ⟨hb, ⟨_, g, cap, rfl, ho⟩ | ⟨h, _⟩⟩
  case inr => rw [wal1_is.1] at h; cases h
  have b1 : Below w.heap.size w w1 := ((Below.refl _ _).alloc (Nat.le_refl _) _).trans (hb.mono (by simp))
  have o1 : Sl w1 (some ⟨g, 0, none⟩) [10, -2, -4, 0] := by rw [← wal1_is.2]; exact ho.sl
  rw [show wal1.length = 4 from rfl]
  have B1 := Lib.hid b1
  have O1 := Lib.hid o1
  clear hb ho b1 o1
  go_wp2_with fail
  refine (lift_any (some ⟨w1.heap.size, 0, none⟩) wal2 4 _ (by decide) (sl_lit0 (heap_new _ _))).mono ?_
  rintro e w2 ⟨hb, ⟨_, g2, cap2, rfl, ho⟩ | ⟨h, _⟩⟩
  case inr => rw [wal2_is.1] at h; cases h
  have b2 : Below w1.heap.size w1 w2 := ((Below.refl _ _).alloc (Nat.le_refl _) _).trans (hb.mono (by simp))
  have o2 : Sl w2 (some ⟨g2, 0, none⟩) [5, -4, 3, 0] := by rw [← wal2_is.2]; exact ho.sl
  rw [show wal2.length = 4 from rfl]
  have B2 := Lib.hid b2
  have O2 := Lib.hid o2
  clear hb ho b2 o2
  go_wp2_with fail
  refine (sameInts_any (some ⟨g, 0, none⟩) [10, -2, -4, 0] cap (some ⟨w2.heap.size, 0, none⟩) [10, -2, -4, 0] 4 _ (by decide) (by decide) ((O1.out.below B2.out).alloc _) (sl_lit0 (heap_new _ _))).mono ?_
  rintro e w3 ⟨rfl, n3, rfl⟩
  go_wp2_with fail
  refine (sameInts_any (some ⟨g2, 0, none⟩) [5, -4, 3, 0] cap2 (some ⟨w2.heap.size + 1, 0, none⟩) [5, -4, 3, 0] 4 _ (by decide) (by decide) (((O2.out.alloc _).alloc _).drewN _) ((sl_lit0 (t := 3) (fr := (0, 0)) (heap_new2 w2 _ _)).drewN _)).mono ?_
  rintro e w4 ⟨rfl, n4, rfl⟩
  go_wp2
  go_ret
  have h1 := B1.out.size
  have h2 := B2.out.size
  refine ⟨rfl, (B1.out.trans (B2.out.mono h1)).trans ?_⟩
  refine below_drewN (((Below.refl _ _).alloc ?_ _).alloc ?_ _) _
  · omega
  · rw [World.size_alloc]; omega
end Go.Proofs.Ytacbciamehchjaa
