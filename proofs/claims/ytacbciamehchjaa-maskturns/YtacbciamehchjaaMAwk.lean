
/- Small and awake of the statements of layer 2: contracts. -/
import Derived.Test.YtacbciamehchjaaMRead
import Derived.Test.YtacbciamehchjaaMLike
import Derived.Test.YtacbciamehchjaaSame
namespace Go.Proofs.Ytacbciamehchjaa
open Go.RowKit

/-- A call that returns one of the two truths and leaves the world as it was. -/
def SomeB (w : World) (e : Ending) (w' : World) : Prop := ∃ b : Bool, e = .returned (.bool b) ∧ w = w'
theorem sl_lits (V : World) (xs : List Int) (t : TypeId) {B : Nat} (hB : B = V.heap.size) : Sl (V.alloc (.cells (xs.map (Value.int .i64)).toArray t)) (some ⟨B, 0, none⟩) xs := by
  subst hB
  intro k hk
  exact ⟨_, _, rfl, alloc_cell _ _ _ _ _ (by simp [hk])⟩
theorem ms_lit1 {V : World} {a : Option Addr} {r : List Int} (c : Nat) (t : TypeId) {B : Nat} (hB : B = V.heap.size) (h : Sl V a r) : Ms (V.alloc (.cells #[.slice a r.length c] t)) (some ⟨B, 0, none⟩) [r] := by
  subst hB
  intro k hk
  obtain rfl : k = 0 := by simpa using hk
  exact ⟨_, _, a, c, rfl, alloc_cell _ _ _ _ _ rfl, h.alloc _⟩
theorem ms_lit2 {V : World} {a a' : Option Addr} {r r' : List Int} (c c' : Nat) (t : TypeId) {B : Nat} (hB : B = V.heap.size) (h : Sl V a r) (h' : Sl V a' r') : Ms (V.alloc (.cells #[.slice a r.length c, .slice a' r'.length c'] t)) (some ⟨B, 0, none⟩) [r, r'] := by
  subst hB
  intro k hk
  obtain rfl | rfl : k = 0 ∨ k = 1 := by simp at hk; omega
  · exact ⟨_, _, a, c, rfl, alloc_cell _ _ _ _ _ rfl, h.alloc _⟩
  · exact ⟨_, _, a', c', rfl, alloc_cell _ _ _ _ _ rfl, h'.alloc _⟩
theorem mok1 : MOk [[1, -1, 0]] := by
  refine ⟨by simp, fun r hr => ?_⟩
  simp at hr; subst hr
  refine ⟨by simp, fun x hx => ?_⟩
  simp at hx; unfold I64; omega
theorem mok2 : MOk [[1, 1], [1, 0]] := by
  refine ⟨by simp, fun r hr => ?_⟩
  simp at hr
  rcases hr with rfl | rfl
  · refine ⟨by simp, fun x hx => ?_⟩
    simp at hx; unfold I64; omega
  · refine ⟨by simp, fun x hx => ?_⟩
    simp at hx; unfold I64; omega
theorem awk1 : readV [[1, -1, 0]] [5, 2, 9] = ([3], 0) := by decide +kernel
theorem awk2 : likeV [[1, 1], [1, 0]] 0 1 = ((1, 2), 0) := by decide +kernel
set_option maxRecDepth 100000 in
set_option maxHeartbeats 400000 in
theorem awake_any (w : World) : Calls Try.prog 21 #[] w fun e w' => e = .returned (.bool true) ∧ Below w.heap.size w w' := by
  have hB0 : Below w.heap.size w (((w.alloc (.cells #[.int .i64 1, .int .i64 (-1), .int .i64 0] 3)).alloc (.cells #[.slice (some ⟨w.heap.size, 0, none⟩) 3 3] 22)).alloc (.cells #[.int .i64 5, .int .i64 2, .int .i64 9] 3)) :=
    (((Below.refl _ _).alloc (Nat.le_refl _) _).alloc (by simp) _).alloc (by simp; omega) _
  have hM0 : Ms (((w.alloc (.cells #[.int .i64 1, .int .i64 (-1), .int .i64 0] 3)).alloc (.cells #[.slice (some ⟨w.heap.size, 0, none⟩) 3 3] 22)).alloc (.cells #[.int .i64 5, .int .i64 2, .int .i64 9] 3)) (some ⟨w.heap.size + 1, 0, none⟩) [[1, -1, 0]] :=
    (ms_lit1 3 22 (by simp) (sl_lits w [1, -1, 0] 3 rfl)).alloc _
  have hX0 : Sl (((w.alloc (.cells #[.int .i64 1, .int .i64 (-1), .int .i64 0] 3)).alloc (.cells #[.slice (some ⟨w.heap.size, 0, none⟩) 3 3] 22)).alloc (.cells #[.int .i64 5, .int .i64 2, .int .i64 9] 3)) (some ⟨w.heap.size + 2, 0, none⟩) [5, 2, 9] := sl_lits _ [5, 2, 9] 3 (by simp)
  have HB0 := Lib.hid hB0; clear hB0
  have HM0 := Lib.hid hM0; clear hM0
  have HX0 := Lib.hid hX0; clear hX0
  go_enter Try.func21, Try.ntmps21
  go_wp2_with fail
  generalize ((w.alloc (.cells #[.int .i64 1, .int .i64 (-1), .int .i64 0] 3)).alloc (.cells #[.slice (some ⟨w.heap.size, 0, none⟩) 3 3] 22)).alloc (.cells #[.int .i64 5, .int .i64 2, .int .i64 9] 3) = W0 at *
  refine (mread_any (some ⟨w.heap.size + 1, 0, none⟩) [[1, -1, 0]] 1 (some ⟨w.heap.size + 2, 0, none⟩) [5, 2, 9] 3 _ mok1 (by simp) HM0.out HX0.out).mono ?_
  rintro e w1 ⟨hb1, a1, c1, rfl, s1⟩
  rw [awk1] at s1 ⊢
  have HB1 : Hid (Below w.heap.size w w1) := Below.next HB0.out hb1 (Nat.le_refl _)
  have HS1 := Lib.hid s1; clear s1 hb1
  dsimp only
  have hB2 : Below w1.heap.size w1 (((w1.alloc (.cells #[.int .i64 1, .int .i64 1] 3)).alloc (.cells #[.int .i64 1, .int .i64 0] 3)).alloc (.cells #[.slice (some ⟨w1.heap.size, 0, none⟩) 2 2, .slice (some ⟨w1.heap.size + 1, 0, none⟩) 2 2] 22)) :=
    (((Below.refl _ _).alloc (Nat.le_refl _) _).alloc (by simp) _).alloc (by simp; omega) _
  have hM2 : Ms (((w1.alloc (.cells #[.int .i64 1, .int .i64 1] 3)).alloc (.cells #[.int .i64 1, .int .i64 0] 3)).alloc (.cells #[.slice (some ⟨w1.heap.size, 0, none⟩) 2 2, .slice (some ⟨w1.heap.size + 1, 0, none⟩) 2 2] 22)) (some ⟨w1.heap.size + 2, 0, none⟩) [[1, 1], [1, 0]] :=
    ms_lit2 (r := [1, 1]) (r' := [1, 0]) 2 2 22 (by simp) ((sl_lits w1 [1, 1] 3 rfl).alloc _) (sl_lits _ [1, 0] 3 (by simp))
  have HB2 := Lib.hid hB2; clear hB2
  have HM2 := Lib.hid hM2; clear hM2
  go_wp2_with fail
  generalize ((w1.alloc (.cells #[.int .i64 1, .int .i64 1] 3)).alloc (.cells #[.int .i64 1, .int .i64 0] 3)).alloc (.cells #[.slice (some ⟨w1.heap.size, 0, none⟩) 2 2, .slice (some ⟨w1.heap.size + 1, 0, none⟩) 2 2] 22) = W2 at *
  refine (mLikeness_any (some ⟨w1.heap.size + 2, 0, none⟩) [[1, 1], [1, 0]] 2 0 1 _ mok2 HM2.out).mono ?_
  rintro e w3 ⟨hb3, rfl⟩
  rw [awk2]
  dsimp only
  have HB3 : Hid (Below w.heap.size w w3) := Below.next (Below.next HB1.out HB2.out (Nat.le_refl _)) hb3 (Nat.le_refl _)
  have HS3 := Lib.hid ((HS1.out.below HB2.out).below hb3); clear hb3
  have HA3 : Hid (Below w3.heap.size w3 (w3.alloc (.cells #[.int .i64 1, .int .i64 2] 44))) := (Below.refl _ _).alloc (Nat.le_refl _) _
  have HL3 : Hid (Sl ((w3.alloc (.cells #[.int .i64 1, .int .i64 2] 44)).alloc (.cells #[.int .i64 3] 3)) (some ⟨w3.heap.size + 1, 0, none⟩) [3]) := sl_lit1 _ _ _ (by simp)
  go_wp2_with fail
  refine (sameInts_any a1 [3] c1 (some ⟨w3.heap.size + 1, 0, none⟩) [3] 1 _ (by simp) (by simp) ((HS3.out.alloc _).alloc _) HL3.out).mono ?_
  rintro e w5 ⟨rfl, n5, rfl⟩
  go_wp2
  go_ret
  exact ⟨rfl, Below.next (Below.next HB3.out HA3.out (Nat.le_refl _)) (below_drewN ((Below.refl _ _).alloc (Nat.le_refl _) _) _) (Nat.le_refl _)⟩
end Go.Proofs.Ytacbciamehchjaa
