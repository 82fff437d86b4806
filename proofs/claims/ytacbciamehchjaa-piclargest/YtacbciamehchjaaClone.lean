
/- What slices.Clone makes: a contract. -/
import Derived.Test.YtacbciamehchjaaOwnB
namespace Go.Proofs.Ytacbciamehchjaa
open Go.RowKit

set_option maxHeartbeats 400000 in
/-- slices.Clone of a slice that is not empty: a slice of its own with the same ints; nothing older is written. -/
theorem clone_any (b off : Nat) (xs : List Int) (cap : Nat) (w : World) (h1 : 1 ≤ xs.length) (hl : xs.length * 8 ≤ 140737488351232) (hs : Sl w (some ⟨b, off, none⟩) xs) :
    Calls Try.prog 56 #[.slice (some ⟨b, off, none⟩) xs.length cap] w fun e w' =>
      ∃ g cap', e = .returned (.slice (some ⟨g, 0, none⟩) xs.length cap') ∧ OwnI w' w.heap.size (.slice (some ⟨g, 0, none⟩) xs.length cap') xs ∧ Below w.heap.size w w' := by
  have HN := Lib.hid (hs.alloc (.cells #[] 3)).news; clear hs
  have hown := World.ownsRow_lit (base := w.heap.size) (e := 3) (size := 1) w #[] 0 (Nat.le_refl _) (by unfold maxLen; omega) rfl
  have qT : ∀ (w : World) (a : Option Addr) (n c n' c' : Nat), (binOp .eql 22 (.slice a n c) (.slice none n' c')).run Try.prog w = .ok (.bool a.isNone) w := fun w a n c n' c' => Lib.run_eql_slice_nil w _ _ a n c n' c' Try.underlying22
  obtain ⟨i0, hi, hz0, hz1, hz2⟩ := info_parts Try.infoInt
  go_enter Try.func56, Try.ntmps56
  go_wp2_with (at_builtin; go_must (refine wpList_append_own _ rfl _ _ 22 rfl w.heap.size 3 i0 (.int .i64 0) 1 8 Try.underlying22 hi hz0 hz1 hz2 rfl (by decide) _ 0 [] rfl hown ⟨b, off, none⟩ xs.length cap (xs.map (Value.int .i64)) rfl (by simp) HN.out (map_oneCell xs) (by unfold maxLen; omega) (by omega) (by simp) ?_); intro v' w1 hown' hgrow hnil)
  go_ret
  have ho : OwnI w1 w.heap.size v' xs := by simpa [OwnI] using hown'
  obtain ⟨g, cap', rfl, hg⟩ := ho.shape h1
  refine ⟨g, cap', rfl, ho, ?_⟩
  exact ((Below.refl w.heap.size w).alloc (Nat.le_refl _) _).grown hgrow (by simp) (fun k e => by have : k = w.heap.size := (by simpa [Act.eval, Value.ownBlock] using e.symm); omega)
end Go.Proofs.Ytacbciamehchjaa
