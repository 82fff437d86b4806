
/- A region that draws its order and whose last operation stores what its loads read: the facts on the world in two parts, one that holds throughout and one that holds until that store. -/
import Derived.Test.YtacbciamehchjaaRound
import Derived.Test.YtacbciamehchjaaOwnW
namespace Go.Proofs.Ytacbciamehchjaa
open Go.RowKit

def untilS (t : Nat) (A B : World → Prop) (L : Array Bool) (W : World) : Prop := A W ∧ (L.getD t false = false → B W)
theorem untilS_set {t : Nat} {A B : World → Prop} {k : Nat} (h : k ≠ t) (L : Array Bool) (W : World) : untilS t A B (L.setIfInBounds k true) W ↔ untilS t A B L W := by
  unfold untilS; rw [getD_set_ne false h]
theorem untilS_all {t : Nat} {A B : World → Prop} {W : World} (h : A W ∧ B W) (L : Array Bool) : untilS t A B L W := ⟨h.1, fun _ => h.2⟩
theorem untilS_past {t : Nat} {A B : World → Prop} {W : World} (h : A W) {L : Array Bool} (hL : L.getD t false = true) : untilS t A B L W := ⟨h, fun e => by rw [hL] at e; cases e⟩
theorem drew_alloc' (V : World) (o : Obj) : (V.alloc o).drew = V.drew.alloc o := rfl
end Go.Proofs.Ytacbciamehchjaa
