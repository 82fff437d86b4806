
/- long over a list of slices just built; a box of a pair. -/
import Derived.Test.YtacbciamehchjaaAt
import Derived.Test.YtacbciamehchjaaBox
namespace Go.Proofs.Ytacbciamehchjaa
open Go.RowKit

/-- A picture's box, seen from a later world that wrote nothing older than w. -/
def PicIn (w : World) (b : Nat) (v0 v1 v2 : Value) (V : World) : Prop :=
  V.cell? ⟨b, 0, none⟩ = some v0 ∧ V.cell? ⟨b, 1, none⟩ = some v1 ∧ V.cell? ⟨b, 2, none⟩ = some v2 ∧ Hid (Box b #[v0, v1, v2] V ∧ Below w.heap.size w V)
theorem PicIn.mk {w : World} {b : Nat} {v0 v1 v2 : Value} {V : World} (h : Box b #[v0, v1, v2] V) (hb : Below w.heap.size w V) : PicIn w b v0 v1 v2 V :=
  ⟨h.2 0 v0 rfl, h.2 1 v1 rfl, h.2 2 v2 rfl, Lib.hid ⟨h, hb⟩⟩
theorem PicIn.below {w : World} {b : Nat} {v0 v1 v2 : Value} {V : World} (h : PicIn w b v0 v1 v2 V) : Below w.heap.size w V := h.2.2.2.out.2
theorem PicIn.next {w : World} {b : Nat} {v0 v1 v2 : Value} {V V' : World} (h : PicIn w b v0 v1 v2 V) (hb : Below V.heap.size V V') : PicIn w b v0 v1 v2 V' :=
  PicIn.mk (h.2.2.2.out.1.next hb) (h.below.trans (hb.mono h.below.size))
theorem PicIn.drew {w : World} {b : Nat} {v0 v1 v2 : Value} {V : World} (h : PicIn w b v0 v1 v2 V) : PicIn w b v0 v1 v2 V.drew := h.next ((Below.refl _ _).drew)
theorem long_lit (ls : List (Option Addr × Nat × Nat)) (V : World) (B : Nat) (hB : B = V.heap.size) (t : TypeId) (hl : ls.length ≤ 100) (hb : ∀ x, x ∈ ls → x.2.1 ≤ 9223372036854775807) :
    Calls Try.prog 6 #[.slice (some ⟨B, 0, none⟩) ls.length ls.length] (V.alloc (.cells (ls.map fun x => Value.slice x.1 x.2.1 x.2.2).toArray t)) fun e w' => e = .returned (.bool (ls.any fun x => decide (600 < x.2.1))) ∧ V.alloc (.cells (ls.map fun x => Value.slice x.1 x.2.1 x.2.2).toArray t) = w' := by
  subst hB
  exact long_any V.heap.size ls _ hl (fun k hk => alloc_cell _ _ _ _ _ (by simp [hk])) hb
theorem long1 (a : Option Addr) (n c : Nat) (V : World) (B : Nat) (hB : B = V.heap.size) (t : TypeId) (hn : n ≤ 9223372036854775807) :
    Calls Try.prog 6 #[.slice (some ⟨B, 0, none⟩) 1 1] (V.alloc (.cells #[.slice a n c] t)) fun e w' => e = .returned (.bool (decide (600 < n))) ∧ V.alloc (.cells #[.slice a n c] t) = w' := by
  refine (long_lit [(a, n, c)] V B hB t (by simp) (fun x hx => by simp at hx; subst hx; exact hn)).mono ?_
  rintro e w' ⟨rfl, rfl⟩
  exact ⟨ret_bool (by simp), rfl⟩
theorem long2 (a : Option Addr) (n c : Nat) (b : Option Addr) (m d : Nat) (V : World) (B : Nat) (hB : B = V.heap.size) (t : TypeId) (hn : n ≤ 9223372036854775807) (hm : m ≤ 9223372036854775807) :
    Calls Try.prog 6 #[.slice (some ⟨B, 0, none⟩) 2 2] (V.alloc (.cells #[.slice a n c, .slice b m d] t)) fun e w' => e = .returned (.bool (decide (600 < n) || decide (600 < m))) ∧ V.alloc (.cells #[.slice a n c, .slice b m d] t) = w' := by
  refine (long_lit [(a, n, c), (b, m, d)] V B hB t (by simp) (fun x hx => by simp at hx; rcases hx with rfl | rfl <;> assumption)).mono ?_
  rintro e w' ⟨rfl, rfl⟩
  exact ⟨ret_bool (by simp), rfl⟩
theorem long3 (a : Option Addr) (n c : Nat) (b : Option Addr) (m d : Nat) (a' : Option Addr) (n' c' : Nat) (V : World) (B : Nat) (hB : B = V.heap.size) (t : TypeId) (hn : n ≤ 9223372036854775807) (hm : m ≤ 9223372036854775807) (hn' : n' ≤ 9223372036854775807) :
    Calls Try.prog 6 #[.slice (some ⟨B, 0, none⟩) 3 3] (V.alloc (.cells #[.slice a n c, .slice b m d, .slice a' n' c'] t)) fun e w' => e = .returned (.bool (decide (600 < n) || (decide (600 < m) || decide (600 < n')))) ∧ V.alloc (.cells #[.slice a n c, .slice b m d, .slice a' n' c'] t) = w' := by
  refine (long_lit [(a, n, c), (b, m, d), (a', n', c')] V B hB t (by simp) (fun x hx => by simp at hx; rcases hx with rfl | rfl | rfl <;> assumption)).mono ?_
  rintro e w' ⟨rfl, rfl⟩
  exact ⟨ret_bool (by simp), rfl⟩
end Go.Proofs.Ytacbciamehchjaa
