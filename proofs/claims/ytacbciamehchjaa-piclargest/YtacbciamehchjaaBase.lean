
/- Words and lemmas for the walks that speak of no program: how a slice of ints reads, endings, plain boolean tests of layer 1. -/
import Derived.WalkKit
import Derived.WalkSpells
import Derived.WalkLawsBesides
import Derived.Handy
import Derived.Lib.Hide
namespace Go.Proofs.Ytacbciamehchjaa
open Go.RowKit

theorem ret_bool {a b : Bool} (h : a = b) : Ending.returned (.bool a) = .returned (.bool b) := by rw [h]
theorem ret_i64 {a b : Int} (h : a = b) : Ending.returned (.int .i64 a) = .returned (.int .i64 b) := by rw [h]

/-- The cells behind a slice's address read as the numbers xs. -/
def Sl (w : World) (a : Option Addr) (xs : List Int) : Prop :=
  ∀ k, k < xs.length → ∃ b off, a = some ⟨b, off, none⟩ ∧ w.cell? ⟨b, off + k, none⟩ = some (.int .i64 (xs[k]?.getD 0))

theorem Sl.at {w : World} {a : Option Addr} {xs : List Int} (h : Sl w a xs) {k : Nat} (hk : k < xs.length) :
    ∃ b off x, a = some ⟨b, off, none⟩ ∧ w.cell? ⟨b, off + k, none⟩ = some (.int .i64 x) ∧ Hid (xs[k]? = some x) := by
  obtain ⟨b, off, h1, h2⟩ := h k hk
  exact ⟨b, off, xs[k], h1, by simpa [hk] using h2, by show xs[k]? = some xs[k]; simp [hk]⟩

theorem cell_lt {w : World} {a : Addr} {v : Value} (h : w.cell? a = some v) : a.block < w.heap.size := by
  unfold World.cell? at h
  rcases Nat.lt_or_ge a.block w.heap.size with hl | hl
  · exact hl
  · simp [Array.getElem?_eq_none hl] at h

theorem Sl.below {w w' : World} {a : Option Addr} {xs : List Int} (h : Sl w a xs) (hb : Below w.heap.size w w') : Sl w' a xs := by
  intro k hk
  obtain ⟨b, off, h1, h2⟩ := h k hk
  exact ⟨b, off, h1, (hb.cell (p := ⟨b, off + k, none⟩) (cell_lt h2)).trans h2⟩
theorem Sl.alloc {w : World} {a : Option Addr} {xs : List Int} (h : Sl w a xs) (o : Obj) : Sl (w.alloc o) a xs := h.below ((Below.refl _ _).alloc (Nat.le_refl _) _)
theorem Sl.drew {w : World} {a : Option Addr} {xs : List Int} (h : Sl w a xs) : Sl w.drew a xs := h.below ((Below.refl _ _).drew)

theorem bcell {W w1 : World} (hb : Below W.heap.size W w1) : (∀ b o, b < W.heap.size → w1.cell? ⟨b, o, none⟩ = W.cell? ⟨b, o, none⟩) ∧ (∀ b o, b < W.heap.size → w1.frozen? ⟨b, o, none⟩ = W.frozen? ⟨b, o, none⟩) :=
  ⟨fun b o h => hb.cell (p := ⟨b, o, none⟩) h, fun b o h => hb.frozen (p := ⟨b, o, none⟩) h⟩

/-- Whether a number lies outside a limit's both sides. -/
def outB (lim n : Int) : Bool := decide (n < -lim) || decide (lim < n)
/-- All numbers lie within the limit. -/
def allB (lim : Int) (xs : List Int) : Bool := xs.all fun x => !outB lim x

/-- The index of the first number out of bounds, or -1. -/
def firstOut (lim : Int) (xs : List Int) : Int := match xs.findIdx? (outB lim) with | some i => (i : Int) | none => -1
theorem firstOut_hit {lim : Int} {xs : List Int} {k : Nat} {x : Int} (h : ∀ j, j < k → outB lim (xs[j]?.getD 0) = false) (hx : xs[k]? = some x) (ho : outB lim x = true) : firstOut lim xs = k := by
  have : xs.findIdx? (outB lim) = some k := by
    rw [List.findIdx?_eq_some_iff_getElem]
    have hk : k < xs.length := (List.getElem?_eq_some_iff.1 hx).1
    refine ⟨hk, ?_, ?_⟩
    · have := (List.getElem?_eq_some_iff.1 hx).2; rw [this]; exact ho
    · intro j hj
      have := h j hj
      simp [show j < xs.length by omega] at this
      simp [this]
  unfold firstOut; rw [this]
theorem firstOut_miss {lim : Int} {xs : List Int} (h : ∀ j, j < xs.length → outB lim (xs[j]?.getD 0) = false) : firstOut lim xs = -1 := by
  have : xs.findIdx? (outB lim) = none := by
    rw [List.findIdx?_eq_none_iff]
    intro x hx
    obtain ⟨j, hj, rfl⟩ := List.mem_iff_getElem.1 hx
    have := h j hj
    simpa [hj] using this
  unfold firstOut; rw [this]
theorem firstOut_allB (lim : Int) (xs : List Int) : (decide (0 ≤ firstOut lim xs)) = !allB lim xs := by
  unfold firstOut allB
  cases h : xs.findIdx? (outB lim) with
  | none =>
    rw [List.findIdx?_eq_none_iff] at h
    have : xs.all (fun x => !outB lim x) = true := by
      rw [List.all_eq_true]; intro x hx; simp [h x hx]
    rw [this]; rfl
  | some i =>
    obtain ⟨hi, h1, _⟩ := List.findIdx?_eq_some_iff_getElem.1 h
    have : xs.all (fun x => !outB lim x) = false := by
      rw [List.all_eq_false]; exact ⟨xs[i], List.getElem_mem _, by simp [h1]⟩
    rw [this]; simp
theorem allB_no {lim : Int} {xs : List Int} {k : Nat} {x : Int} (hx : xs[k]? = some x) (ho : outB lim x = true) : allB lim xs = false := by
  unfold allB; rw [List.all_eq_false]
  exact ⟨x, List.mem_of_getElem? hx, by simp [ho]⟩
theorem allB_yes {lim : Int} {xs : List Int} (h : ∀ j, j < xs.length → outB lim (xs[j]?.getD 0) = false) : allB lim xs = true := by
  unfold allB; rw [List.all_eq_true]; intro x hx
  obtain ⟨j, hj, rfl⟩ := List.mem_iff_getElem.1 hx
  have := h j hj
  simp [hj] at this
  simp [this]
theorem allB_get {lim : Int} {xs : List Int} (h : allB lim xs = true) {k : Nat} {x : Int} (hx : xs[k]? = some x) : -lim ≤ x ∧ x ≤ lim := by
  unfold allB at h; rw [List.all_eq_true] at h
  have := h x (List.mem_of_getElem? hx)
  simp [outB] at this; omega

/-- A side's range. -/
def rangeB (n lo hi : Int) : Bool := decide (lo ≤ n) && decide (n ≤ hi)
def validListB (xs : List Int) : Bool := rangeB xs.length 1 256 && allB 1000000 xs
def powB (n : Nat) : Bool := n == 1 || n == 2 || n == 4 || n == 8 || n == 16 || n == 32 || n == 64 || n == 128 || n == 256
def powerB (xs : List Int) : Bool := validListB xs && powB xs.length
def validPicB (wide high : Int) (xs : List Int) : Bool := rangeB wide 1 16 && rangeB high 1 16 && decide ((xs.length : Int) = wide * high) && allB 1000000 xs
end Go.Proofs.Ytacbciamehchjaa
