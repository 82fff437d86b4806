/- Walsh of layer 2 and of its answers: contracts. -/
import Derived.Test.YtkakjfijmekdjabMFill
import Derived.Test.YtkakjfijmekdjabMAsc
import Derived.Test.YtkakjfijmekdjabOnes
import Derived.Deep.RegionHeld3
import Derived.Deep.RegionLaw
namespace Go.Proofs.Ytkakjfijmekdjab
open Go.RowKit

def longB (p : Int) : Bool := decide (p = 1) || (decide (p = 2) || (decide (p = 4) || decide (p = 8)))
def wsign (i j : Nat) : Int := 1 - 2 * (popc (i &&& j) % 2)
def walshRow (n i : Nat) : List Int := (List.range n).map (wsign i)
def walshM (n : Nat) (rows : List Int) : List (List Int) := (List.range rows.length).map fun k => walshRow n (gt rows k).toNat
def wrowsB (p : Int) (rows : List Int) : Bool := rangeB rows.length 1 6 && (allR 0 (p - 1) rows && ascB (-1) rows)
def walshV (p : Int) (rows : List Int) : List (List Int) × Int := if (longB p && wrowsB p rows) = true then (walshM p.toNat rows, 0) else ([], 7)
theorem walshV_no {p : Int} {rows : List Int} (h : (longB p && wrowsB p rows) = false) : walshV p rows = ([], 7) := by unfold walshV; rw [h]; rfl
theorem walshV_ok {p : Int} {rows : List Int} (h : (longB p && wrowsB p rows) = true) : walshV p rows = (walshM p.toNat rows, 0) := by unfold walshV; rw [h]; rfl
theorem longB_of {p : Int} (h : longB p = true) : p = 1 ∨ p = 2 ∨ p = 4 ∨ p = 8 := by
  simp [longB] at h; omega
theorem longB_no {p : Int} (h : longB p = false) : p ≠ 1 ∧ p ≠ 2 ∧ p ≠ 4 ∧ p ≠ 8 := by
  simp [longB] at h; omega
theorem allR_get {lo hi : Int} {xs : List Int} (h : allR lo hi xs = true) {k : Nat} (hk : k < xs.length) : lo ≤ gt xs k ∧ gt xs k ≤ hi := by
  unfold allR at h; rw [List.all_eq_true] at h
  have e : xs[k]? = some (xs[k]) := by simp
  have := h _ (List.mem_of_getElem? e)
  unfold gt; rw [e]
  simp [rangeB] at this; simpa using this
theorem popc_bd (n : Nat) : 0 ≤ popc n ∧ popc n ≤ 9 := by
  unfold popc
  have := List.length_filter_le (fun k => n.testBit k) (List.range 9)
  simp at this ⊢; omega
theorem wsign_some (i j : Nat) : ∃ c : Int, popc (i &&& j) = c ∧ 0 ≤ c ∧ c ≤ 9 ∧ wsign i j = 1 - 2 * (c % 2) := ⟨_, rfl, (popc_bd _).1, (popc_bd _).2, rfl⟩

theorem walshLong_any (p : Int) (w : World) : Calls Try.prog 77 #[.int .i64 p] w fun e w' => e = .returned (.bool (longB p)) ∧ w = w' := by
  cases h : longB p
  · obtain ⟨h1, h2, h4, h8⟩ := longB_no h
    have e1 : (p == 1) = false := by simpa using h1
    have e2 : (p == 2) = false := by simpa using h2
    have e4 : (p == 4) = false := by simpa using h4
    have e8 : (p == 8) = false := by simpa using h8
    clear h1 h2 h4 h8 h
    go_enter Try.func77, Try.ntmps77
    go_wp2
    go_ret
    exact ⟨rfl, rfl⟩
  · obtain rfl | rfl | rfl | rfl := longB_of h
    all_goals
      clear h
      go_enter Try.func77, Try.ntmps77
      go_wp2
      go_ret
      exact ⟨rfl, rfl⟩
theorem walshRows_any (p : Int) (hp : 1 ≤ p) (hp8 : p ≤ 8) (a : Option Addr) (xs : List Int) (cap : Nat) (w : World) (hl : xs.length ≤ 9223372036854775807) (hs : Sl w a xs) :
    Calls Try.prog 78 #[.int .i64 p, .slice a xs.length cap] w fun e w' => e = .returned (.bool (wrowsB p xs)) ∧ Below w.heap.size w w' := by
  have HS := Lib.hid hs; clear hs
  by_cases h1 : 1 ≤ xs.length
  · by_cases h6 : xs.length ≤ 6
    · have HX : Hid (wrowsB p xs = (allR 0 (p - 1) xs && ascB (-1) xs)) := by
        show wrowsB p xs = _
        have : rangeB xs.length 1 6 = true := by simp [rangeB]; omega
        unfold wrowsB; rw [this, Bool.true_and]
      go_enter Try.func78, Try.ntmps78
      go_wp2_with fail
      refine (between_any 0 (p - 1) _).mono ?_
      rintro e w1 ⟨rfl, c1, c2, hb⟩
      have HB := Lib.hid hb; clear hb
      go_wp2_with fail
      refine (allbtw_any 0 (p - 1) _ _ _ _ _ _ hl c1 c2 (HS.out.below HB.out)).mono ?_
      rintro e w2 ⟨rfl, rfl⟩
      clear c1 c2
      cases hA : allR 0 (p - 1) xs
      · rw [hA, Bool.false_and] at HX
        clear hA
        go_wp2
        go_ret
        exact ⟨ret_bool HX.out.symm, HB.out⟩
      · rw [hA, Bool.true_and] at HX
        clear hA
        go_wp2_with fail
        refine (asc_any _ _ _ _ hl (HS.out.below HB.out)).mono ?_
        rintro e w3 ⟨rfl, hb3⟩
        go_wp2
        go_ret
        exact ⟨ret_bool HX.out.symm, HB.out.trans (hb3.mono HB.out.size)⟩
    · have HX : Hid (wrowsB p xs = false) := by
        show wrowsB p xs = false
        have : rangeB xs.length 1 6 = false := by simp [rangeB]; omega
        unfold wrowsB; rw [this, Bool.false_and]
      have h6' : 6 < xs.length := by omega
      clear h6
      go_enter Try.func78, Try.ntmps78
      go_wp2
      go_ret
      exact ⟨ret_bool HX.out.symm, Below.refl _ _⟩
  · have HX : Hid (wrowsB p xs = false) := by
      show wrowsB p xs = false
      have : rangeB xs.length 1 6 = false := by simp [rangeB]; omega
      unfold wrowsB; rw [this, Bool.false_and]
    have h1' : xs.length < 1 := by omega
    clear h1
    go_enter Try.func78, Try.ntmps78
    go_wp2
    go_ret
    exact ⟨ret_bool HX.out.symm, Below.refl _ _⟩
end Go.Proofs.Ytkakjfijmekdjab
