
/- Halved pictures as functions of places: plain facts. -/
import Derived.Test.YtknhfliefkkpfabMotMath
namespace Go.Proofs.Ytknhfliefkkpfab
open Go.RowKit

def quad (W : Nat) (xs : List Int) (p : Nat) : Int := gt xs p + gt xs (p + 1) + gt xs (p + W) + gt xs (p + W + 1)
def halfAt (W i : Nat) : Nat := 2 * (i % (W / 2)) + 2 * W * (i / (W / 2))
def halfL (W H : Nat) (xs : List Int) : List Int := (List.range (W / 2 * (H / 2))).map fun i => quad W xs (halfAt W i) / 4
def halfV (wide high : Int) (xs : List Int) : (Int × Int × List Int) × Int :=
  if validPicB wide high xs = false then ((0, 0, []), 1) else if ¬ wide % 2 = 0 ∨ ¬ high % 2 = 0 then ((0, 0, []), 9) else ((((wide.toNat / 2 : Nat) : Int), ((high.toNat / 2 : Nat) : Int), halfL wide.toNat high.toNat xs), 0)
theorem halfV_1 {wide high : Int} {xs : List Int} (h : validPicB wide high xs = false) : halfV wide high xs = ((0, 0, []), 1) := by simp [halfV, h]
theorem halfV_9 {W H : Nat} {xs : List Int} (h : validPicB W H xs = true) (h2 : ¬ W % 2 = 0 ∨ ¬ H % 2 = 0) : halfV W H xs = ((0, 0, []), 9) := by
  unfold halfV; rw [if_neg (by simp [h]), if_pos (by omega)]
theorem halfV_0 {W H : Nat} {xs : List Int} (h : validPicB W H xs = true) (hW : W % 2 = 0) (hH : H % 2 = 0) : halfV W H xs = ((((W / 2 : Nat) : Int), ((H / 2 : Nat) : Int), halfL W H xs), 0) := by
  unfold halfV; rw [if_neg (by simp [h]), if_neg (by omega)]; rfl
theorem halfL_len (W H : Nat) (xs : List Int) : (halfL W H xs).length = W / 2 * (H / 2) := by simp [halfL]
theorem halfL_take (W H : Nat) (xs : List Int) {k : Nat} (h : k < W / 2 * (H / 2)) : (halfL W H xs).take (k + 1) = (halfL W H xs).take k ++ [quad W xs (halfAt W k) / 4] := by
  rw [List.take_add_one]
  congr 1
  simp [halfL, h]
theorem quad_in {W H i : Nat} (hW : W % 2 = 0) (hH : H % 2 = 0) (hi : i < W / 2 * (H / 2)) : halfAt W i + W + 1 < W * H := by
  obtain ⟨h1, h2, _⟩ := place_of hi
  have h := place_bd (W := W) (H := H) (x := 2 * (i % (W / 2)) + 1) (y := 2 * (i / (W / 2)) + 1) (by omega) (by omega)
  have e : W * (2 * (i / (W / 2)) + 1) = 2 * W * (i / (W / 2)) + W := by rw [Nat.mul_add, Nat.mul_one, ← Nat.mul_assoc, Nat.mul_comm W 2]
  rw [e] at h
  unfold halfAt
  omega
theorem halfAt_place {W x y : Nat} (hx : x < W / 2) : halfAt W (x + W / 2 * y) = 2 * x + 2 * W * y := by
  obtain ⟨e1, e2⟩ := split_place (y := y) hx
  unfold halfAt; rw [e1, e2]
theorem area4 {W H : Nat} (hW : W % 2 = 0) (hH : H % 2 = 0) : W * H / 4 = W / 2 * (H / 2) := by
  obtain ⟨A, rfl⟩ : ∃ A, W = 2 * A := ⟨W / 2, by omega⟩
  obtain ⟨C, rfl⟩ : ∃ C, H = 2 * C := ⟨H / 2, by omega⟩
  rw [show 2 * A * (2 * C) = 4 * (A * C) by rw [Nat.mul_mul_mul_comm]]
  simp
theorem half_half (n : Int) : n / 2 / 2 = n / 4 := by omega
end Go.Proofs.Ytknhfliefkkpfab
