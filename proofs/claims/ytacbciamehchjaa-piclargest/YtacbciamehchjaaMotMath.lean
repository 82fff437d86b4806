
/- Turns and mirrors of pictures as functions of places: plain facts. -/
import Derived.Test.YtacbciamehchjaaPlain
namespace Go.Proofs.Ytacbciamehchjaa
open Go.RowKit

/-- The width of a picture that was moved: motions 1 and 3 change the sides. -/
def wideQ (q W H : Nat) : Nat := if q = 1 ∨ q = 3 then H else W
def motX (q W H x y : Nat) : Nat := if q = 0 then x else if q = 1 then H - 1 - y else if q = 3 then y else W - 1 - x
def motY (q W H x y : Nat) : Nat := if q = 0 then y else if q = 1 then x else if q = 2 then H - 1 - y else if q = 3 then W - 1 - x else y
/-- Where the pixel i goes. -/
def dstQ (q W H i : Nat) : Nat := motX q W H (i % W) (i / W) + wideQ q W H * motY q W H (i % W) (i / W)
/-- Where the pixel j comes from. -/
def srcX (q W H x y : Nat) : Nat := if q = 0 then x else if q = 1 then y else if q = 3 then W - 1 - y else W - 1 - x
def srcY (q W H x y : Nat) : Nat := if q = 0 then y else if q = 1 then H - 1 - x else if q = 2 then H - 1 - y else if q = 3 then x else y
def srcQ (q W H j : Nat) : Nat := srcX q W H (j % wideQ q W H) (j / wideQ q W H) + W * srcY q W H (j % wideQ q W H) (j / wideQ q W H)
def movedL (q W H : Nat) (xs : List Int) : List Int := (List.range (W * H)).map fun j => gt xs (srcQ q W H j)

theorem split_place {W x y : Nat} (hx : x < W) : (x + W * y) % W = x ∧ (x + W * y) / W = y := by
  refine ⟨by rw [Nat.add_mul_mod_self_left, Nat.mod_eq_of_lt hx], by rw [Nat.add_mul_div_left _ _ (by omega), Nat.div_eq_of_lt hx, Nat.zero_add]⟩
theorem place_bd {W H x y : Nat} (hx : x < W) (hy : y < H) : x + W * y < W * H := by
  have h1 : W * (y + 1) ≤ W * H := Nat.mul_le_mul_left W hy
  rw [Nat.mul_add, Nat.mul_one] at h1
  omega
theorem place_of {W H i : Nat} (h : i < W * H) : i % W < W ∧ i / W < H ∧ i % W + W * (i / W) = i := by
  have hW : 0 < W := by rcases Nat.eq_zero_or_pos W with e | e; · rw [e, Nat.zero_mul] at h; omega
                        · exact e
  refine ⟨Nat.mod_lt _ hW, Nat.div_lt_of_lt_mul h, Nat.mod_add_div i W⟩
theorem mot_in {q W H x y : Nat} (hq : q < 5) (hx : x < W) (hy : y < H) : motX q W H x y < wideQ q W H ∧ motY q W H x y < (if q = 1 ∨ q = 3 then W else H) := by
  obtain rfl | rfl | rfl | rfl | rfl : q = 0 ∨ q = 1 ∨ q = 2 ∨ q = 3 ∨ q = 4 := by omega
  all_goals simp [motX, motY, wideQ]; omega
theorem area (q W H : Nat) : wideQ q W H * (if q = 1 ∨ q = 3 then W else H) = W * H := by
  unfold wideQ
  split
  · rw [Nat.mul_comm]
  · rfl
theorem dst_lt {q W H i : Nat} (hq : q < 5) (h : i < W * H) : dstQ q W H i < W * H := by
  obtain ⟨h1, h2, _⟩ := place_of h
  obtain ⟨m1, m2⟩ := mot_in hq h1 h2
  rw [← area q W H]
  exact place_bd m1 m2
theorem src_in {q W H x y : Nat} (hq : q < 5) (hx : x < wideQ q W H) (hy : y < (if q = 1 ∨ q = 3 then W else H)) : srcX q W H x y < W ∧ srcY q W H x y < H := by
  obtain rfl | rfl | rfl | rfl | rfl : q = 0 ∨ q = 1 ∨ q = 2 ∨ q = 3 ∨ q = 4 := by omega
  all_goals simp [srcX, srcY, wideQ] at *; omega
theorem mot_src {q W H x y : Nat} (hq : q < 5) (hx : x < wideQ q W H) (hy : y < (if q = 1 ∨ q = 3 then W else H)) : motX q W H (srcX q W H x y) (srcY q W H x y) = x ∧ motY q W H (srcX q W H x y) (srcY q W H x y) = y := by
  obtain rfl | rfl | rfl | rfl | rfl : q = 0 ∨ q = 1 ∨ q = 2 ∨ q = 3 ∨ q = 4 := by omega
  all_goals first | (simp [srcX, srcY, motX, motY, wideQ] at *; omega) | (simp [srcX, srcY, motX, motY, wideQ] at *; done)
theorem src_mot {q W H x y : Nat} (hq : q < 5) (hx : x < W) (hy : y < H) : srcX q W H (motX q W H x y) (motY q W H x y) = x ∧ srcY q W H (motX q W H x y) (motY q W H x y) = y := by
  obtain rfl | rfl | rfl | rfl | rfl : q = 0 ∨ q = 1 ∨ q = 2 ∨ q = 3 ∨ q = 4 := by omega
  all_goals first | (simp [srcX, srcY, motX, motY] at *; omega) | (simp [srcX, srcY, motX, motY] at *; done)
theorem src_lt {q W H j : Nat} (hq : q < 5) (h : j < W * H) : srcQ q W H j < W * H := by
  rw [← area q W H] at h
  obtain ⟨h1, h2, _⟩ := place_of h
  obtain ⟨m1, m2⟩ := src_in hq h1 h2
  exact place_bd m1 m2
theorem dst_src {q W H j : Nat} (hq : q < 5) (h : j < W * H) : dstQ q W H (srcQ q W H j) = j := by
  rw [← area q W H] at h
  obtain ⟨h1, h2, h3⟩ := place_of h
  obtain ⟨m1, m2⟩ := src_in hq h1 h2
  obtain ⟨n1, n2⟩ := mot_src hq h1 h2
  unfold dstQ
  obtain ⟨e1, e2⟩ := split_place (y := srcY q W H (j % wideQ q W H) (j / wideQ q W H)) m1
  rw [show srcQ q W H j % W = _ from e1, show srcQ q W H j / W = _ from e2, n1, n2, h3]
theorem src_dst {q W H i : Nat} (hq : q < 5) (h : i < W * H) : srcQ q W H (dstQ q W H i) = i := by
  obtain ⟨h1, h2, h3⟩ := place_of h
  obtain ⟨m1, m2⟩ := mot_in hq h1 h2
  obtain ⟨n1, n2⟩ := src_mot hq h1 h2
  unfold srcQ
  obtain ⟨e1, e2⟩ := split_place (y := motY q W H (i % W) (i / W)) m1
  rw [show dstQ q W H i % wideQ q W H = _ from e1, show dstQ q W H i / wideQ q W H = _ from e2, n1, n2, h3]
/-- What has been moved of the first k pixels. -/
structure MovK (q W H : Nat) (xs : List Int) (k : Nat) (zs : List Int) : Prop where
  len : zs.length = W * H
  yes : ∀ i, i < k → gt zs (dstQ q W H i) = gt xs i
theorem MovK.next {q W H : Nat} {xs zs : List Int} {k : Nat} (h : MovK q W H xs k zs) (hq : q < 5) (hk : k < W * H) {x : Int} (hx : x = gt xs k) : MovK q W H xs (k + 1) (zs.set (dstQ q W H k) x) := by
  have hd := dst_lt hq hk
  refine ⟨by rw [List.length_set]; exact h.len, fun i hi => ?_⟩
  rw [gt_set (by rw [h.len]; exact hd)]
  by_cases e : i = k
  · subst e; rw [if_pos rfl, hx]
  · rw [if_neg, h.yes i (by omega)]
    intro e2
    have := congrArg (srcQ q W H) e2
    rw [src_dst hq (by omega), src_dst hq hk] at this
    exact e this
theorem MovK.all {q W H : Nat} {xs zs : List Int} (h : MovK q W H xs (W * H) zs) (hq : q < 5) : zs = movedL q W H xs := by
  refine list_ext_gt (by rw [h.len]; simp [movedL]) fun j hj => ?_
  rw [h.len] at hj
  unfold movedL
  rw [gt_map_range _ hj, ← h.yes _ (src_lt hq hj), dst_src hq hj]
end Go.Proofs.Ytacbciamehchjaa
