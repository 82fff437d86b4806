/- Parts of the proof of SparseTwins: plain words, walks and contracts, each under its own heading. -/
import Derived.Test.YtfnomiingelfaaaSparseTwinsPB
import Derived.Test.YtfnomiingelfaaaSparseTwinsPA
import Derived.Test.YtfnomiingelfaaaProg
import Derived.BigQuiet
import Derived.Deep.QuietTactic
import Derived.IntWalk
import Derived.Deep.RegionHeldLaw
import Derived.Deep.RegionLaw
/- A determinant of order 6 whose numbers are from -1 to 1 is at most 160. Plain mathematics. Speaks of no program. Written by mk_det160.py. -/
namespace Go.Proofs.Ytfnomiingelfaaa
open Go.RowKit

def dl (i : Nat) : Nat → Int := fun j => if j = i then 1 else 0
theorem d3_lin1 (u v w : Nat → Int) : d3 u v w = u 0 * d3 (dl 0) v w + u 1 * d3 (dl 1) v w + u 2 * d3 (dl 2) v w := by unfold d3 dl; simp; grind
theorem e3_lin1 (u v w : Nat → Int) : e3 u v w = u 3 * e3 (dl 3) v w + u 4 * e3 (dl 4) v w + u 5 * e3 (dl 5) v w := by unfold e3 d3 dl; simp; grind
theorem d3_z13 (v w : Nat → Int) : d3 (dl 3) v w = 0 := by unfold d3 dl; simp
theorem d3_z14 (v w : Nat → Int) : d3 (dl 4) v w = 0 := by unfold d3 dl; simp
theorem d3_z15 (v w : Nat → Int) : d3 (dl 5) v w = 0 := by unfold d3 dl; simp
theorem e3_z10 (v w : Nat → Int) : e3 (dl 0) v w = 0 := by unfold e3 d3 dl; simp
theorem e3_z11 (v w : Nat → Int) : e3 (dl 1) v w = 0 := by unfold e3 d3 dl; simp
theorem e3_z12 (v w : Nat → Int) : e3 (dl 2) v w = 0 := by unfold e3 d3 dl; simp
theorem d3_lin2 (u v w : Nat → Int) : d3 v u w = u 0 * d3 v (dl 0) w + u 1 * d3 v (dl 1) w + u 2 * d3 v (dl 2) w := by unfold d3 dl; simp; grind
theorem e3_lin2 (u v w : Nat → Int) : e3 v u w = u 3 * e3 v (dl 3) w + u 4 * e3 v (dl 4) w + u 5 * e3 v (dl 5) w := by unfold e3 d3 dl; simp; grind
theorem d3_z23 (v w : Nat → Int) : d3 v (dl 3) w = 0 := by unfold d3 dl; simp
theorem d3_z24 (v w : Nat → Int) : d3 v (dl 4) w = 0 := by unfold d3 dl; simp
theorem d3_z25 (v w : Nat → Int) : d3 v (dl 5) w = 0 := by unfold d3 dl; simp
theorem e3_z20 (v w : Nat → Int) : e3 v (dl 0) w = 0 := by unfold e3 d3 dl; simp
theorem e3_z21 (v w : Nat → Int) : e3 v (dl 1) w = 0 := by unfold e3 d3 dl; simp
theorem e3_z22 (v w : Nat → Int) : e3 v (dl 2) w = 0 := by unfold e3 d3 dl; simp
theorem d3_lin3 (u v w : Nat → Int) : d3 v w u = u 0 * d3 v w (dl 0) + u 1 * d3 v w (dl 1) + u 2 * d3 v w (dl 2) := by unfold d3 dl; simp; grind
theorem e3_lin3 (u v w : Nat → Int) : e3 v w u = u 3 * e3 v w (dl 3) + u 4 * e3 v w (dl 4) + u 5 * e3 v w (dl 5) := by unfold e3 d3 dl; simp; grind
theorem d3_z33 (v w : Nat → Int) : d3 v w (dl 3) = 0 := by unfold d3 dl; simp
theorem d3_z34 (v w : Nat → Int) : d3 v w (dl 4) = 0 := by unfold d3 dl; simp
theorem d3_z35 (v w : Nat → Int) : d3 v w (dl 5) = 0 := by unfold d3 dl; simp
theorem e3_z30 (v w : Nat → Int) : e3 v w (dl 0) = 0 := by unfold e3 d3 dl; simp
theorem e3_z31 (v w : Nat → Int) : e3 v w (dl 1) = 0 := by unfold e3 d3 dl; simp
theorem e3_z32 (v w : Nat → Int) : e3 v w (dl 2) = 0 := by unfold e3 d3 dl; simp
theorem d6_lin0 (u u1 u2 u3 u4 u5 : Nat → Int) : d6 u u1 u2 u3 u4 u5 = u 0 * d6 (dl 0) u1 u2 u3 u4 u5 + u 1 * d6 (dl 1) u1 u2 u3 u4 u5 + u 2 * d6 (dl 2) u1 u2 u3 u4 u5 + u 3 * d6 (dl 3) u1 u2 u3 u4 u5 + u 4 * d6 (dl 4) u1 u2 u3 u4 u5 + u 5 * d6 (dl 5) u1 u2 u3 u4 u5 := by
  rw [d6_lap u u1 u2 u3 u4 u5, d6_lap (dl 0) u1 u2 u3 u4 u5, d6_lap (dl 1) u1 u2 u3 u4 u5, d6_lap (dl 2) u1 u2 u3 u4 u5, d6_lap (dl 3) u1 u2 u3 u4 u5, d6_lap (dl 4) u1 u2 u3 u4 u5, d6_lap (dl 5) u1 u2 u3 u4 u5]
  rw [d3_lin1 u u1 u2, d3_lin1 u u1 u3, d3_lin1 u u1 u4, d3_lin1 u u1 u5, d3_lin1 u u2 u3, d3_lin1 u u2 u4, d3_lin1 u u2 u5, d3_lin1 u u3 u4, d3_lin1 u u3 u5, d3_lin1 u u4 u5, e3_lin1 u u4 u5, e3_lin1 u u3 u5, e3_lin1 u u3 u4, e3_lin1 u u2 u5, e3_lin1 u u2 u4, e3_lin1 u u2 u3, e3_lin1 u u1 u5, e3_lin1 u u1 u4, e3_lin1 u u1 u3, e3_lin1 u u1 u2]
  simp only [d3_z13, d3_z14, d3_z15, e3_z10, e3_z11, e3_z12]
  grind
theorem d6_lin1 (u u0 u2 u3 u4 u5 : Nat → Int) : d6 u0 u u2 u3 u4 u5 = u 0 * d6 u0 (dl 0) u2 u3 u4 u5 + u 1 * d6 u0 (dl 1) u2 u3 u4 u5 + u 2 * d6 u0 (dl 2) u2 u3 u4 u5 + u 3 * d6 u0 (dl 3) u2 u3 u4 u5 + u 4 * d6 u0 (dl 4) u2 u3 u4 u5 + u 5 * d6 u0 (dl 5) u2 u3 u4 u5 := by
  rw [d6_lap u0 u u2 u3 u4 u5, d6_lap u0 (dl 0) u2 u3 u4 u5, d6_lap u0 (dl 1) u2 u3 u4 u5, d6_lap u0 (dl 2) u2 u3 u4 u5, d6_lap u0 (dl 3) u2 u3 u4 u5, d6_lap u0 (dl 4) u2 u3 u4 u5, d6_lap u0 (dl 5) u2 u3 u4 u5]
  rw [d3_lin2 u u0 u2, d3_lin2 u u0 u3, d3_lin2 u u0 u4, d3_lin2 u u0 u5, e3_lin1 u u4 u5, e3_lin1 u u3 u5, e3_lin1 u u3 u4, e3_lin1 u u2 u5, e3_lin1 u u2 u4, e3_lin1 u u2 u3, d3_lin1 u u2 u3, d3_lin1 u u2 u4, d3_lin1 u u2 u5, d3_lin1 u u3 u4, d3_lin1 u u3 u5, d3_lin1 u u4 u5, e3_lin2 u u0 u5, e3_lin2 u u0 u4, e3_lin2 u u0 u3, e3_lin2 u u0 u2]
  simp only [d3_z13, d3_z14, d3_z15, d3_z23, d3_z24, d3_z25, e3_z10, e3_z11, e3_z12, e3_z20, e3_z21, e3_z22]
  grind
theorem d6_lin2 (u u0 u1 u3 u4 u5 : Nat → Int) : d6 u0 u1 u u3 u4 u5 = u 0 * d6 u0 u1 (dl 0) u3 u4 u5 + u 1 * d6 u0 u1 (dl 1) u3 u4 u5 + u 2 * d6 u0 u1 (dl 2) u3 u4 u5 + u 3 * d6 u0 u1 (dl 3) u3 u4 u5 + u 4 * d6 u0 u1 (dl 4) u3 u4 u5 + u 5 * d6 u0 u1 (dl 5) u3 u4 u5 := by
  rw [d6_lap u0 u1 u u3 u4 u5, d6_lap u0 u1 (dl 0) u3 u4 u5, d6_lap u0 u1 (dl 1) u3 u4 u5, d6_lap u0 u1 (dl 2) u3 u4 u5, d6_lap u0 u1 (dl 3) u3 u4 u5, d6_lap u0 u1 (dl 4) u3 u4 u5, d6_lap u0 u1 (dl 5) u3 u4 u5]
  rw [d3_lin3 u u0 u1, e3_lin1 u u4 u5, e3_lin1 u u3 u5, e3_lin1 u u3 u4, d3_lin2 u u0 u3, d3_lin2 u u0 u4, d3_lin2 u u0 u5, e3_lin2 u u1 u5, e3_lin2 u u1 u4, e3_lin2 u u1 u3, d3_lin2 u u1 u3, d3_lin2 u u1 u4, d3_lin2 u u1 u5, e3_lin2 u u0 u5, e3_lin2 u u0 u4, e3_lin2 u u0 u3, d3_lin1 u u3 u4, d3_lin1 u u3 u5, d3_lin1 u u4 u5, e3_lin3 u u0 u1]
  simp only [d3_z13, d3_z14, d3_z15, d3_z23, d3_z24, d3_z25, d3_z33, d3_z34, d3_z35, e3_z10, e3_z11, e3_z12, e3_z20, e3_z21, e3_z22, e3_z30, e3_z31, e3_z32]
  grind
theorem d6_lin3 (u u0 u1 u2 u4 u5 : Nat → Int) : d6 u0 u1 u2 u u4 u5 = u 0 * d6 u0 u1 u2 (dl 0) u4 u5 + u 1 * d6 u0 u1 u2 (dl 1) u4 u5 + u 2 * d6 u0 u1 u2 (dl 2) u4 u5 + u 3 * d6 u0 u1 u2 (dl 3) u4 u5 + u 4 * d6 u0 u1 u2 (dl 4) u4 u5 + u 5 * d6 u0 u1 u2 (dl 5) u4 u5 := by
  rw [d6_lap u0 u1 u2 u u4 u5, d6_lap u0 u1 u2 (dl 0) u4 u5, d6_lap u0 u1 u2 (dl 1) u4 u5, d6_lap u0 u1 u2 (dl 2) u4 u5, d6_lap u0 u1 u2 (dl 3) u4 u5, d6_lap u0 u1 u2 (dl 4) u4 u5, d6_lap u0 u1 u2 (dl 5) u4 u5]
  rw [e3_lin1 u u4 u5, d3_lin3 u u0 u1, e3_lin2 u u2 u5, e3_lin2 u u2 u4, d3_lin3 u u0 u2, e3_lin2 u u1 u5, e3_lin2 u u1 u4, d3_lin2 u u0 u4, d3_lin2 u u0 u5, e3_lin3 u u1 u2, d3_lin3 u u1 u2, e3_lin2 u u0 u5, e3_lin2 u u0 u4, d3_lin2 u u1 u4, d3_lin2 u u1 u5, e3_lin3 u u0 u2, d3_lin2 u u2 u4, d3_lin2 u u2 u5, e3_lin3 u u0 u1, d3_lin1 u u4 u5]
  simp only [d3_z13, d3_z14, d3_z15, d3_z23, d3_z24, d3_z25, d3_z33, d3_z34, d3_z35, e3_z10, e3_z11, e3_z12, e3_z20, e3_z21, e3_z22, e3_z30, e3_z31, e3_z32]
  grind
theorem d6_lin4 (u u0 u1 u2 u3 u5 : Nat → Int) : d6 u0 u1 u2 u3 u u5 = u 0 * d6 u0 u1 u2 u3 (dl 0) u5 + u 1 * d6 u0 u1 u2 u3 (dl 1) u5 + u 2 * d6 u0 u1 u2 u3 (dl 2) u5 + u 3 * d6 u0 u1 u2 u3 (dl 3) u5 + u 4 * d6 u0 u1 u2 u3 (dl 4) u5 + u 5 * d6 u0 u1 u2 u3 (dl 5) u5 := by
  rw [d6_lap u0 u1 u2 u3 u u5, d6_lap u0 u1 u2 u3 (dl 0) u5, d6_lap u0 u1 u2 u3 (dl 1) u5, d6_lap u0 u1 u2 u3 (dl 2) u5, d6_lap u0 u1 u2 u3 (dl 3) u5, d6_lap u0 u1 u2 u3 (dl 4) u5, d6_lap u0 u1 u2 u3 (dl 5) u5]
  rw [e3_lin2 u u3 u5, e3_lin2 u u2 u5, d3_lin3 u u0 u1, e3_lin3 u u2 u3, e3_lin2 u u1 u5, d3_lin3 u u0 u2, e3_lin3 u u1 u3, d3_lin3 u u0 u3, e3_lin3 u u1 u2, d3_lin2 u u0 u5, e3_lin2 u u0 u5, d3_lin3 u u1 u2, e3_lin3 u u0 u3, d3_lin3 u u1 u3, e3_lin3 u u0 u2, d3_lin2 u u1 u5, d3_lin3 u u2 u3, e3_lin3 u u0 u1, d3_lin2 u u2 u5, d3_lin2 u u3 u5]
  simp only [d3_z23, d3_z24, d3_z25, d3_z33, d3_z34, d3_z35, e3_z20, e3_z21, e3_z22, e3_z30, e3_z31, e3_z32]
  grind
theorem d6_lin5 (u u0 u1 u2 u3 u4 : Nat → Int) : d6 u0 u1 u2 u3 u4 u = u 0 * d6 u0 u1 u2 u3 u4 (dl 0) + u 1 * d6 u0 u1 u2 u3 u4 (dl 1) + u 2 * d6 u0 u1 u2 u3 u4 (dl 2) + u 3 * d6 u0 u1 u2 u3 u4 (dl 3) + u 4 * d6 u0 u1 u2 u3 u4 (dl 4) + u 5 * d6 u0 u1 u2 u3 u4 (dl 5) := by
  rw [d6_lap u0 u1 u2 u3 u4 u, d6_lap u0 u1 u2 u3 u4 (dl 0), d6_lap u0 u1 u2 u3 u4 (dl 1), d6_lap u0 u1 u2 u3 u4 (dl 2), d6_lap u0 u1 u2 u3 u4 (dl 3), d6_lap u0 u1 u2 u3 u4 (dl 4), d6_lap u0 u1 u2 u3 u4 (dl 5)]
  rw [e3_lin3 u u3 u4, e3_lin3 u u2 u4, e3_lin3 u u2 u3, d3_lin3 u u0 u1, e3_lin3 u u1 u4, e3_lin3 u u1 u3, d3_lin3 u u0 u2, e3_lin3 u u1 u2, d3_lin3 u u0 u3, d3_lin3 u u0 u4, e3_lin3 u u0 u4, e3_lin3 u u0 u3, d3_lin3 u u1 u2, e3_lin3 u u0 u2, d3_lin3 u u1 u3, d3_lin3 u u1 u4, e3_lin3 u u0 u1, d3_lin3 u u2 u3, d3_lin3 u u2 u4, d3_lin3 u u3 u4]
  simp only [d3_z33, d3_z34, d3_z35, e3_z30, e3_z31, e3_z32]
  grind
def sg (K : Nat → Int) : Nat → Int := fun i => if 0 ≤ K i then 1 else -1
theorem sg_pm (K : Nat → Int) (i : Nat) : sg K i = 1 ∨ sg K i = -1 := by unfold sg; split <;> simp
theorem sg_one {x X s : Int} (hx : -1 ≤ x ∧ x ≤ 1) (hs : s = if 0 ≤ X then 1 else -1) : x * X ≤ s * X ∧ -(x * X) ≤ s * X := by
  have : x = -1 ∨ x = 0 ∨ x = 1 := by omega
  subst hs
  rcases this with rfl | rfl | rfl <;> split <;> omega
theorem sg_six {u K : Nat → Int} (hu : ∀ i, i < 6 → -1 ≤ u i ∧ u i ≤ 1) : -(sg K 0 * K 0 + sg K 1 * K 1 + sg K 2 * K 2 + sg K 3 * K 3 + sg K 4 * K 4 + sg K 5 * K 5) ≤ u 0 * K 0 + u 1 * K 1 + u 2 * K 2 + u 3 * K 3 + u 4 * K 4 + u 5 * K 5 ∧ u 0 * K 0 + u 1 * K 1 + u 2 * K 2 + u 3 * K 3 + u 4 * K 4 + u 5 * K 5 ≤ sg K 0 * K 0 + sg K 1 * K 1 + sg K 2 * K 2 + sg K 3 * K 3 + sg K 4 * K 4 + sg K 5 * K 5 := by
  have h0 := sg_one (X := K 0) (s := sg K 0) (hu 0 (by decide)) rfl
  have h1 := sg_one (X := K 1) (s := sg K 1) (hu 1 (by decide)) rfl
  have h2 := sg_one (X := K 2) (s := sg K 2) (hu 2 (by decide)) rfl
  have h3 := sg_one (X := K 3) (s := sg K 3) (hu 3 (by decide)) rfl
  have h4 := sg_one (X := K 4) (s := sg K 4) (hu 4 (by decide)) rfl
  have h5 := sg_one (X := K 5) (s := sg K 5) (hu 5 (by decide)) rfl
  generalize u 0 * K 0 = p0 at *
  generalize sg K 0 * K 0 = q0 at *
  generalize u 1 * K 1 = p1 at *
  generalize sg K 1 * K 1 = q1 at *
  generalize u 2 * K 2 = p2 at *
  generalize sg K 2 * K 2 = q2 at *
  generalize u 3 * K 3 = p3 at *
  generalize sg K 3 * K 3 = q3 at *
  generalize u 4 * K 4 = p4 at *
  generalize sg K 4 * K 4 = q4 at *
  generalize u 5 * K 5 = p5 at *
  generalize sg K 5 * K 5 = q5 at *
  omega
def PM (u : Nat → Int) : Prop := ∀ i, i < 6 → u i = 1 ∨ u i = -1
def TR (u : Nat → Int) : Prop := ∀ i, i < 6 → -1 ≤ u i ∧ u i ≤ 1
theorem d6_pm0 (u u1 u2 u3 u4 u5 : Nat → Int) (hu : TR u) : ∃ s, PM s ∧ -(d6 s u1 u2 u3 u4 u5) ≤ d6 u u1 u2 u3 u4 u5 ∧ d6 u u1 u2 u3 u4 u5 ≤ d6 s u1 u2 u3 u4 u5 := by
  have h := sg_six (K := fun i => d6 (dl i) u1 u2 u3 u4 u5) hu
  refine ⟨sg fun i => d6 (dl i) u1 u2 u3 u4 u5, fun i _ => sg_pm _ i, ?_⟩
  rw [d6_lin0 u u1 u2 u3 u4 u5, d6_lin0 (sg fun i => d6 (dl i) u1 u2 u3 u4 u5) u1 u2 u3 u4 u5]
  exact h
theorem d6_pm1 (u u0 u2 u3 u4 u5 : Nat → Int) (hu : TR u) : ∃ s, PM s ∧ -(d6 u0 s u2 u3 u4 u5) ≤ d6 u0 u u2 u3 u4 u5 ∧ d6 u0 u u2 u3 u4 u5 ≤ d6 u0 s u2 u3 u4 u5 := by
  have h := sg_six (K := fun i => d6 u0 (dl i) u2 u3 u4 u5) hu
  refine ⟨sg fun i => d6 u0 (dl i) u2 u3 u4 u5, fun i _ => sg_pm _ i, ?_⟩
  rw [d6_lin1 u u0 u2 u3 u4 u5, d6_lin1 (sg fun i => d6 u0 (dl i) u2 u3 u4 u5) u0 u2 u3 u4 u5]
  exact h
theorem d6_pm2 (u u0 u1 u3 u4 u5 : Nat → Int) (hu : TR u) : ∃ s, PM s ∧ -(d6 u0 u1 s u3 u4 u5) ≤ d6 u0 u1 u u3 u4 u5 ∧ d6 u0 u1 u u3 u4 u5 ≤ d6 u0 u1 s u3 u4 u5 := by
  have h := sg_six (K := fun i => d6 u0 u1 (dl i) u3 u4 u5) hu
  refine ⟨sg fun i => d6 u0 u1 (dl i) u3 u4 u5, fun i _ => sg_pm _ i, ?_⟩
  rw [d6_lin2 u u0 u1 u3 u4 u5, d6_lin2 (sg fun i => d6 u0 u1 (dl i) u3 u4 u5) u0 u1 u3 u4 u5]
  exact h
theorem d6_pm3 (u u0 u1 u2 u4 u5 : Nat → Int) (hu : TR u) : ∃ s, PM s ∧ -(d6 u0 u1 u2 s u4 u5) ≤ d6 u0 u1 u2 u u4 u5 ∧ d6 u0 u1 u2 u u4 u5 ≤ d6 u0 u1 u2 s u4 u5 := by
  have h := sg_six (K := fun i => d6 u0 u1 u2 (dl i) u4 u5) hu
  refine ⟨sg fun i => d6 u0 u1 u2 (dl i) u4 u5, fun i _ => sg_pm _ i, ?_⟩
  rw [d6_lin3 u u0 u1 u2 u4 u5, d6_lin3 (sg fun i => d6 u0 u1 u2 (dl i) u4 u5) u0 u1 u2 u4 u5]
  exact h
theorem d6_pm4 (u u0 u1 u2 u3 u5 : Nat → Int) (hu : TR u) : ∃ s, PM s ∧ -(d6 u0 u1 u2 u3 s u5) ≤ d6 u0 u1 u2 u3 u u5 ∧ d6 u0 u1 u2 u3 u u5 ≤ d6 u0 u1 u2 u3 s u5 := by
  have h := sg_six (K := fun i => d6 u0 u1 u2 u3 (dl i) u5) hu
  refine ⟨sg fun i => d6 u0 u1 u2 u3 (dl i) u5, fun i _ => sg_pm _ i, ?_⟩
  rw [d6_lin4 u u0 u1 u2 u3 u5, d6_lin4 (sg fun i => d6 u0 u1 u2 u3 (dl i) u5) u0 u1 u2 u3 u5]
  exact h
theorem d6_pm5 (u u0 u1 u2 u3 u4 : Nat → Int) (hu : TR u) : ∃ s, PM s ∧ -(d6 u0 u1 u2 u3 u4 s) ≤ d6 u0 u1 u2 u3 u4 u ∧ d6 u0 u1 u2 u3 u4 u ≤ d6 u0 u1 u2 u3 u4 s := by
  have h := sg_six (K := fun i => d6 u0 u1 u2 u3 u4 (dl i)) hu
  refine ⟨sg fun i => d6 u0 u1 u2 u3 u4 (dl i), fun i _ => sg_pm _ i, ?_⟩
  rw [d6_lin5 u u0 u1 u2 u3 u4, d6_lin5 (sg fun i => d6 u0 u1 u2 u3 u4 (dl i)) u0 u1 u2 u3 u4]
  exact h
def cls (u : Nat → Int) (o : Nat) : Nat := (if u o = u (o + 1) then 0 else 1) + (if u o = u (o + 2) then 0 else 2)
theorem cls_lt (u : Nat → Int) (o : Nat) : cls u o < 4 := by unfold cls; split <;> split <;> decide
theorem cls_par {u v w : Nat → Int} (hu : PM u) (hv : PM v) (h : cls u 0 = cls v 0) : d3 u v w = 0 := by
  have a0 := hu 0 (by decide); have a1 := hu 1 (by decide); have a2 := hu 2 (by decide)
  have b0 := hv 0 (by decide); have b1 := hv 1 (by decide); have b2 := hv 2 (by decide)
  unfold cls at h
  unfold d3
  simp only [Nat.zero_add] at h
  generalize u 0 = x0 at *
  generalize u 1 = x1 at *
  generalize u 2 = x2 at *
  generalize v 0 = y0 at *
  generalize v 1 = y1 at *
  generalize v 2 = y2 at *
  rcases a0 with rfl | rfl <;> rcases a1 with rfl | rfl <;> rcases a2 with rfl | rfl <;> rcases b0 with rfl | rfl <;> rcases b1 with rfl | rfl <;> rcases b2 with rfl | rfl <;> first | omega | (exfalso; revert h; decide)
def fours : List Nat := [0, 1, 2, 3]
theorem four_in {a : Nat} (h : a < 4) : a ∈ fours := by
  have : a = 0 ∨ a = 1 ∨ a = 2 ∨ a = 3 := by omega
  rcases this with rfl | rfl | rfl | rfl <;> decide
def ap3 (x y z : Nat) : Nat := if (Nat.beq x y || Nat.beq x z || Nat.beq y z) = true then 0 else 1
def sumN : List Nat → Nat
  | [] => 0
  | a :: x => a + sumN x
def dotN : List Nat → List Nat → Nat
  | a :: x, b :: y => a * b + dotN x y
  | _, _ => 0
def pT (a b c d e f : Nat) : List Nat := [ap3 a b c, ap3 a b d, ap3 a b e, ap3 a b f, ap3 a c d, ap3 a c e, ap3 a c f, ap3 a d e, ap3 a d f, ap3 a e f, ap3 b c d, ap3 b c e, ap3 b c f, ap3 b d e, ap3 b d f, ap3 b e f, ap3 c d e, ap3 c d f, ap3 c e f, ap3 d e f]
def pC (a b c d e f : Nat) : List Nat := [ap3 d e f, ap3 c e f, ap3 c d f, ap3 c d e, ap3 b e f, ap3 b d f, ap3 b d e, ap3 b c f, ap3 b c e, ap3 b c d, ap3 a e f, ap3 a d f, ap3 a d e, ap3 a c f, ap3 a c e, ap3 a c d, ap3 a b f, ap3 a b e, ap3 a b d, ap3 a b c]
def L45T : List (List Nat) := [[0, 0, 0, 0, 0, 1, 1, 1, 1, 1, 0, 1, 1, 1, 1, 1, 0, 0, 1, 1],
  [0, 0, 0, 0, 1, 0, 1, 1, 1, 1, 1, 0, 1, 1, 1, 1, 0, 1, 0, 1],
  [0, 0, 0, 0, 1, 1, 0, 1, 1, 1, 1, 1, 0, 1, 1, 1, 1, 0, 0, 1],
  [0, 0, 0, 0, 1, 1, 1, 0, 1, 1, 1, 1, 1, 0, 1, 1, 0, 1, 1, 0],
  [0, 0, 0, 0, 1, 1, 1, 1, 0, 1, 1, 1, 1, 1, 0, 1, 1, 0, 1, 0],
  [0, 0, 0, 0, 1, 1, 1, 1, 1, 0, 1, 1, 1, 1, 1, 0, 1, 1, 0, 0],
  [0, 0, 1, 1, 0, 0, 0, 1, 1, 1, 0, 1, 1, 0, 0, 1, 1, 1, 1, 1],
  [0, 0, 1, 1, 0, 1, 1, 0, 0, 1, 0, 0, 0, 1, 1, 1, 1, 1, 1, 1],
  [0, 1, 0, 1, 0, 0, 0, 1, 1, 1, 1, 0, 1, 0, 1, 0, 1, 1, 1, 1],
  [0, 1, 0, 1, 1, 0, 1, 0, 1, 0, 0, 0, 0, 1, 1, 1, 1, 1, 1, 1],
  [0, 1, 1, 0, 0, 0, 0, 1, 1, 1, 1, 1, 0, 1, 0, 0, 1, 1, 1, 1],
  [0, 1, 1, 0, 1, 1, 0, 1, 0, 0, 0, 0, 0, 1, 1, 1, 1, 1, 1, 1],
  [0, 1, 1, 1, 0, 0, 0, 0, 1, 1, 1, 1, 1, 0, 1, 1, 0, 1, 1, 0],
  [0, 1, 1, 1, 0, 0, 0, 1, 0, 1, 1, 1, 1, 1, 0, 1, 1, 0, 1, 0],
  [0, 1, 1, 1, 0, 0, 0, 1, 1, 0, 1, 1, 1, 1, 1, 0, 1, 1, 0, 0],
  [0, 1, 1, 1, 1, 1, 1, 0, 1, 1, 0, 0, 0, 0, 1, 1, 0, 1, 1, 0],
  [0, 1, 1, 1, 1, 1, 1, 1, 0, 1, 0, 0, 0, 1, 0, 1, 1, 0, 1, 0],
  [0, 1, 1, 1, 1, 1, 1, 1, 1, 0, 0, 0, 0, 1, 1, 0, 1, 1, 0, 0],
  [1, 0, 0, 1, 0, 1, 1, 0, 0, 1, 1, 0, 1, 0, 1, 0, 1, 1, 1, 1],
  [1, 0, 0, 1, 1, 0, 1, 0, 1, 0, 0, 1, 1, 0, 0, 1, 1, 1, 1, 1],
  [1, 0, 1, 0, 0, 1, 1, 0, 0, 1, 1, 1, 0, 1, 0, 0, 1, 1, 1, 1],
  [1, 0, 1, 0, 1, 1, 0, 1, 0, 0, 0, 1, 1, 0, 0, 1, 1, 1, 1, 1],
  [1, 0, 1, 1, 0, 0, 1, 0, 0, 1, 1, 0, 1, 1, 1, 1, 0, 1, 0, 1],
  [1, 0, 1, 1, 0, 1, 0, 0, 0, 1, 1, 1, 0, 1, 1, 1, 1, 0, 0, 1],
  [1, 0, 1, 1, 0, 1, 1, 0, 0, 0, 1, 1, 1, 1, 1, 0, 1, 1, 0, 0],
  [1, 0, 1, 1, 1, 0, 1, 1, 1, 1, 0, 0, 1, 0, 0, 1, 0, 1, 0, 1],
  [1, 0, 1, 1, 1, 1, 0, 1, 1, 1, 0, 1, 0, 0, 0, 1, 1, 0, 0, 1],
  [1, 0, 1, 1, 1, 1, 1, 1, 1, 0, 0, 1, 1, 0, 0, 0, 1, 1, 0, 0],
  [1, 1, 0, 0, 1, 0, 1, 0, 1, 0, 1, 1, 0, 1, 0, 0, 1, 1, 1, 1],
  [1, 1, 0, 0, 1, 1, 0, 1, 0, 0, 1, 0, 1, 0, 1, 0, 1, 1, 1, 1],
  [1, 1, 0, 1, 0, 0, 1, 0, 1, 0, 0, 1, 1, 1, 1, 1, 0, 0, 1, 1],
  [1, 1, 0, 1, 0, 1, 1, 1, 1, 1, 0, 0, 1, 0, 1, 0, 0, 0, 1, 1],
  [1, 1, 0, 1, 1, 0, 0, 0, 1, 0, 1, 1, 0, 1, 1, 1, 1, 0, 0, 1],
  [1, 1, 0, 1, 1, 0, 1, 0, 0, 0, 1, 1, 1, 1, 0, 1, 1, 0, 1, 0],
  [1, 1, 0, 1, 1, 1, 0, 1, 1, 1, 1, 0, 0, 0, 1, 0, 1, 0, 0, 1],
  [1, 1, 0, 1, 1, 1, 1, 1, 0, 1, 1, 0, 1, 0, 0, 0, 1, 0, 1, 0],
  [1, 1, 1, 0, 0, 1, 0, 1, 0, 0, 0, 1, 1, 1, 1, 1, 0, 0, 1, 1],
  [1, 1, 1, 0, 0, 1, 1, 1, 1, 1, 0, 1, 0, 1, 0, 0, 0, 0, 1, 1],
  [1, 1, 1, 0, 1, 0, 0, 1, 0, 0, 1, 0, 1, 1, 1, 1, 0, 1, 0, 1],
  [1, 1, 1, 0, 1, 0, 1, 1, 1, 1, 1, 0, 0, 1, 0, 0, 0, 1, 0, 1],
  [1, 1, 1, 0, 1, 1, 0, 0, 0, 0, 1, 1, 1, 0, 1, 1, 0, 1, 1, 0],
  [1, 1, 1, 0, 1, 1, 1, 0, 1, 1, 1, 1, 0, 0, 0, 0, 0, 1, 1, 0],
  [1, 1, 1, 1, 0, 1, 1, 1, 1, 0, 0, 1, 1, 1, 1, 0, 0, 0, 0, 0],
  [1, 1, 1, 1, 1, 0, 1, 1, 0, 1, 1, 0, 1, 1, 0, 1, 0, 0, 0, 0],
  [1, 1, 1, 1, 1, 1, 0, 0, 1, 1, 1, 1, 0, 0, 1, 1, 0, 0, 0, 0]]
def L45C : List (List Nat) := [[0, 0, 0, 0, 0, 1, 1, 1, 1, 0, 0, 1, 1, 1, 1, 0, 1, 1, 1, 1],
  [0, 0, 0, 0, 1, 0, 1, 1, 0, 1, 1, 0, 1, 1, 0, 1, 1, 1, 1, 1],
  [0, 0, 0, 0, 1, 1, 0, 0, 1, 1, 1, 1, 0, 0, 1, 1, 1, 1, 1, 1],
  [0, 0, 1, 1, 0, 0, 0, 1, 1, 0, 0, 1, 1, 1, 1, 1, 1, 1, 0, 1],
  [0, 0, 1, 1, 0, 1, 1, 0, 0, 0, 0, 1, 1, 1, 1, 1, 1, 1, 1, 0],
  [0, 0, 1, 1, 0, 1, 1, 1, 1, 1, 0, 0, 0, 1, 1, 0, 1, 1, 0, 1],
  [0, 0, 1, 1, 0, 1, 1, 1, 1, 1, 0, 1, 1, 0, 0, 0, 1, 1, 1, 0],
  [0, 0, 1, 1, 0, 1, 1, 1, 1, 1, 0, 1, 1, 1, 1, 1, 0, 0, 0, 0],
  [0, 1, 0, 1, 0, 0, 0, 1, 0, 1, 1, 0, 1, 1, 1, 1, 1, 0, 1, 1],
  [0, 1, 0, 1, 1, 0, 1, 0, 0, 0, 1, 0, 1, 1, 1, 1, 1, 1, 1, 0],
  [0, 1, 0, 1, 1, 0, 1, 1, 1, 1, 0, 0, 0, 1, 0, 1, 1, 0, 1, 1],
  [0, 1, 0, 1, 1, 0, 1, 1, 1, 1, 1, 0, 1, 0, 0, 0, 1, 1, 1, 0],
  [0, 1, 0, 1, 1, 0, 1, 1, 1, 1, 1, 0, 1, 1, 1, 1, 0, 0, 0, 0],
  [0, 1, 1, 0, 0, 0, 0, 0, 1, 1, 1, 1, 0, 1, 1, 1, 0, 1, 1, 1],
  [0, 1, 1, 0, 1, 1, 0, 0, 0, 0, 1, 1, 0, 1, 1, 1, 1, 1, 1, 0],
  [0, 1, 1, 0, 1, 1, 0, 1, 1, 1, 0, 0, 0, 0, 1, 1, 0, 1, 1, 1],
  [0, 1, 1, 0, 1, 1, 0, 1, 1, 1, 1, 1, 0, 0, 0, 0, 1, 1, 1, 0],
  [0, 1, 1, 0, 1, 1, 0, 1, 1, 1, 1, 1, 0, 1, 1, 1, 0, 0, 0, 0],
  [1, 0, 0, 1, 0, 1, 0, 0, 0, 1, 1, 1, 1, 0, 1, 1, 1, 0, 1, 1],
  [1, 0, 0, 1, 1, 0, 0, 0, 1, 0, 1, 1, 1, 0, 1, 1, 1, 1, 0, 1],
  [1, 0, 0, 1, 1, 1, 1, 0, 1, 1, 0, 1, 0, 0, 0, 1, 1, 0, 1, 1],
  [1, 0, 0, 1, 1, 1, 1, 0, 1, 1, 1, 0, 0, 0, 1, 0, 1, 1, 0, 1],
  [1, 0, 0, 1, 1, 1, 1, 0, 1, 1, 1, 1, 1, 0, 1, 1, 0, 0, 0, 0],
  [1, 0, 1, 0, 0, 0, 1, 0, 0, 1, 1, 1, 1, 1, 0, 1, 0, 1, 1, 1],
  [1, 0, 1, 0, 1, 0, 0, 1, 0, 0, 1, 1, 1, 1, 0, 1, 1, 1, 0, 1],
  [1, 0, 1, 0, 1, 1, 1, 1, 0, 1, 0, 0, 1, 0, 0, 1, 0, 1, 1, 1],
  [1, 0, 1, 0, 1, 1, 1, 1, 0, 1, 1, 0, 0, 1, 0, 0, 1, 1, 0, 1],
  [1, 0, 1, 0, 1, 1, 1, 1, 0, 1, 1, 1, 1, 1, 0, 1, 0, 0, 0, 0],
  [1, 1, 0, 0, 0, 0, 1, 0, 1, 0, 1, 1, 1, 1, 1, 0, 0, 1, 1, 1],
  [1, 1, 0, 0, 0, 1, 0, 1, 0, 0, 1, 1, 1, 1, 1, 0, 1, 0, 1, 1],
  [1, 1, 0, 0, 1, 1, 1, 1, 1, 0, 0, 0, 1, 0, 1, 0, 0, 1, 1, 1],
  [1, 1, 0, 0, 1, 1, 1, 1, 1, 0, 0, 1, 0, 1, 0, 0, 1, 0, 1, 1],
  [1, 1, 0, 0, 1, 1, 1, 1, 1, 0, 1, 1, 1, 1, 1, 0, 0, 0, 0, 0],
  [1, 1, 1, 1, 0, 0, 1, 0, 1, 1, 0, 1, 0, 1, 0, 1, 0, 0, 1, 1],
  [1, 1, 1, 1, 0, 0, 1, 0, 1, 1, 1, 0, 0, 1, 1, 0, 0, 1, 0, 1],
  [1, 1, 1, 1, 0, 0, 1, 0, 1, 1, 1, 1, 1, 0, 0, 0, 0, 1, 1, 0],
  [1, 1, 1, 1, 0, 1, 0, 1, 0, 1, 0, 0, 1, 0, 1, 1, 0, 0, 1, 1],
  [1, 1, 1, 1, 0, 1, 0, 1, 0, 1, 1, 0, 0, 1, 1, 0, 1, 0, 0, 1],
  [1, 1, 1, 1, 0, 1, 0, 1, 0, 1, 1, 1, 1, 0, 0, 0, 1, 0, 1, 0],
  [1, 1, 1, 1, 1, 0, 0, 1, 1, 0, 0, 0, 1, 0, 1, 1, 0, 1, 0, 1],
  [1, 1, 1, 1, 1, 0, 0, 1, 1, 0, 0, 1, 0, 1, 0, 1, 1, 0, 0, 1],
  [1, 1, 1, 1, 1, 0, 0, 1, 1, 0, 1, 1, 1, 0, 0, 0, 1, 1, 0, 0],
  [1, 1, 1, 1, 1, 1, 1, 0, 0, 0, 0, 0, 1, 0, 1, 1, 0, 1, 1, 0],
  [1, 1, 1, 1, 1, 1, 1, 0, 0, 0, 0, 1, 0, 1, 0, 1, 1, 0, 1, 0],
  [1, 1, 1, 1, 1, 1, 1, 0, 0, 0, 1, 0, 0, 1, 1, 0, 1, 1, 0, 0]]
theorem chk45 : (L45T.all fun x => L45C.all fun y => Nat.ble (dotN x y) 10) = true := by decide +kernel
theorem chkT00 : (fours.all fun c => fours.all fun d => fours.all fun e => fours.all fun f => Nat.ble (sumN (pT 0 0 c d e f)) 10 || L45T.contains (pT 0 0 c d e f)) = true := by decide +kernel
theorem chkT01 : (fours.all fun c => fours.all fun d => fours.all fun e => fours.all fun f => Nat.ble (sumN (pT 0 1 c d e f)) 10 || L45T.contains (pT 0 1 c d e f)) = true := by decide +kernel
theorem chkT02 : (fours.all fun c => fours.all fun d => fours.all fun e => fours.all fun f => Nat.ble (sumN (pT 0 2 c d e f)) 10 || L45T.contains (pT 0 2 c d e f)) = true := by decide +kernel
theorem chkT03 : (fours.all fun c => fours.all fun d => fours.all fun e => fours.all fun f => Nat.ble (sumN (pT 0 3 c d e f)) 10 || L45T.contains (pT 0 3 c d e f)) = true := by decide +kernel
theorem chkT10 : (fours.all fun c => fours.all fun d => fours.all fun e => fours.all fun f => Nat.ble (sumN (pT 1 0 c d e f)) 10 || L45T.contains (pT 1 0 c d e f)) = true := by decide +kernel
theorem chkT11 : (fours.all fun c => fours.all fun d => fours.all fun e => fours.all fun f => Nat.ble (sumN (pT 1 1 c d e f)) 10 || L45T.contains (pT 1 1 c d e f)) = true := by decide +kernel
theorem chkT12 : (fours.all fun c => fours.all fun d => fours.all fun e => fours.all fun f => Nat.ble (sumN (pT 1 2 c d e f)) 10 || L45T.contains (pT 1 2 c d e f)) = true := by decide +kernel
theorem chkT13 : (fours.all fun c => fours.all fun d => fours.all fun e => fours.all fun f => Nat.ble (sumN (pT 1 3 c d e f)) 10 || L45T.contains (pT 1 3 c d e f)) = true := by decide +kernel
theorem chkT20 : (fours.all fun c => fours.all fun d => fours.all fun e => fours.all fun f => Nat.ble (sumN (pT 2 0 c d e f)) 10 || L45T.contains (pT 2 0 c d e f)) = true := by decide +kernel
theorem chkT21 : (fours.all fun c => fours.all fun d => fours.all fun e => fours.all fun f => Nat.ble (sumN (pT 2 1 c d e f)) 10 || L45T.contains (pT 2 1 c d e f)) = true := by decide +kernel
theorem chkT22 : (fours.all fun c => fours.all fun d => fours.all fun e => fours.all fun f => Nat.ble (sumN (pT 2 2 c d e f)) 10 || L45T.contains (pT 2 2 c d e f)) = true := by decide +kernel
theorem chkT23 : (fours.all fun c => fours.all fun d => fours.all fun e => fours.all fun f => Nat.ble (sumN (pT 2 3 c d e f)) 10 || L45T.contains (pT 2 3 c d e f)) = true := by decide +kernel
theorem chkT30 : (fours.all fun c => fours.all fun d => fours.all fun e => fours.all fun f => Nat.ble (sumN (pT 3 0 c d e f)) 10 || L45T.contains (pT 3 0 c d e f)) = true := by decide +kernel
theorem chkT31 : (fours.all fun c => fours.all fun d => fours.all fun e => fours.all fun f => Nat.ble (sumN (pT 3 1 c d e f)) 10 || L45T.contains (pT 3 1 c d e f)) = true := by decide +kernel
theorem chkT32 : (fours.all fun c => fours.all fun d => fours.all fun e => fours.all fun f => Nat.ble (sumN (pT 3 2 c d e f)) 10 || L45T.contains (pT 3 2 c d e f)) = true := by decide +kernel
theorem chkT33 : (fours.all fun c => fours.all fun d => fours.all fun e => fours.all fun f => Nat.ble (sumN (pT 3 3 c d e f)) 10 || L45T.contains (pT 3 3 c d e f)) = true := by decide +kernel
theorem chkT {a b c d e f : Nat} (ha : a < 4) (hb : b < 4) (hc : c < 4) (hd : d < 4) (he : e < 4) (hf : f < 4) : sumN (pT a b c d e f) ≤ 10 ∨ pT a b c d e f ∈ L45T := by
  have key : ∀ {q : Nat → Nat → Nat → Nat → List Nat}, (fours.all fun c => fours.all fun d => fours.all fun e => fours.all fun f => Nat.ble (sumN (q c d e f)) 10 || L45T.contains (q c d e f)) = true → sumN (q c d e f) ≤ 10 ∨ q c d e f ∈ L45T := fun {q} h => by
    simp only [List.all_eq_true] at h
    have h := h c (four_in hc) d (four_in hd) e (four_in he) f (four_in hf)
    rw [Bool.or_eq_true] at h
    rcases h with h | h
    · exact .inl (Nat.le_of_ble_eq_true h)
    · exact .inr (List.contains_iff_mem.1 h)
  have ea : a = 0 ∨ a = 1 ∨ a = 2 ∨ a = 3 := by omega
  have eb : b = 0 ∨ b = 1 ∨ b = 2 ∨ b = 3 := by omega
  rcases ea with rfl | rfl | rfl | rfl <;> rcases eb with rfl | rfl | rfl | rfl
  · exact key (q := pT 0 0) chkT00
  · exact key (q := pT 0 1) chkT01
  · exact key (q := pT 0 2) chkT02
  · exact key (q := pT 0 3) chkT03
  · exact key (q := pT 1 0) chkT10
  · exact key (q := pT 1 1) chkT11
  · exact key (q := pT 1 2) chkT12
  · exact key (q := pT 1 3) chkT13
  · exact key (q := pT 2 0) chkT20
  · exact key (q := pT 2 1) chkT21
  · exact key (q := pT 2 2) chkT22
  · exact key (q := pT 2 3) chkT23
  · exact key (q := pT 3 0) chkT30
  · exact key (q := pT 3 1) chkT31
  · exact key (q := pT 3 2) chkT32
  · exact key (q := pT 3 3) chkT33
theorem chkC00 : (fours.all fun c => fours.all fun d => fours.all fun e => fours.all fun f => Nat.ble (sumN (pC 0 0 c d e f)) 10 || L45C.contains (pC 0 0 c d e f)) = true := by decide +kernel
theorem chkC01 : (fours.all fun c => fours.all fun d => fours.all fun e => fours.all fun f => Nat.ble (sumN (pC 0 1 c d e f)) 10 || L45C.contains (pC 0 1 c d e f)) = true := by decide +kernel
theorem chkC02 : (fours.all fun c => fours.all fun d => fours.all fun e => fours.all fun f => Nat.ble (sumN (pC 0 2 c d e f)) 10 || L45C.contains (pC 0 2 c d e f)) = true := by decide +kernel
theorem chkC03 : (fours.all fun c => fours.all fun d => fours.all fun e => fours.all fun f => Nat.ble (sumN (pC 0 3 c d e f)) 10 || L45C.contains (pC 0 3 c d e f)) = true := by decide +kernel
theorem chkC10 : (fours.all fun c => fours.all fun d => fours.all fun e => fours.all fun f => Nat.ble (sumN (pC 1 0 c d e f)) 10 || L45C.contains (pC 1 0 c d e f)) = true := by decide +kernel
theorem chkC11 : (fours.all fun c => fours.all fun d => fours.all fun e => fours.all fun f => Nat.ble (sumN (pC 1 1 c d e f)) 10 || L45C.contains (pC 1 1 c d e f)) = true := by decide +kernel
theorem chkC12 : (fours.all fun c => fours.all fun d => fours.all fun e => fours.all fun f => Nat.ble (sumN (pC 1 2 c d e f)) 10 || L45C.contains (pC 1 2 c d e f)) = true := by decide +kernel
theorem chkC13 : (fours.all fun c => fours.all fun d => fours.all fun e => fours.all fun f => Nat.ble (sumN (pC 1 3 c d e f)) 10 || L45C.contains (pC 1 3 c d e f)) = true := by decide +kernel
theorem chkC20 : (fours.all fun c => fours.all fun d => fours.all fun e => fours.all fun f => Nat.ble (sumN (pC 2 0 c d e f)) 10 || L45C.contains (pC 2 0 c d e f)) = true := by decide +kernel
theorem chkC21 : (fours.all fun c => fours.all fun d => fours.all fun e => fours.all fun f => Nat.ble (sumN (pC 2 1 c d e f)) 10 || L45C.contains (pC 2 1 c d e f)) = true := by decide +kernel
theorem chkC22 : (fours.all fun c => fours.all fun d => fours.all fun e => fours.all fun f => Nat.ble (sumN (pC 2 2 c d e f)) 10 || L45C.contains (pC 2 2 c d e f)) = true := by decide +kernel
theorem chkC23 : (fours.all fun c => fours.all fun d => fours.all fun e => fours.all fun f => Nat.ble (sumN (pC 2 3 c d e f)) 10 || L45C.contains (pC 2 3 c d e f)) = true := by decide +kernel
theorem chkC30 : (fours.all fun c => fours.all fun d => fours.all fun e => fours.all fun f => Nat.ble (sumN (pC 3 0 c d e f)) 10 || L45C.contains (pC 3 0 c d e f)) = true := by decide +kernel
theorem chkC31 : (fours.all fun c => fours.all fun d => fours.all fun e => fours.all fun f => Nat.ble (sumN (pC 3 1 c d e f)) 10 || L45C.contains (pC 3 1 c d e f)) = true := by decide +kernel
theorem chkC32 : (fours.all fun c => fours.all fun d => fours.all fun e => fours.all fun f => Nat.ble (sumN (pC 3 2 c d e f)) 10 || L45C.contains (pC 3 2 c d e f)) = true := by decide +kernel
theorem chkC33 : (fours.all fun c => fours.all fun d => fours.all fun e => fours.all fun f => Nat.ble (sumN (pC 3 3 c d e f)) 10 || L45C.contains (pC 3 3 c d e f)) = true := by decide +kernel
theorem chkC {a b c d e f : Nat} (ha : a < 4) (hb : b < 4) (hc : c < 4) (hd : d < 4) (he : e < 4) (hf : f < 4) : sumN (pC a b c d e f) ≤ 10 ∨ pC a b c d e f ∈ L45C := by
  have key : ∀ {q : Nat → Nat → Nat → Nat → List Nat}, (fours.all fun c => fours.all fun d => fours.all fun e => fours.all fun f => Nat.ble (sumN (q c d e f)) 10 || L45C.contains (q c d e f)) = true → sumN (q c d e f) ≤ 10 ∨ q c d e f ∈ L45C := fun {q} h => by
    simp only [List.all_eq_true] at h
    have h := h c (four_in hc) d (four_in hd) e (four_in he) f (four_in hf)
    rw [Bool.or_eq_true] at h
    rcases h with h | h
    · exact .inl (Nat.le_of_ble_eq_true h)
    · exact .inr (List.contains_iff_mem.1 h)
  have ea : a = 0 ∨ a = 1 ∨ a = 2 ∨ a = 3 := by omega
  have eb : b = 0 ∨ b = 1 ∨ b = 2 ∨ b = 3 := by omega
  rcases ea with rfl | rfl | rfl | rfl <;> rcases eb with rfl | rfl | rfl | rfl
  · exact key (q := pC 0 0) chkC00
  · exact key (q := pC 0 1) chkC01
  · exact key (q := pC 0 2) chkC02
  · exact key (q := pC 0 3) chkC03
  · exact key (q := pC 1 0) chkC10
  · exact key (q := pC 1 1) chkC11
  · exact key (q := pC 1 2) chkC12
  · exact key (q := pC 1 3) chkC13
  · exact key (q := pC 2 0) chkC20
  · exact key (q := pC 2 1) chkC21
  · exact key (q := pC 2 2) chkC22
  · exact key (q := pC 2 3) chkC23
  · exact key (q := pC 3 0) chkC30
  · exact key (q := pC 3 1) chkC31
  · exact key (q := pC 3 2) chkC32
  · exact key (q := pC 3 3) chkC33
theorem ap3_le (x y z : Nat) : ap3 x y z ≤ 1 := by unfold ap3; split <;> decide
theorem dotN_le : ∀ X Y : List Nat, (∀ y ∈ Y, y ≤ 1) → dotN X Y ≤ sumN X
  | [], _, _ => by simp [dotN, sumN]
  | a :: X, [], _ => by simp [dotN]
  | a :: X, b :: Y, h => by
    have ih := dotN_le X Y fun y hy => h y (List.mem_cons_of_mem _ hy)
    have hb := h b List.mem_cons_self
    have : a * b ≤ a * 1 := Nat.mul_le_mul_left a hb
    show a * b + dotN X Y ≤ a + sumN X
    omega
theorem dotN_le2 : ∀ X Y : List Nat, (∀ y ∈ X, y ≤ 1) → dotN X Y ≤ sumN Y
  | [], _, _ => by simp [dotN]
  | a :: X, [], _ => by simp [dotN, sumN]
  | a :: X, b :: Y, h => by
    have ih := dotN_le2 X Y fun y hy => h y (List.mem_cons_of_mem _ hy)
    have hb := h a List.mem_cons_self
    have : a * b ≤ 1 * b := Nat.mul_le_mul_right b hb
    show a * b + dotN X Y ≤ b + sumN Y
    omega
theorem pT_one (a b c d e f : Nat) : ∀ y ∈ pT a b c d e f, y ≤ 1 := fun y hy => by
  unfold pT at hy
  simp only [List.mem_cons, List.not_mem_nil, or_false] at hy
  rcases hy with rfl | rfl | rfl | rfl | rfl | rfl | rfl | rfl | rfl | rfl | rfl | rfl | rfl | rfl | rfl | rfl | rfl | rfl | rfl | rfl <;> exact ap3_le _ _ _
theorem pC_one (a b c d e f : Nat) : ∀ y ∈ pC a b c d e f, y ≤ 1 := fun y hy => by
  unfold pC at hy
  simp only [List.mem_cons, List.not_mem_nil, or_false] at hy
  rcases hy with rfl | rfl | rfl | rfl | rfl | rfl | rfl | rfl | rfl | rfl | rfl | rfl | rfl | rfl | rfl | rfl | rfl | rfl | rfl | rfl <;> exact ap3_le _ _ _
theorem cnt_le {a b c d e f a' b' c' d' e' f' : Nat} (ha : a < 4) (hb : b < 4) (hc : c < 4) (hd : d < 4) (he : e < 4) (hf : f < 4) (ha' : a' < 4) (hb' : b' < 4) (hc' : c' < 4) (hd' : d' < 4) (he' : e' < 4) (hf' : f' < 4) : dotN (pT a b c d e f) (pC a' b' c' d' e' f') ≤ 10 := by
  rcases chkT ha hb hc hd he hf with h | h
  · exact Nat.le_trans (dotN_le _ _ (pC_one _ _ _ _ _ _)) h
  · rcases chkC ha' hb' hc' hd' he' hf' with h' | h'
    · exact Nat.le_trans (dotN_le2 _ _ (pT_one _ _ _ _ _ _)) h'
    · have k := chk45
      simp only [List.all_eq_true] at k
      exact Nat.le_of_ble_eq_true (k _ h _ h')
theorem d3_ap {u v w : Nat → Int} (hu : PM u) (hv : PM v) (hw : PM w) : -4 ≤ d3 u v w ∧ d3 u v w ≤ 4 ∧ (ap3 (cls u 0) (cls v 0) (cls w 0) = 0 → d3 u v w = 0) := by
  have tr : ∀ {z : Nat → Int}, PM z → ∀ i, i < 3 → -1 ≤ z i ∧ z i ≤ 1 := fun hz i hi => by have := hz i (by omega); omega
  obtain ⟨h1, h2⟩ := d3_bd (tr hu) (tr hv) (tr hw)
  refine ⟨h1, h2, fun h => ?_⟩
  unfold ap3 at h
  split at h
  · rename_i hc
    simp only [Bool.or_eq_true] at hc
    rcases hc with (hc | hc) | hc
    · exact cls_par hu hv (Nat.eq_of_beq_eq_true hc)
    · have := cls_par (w := v) hu hw (Nat.eq_of_beq_eq_true hc)
      rw [d3_23] at this
      omega
    · have := cls_par (w := u) hv hw (Nat.eq_of_beq_eq_true hc)
      rw [d3_231] at this
      exact this
  · cases h
def lw (u : Nat → Int) : Nat → Int := fun i => if i < 3 then u (i + 3) else 1
theorem lw_pm {u : Nat → Int} (h : PM u) : PM (lw u) := fun i hi => by
  unfold lw
  split
  · exact h _ (by omega)
  · exact .inl rfl
theorem e3_lw (u v w : Nat → Int) : e3 u v w = d3 (lw u) (lw v) (lw w) := by unfold e3 d3 lw; simp
theorem term_bd {m n : Int} {a b : Nat} (hm : -4 ≤ m ∧ m ≤ 4 ∧ (a = 0 → m = 0)) (hn : -4 ≤ n ∧ n ≤ 4 ∧ (b = 0 → n = 0)) (ha : a ≤ 1) (hb : b ≤ 1) : -(16 * ((a * b : Nat) : Int)) ≤ m * n ∧ m * n ≤ 16 * ((a * b : Nat) : Int) := by
  obtain ⟨p1, p2⟩ := prod_bd ⟨hm.1, hm.2.1⟩ ⟨hn.1, hn.2.1⟩
  have ea : a = 0 ∨ a = 1 := by omega
  have eb : b = 0 ∨ b = 1 := by omega
  rcases ea with rfl | rfl
  · rw [hm.2.2 rfl, Int.zero_mul, Nat.zero_mul]; decide
  · rcases eb with rfl | rfl
    · rw [hn.2.2 rfl, Int.mul_zero, Nat.mul_zero]; decide
    · show -(16 * (1 : Int)) ≤ m * n ∧ m * n ≤ 16 * (1 : Int)
      omega
theorem d6_signs {u0 u1 u2 u3 u4 u5 : Nat → Int} (h0 : PM u0) (h1 : PM u1) (h2 : PM u2) (h3 : PM u3) (h4 : PM u4) (h5 : PM u5) : -160 ≤ d6 u0 u1 u2 u3 u4 u5 ∧ d6 u0 u1 u2 u3 u4 u5 ≤ 160 := by
  have hc := cnt_le (cls_lt u0 0) (cls_lt u1 0) (cls_lt u2 0) (cls_lt u3 0) (cls_lt u4 0) (cls_lt u5 0) (cls_lt (lw u0) 0) (cls_lt (lw u1) 0) (cls_lt (lw u2) 0) (cls_lt (lw u3) 0) (cls_lt (lw u4) 0) (cls_lt (lw u5) 0)
  simp only [pT, pC, dotN] at hc
  rw [d6_lap]
  simp only [e3_lw]
  have t0 := term_bd (d3_ap h0 h1 h2) (d3_ap (lw_pm h3) (lw_pm h4) (lw_pm h5)) (ap3_le _ _ _) (ap3_le _ _ _)
  have t1 := term_bd (d3_ap h0 h1 h3) (d3_ap (lw_pm h2) (lw_pm h4) (lw_pm h5)) (ap3_le _ _ _) (ap3_le _ _ _)
  have t2 := term_bd (d3_ap h0 h1 h4) (d3_ap (lw_pm h2) (lw_pm h3) (lw_pm h5)) (ap3_le _ _ _) (ap3_le _ _ _)
  have t3 := term_bd (d3_ap h0 h1 h5) (d3_ap (lw_pm h2) (lw_pm h3) (lw_pm h4)) (ap3_le _ _ _) (ap3_le _ _ _)
  have t4 := term_bd (d3_ap h0 h2 h3) (d3_ap (lw_pm h1) (lw_pm h4) (lw_pm h5)) (ap3_le _ _ _) (ap3_le _ _ _)
  have t5 := term_bd (d3_ap h0 h2 h4) (d3_ap (lw_pm h1) (lw_pm h3) (lw_pm h5)) (ap3_le _ _ _) (ap3_le _ _ _)
  have t6 := term_bd (d3_ap h0 h2 h5) (d3_ap (lw_pm h1) (lw_pm h3) (lw_pm h4)) (ap3_le _ _ _) (ap3_le _ _ _)
  have t7 := term_bd (d3_ap h0 h3 h4) (d3_ap (lw_pm h1) (lw_pm h2) (lw_pm h5)) (ap3_le _ _ _) (ap3_le _ _ _)
  have t8 := term_bd (d3_ap h0 h3 h5) (d3_ap (lw_pm h1) (lw_pm h2) (lw_pm h4)) (ap3_le _ _ _) (ap3_le _ _ _)
  have t9 := term_bd (d3_ap h0 h4 h5) (d3_ap (lw_pm h1) (lw_pm h2) (lw_pm h3)) (ap3_le _ _ _) (ap3_le _ _ _)
  have t10 := term_bd (d3_ap h1 h2 h3) (d3_ap (lw_pm h0) (lw_pm h4) (lw_pm h5)) (ap3_le _ _ _) (ap3_le _ _ _)
  have t11 := term_bd (d3_ap h1 h2 h4) (d3_ap (lw_pm h0) (lw_pm h3) (lw_pm h5)) (ap3_le _ _ _) (ap3_le _ _ _)
  have t12 := term_bd (d3_ap h1 h2 h5) (d3_ap (lw_pm h0) (lw_pm h3) (lw_pm h4)) (ap3_le _ _ _) (ap3_le _ _ _)
  have t13 := term_bd (d3_ap h1 h3 h4) (d3_ap (lw_pm h0) (lw_pm h2) (lw_pm h5)) (ap3_le _ _ _) (ap3_le _ _ _)
  have t14 := term_bd (d3_ap h1 h3 h5) (d3_ap (lw_pm h0) (lw_pm h2) (lw_pm h4)) (ap3_le _ _ _) (ap3_le _ _ _)
  have t15 := term_bd (d3_ap h1 h4 h5) (d3_ap (lw_pm h0) (lw_pm h2) (lw_pm h3)) (ap3_le _ _ _) (ap3_le _ _ _)
  have t16 := term_bd (d3_ap h2 h3 h4) (d3_ap (lw_pm h0) (lw_pm h1) (lw_pm h5)) (ap3_le _ _ _) (ap3_le _ _ _)
  have t17 := term_bd (d3_ap h2 h3 h5) (d3_ap (lw_pm h0) (lw_pm h1) (lw_pm h4)) (ap3_le _ _ _) (ap3_le _ _ _)
  have t18 := term_bd (d3_ap h2 h4 h5) (d3_ap (lw_pm h0) (lw_pm h1) (lw_pm h3)) (ap3_le _ _ _) (ap3_le _ _ _)
  have t19 := term_bd (d3_ap h3 h4 h5) (d3_ap (lw_pm h0) (lw_pm h1) (lw_pm h2)) (ap3_le _ _ _) (ap3_le _ _ _)
  generalize ap3 (cls u0 0) (cls u1 0) (cls u2 0) * ap3 (cls (lw u3) 0) (cls (lw u4) 0) (cls (lw u5) 0) = c0 at *
  generalize ap3 (cls u0 0) (cls u1 0) (cls u3 0) * ap3 (cls (lw u2) 0) (cls (lw u4) 0) (cls (lw u5) 0) = c1 at *
  generalize ap3 (cls u0 0) (cls u1 0) (cls u4 0) * ap3 (cls (lw u2) 0) (cls (lw u3) 0) (cls (lw u5) 0) = c2 at *
  generalize ap3 (cls u0 0) (cls u1 0) (cls u5 0) * ap3 (cls (lw u2) 0) (cls (lw u3) 0) (cls (lw u4) 0) = c3 at *
  generalize ap3 (cls u0 0) (cls u2 0) (cls u3 0) * ap3 (cls (lw u1) 0) (cls (lw u4) 0) (cls (lw u5) 0) = c4 at *
  generalize ap3 (cls u0 0) (cls u2 0) (cls u4 0) * ap3 (cls (lw u1) 0) (cls (lw u3) 0) (cls (lw u5) 0) = c5 at *
  generalize ap3 (cls u0 0) (cls u2 0) (cls u5 0) * ap3 (cls (lw u1) 0) (cls (lw u3) 0) (cls (lw u4) 0) = c6 at *
  generalize ap3 (cls u0 0) (cls u3 0) (cls u4 0) * ap3 (cls (lw u1) 0) (cls (lw u2) 0) (cls (lw u5) 0) = c7 at *
  generalize ap3 (cls u0 0) (cls u3 0) (cls u5 0) * ap3 (cls (lw u1) 0) (cls (lw u2) 0) (cls (lw u4) 0) = c8 at *
  generalize ap3 (cls u0 0) (cls u4 0) (cls u5 0) * ap3 (cls (lw u1) 0) (cls (lw u2) 0) (cls (lw u3) 0) = c9 at *
  generalize ap3 (cls u1 0) (cls u2 0) (cls u3 0) * ap3 (cls (lw u0) 0) (cls (lw u4) 0) (cls (lw u5) 0) = c10 at *
  generalize ap3 (cls u1 0) (cls u2 0) (cls u4 0) * ap3 (cls (lw u0) 0) (cls (lw u3) 0) (cls (lw u5) 0) = c11 at *
  generalize ap3 (cls u1 0) (cls u2 0) (cls u5 0) * ap3 (cls (lw u0) 0) (cls (lw u3) 0) (cls (lw u4) 0) = c12 at *
  generalize ap3 (cls u1 0) (cls u3 0) (cls u4 0) * ap3 (cls (lw u0) 0) (cls (lw u2) 0) (cls (lw u5) 0) = c13 at *
  generalize ap3 (cls u1 0) (cls u3 0) (cls u5 0) * ap3 (cls (lw u0) 0) (cls (lw u2) 0) (cls (lw u4) 0) = c14 at *
  generalize ap3 (cls u1 0) (cls u4 0) (cls u5 0) * ap3 (cls (lw u0) 0) (cls (lw u2) 0) (cls (lw u3) 0) = c15 at *
  generalize ap3 (cls u2 0) (cls u3 0) (cls u4 0) * ap3 (cls (lw u0) 0) (cls (lw u1) 0) (cls (lw u5) 0) = c16 at *
  generalize ap3 (cls u2 0) (cls u3 0) (cls u5 0) * ap3 (cls (lw u0) 0) (cls (lw u1) 0) (cls (lw u4) 0) = c17 at *
  generalize ap3 (cls u2 0) (cls u4 0) (cls u5 0) * ap3 (cls (lw u0) 0) (cls (lw u1) 0) (cls (lw u3) 0) = c18 at *
  generalize ap3 (cls u3 0) (cls u4 0) (cls u5 0) * ap3 (cls (lw u0) 0) (cls (lw u1) 0) (cls (lw u2) 0) = c19 at *
  simp only [Int.neg_mul]
  generalize d3 u0 u1 u2 * d3 (lw u3) (lw u4) (lw u5) = p0 at *
  generalize d3 u0 u1 u3 * d3 (lw u2) (lw u4) (lw u5) = p1 at *
  generalize d3 u0 u1 u4 * d3 (lw u2) (lw u3) (lw u5) = p2 at *
  generalize d3 u0 u1 u5 * d3 (lw u2) (lw u3) (lw u4) = p3 at *
  generalize d3 u0 u2 u3 * d3 (lw u1) (lw u4) (lw u5) = p4 at *
  generalize d3 u0 u2 u4 * d3 (lw u1) (lw u3) (lw u5) = p5 at *
  generalize d3 u0 u2 u5 * d3 (lw u1) (lw u3) (lw u4) = p6 at *
  generalize d3 u0 u3 u4 * d3 (lw u1) (lw u2) (lw u5) = p7 at *
  generalize d3 u0 u3 u5 * d3 (lw u1) (lw u2) (lw u4) = p8 at *
  generalize d3 u0 u4 u5 * d3 (lw u1) (lw u2) (lw u3) = p9 at *
  generalize d3 u1 u2 u3 * d3 (lw u0) (lw u4) (lw u5) = p10 at *
  generalize d3 u1 u2 u4 * d3 (lw u0) (lw u3) (lw u5) = p11 at *
  generalize d3 u1 u2 u5 * d3 (lw u0) (lw u3) (lw u4) = p12 at *
  generalize d3 u1 u3 u4 * d3 (lw u0) (lw u2) (lw u5) = p13 at *
  generalize d3 u1 u3 u5 * d3 (lw u0) (lw u2) (lw u4) = p14 at *
  generalize d3 u1 u4 u5 * d3 (lw u0) (lw u2) (lw u3) = p15 at *
  generalize d3 u2 u3 u4 * d3 (lw u0) (lw u1) (lw u5) = p16 at *
  generalize d3 u2 u3 u5 * d3 (lw u0) (lw u1) (lw u4) = p17 at *
  generalize d3 u2 u4 u5 * d3 (lw u0) (lw u1) (lw u3) = p18 at *
  generalize d3 u3 u4 u5 * d3 (lw u0) (lw u1) (lw u2) = p19 at *
  omega
theorem d6_160 {u0 u1 u2 u3 u4 u5 : Nat → Int} (h0 : TR u0) (h1 : TR u1) (h2 : TR u2) (h3 : TR u3) (h4 : TR u4) (h5 : TR u5) : -160 ≤ d6 u0 u1 u2 u3 u4 u5 ∧ d6 u0 u1 u2 u3 u4 u5 ≤ 160 := by
  obtain ⟨s0, k0, a0, b0⟩ := d6_pm0 u0 u1 u2 u3 u4 u5 h0
  obtain ⟨s1, k1, a1, b1⟩ := d6_pm1 u1 s0 u2 u3 u4 u5 h1
  obtain ⟨s2, k2, a2, b2⟩ := d6_pm2 u2 s0 s1 u3 u4 u5 h2
  obtain ⟨s3, k3, a3, b3⟩ := d6_pm3 u3 s0 s1 s2 u4 u5 h3
  obtain ⟨s4, k4, a4, b4⟩ := d6_pm4 u4 s0 s1 s2 s3 u5 h4
  obtain ⟨s5, k5, a5, b5⟩ := d6_pm5 u5 s0 s1 s2 s3 s4 h5
  obtain ⟨z1, z2⟩ := d6_signs k0 k1 k2 k3 k4 k5
  omega
end Go.Proofs.Ytfnomiingelfaaa
/- More unknowns than equations: one solution that is not zero. Plain words. Speaks of no program. -/
namespace Go.Proofs.Ytfnomiingelfaaa

def overJ (j0 j : Nat) : Nat := if j < j0 then j else j + 1
theorem sum_over (f : Nat → Int) (j0 : Nat) : ∀ n, j0 ≤ n → sumTo f (n + 1) = f j0 + sumTo (fun j => f (overJ j0 j)) n
  | 0, h => by
    obtain rfl : j0 = 0 := by omega
    show sumTo f 0 + f 0 = f 0 + 0
    show (0 : Int) + f 0 = _
    omega
  | n + 1, h => by
    by_cases e : j0 ≤ n
    · have ih := sum_over f j0 n e
      show sumTo f (n + 1) + f (n + 1) = f j0 + (sumTo (fun j => f (overJ j0 j)) n + f (overJ j0 n))
      rw [ih, show overJ j0 n = n + 1 by unfold overJ; rw [if_neg (by omega)]]
      omega
    · obtain rfl : j0 = n + 1 := by omega
      show sumTo f (n + 1) + f (n + 1) = _
      rw [sumTo_congr (f := fun j => f (overJ (n + 1) j)) (g := f) (n + 1) fun i hi => by show f (overJ (n + 1) i) = f i; unfold overJ; rw [if_pos hi]]
      omega
theorem more_unknowns : ∀ (R N : Nat) (c : Nat → Nat → Int), R < N → ∃ w : Nat → Int, (∃ j, j < N ∧ w j ≠ 0) ∧ ∀ i, i < R → sumTo (fun j => c i j * w j) N = 0
  | 0, N, c, h => ⟨fun _ => 1, ⟨0, h, by decide⟩, fun i hi => absurd hi (by omega)⟩
  | R + 1, N, c, h => by
    by_cases hz : ∀ j, j < N → c R j = 0
    · obtain ⟨w, h1, h2⟩ := more_unknowns R N c (by omega)
      refine ⟨w, h1, fun i hi => ?_⟩
      by_cases e : i = R
      · subst e
        rw [sumTo_congr (g := fun _ => 0 * (0 : Int)) N fun j hj => by show c i j * w j = 0 * 0; rw [hz j hj]; omega, sumTo_mul]; omega
      · exact h2 i (by omega)
    · obtain ⟨j0, hj0, hc⟩ : ∃ j0, j0 < N ∧ c R j0 ≠ 0 := by
        apply Classical.byContradiction
        intro hn
        exact hz fun j hj => Classical.byContradiction fun e => hn ⟨j, hj, e⟩
      obtain ⟨n, rfl⟩ : ∃ n, N = n + 1 := ⟨N - 1, by omega⟩
      obtain ⟨w, ⟨j1, hj1, hw1⟩, h2⟩ := more_unknowns R n (fun i j => c R j0 * c i (overJ j0 j) - c i j0 * c R (overJ j0 j)) (by omega)
      let S := sumTo (fun j => c R (overJ j0 j) * w j) n
      let v : Nat → Int := fun j => if j = j0 then -S else c R j0 * w (if j < j0 then j else j - 1)
      have v0 : v j0 = -S := if_pos rfl
      have v1 : ∀ j, v (overJ j0 j) = c R j0 * w j := fun j => by
        show (if overJ j0 j = j0 then -S else _) = _
        unfold overJ
        by_cases e : j < j0
        · rw [if_pos e, if_neg (by omega), if_pos e]
        · rw [if_neg e, if_neg (by omega), if_neg (by omega), Nat.add_sub_cancel]
      have key : ∀ i, sumTo (fun j => c i j * v j) (n + 1) = -(c i j0 * S) + c R j0 * sumTo (fun j => c i (overJ j0 j) * w j) n := fun i => by
        rw [sum_over _ j0 n (by omega), v0]
        congr 1
        · exact Int.mul_neg _ _
        · rw [← sumTo_mul]
          exact sumTo_congr n fun j _ => by show c i (overJ j0 j) * v (overJ j0 j) = _; rw [v1, Int.mul_left_comm]
      refine ⟨v, ⟨overJ j0 j1, by unfold overJ; split <;> omega, by rw [v1]; exact Int.mul_ne_zero hc hw1⟩, fun i hi => ?_⟩
      rw [key]
      by_cases e : i = R
      · subst e
        show -(c i j0 * S) + c i j0 * S = 0
        omega
      · have h3 := h2 i (by omega)
        have e2 : sumTo (fun j => (c R j0 * c i (overJ j0 j) - c i j0 * c R (overJ j0 j)) * w j) n = c R j0 * sumTo (fun j => c i (overJ j0 j) * w j) n + -(c i j0 * S) := by
          rw [show -(c i j0 * S) = -(c i j0) * S from (Int.neg_mul _ _).symm, ← sumTo_mul, ← sumTo_mul, ← sumTo_add]
          refine sumTo_congr n fun j _ => ?_
          show (c R j0 * c i (overJ j0 j) - c i j0 * c R (overJ j0 j)) * w j = c R j0 * (c i (overJ j0 j) * w j) + -(c i j0) * (c R (overJ j0 j) * w j)
          rw [Int.sub_mul, Int.mul_assoc, Int.mul_assoc, Int.neg_mul]; omega
        have h3 : sumTo (fun j => (c R j0 * c i (overJ j0 j) - c i j0 * c R (overJ j0 j)) * w j) n = 0 := h3
        omega
end Go.Proofs.Ytfnomiingelfaaa
/- within and there of layer 3; within, million and nothing of its answers; small and long of its statements: contracts. -/
namespace Go.Proofs.Ytfnomiingelfaaa
open Go.RowKit

set_option maxRecDepth 100000 in
theorem lwithin_any (a : Option Addr) (xs : List Int) (cap : Nat) (lim : Int) (w : World) (h0 : 0 ≤ lim) (h1 : lim ≤ 1000000000) (hl : xs.length ≤ 9223372036854775807) (hs : Sl w a xs) :
    Calls Try.prog 99 #[.slice a xs.length cap, .int .i64 lim] w fun e w' => e = .returned (.bool (allB lim xs)) ∧ w = w' := by
  have HS := Lib.hid hs; clear hs
  go_enter Try.func99, Try.ntmps99
  go_wp2
  go_loopw [9] (fun i wr => ∃ k : Nat, k ≤ xs.length ∧ i = .int .i64 k ∧ wr = w ∧ ∀ j, j < k → outB lim (xs[j]?.getD 0) = false) (fun i _ => xs.length - (intOf i).toNat)
  case atStart => exact ⟨0, Nat.zero_le _, rfl, rfl, fun j h => by omega⟩
  case round =>
    obtain ⟨k, hk, rfl, rfl, hno⟩ := hrel
    have HN := Lib.hid hno; clear hno
    by_cases hlt : k < xs.length
    · obtain ⟨b, o, x, rfl, hc, hx⟩ := HS.out.at hlt
      by_cases hlo : x < -lim
      · have HO : Hid (outB lim x = true) := by show _ = _; simp [outB, hlo]
        go_wp2
        go_ret
        exact ⟨ret_bool (allB_no hx.out HO.out).symm, rfl⟩
      · by_cases hhi : lim < x
        · have HO : Hid (outB lim x = true) := by show _ = _; simp [outB, hhi]
          go_wp2
          go_ret
          exact ⟨ret_bool (allB_no hx.out HO.out).symm, rfl⟩
        · have HO : Hid (outB lim x = false) := by show _ = _; simp [outB, hlo, hhi]
          have HX : Hid (xs[k]?.getD 0 = x) := by show _ = _; rw [hx.out]; rfl
          clear hx
          go_wp2
          go_roundw
          case rel => exact ⟨k + 1, by omega, by go_num, by first | trivial | rfl, fun j hj => by
            by_cases e : j = k
            · subst e; rw [HX.out]; exact HO.out
            · exact HN.out j (by omega)⟩
          case measure => simp [intOf]; omega
    · obtain rfl : k = xs.length := by omega
      go_wp2
      go_ret
      exact ⟨ret_bool (allB_yes HN.out).symm, rfl⟩
set_option maxRecDepth 100000 in
theorem lthere_any (a : Option Addr) (m : List (List Int)) (cap : Nat) (j : Int) (w : World) (hv : validM m = true) (hs : Ms w a m) :
    Calls Try.prog 106 #[.slice a m.length cap, .int .i64 j] w fun e w' => e = .returned (.bool (thereB m j)) ∧ w = w' := by
  have hm1 := (validM_of hv).1
  obtain ⟨b, o, ai, r, ci, rfl, hc, _, hr⟩ := hs.at (show 0 < m.length from hm1)
  rw [Nat.add_zero] at hc
  have HC : Hid (r.length = colsM m) := (validM_row hv hr.out).1
  clear hs hv hr
  by_cases h1 : 0 ≤ j
  · by_cases h2 : j < r.length
    · have HT : Hid (thereB m j = true) := by show _ = _; unfold thereB; rw [← HC.out]; simp [h1, h2]
      go_enter Try.func106, Try.ntmps106
      go_wp2
      go_ret
      exact ⟨ret_bool HT.out.symm, rfl⟩
    · have HT : Hid (thereB m j = false) := by show _ = _; unfold thereB; rw [← HC.out]; simp [h2]
      go_enter Try.func106, Try.ntmps106
      go_wp2
      go_ret
      exact ⟨ret_bool HT.out.symm, rfl⟩
  · have HT : Hid (thereB m j = false) := by show _ = _; unfold thereB; simp [h1]
    go_enter Try.func106, Try.ntmps106
    go_wp2
    go_ret
    exact ⟨ret_bool HT.out.symm, rfl⟩
def allZ (xs : List Int) : Bool := xs.all fun x => x == 0
theorem allZ_no {xs : List Int} {k : Nat} {x : Int} (hx : xs[k]? = some x) (h : x ≠ 0) : allZ xs = false := by
  unfold allZ; rw [List.all_eq_false]; exact ⟨x, List.mem_of_getElem? hx, by simpa using h⟩
theorem allZ_yes {xs : List Int} (h : ∀ j, j < xs.length → xs[j]?.getD 0 = 0) : allZ xs = true := by
  unfold allZ; rw [List.all_eq_true]
  intro x hx
  obtain ⟨j, hj, rfl⟩ := List.mem_iff_getElem.1 hx
  have := h j hj
  simpa [hj] using this
end Go.Proofs.Ytfnomiingelfaaa
/- What asks masks and lists for their ranges in the answers of layer 2: contracts. -/
namespace Go.Proofs.Ytfnomiingelfaaa
open Go.RowKit

theorem mwithin_any (n lo hi : Int) (w : World) :
    Calls Try.prog 58 #[.int .i64 n, .int .i64 lo, .int .i64 hi] w fun e w' => e = .returned (.bool (rangeB n lo hi)) ∧ w = w' := by
  go_enter Try.func58, Try.ntmps58
  go_wp2
  all_goals go_ret
  all_goals exact ⟨ret_bool (by first | (simp [rangeB, *]; done) | (simp [rangeB]; omega)), rfl⟩
theorem rowB_no {r : List Int} (h : allB 1 r = false) : rowB r = false := by unfold rowB; rw [h, Bool.and_false]
theorem rrow_any (a : Option Addr) (r : List Int) (cap : Nat) (w : World) (hl : r.length ≤ 9223372036854775807) (hs : Sl w a r) :
    Calls Try.prog 57 #[.slice a r.length cap] w fun e w' => e = .returned (.bool (rowB r)) ∧ w = w' := by
  have HS := Lib.hid hs; clear hs
  go_enter Try.func57, Try.ntmps57
  go_wp2
  go_loop [7] (fun i => ∃ k : Nat, k ≤ r.length ∧ i = .int .i64 k ∧ ∀ j, j < k → outB 1 (r[j]?.getD 0) = false) (fun i => r.length - (intOf i).toNat)
  case atStart => exact ⟨0, Nat.zero_le _, rfl, fun j h => by omega⟩
  case round =>
    obtain ⟨k, hk, rfl, hno⟩ := hrel
    have HN := Lib.hid hno; clear hno
    by_cases hlt : k < r.length
    · obtain ⟨b, off, x, rfl, hcell, HX⟩ := HS.out.at hlt
      cases ho : outB 1 x
      · have hr : rangeB x (-1) 1 = true := by simp [outB] at ho; simp [rangeB]; omega
        go_wp2_with (go_at_call 58; refine (mwithin_any _ _ _ _).mono ?_; rintro e w' ⟨rfl, rfl⟩)
        go_round
        case rel => exact ⟨k + 1, by omega, by go_num, fun j hj => by
            by_cases hj' : j = k
            · subst hj'; rw [HX.out]; exact ho
            · exact HN.out j (by omega)⟩
        case measure => simp [intOf]; omega
      · have hr : rangeB x (-1) 1 = false := by simp [outB] at ho; simp [rangeB]; omega
        go_wp2_with (go_at_call 58; refine (mwithin_any _ _ _ _).mono ?_; rintro e w' ⟨rfl, rfl⟩)
        go_ret
        exact ⟨ret_bool (rowB_no (allB_no HX.out ho)).symm, rfl⟩
    · have HY : Hid (rowB r = rangeB r.length 1 10) := by
        show rowB r = _
        unfold rowB; rw [allB_yes (fun j hj => HN.out j (by omega)), Bool.and_true]
      go_wp2_with (go_at_call 58; refine (mwithin_any _ _ _ _).mono ?_; rintro e w' ⟨rfl, rfl⟩)
      go_ret
      exact ⟨ret_bool HY.out.symm, rfl⟩
theorem rvalid_any (a : Option Addr) (m : List (List Int)) (cap : Nat) (w : World) (hm : MOk m) (hs : Ms w a m) :
    Calls Try.prog 34 #[.slice a m.length cap] w fun e w' => e = .returned (.bool (validM m)) ∧ w = w' := by
  have HM := Lib.hid hm
  have hml := hm.1
  clear hm
  have HS := Lib.hid hs; clear hs
  go_enter Try.func34, Try.ntmps34
  go_wp2
  go_loop [7] (fun i => ∃ k : Nat, k ≤ m.length ∧ i = .int .i64 k ∧ (∀ j, j < k → (decide ((m[j]?.getD []).length = colsM m) && rowB (m[j]?.getD [])) = true)) (fun i => m.length - (intOf i).toNat)
  case atStart => exact ⟨0, Nat.zero_le _, rfl, fun j h => by omega⟩
  case round =>
    obtain ⟨k, hk, rfl, hno⟩ := hrel
    have HN := Lib.hid hno; clear hno
    by_cases hlt : k < m.length
    · obtain ⟨b, off, ai, r, ci, rfl, hcell, hsl, HX⟩ := HS.out.at hlt
      obtain ⟨b0, o0, a0, c0, he, hcell0⟩ := row0 HS.out (by omega)
      obtain ⟨rfl, rfl⟩ : b = b0 ∧ off = o0 := by simpa using he
      clear he
      have HSL := Lib.hid hsl; clear hsl
      have hrl := (HM.out.row HX.out).1
      cases hr : rowB r
      · go_wp2_with (go_at_call 57; refine (rrow_any _ _ _ _ hrl HSL.out).mono ?_; rintro e w' ⟨rfl, rfl⟩)
        go_ret
        exact ⟨ret_bool (validM_no HX.out (by rw [hr, Bool.and_false])).symm, rfl⟩
      · by_cases hc : r.length = colsM m
        · have hb : ((r.length : Int) != (colsM m : Int)) = false := by simp [hc]
          have HC := Lib.hid hc; clear hc
          go_wp2_with (go_at_call 57; refine (rrow_any _ _ _ _ hrl HSL.out).mono ?_; rintro e w' ⟨rfl, rfl⟩)
          go_round
          case rel => exact ⟨k + 1, by omega, by go_num, fun j hj => by
              by_cases hj' : j = k
              · subst hj'; rw [HX.out]; show (decide (r.length = colsM m) && rowB r) = true; rw [hr]; simp [HC.out]
              · exact HN.out j (by omega)⟩
          case measure => simp [intOf]; omega
        · have hb : ((r.length : Int) != (colsM m : Int)) = true := by simp; omega
          have HC : Hid ((decide (r.length = colsM m) && rowB r) = false) := by show (decide (r.length = colsM m) && rowB r) = false; simp [hc]
          clear hc
          go_wp2_with (go_at_call 57; refine (rrow_any _ _ _ _ hrl HSL.out).mono ?_; rintro e w' ⟨rfl, rfl⟩)
          go_ret
          exact ⟨ret_bool (validM_no HX.out HC.out).symm, rfl⟩
    · have HY : Hid (validM m = rangeB m.length 1 6) := by
        show validM m = _
        by_cases hR : rangeB m.length 1 6 = true
        · rw [hR]; exact validM_yes hR (fun j hj => HN.out j (by omega))
        · have hR' : rangeB m.length 1 6 = false := by simpa using hR
          unfold validM; rw [hR', Bool.false_and]
      go_wp2_with (go_at_call 58; refine (mwithin_any _ _ _ _).mono ?_; rintro e w' ⟨rfl, rfl⟩)
      go_ret
      exact ⟨ret_bool HY.out.symm, rfl⟩
theorem rlisted_any (a : Option Addr) (xs : List Int) (cap : Nat) (n lim : Int) (h0 : 0 ≤ lim) (h1 : lim ≤ 1000000000) (w : World) (hl : xs.length ≤ 9223372036854775807) (hs : Sl w a xs) :
    Calls Try.prog 49 #[.slice a xs.length cap, .int .i64 n, .int .i64 lim] w fun e w' => e = .returned (.int .i64 (fitsV xs n lim)) ∧ w = w' := by
  have HS := Lib.hid hs; clear hs
  by_cases hn : (xs.length : Int) = n
  · have HN : Hid (fitsV xs n lim = if allB lim xs = true then 0 else 7) := by show fitsV xs n lim = _; unfold fitsV; rw [if_pos hn]
    have hb : ((xs.length : Int) == n) = true := by simpa using hn
    have hb' : ((xs.length : Int) != n) = false := by simpa using hn
    clear hn
    go_enter Try.func49, Try.ntmps49
    go_wp2
    go_loop [15] (fun i => ∃ k : Nat, k ≤ xs.length ∧ i = .int .i64 k ∧ ∀ j, j < k → outB lim (xs[j]?.getD 0) = false) (fun i => xs.length - (intOf i).toNat)
    case atStart => exact ⟨0, Nat.zero_le _, rfl, fun j h => by omega⟩
    case round =>
      obtain ⟨k, hk, rfl, hno⟩ := hrel
      have HO := Lib.hid hno; clear hno
      by_cases hlt : k < xs.length
      · obtain ⟨b, off, x, rfl, hcell, HX⟩ := HS.out.at hlt
        cases ho : outB lim x
        · have hr : rangeB x (-lim) lim = true := by simp [outB] at ho; simp [rangeB]; omega
          go_wp2_with (go_at_call 58; refine (mwithin_any _ _ _ _).mono ?_; rintro e w' ⟨rfl, rfl⟩)
          go_round
          case rel => exact ⟨k + 1, by omega, by go_num, fun j hj => by
              by_cases hj' : j = k
              · subst hj'; rw [HX.out]; exact ho
              · exact HO.out j (by omega)⟩
          case measure => simp [intOf]; omega
        · have hr : rangeB x (-lim) lim = false := by simp [outB] at ho; simp [rangeB]; omega
          go_wp2_with (go_at_call 58; refine (mwithin_any _ _ _ _).mono ?_; rintro e w' ⟨rfl, rfl⟩)
          go_ret
          exact ⟨ret_i64 (by rw [HN.out, allB_no HX.out ho]; rfl), rfl⟩
      · have HY : Hid (fitsV xs n lim = 0) := by show fitsV xs n lim = 0; rw [HN.out, allB_yes (fun j hj => HO.out j (by omega))]; rfl
        go_wp2
        go_ret
        exact ⟨ret_i64 HY.out.symm, rfl⟩
  · have HN : Hid (fitsV xs n lim = 9) := by show fitsV xs n lim = _; unfold fitsV; rw [if_neg hn]
    have hb : ((xs.length : Int) == n) = false := by simpa using hn
    have hb' : ((xs.length : Int) != n) = true := by simpa using hn
    clear hn
    go_enter Try.func49, Try.ntmps49
    go_wp2
    go_ret
    exact ⟨ret_i64 HN.out.symm, rfl⟩
theorem rshown_any (a : Option Addr) (m : List (List Int)) (cap : Nat) (b : Option Addr) (xs : List Int) (c : Nat) (w : World) (hm : MOk m) (hl : xs.length ≤ 9223372036854775807) (hs : Ms w a m) (hx : Sl w b xs) :
    Calls Try.prog 24 #[.slice a m.length cap, .slice b xs.length c] w fun e w' => e = .returned (.bool (shownM m xs)) ∧ w = w' := by
  have HM := Lib.hid hm; clear hm
  have HS := Lib.hid hs; clear hs
  have HX := Lib.hid hx; clear hx
  have HD : Hid (shownM m xs = (validM m && decide (fitsV xs (colsM m) 1000000 = 0))) := Lib.hid rfl
  cases hv : validM m
  · rw [hv] at HD
    go_enter Try.func24, Try.ntmps24
    go_wp2_with (go_at_call 34; refine (rvalid_any _ _ _ _ HM.out HS.out).mono ?_; rintro e w' ⟨rfl, rfl⟩)
    go_ret
    exact ⟨ret_bool (by rw [HD.out]; simp), rfl⟩
  · rw [hv] at HD
    have hm1 := (validM_of hv).1
    have hm6 := (validM_of hv).2.1
    obtain ⟨b0, o0, a0, c0, rfl, hcell⟩ := row0 HS.out hm1
    obtain ⟨f, hf⟩ : ∃ f, fitsV xs (colsM m) 1000000 = f := ⟨_, rfl⟩
    have HF := Lib.hid hf; clear hf
    by_cases h0 : f = 0
    · subst h0
      go_enter Try.func24, Try.ntmps24
      go_wp2_with (first | (go_at_call 34; refine (rvalid_any _ _ _ _ HM.out HS.out).mono ?_; rintro e w' ⟨rfl, rfl⟩) | (go_at_call 49; refine (rlisted_any _ _ _ _ _ (by omega) (by omega) _ hl HX.out).mono ?_; rintro e w' ⟨rfl, rfl⟩; rw [HF.out]))
      go_ret
      exact ⟨ret_bool (by rw [HD.out, HF.out]; simp), rfl⟩
    · have e0 : (f == 0) = false := by simpa using h0
      have H0 := Lib.hid h0; clear h0
      go_enter Try.func24, Try.ntmps24
      go_wp2_with (first | (go_at_call 34; refine (rvalid_any _ _ _ _ HM.out HS.out).mono ?_; rintro e w' ⟨rfl, rfl⟩) | (go_at_call 49; refine (rlisted_any _ _ _ _ _ (by omega) (by omega) _ hl HX.out).mono ?_; rintro e w' ⟨rfl, rfl⟩; rw [HF.out]))
      go_ret
      exact ⟨ret_bool (by rw [HD.out, HF.out]; simp [H0.out]), rfl⟩
end Go.Proofs.Ytfnomiingelfaaa
/- Sums of products and columns, in layer 2 and in its answers: contracts. -/
namespace Go.Proofs.Ytfnomiingelfaaa
open Go.RowKit

def PB (xs ys : List Int) : Prop := ∀ i, i < xs.length → -100000000000000000 ≤ gt xs i * gt ys i ∧ gt xs i * gt ys i ≤ 100000000000000000
def dotTo (xs ys : List Int) : Nat → Int := sumTo (fun i => gt xs i * gt ys i)
theorem dotTo_bd {xs ys : List Int} (h : PB xs ys) {k : Nat} (hk : k ≤ xs.length) : -(k * 100000000000000000) ≤ dotTo xs ys k ∧ dotTo xs ys k ≤ k * 100000000000000000 := sumTo_bd k fun i hi => h i (by omega)
theorem PB_of {xs ys : List Int} {A B : Int} (ha : allB A xs = true) (hb : allB B ys = true) (hl : xs.length ≤ ys.length) (hAB : A * B ≤ 100000000000000000) : PB xs ys := by
  intro i hi
  have := mul_le (gt_in ha hi) (gt_in hb (show i < ys.length by omega))
  omega

set_option maxRecDepth 100000 in
theorem product_any (a : Option Addr) (xs : List Int) (ca : Nat) (b : Option Addr) (ys : List Int) (cb : Nat) (w : World) (hl : xs.length ≤ 10) (hl2 : xs.length ≤ ys.length) (hl3 : ys.length ≤ 9223372036854775807) (hp : PB xs ys) (ha : Sl w a xs) (hb : Sl w b ys) :
    Calls Try.prog 51 #[.slice a xs.length ca, .slice b ys.length cb] w fun e w' => e = .returned (.int .i64 (dot xs ys)) ∧ w = w' := by
  have HA := Lib.hid ha; clear ha
  have HB := Lib.hid hb; clear hb
  have HP := Lib.hid hp; clear hp
  go_enter Try.func51, Try.ntmps51
  go_wp2
  go_loop [5, 10] (fun s i => ∃ k : Nat, k ≤ xs.length ∧ i = .int .i64 k ∧ s = .int .i64 (dotTo xs ys k)) (fun _ i => xs.length - (intOf i).toNat)
  case atStart => exact ⟨0, Nat.zero_le _, rfl, rfl⟩
  case round =>
    obtain ⟨k, hk, rfl, rfl⟩ := hrel
    have SB := Lib.hid (dotTo_bd HP.out hk)
    by_cases hlt : k < xs.length
    · obtain ⟨b1, o1, x, rfl, hcx, HX⟩ := HA.out.at hlt
      obtain ⟨b2, o2, y, rfl, hcy, HY⟩ := HB.out.at (show k < ys.length by omega)
      have hS := Lib.hid (show dotTo xs ys (k + 1) = dotTo xs ys k + x * y by show dotTo xs ys k + gt xs k * gt ys k = _; rw [gt_some' HX.out, gt_some' HY.out])
      have hxy : -100000000000000000 ≤ x * y ∧ x * y ≤ 100000000000000000 := by have := HP.out k hlt; rw [gt_some' HX.out, gt_some' HY.out] at this; exact this
      obtain ⟨p1, p2⟩ := hxy
      obtain ⟨s1, s2⟩ := SB.out
      generalize dotTo xs ys k = S at *
      have s3 : S ≤ 1000000000000000000 := by omega
      have s4 : -1000000000000000000 ≤ S := by omega
      clear s1 s2 SB
      go_wp2
      go_round
      case rel => exact ⟨k + 1, by omega, by go_num, by rw [hS.out]⟩
      case measure => simp [intOf]; omega
    · obtain rfl : k = xs.length := by omega
      go_wp2
      go_ret
      exact ⟨rfl, rfl⟩
set_option maxRecDepth 100000 in
theorem rdot_any (a : Option Addr) (xs : List Int) (ca : Nat) (b : Option Addr) (ys : List Int) (cb : Nat) (w : World) (hl : xs.length ≤ 10) (hl2 : xs.length ≤ ys.length) (hl3 : ys.length ≤ 9223372036854775807) (hp : PB xs ys) (ha : Sl w a xs) (hb : Sl w b ys) :
    Calls Try.prog 52 #[.slice a xs.length ca, .slice b ys.length cb] w fun e w' => e = .returned (.int .i64 (dot xs ys)) ∧ ∃ n, w' = w.drewN n := by
  have HA := Lib.hid ha; clear ha
  have HB := Lib.hid hb; clear hb
  have HP := Lib.hid hp; clear hp
  go_enter Try.func52, Try.ntmps52
  go_wp2
  go_loopw [5, 9] (fun s i wr => ∃ k nd : Nat, k ≤ xs.length ∧ i = .int .i64 k ∧ s = .int .i64 (dotTo xs ys k) ∧ wr = w.drewN nd) (fun _ i _ => xs.length - (intOf i).toNat)
  case atStart => exact ⟨0, 0, Nat.zero_le _, rfl, rfl, rfl⟩
  case round =>
    obtain ⟨k, nd, hk, rfl, rfl, rfl⟩ := hrel
    have SB := Lib.hid (dotTo_bd HP.out hk)
    by_cases hlt : k < xs.length
    · obtain ⟨b1, o1, x, rfl, hcx, HX⟩ := HA.out.at hlt
      obtain ⟨b2, o2, y, rfl, hcy, HY⟩ := HB.out.at (show k < ys.length by omega)
      have hS := Lib.hid (show dotTo xs ys (k + 1) = dotTo xs ys k + x * y by show dotTo xs ys k + gt xs k * gt ys k = _; rw [gt_some' HX.out, gt_some' HY.out])
      have hxy : -100000000000000000 ≤ x * y ∧ x * y ≤ 100000000000000000 := by have := HP.out k hlt; rw [gt_some' HX.out, gt_some' HY.out] at this; exact this
      obtain ⟨p1, p2⟩ := hxy
      obtain ⟨s1, s2⟩ := SB.out
      generalize dotTo xs ys k = S at *
      have s3 : S ≤ 1000000000000000000 := by omega
      have s4 : -1000000000000000000 ≤ S := by omega
      clear s1 s2 SB
      have m1 : IntKind.i64.wrap (x * y) = x * y := IntWalk.i64_in _ (by omega)
      have m2 : IntKind.i64.wrap (S + x * y) = S + x * y := IntWalk.i64_in _ (by omega)
      go_wp2
      go_quiet (fail)
      clear m1 m2
      go_wp2
      go_roundw
      case rel => exact ⟨k + 1, _, by omega, by go_num, by rw [hS.out], rfl⟩
      case measure => simp [intOf]; omega
    · obtain rfl : k = xs.length := by omega
      go_wp2
      go_ret
      exact ⟨rfl, _, rfl⟩
end Go.Proofs.Ytfnomiingelfaaa
/- Lists in ascending order: ascending of layer 2 and Ascending of its answers, contracts. -/
namespace Go.Proofs.Ytfnomiingelfaaa
open Go.RowKit

def rascB (l : List Int) : Bool := decide (∀ k, k < l.length → k ≠ 0 → gt l (k - 1) < gt l k)
theorem rascB_no {l : List Int} {k : Nat} (hk : k < l.length) (h0 : k ≠ 0) (h : ¬ gt l (k - 1) < gt l k) : rascB l = false := by
  unfold rascB; rw [decide_eq_false_iff_not]; exact fun hh => h (hh k hk h0)
theorem rascB_yes {l : List Int} (h : ∀ k, k < l.length → k ≠ 0 → gt l (k - 1) < gt l k) : rascB l = true := by
  unfold rascB; rw [decide_eq_true_iff]; exact h
theorem rascB_of {l : List Int} (h : rascB l = true) : ∀ k, k < l.length → k ≠ 0 → gt l (k - 1) < gt l k := by
  unfold rascB at h; rwa [decide_eq_true_iff] at h
def LastIs (B0 B : Nat) (p : Int) (w0 w : World) : Prop := w.cell? ⟨B, 0, none⟩ = some (.int .i64 p) ∧ w.frozen? ⟨B, 0, none⟩ = false ∧ Below B0 w0 w ∧ B < w.heap.size
theorem LastIs.set {B0 B : Nat} {p : Int} {w0 w : World} (h : LastIs B0 B p w0 w) (hB : B0 ≤ B) (n : Int) : LastIs B0 B n w0 (w.setCell ⟨B, 0, none⟩ (.int .i64 n)) := by
  obtain ⟨h1, h2, h3, h4⟩ := h
  refine ⟨?_, ?_, h3.setCell hB _, by simpa using h4⟩
  · go_simp
  · go_simp
end Go.Proofs.Ytfnomiingelfaaa
/- Columns of masks, in layer 2 and in its answers: contracts. -/
namespace Go.Proofs.Ytfnomiingelfaaa
open Go.RowKit

def RPost (ys : List Int) (w : World) (e : Ending) (w' : World) : Prop := Below w.heap.size w w' ∧ ∃ a cap, e = .returned (.slice a ys.length cap) ∧ Sl w' a ys
theorem RPost.own {w w' : World} {base : Nat} {v : Value} {ys zs : List Int} (hr : zs = ys) (hb : Below w.heap.size w w') (ho : OwnI w' base v ys) : RPost zs w (.returned v) w' := by
  obtain ⟨a, cap, rfl, hs⟩ := ho.any
  subst hr; exact ⟨hb, a, cap, rfl, hs⟩
def rowM (m : List (List Int)) (i : Nat) : List Int := m[i]?.getD []
theorem rowM_some {m : List (List Int)} {i : Nat} {r : List Int} (h : m[i]? = some r) : rowM m i = r := by unfold rowM; rw [h]; rfl
theorem readL_range (m : List (List Int)) (x : List Int) : readL m x = (List.range m.length).map fun i => dot (rowM m i) x := by
  refine List.ext_getElem (by simp [readL]) fun i h1 h2 => ?_
  have hi : i < m.length := by simpa [readL] using h1
  simp [readL, rowM, hi]
structure FillK (f : Nat → Int) (n k : Nat) (zs : List Int) : Prop where
  len : zs.length = n
  yes : ∀ j, j < k → gt zs j = f j
theorem FillK.start (f : Nat → Int) (n : Nat) (zs : List Int) (h : zs.length = n) : FillK f n 0 zs := ⟨h, fun j hj => absurd hj (by omega)⟩
theorem FillK.next {f : Nat → Int} {n k : Nat} {zs : List Int} (h : FillK f n k zs) (hk : k < n) {x : Int} (hx : x = f k) : FillK f n (k + 1) (zs.set k x) := by
  have hkz : k < zs.length := by rw [h.len]; exact hk
  refine ⟨by rw [List.length_set]; exact h.len, fun j hj => ?_⟩
  rw [gt_set hkz]
  by_cases e : j = k
  · subst e; rw [if_pos rfl, hx]
  · rw [if_neg e]; exact h.yes j (by omega)
theorem FillK.all {f : Nat → Int} {n : Nat} {zs : List Int} (h : FillK f n n zs) : zs = (List.range n).map f := by
  refine list_ext_gt (by rw [h.len]; simp) fun j hj => ?_
  rw [h.len] at hj
  rw [h.yes j hj, gt_map_range _ hj]

end Go.Proofs.Ytfnomiingelfaaa
/- Read and Back of layer 2: contracts. -/
namespace Go.Proofs.Ytfnomiingelfaaa
open Go.RowKit

theorem fitsV_0 {l : List Int} {n lim : Int} (h : fitsV l n lim = 0) : (l.length : Int) = n ∧ allB lim l = true := by
  unfold fitsV at h
  split at h
  · rename_i h1
    split at h
    · rename_i h2; exact ⟨h1, h2⟩
    · cases h
  · cases h
theorem readV_no {m : List (List Int)} {x : List Int} (h : validM m = false) : readV m x = ([], 1) := by unfold readV; rw [h]; rfl
theorem readV_err {m : List (List Int)} {x : List Int} {f : Int} (h : validM m = true) (hf : fitsV x (colsM m) 1000000 = f) (h0 : f ≠ 0) : readV m x = ([], f) := by
  unfold readV; rw [h, if_pos rfl, hf, if_neg h0]
theorem readV_ok {m : List (List Int)} {x : List Int} (h : validM m = true) (hf : fitsV x (colsM m) 1000000 = 0) : readV m x = (readL m x, 0) := by
  unfold readV; rw [h, if_pos rfl, hf, if_pos rfl]
set_option maxRecDepth 100000 in
set_option maxHeartbeats 400000 in
theorem mread_any (a : Option Addr) (m : List (List Int)) (cap : Nat) (b : Option Addr) (xs : List Int) (cb : Nat) (w : World) (hm : MOk m) (hl : xs.length ≤ 9223372036854775807) (hs : Ms w a m) (hx : Sl w b xs) :
    Calls Try.prog 27 #[.slice a m.length cap, .slice b xs.length cb] w (LPost (readV m xs) w) := by
  have HM := Lib.hid hm; clear hm
  have HS := Lib.hid hs; clear hs
  have HX := Lib.hid hx; clear hx
  obtain ⟨i0, hi, hz0, hz1, hz2⟩ := info_parts Try.infoInt
  go_enter Try.func27, Try.ntmps27
  go_wp2_with fail
  refine (mvalid_any _ _ _ _ HM.out HS.out).mono ?_
  rintro e w1 ⟨rfl, hb1⟩
  have HB1 := Lib.hid hb1; clear hb1
  cases hv : validM m
  · have HV := Lib.hid hv; clear hv
    go_wp2
    go_ret2
    exact LPost.err 1 (readV_no HV.out) HB1.out
  · obtain ⟨hm1, hm6, hc1, hc10, _⟩ := validM_of hv
    have HV := Lib.hid hv; clear hv
    obtain ⟨b0, o0, a0, c0, rfl, hcell⟩ := row0 (HS.out.below HB1.out) hm1
    obtain ⟨f, hf⟩ : ∃ f, fitsV xs (colsM m) 1000000 = f := ⟨_, rfl⟩
    have HF := Lib.hid hf; clear hf
    go_wp2_with fail
    refine (fits_any _ _ _ _ _ (by omega) (by omega) _ hl (HX.out.below HB1.out)).mono ?_
    rintro e w2 ⟨rfl, hb2⟩
    rw [HF.out]
    have HB2 : Hid (Below w.heap.size w w2) := HB1.out.trans (hb2.mono HB1.out.size)
    clear hb2 hcell
    by_cases h0 : f = 0
    · subst h0
      obtain ⟨hxl, hxa⟩ := fitsV_0 HF.out
      have hxl' : xs.length ≤ 10 := by omega
      have HXL : Hid (xs.length = colsM m) := by show xs.length = colsM m; omega
      clear hxl
      have HXA := Lib.hid hxa; clear hxa
      go_wp2_with (with_reducible refine wpList_make_full _ rfl (.tmp 23) (.tmp 23) 24 rfl w2.heap.size 3 i0 (.int .i64 0) 1 Try.underlying24 hi hz0 hz1 .i64 .i64 (m.length : Int) (m.length : Int) m.length rfl rfl rfl rfl (by rw [hz2]; omega) (by unfold maxLen; omega) (Nat.le_refl _) ?_)
      rotate_left
      intro w4 hown hgrow
      have HO4 : Hid (OwnI w4 w2.heap.size (.slice (some ⟨w2.heap.size, 0, none⟩) m.length m.length) (List.replicate m.length 0)) := by
        have z := zeros_are m.length
        rw [Nat.mul_one] at z
        show w4.ownsRow _ _ _ _ _ _
        rw [List.length_replicate, ← z]; exact hown
      have HB4 : Hid (Below w2.heap.size w2 w4) := (Below.refl _ _).grown hgrow (Nat.le_refl _) (fun k e => by cases e)
      clear hown hgrow
      go_wp2
      go_loopw [27] (fun i wr => ∃ (k : Nat) (zs : List Int), k ≤ m.length ∧ i = .int .i64 k ∧ OwnI wr w2.heap.size (.slice (some ⟨w2.heap.size, 0, none⟩) m.length m.length) zs ∧ FillK (fun i => dot (rowM m i) xs) m.length k zs ∧ Below w2.heap.size w2 wr) (fun i _ => m.length - (intOf i).toNat)
      case atStart => exact ⟨0, _, Nat.zero_le _, rfl, HO4.out, FillK.start _ _ _ (by simp), HB4.out⟩
      case round =>
        obtain ⟨k, zs, hk, rfl, hO, hA, hB⟩ := hrel
        have HO := Lib.hid hO; clear hO
        have HFK := Lib.hid hA; clear hA
        have HB3 := Lib.hid hB; clear hB
        have HBw : Hid (Below w.heap.size w wr) := HB2.out.trans (HB3.out.mono HB2.out.size)
        by_cases hlt : k < m.length
        · obtain ⟨b1, o1, ai, r, ci, he1, hcell, hsl, HR⟩ := (HS.out.below HBw.out).at hlt
          obtain ⟨rfl, rfl⟩ : b0 = b1 ∧ o0 = o1 := by simpa using he1
          clear he1
          obtain ⟨hrl, hra⟩ := validM_row HV.out HR.out
          have hr10 : r.length ≤ 10 := by omega
          have hrx : r.length ≤ xs.length := by have := HXL.out; omega
          have HPB := Lib.hid (PB_of hra HXA.out hrx (by omega))
          have HSL := Lib.hid hsl; clear hsl
          clear hrl hra
          obtain ⟨hcz, hfz⟩ := HO.out.cell (j := k) (by rw [HFK.out.len]; exact hlt)
          have hgV := HO.out.lt
          go_wp2_with (go_at_call 51; refine (product_any _ _ _ _ _ _ _ hr10 hrx hl HPB.out HSL.out (HX.out.below HBw.out)).mono ?_; rintro e w5 ⟨rfl, rfl⟩)
          go_roundw
          case rel =>
            exact ⟨k + 1, zs.set k (dot r xs), by omega, by go_num, HO.out.stored k _, HFK.out.next hlt (by rw [rowM_some HR.out]), HB3.out.setCell hgV.2 _⟩
          case measure => simp [intOf]; omega
        · obtain rfl : k = m.length := by omega
          have HZ := Lib.hid HFK.out.all
          go_wp2
          go_ret2
          exact LPost.own (by rw [readV_ok HV.out HF.out, HZ.out, readL_range]) HBw.out HO.out
    · have e0 : (f == 0) = false := by simpa using h0
      have e1 : (f != 0) = true := by simpa using h0
      have H0 := Lib.hid h0; clear h0
      go_wp2
      go_ret2
      exact LPost.err f (readV_err HV.out HF.out H0.out) HB2.out

end Go.Proofs.Ytfnomiingelfaaa
/- Readings and lists of pixels checked, on both sides: contracts. -/
namespace Go.Proofs.Ytfnomiingelfaaa
open Go.RowKit

def listV (m : List (List Int)) (px : List Int) : Int := if rascB px = true then (if px.all (thereB m) = true then 0 else 5) else 7
def readE (m : List (List Int)) (y : List Int) : Int := if validM m = true then fitsV y m.length 1000000 else 1
theorem all_no {m : List (List Int)} {px : List Int} {k : Nat} {v : Int} (hv : px[k]? = some v) (h : thereB m v = false) : px.all (thereB m) = false := by
  rw [List.all_eq_false]; exact ⟨v, List.mem_of_getElem? hv, by simp [h]⟩
theorem all_yes {m : List (List Int)} {px : List Int} (h : ∀ j, j < px.length → thereB m (px[j]?.getD 0) = true) : px.all (thereB m) = true := by
  rw [List.all_eq_true]
  intro x hx
  obtain ⟨j, hj, rfl⟩ := List.mem_iff_getElem.1 hx
  have := h j hj
  simpa [hj] using this
set_option maxRecDepth 1000000 in
set_option maxHeartbeats 1600000 in
theorem lasc_any (a : Option Addr) (xs : List Int) (cap : Nat) (w : World) (hl : xs.length ≤ 1000) (hs : Sl w a xs) :
    Calls Try.prog 105 #[.slice a xs.length cap] w fun e w' => e = .returned (.bool (rascB xs)) ∧ ∃ n, w' = w.drewN n := by
  have HS := Lib.hid hs; clear hs
  go_enter Try.func105, Try.ntmps105
  go_wp2
  go_loopw [6] (fun i wr => ∃ (k nd : Nat), k ≤ xs.length ∧ i = .int .i64 k ∧ (∀ j, j < k → j ≠ 0 → gt xs (j - 1) < gt xs j) ∧ wr = w.drewN nd) (fun i _ => xs.length - (intOf i).toNat)
  case atStart => exact ⟨0, 0, Nat.zero_le _, rfl, fun j h => by omega, rfl⟩
  case round =>
    obtain ⟨k, nd, hk, rfl, hno, rfl⟩ := hrel
    have HN := Lib.hid hno; clear hno
    by_cases hlt : k < xs.length
    · by_cases h0 : k = 0
      · subst h0
        go_wp2
        go_quiet (fail)
        all_goals
          go_wp2
          go_roundw
          case rel => exact ⟨1, _, by omega, by go_num, fun j hj h0 => by omega, rfl⟩
          case measure => simp [intOf]; omega
      · obtain ⟨q, rfl⟩ : ∃ q, k = q + 1 := ⟨k - 1, by omega⟩
        obtain ⟨b, o, x, rfl, hcx, hx⟩ := HS.out.at hlt
        obtain ⟨b2, o2, z, e2, hcz, hz⟩ := HS.out.at (k := q) (by omega)
        cases e2
        have HGX := Lib.hid (gt_some' hx.out)
        have HGZ := Lib.hid (gt_some' hz.out)
        obtain ⟨K, hK⟩ : ∃ K, q + 1 = K := ⟨_, rfl⟩
        have hK1 : (K : Int) - 1 = (q : Int) := by omega
        have hK2 : (0 : Int) < (K : Int) := by omega
        have hK3 : (K : Int) < (xs.length : Int) := by omega
        have hq3 : (q : Int) < (xs.length : Int) := by omega
        have HXK : Hid (gt xs K = x) := by show _ = _; rw [← hK]; exact HGX.out
        have HKM : Hid (K - 1 = q) := by show _ = _; omega
        have hK0 : K ≠ 0 := by omega
        have hK4 : 0 < K := by omega
        have m1 : IntKind.i64.wrap ((K : Int) - 1) = (q : Int) := by rw [hK1]; exact IntWalk.i64_in _ (by omega)
        have y9 : decide (0 < K) = true := by simp; omega
        rw [hK] at hcx hlt ⊢
        have HN2 : Hid (∀ j, j < K → j ≠ 0 → gt xs (j - 1) < gt xs j) := by rw [← hK]; exact HN.out
        clear hx hz hK hk HN
        by_cases hle : x ≤ z
        · have y0 : decide (x ≤ z) = true := by simp [hle]
          have HNO : Hid (rascB xs = false) := rascB_no (k := K) hlt hK0 (by rw [HXK.out, HKM.out, HGZ.out]; omega)
          go_wp2
          go_quiet (fail)
          all_goals
            go_wp2
            go_ret
            exact ⟨ret_bool HNO.out.symm, _, World.drewN_drewN _ _ _⟩
        · have y0 : decide (x ≤ z) = false := by simp [hle]
          go_wp2
          go_quiet (fail)
          all_goals
            go_wp2
            go_roundw
            case rel => exact ⟨K + 1, _, by omega, by go_num, fun j hj h0 => by
              by_cases e : j = K
              · rw [e, HKM.out, HGZ.out, HXK.out]; omega
              · exact HN2.out j (by omega) h0, by first | rfl | exact World.drewN_drewN _ _ _⟩
            case measure => simp [intOf]; omega
    · have HY : Hid (rascB xs = true) := rascB_yes fun j hj h0 => HN.out j (by omega) h0
      go_wp2
      go_ret
      exact ⟨ret_bool HY.out.symm, _, rfl⟩
set_option maxRecDepth 100000 in
set_option maxHeartbeats 800000 in
theorem llisted_any (ma : Option Addr) (m : List (List Int)) (mc : Nat) (a : Option Addr) (xs : List Int) (cap : Nat) (w : World) (hv : validM m = true) (hl : xs.length ≤ 1000) (hm : Ms w ma m) (hs : Sl w a xs) :
    Calls Try.prog 84 #[.slice ma m.length mc, .slice a xs.length cap] w fun e w' => e = .returned (.int .i64 (listV m xs)) ∧ Below w.heap.size w w' := by
  have HS := Lib.hid hs
  have HTH : Hid (∀ W v, Below w.heap.size w W → Calls Try.prog 106 #[.slice ma m.length mc, .int .i64 v] W fun e w' => e = .returned (.bool (thereB m v)) ∧ W = w') := fun W v hb => lthere_any ma m mc v W hv (hm.below hb)
  obtain ⟨q, hq⟩ : ∃ q, rascB xs = q := ⟨_, rfl⟩
  have HAS : Hid (Calls Try.prog 105 #[.slice a xs.length cap] w fun e w' => e = .returned (.bool q) ∧ ∃ n, w' = w.drewN n) := by rw [← hq]; exact lasc_any a xs cap w hl hs
  clear hs hm
  cases q with
  | false =>
    have HE : Hid (listV m xs = 7) := by show _ = _; simp [listV, hq]
    clear hq
    go_enter Try.func84, Try.ntmps84
    go_wp2_with (go_at_call 105; refine HAS.out.mono ?_; rintro e w1 ⟨rfl, nd, rfl⟩)
    go_ret
    exact ⟨ret_i64 HE.out.symm, below_drewN (Below.refl _ _) _⟩
  | true =>
    have HE : Hid (listV m xs = if xs.all (thereB m) = true then 0 else 5) := by show _ = _; simp [listV, hq]
    clear hq
    go_enter Try.func84, Try.ntmps84
    go_wp2_with (go_at_call 105; refine HAS.out.mono ?_; rintro e w1 ⟨rfl, nd, rfl⟩)
    have HB1 : Hid (Below w.heap.size w (w.drewN nd)) := below_drewN (Below.refl _ _) _
    generalize w.drewN nd = w1 at *
    go_loopw [12] (fun i wr => ∃ k : Nat, k ≤ xs.length ∧ i = .int .i64 k ∧ (∀ j, j < k → thereB m (xs[j]?.getD 0) = true) ∧ wr = w1) (fun i _ => xs.length - (intOf i).toNat)
    case atStart => exact ⟨0, Nat.zero_le _, rfl, fun j h => by omega, rfl⟩
    case round =>
      obtain ⟨k, hk, rfl, hno, rfl⟩ := hrel
      have HN := Lib.hid hno; clear hno
      by_cases hlt : k < xs.length
      · obtain ⟨b, o, x, rfl, hcx, HX⟩ := (HS.out.below HB1.out).at hlt
        obtain ⟨t, ht⟩ : ∃ t, thereB m x = t := ⟨_, rfl⟩
        have HT1 : Hid (Calls Try.prog 106 #[.slice ma m.length mc, .int .i64 x] wr fun e w' => e = .returned (.bool t) ∧ wr = w') := by rw [← ht]; exact HTH.out wr x HB1.out
        have HTT := Lib.hid ht; clear ht
        cases t with
        | true =>
          go_wp2_with (go_at_call 106; refine HT1.out.mono ?_; rintro e w5 ⟨rfl, rfl⟩)
          go_roundw
          case rel => exact ⟨k + 1, by omega, by go_num, fun j hj => by
            by_cases e : j = k
            · subst e; rw [HX.out]; exact HTT.out
            · exact HN.out j (by omega), by first | trivial | rfl⟩
          case measure => simp [intOf]; omega
        | false =>
          have HF : Hid (listV m xs = 5) := by show _ = _; rw [HE.out, all_no HX.out HTT.out]; rfl
          go_wp2_with (go_at_call 106; refine HT1.out.mono ?_; rintro e w5 ⟨rfl, rfl⟩)
          go_ret
          exact ⟨ret_i64 HF.out.symm, HB1.out⟩
      · have HF : Hid (listV m xs = 0) := by show _ = _; rw [HE.out, all_yes (fun j hj => HN.out j (by omega))]; rfl
        go_wp2
        go_ret
        exact ⟨ret_i64 HF.out.symm, HB1.out⟩
end Go.Proofs.Ytfnomiingelfaaa
/- The answers' reduction as plain words: primitive rows, which are multiples of determinants. Speaks of no program. -/
namespace Go.Proofs.Ytfnomiingelfaaa
open Go.RowKit

def primR (q : List Int) : List Int := q.map fun n => n.tdiv ((max (gcdL q) 1 : Nat) : Int)
def wipR (q p : List Int) (j : Nat) : List Int := (List.range q.length).map fun k => IntKind.i64.wrap (IntKind.i64.wrap (gt q k * gt p j) - IntKind.i64.wrap (gt p k * gt q j))
def withoutR (q p : List Int) (j : Nat) : List Int := primR (wipR q p j)
theorem primR_len (q : List Int) : (primR q).length = q.length := by simp [primR]
theorem wipR_len (q p : List Int) (j : Nat) : (wipR q p j).length = q.length := by simp [wipR]
theorem withoutR_len (q p : List Int) (j : Nat) : (withoutR q p j).length = q.length := by rw [withoutR, primR_len, wipR_len]
theorem gcdTo_dvd (q : List Int) : ∀ n j, j < n → ((gcdTo q n : Nat) : Int) ∣ gt q j
  | 0, _, h => absurd h (by omega)
  | n + 1, j, h => by
    have h1 : gcdTo q (n + 1) ∣ gcdTo q n := Nat.gcd_dvd_left _ _
    have h2 : gcdTo q (n + 1) ∣ (gt q n).natAbs := Nat.gcd_dvd_right _ _
    by_cases e : j = n
    · subst e; exact Int.ofNat_dvd_left.mpr h2
    · exact Int.dvd_trans (Int.natCast_dvd_natCast.mpr h1) (gcdTo_dvd q n j (by omega))
theorem dvd_gcdTo (q : List Int) (d K : Int) : ∀ n, (∀ c, c < n → d ∣ K * gt q c) → d ∣ K * ((gcdTo q n : Nat) : Int)
  | 0, _ => by simp [gcdTo]
  | n + 1, h => by
    have h1 := dvd_gcdTo q d K n fun c hc => h c (by omega)
    have h2 := h n (by omega)
    rw [← Int.natAbs_dvd_natAbs] at h1 h2 ⊢
    rw [Int.natAbs_mul] at h1 h2 ⊢
    rw [Int.natAbs_natCast] at h1 ⊢
    show d.natAbs ∣ K.natAbs * Nat.gcd (gcdTo q n) (gt q n).natAbs
    rw [← Nat.gcd_mul_left]
    exact Nat.dvd_gcd h1 h2
theorem gt_primR {q : List Int} {c : Nat} (hc : c < q.length) : gt q c = ((max (gcdL q) 1 : Nat) : Int) * gt (primR q) c := by
  have e : gt (primR q) c = (gt q c).tdiv ((max (gcdL q) 1 : Nat) : Int) := by unfold gt primR; simp [hc]
  rw [e]
  symm
  apply Int.mul_tdiv_cancel'
  by_cases h : gcdL q = 0
  · rw [h]; exact Int.one_dvd _
  · rw [show max (gcdL q) 1 = gcdL q by omega]
    exact gcdTo_dvd q _ c hc
theorem prim_mul {q : List Int} {m : Nat → Int} {d K : Int} (hd : d ≠ 0) (hK : K ≠ 0) (h : ∀ c, c < q.length → d * m c = K * gt q c) : ∃ g, g ≠ 0 ∧ ∀ c, c < q.length → m c = g * gt (primR q) c := by
  by_cases h0 : gcdL q = 0
  · refine ⟨1, by decide, fun c hc => ?_⟩
    have z : gt q c = 0 := gcdTo_zero _ h0 c hc
    have z2 := gt_primR hc
    rw [h0, z] at z2
    have := h c hc
    rw [z, Int.mul_zero] at this
    rcases Int.mul_eq_zero.mp this with e | e
    · exact absurd e hd
    · rw [e]; simp at z2; rw [← z2]; rfl
  · obtain ⟨g, hg⟩ : d ∣ K * ((gcdL q : Nat) : Int) := dvd_gcdTo q d K _ fun c hc => ⟨m c, (h c hc).symm⟩
    refine ⟨g, fun e => ?_, fun c hc => ?_⟩
    · rw [e, Int.mul_zero] at hg
      rcases Int.mul_eq_zero.mp hg with e | e
      · exact hK e
      · exact h0 (by omega)
    · have h1 := h c hc
      rw [gt_primR hc, show max (gcdL q) 1 = gcdL q by omega, ← Int.mul_assoc, hg, Int.mul_assoc] at h1
      exact Int.eq_of_mul_eq_mul_left hd h1
def lastR (L : List (List Int)) (j : Nat) : Nat → Option Nat
  | 0 => none
  | n + 1 => if gt (rowL L n) j ≠ 0 then some n else lastR L j n
theorem lastR_none {L : List (List Int)} {j : Nat} : ∀ {n}, lastR L j n = none → ∀ x, x < n → gt (rowL L x) j = 0
  | 0, _, x, hx => absurd hx (by omega)
  | n + 1, h, x, hx => by
    unfold lastR at h
    split at h
    · cases h
    · rename_i h0
      by_cases e : x = n
      · subst e; simpa using h0
      · exact lastR_none h x (by omega)
theorem lastR_some {L : List (List Int)} {j i : Nat} : ∀ {n}, lastR L j n = some i → i < n ∧ gt (rowL L i) j ≠ 0
  | 0, h => by cases h
  | n + 1, h => by
    unfold lastR at h
    split at h
    · rename_i h0; cases h; exact ⟨by omega, h0⟩
    · have := lastR_some h; exact ⟨by omega, this.2⟩
structure Rs where
  done : List (List Int)
  left : List (List Int)
  piv : List Int
def stepR (j : Nat) (s : Rs) : Rs :=
  match lastR s.left j s.left.length with
  | none => s
  | some i => { done := (s.done.map fun q => withoutR q (ownR (rowL s.left i) j) j) ++ [ownR (rowL s.left i) j], left := (s.left.eraseIdx i).map fun q => withoutR q (ownR (rowL s.left i) j) j, piv := s.piv ++ [(j : Int)] }
def stepsR (s : Rs) : Nat → Rs
  | 0 => s
  | k + 1 => stepR k (stepsR s k)
def redR (M : List (List Int)) (n : Nat) : Rs := stepsR { done := [], left := M.map primR, piv := [] } n

structure RBar (R N D : Nat) (A0 A : Nat → Nat → Int) (p : Nat → Nat) (s : Rs) : Prop where
  pe : ∀ t, t < s.piv.length → gt s.piv t = (p t : Int)
  ld : s.done.length = s.piv.length
  ll : s.piv.length + s.left.length = R
  rd : ∀ q ∈ s.done, q.length = N
  rl : ∀ q ∈ s.left, q.length = N
  pz : ∀ t, t < s.piv.length → p t < D
  asc : ∀ a b, a < b → b < s.piv.length → p a < p b
  vd : ∀ t, t < s.piv.length → ∃ g, g ≠ 0 ∧ ∀ c, c < N → mk A p s.piv.length t c = g * gt (rowL s.done t) c
  vl : ∀ x, x < s.left.length → ∃ g, g ≠ 0 ∧ ∀ c, c < N → mk A p s.piv.length (s.piv.length + x) c = g * gt (rowL s.left x) c
  dn : dt A p s.piv.length ≠ 0
  uq : Uniq A p s.piv.length
  low : ∀ x, x < s.left.length → ∀ c, c < D → gt (rowL s.left x) c = 0
  ech : ∀ t, t < s.piv.length → ∀ c, c < p t → gt (rowL s.done t) c = 0
  pos : ∀ t, t < s.piv.length → 0 < gt (rowL s.done t) (p t)
  arr : ∀ x, x < R → ∃ i s, i < R ∧ (s = 1 ∨ s = -1) ∧ ∀ c, A x c = s * A0 i c
  ker : ∀ w : Nat → Int, (∀ i, i < R → sumTo (fun c => A0 i c * w c) N = 0) ↔ (∀ i, i < R → sumTo (fun c => A i c * w c) N = 0)
theorem rbar_skip {R N D : Nat} {A0 A : Nat → Nat → Int} {p : Nat → Nat} {s : Rs} (h : RBar R N D A0 A p s) (hp : lastR s.left D s.left.length = none) : RBar R N (D + 1) A0 A p (stepR D s) := by
  have e : stepR D s = s := by unfold stepR; rw [hp]
  rw [e]
  exact { h with
    pz := fun t ht => by have := h.pz t ht; omega
    low := fun x hx c hc => by
      by_cases e : c = D
      · subst e; exact lastR_none hp x hx
      · exact h.low x hx c (by omega) }
theorem rowL_map {M : List (List Int)} (f : List Int → List Int) {x : Nat} (hx : x < M.length) : rowL (M.map f) x = f (rowL M x) := by unfold rowL; simp [hx]
theorem rbar_start {R N : Nat} {M : List (List Int)} (h1 : M.length = R) (h2 : ∀ q ∈ M, q.length = N) : RBar R N 0 (a0 M) (a0 M) (fun _ => 0) { done := [], left := M.map primR, piv := [] } where
  pe := fun t h => absurd h (by simp)
  ld := rfl
  ll := by simp [h1]
  rd := fun q h => absurd h (by simp)
  rl := fun q h => by obtain ⟨r, hr, rfl⟩ := List.mem_map.mp h; rw [primR_len]; exact h2 r hr
  pz := fun t h => absurd h (by simp)
  asc := fun a b _ h => absurd h (by simp)
  vd := fun t h => absurd h (by simp)
  vl := fun x hx => by
    have hx' : x < M.length := by simpa using hx
    have hm : rowL M x ∈ M := rowL_mem hx'
    refine ⟨((max (gcdL (rowL M x)) 1 : Nat) : Int), by omega, fun c hc => ?_⟩
    rw [rowL_map _ hx', ← gt_primR (by rw [h2 _ hm]; exact hc)]
    simp [mk, dt, detC, sumTo, a0]
  dn := by show (1 : Int) ≠ 0; decide
  uq := uniq_zero
  low := fun _ _ _ h => absurd h (by omega)
  ech := fun t h => absurd h (by simp)
  pos := fun t h => absurd h (by simp)
  arr := fun x hx => ⟨x, 1, hx, .inl rfl, fun c => by omega⟩
  ker := fun w => Iff.rfl
end Go.Proofs.Ytfnomiingelfaaa
/- One column more of the answers' reduction. Plain words. Speaks of no program. -/
namespace Go.Proofs.Ytfnomiingelfaaa
open Go.RowKit

theorem mul_small {g v B : Int} (hg : g ≠ 0) (h : -B ≤ g * v ∧ g * v ≤ B) : -B ≤ v ∧ v ≤ B := by
  have h1 : v.natAbs ≤ (g * v).natAbs := by rw [Int.natAbs_mul]; exact Nat.le_mul_of_pos_left _ (by omega)
  omega
theorem gt_primR0 {q : List Int} {c : Nat} (hc : c < q.length) (h : gt q c = 0) : gt (primR q) c = 0 := by
  have h1 := gt_primR hc
  rw [h] at h1
  rcases Int.mul_eq_zero.mp h1.symm with e | e
  · omega
  · exact e
theorem gt_primR_pos {q : List Int} {c : Nat} (hc : c < q.length) (h : 0 < gt q c) : 0 < gt (primR q) c := by
  have h1 := gt_primR hc
  rw [h1] at h
  exact Int.pos_of_mul_pos_right h (by omega) |> fun x => x
theorem gt_wipR {q P : List Int} {D c : Nat} (hc : c < q.length) (h1 : -720000000 ≤ gt q c ∧ gt q c ≤ 720000000) (h2 : -720000000 ≤ gt P D ∧ gt P D ≤ 720000000) (h3 : -720000000 ≤ gt P c ∧ gt P c ≤ 720000000) (h4 : -720000000 ≤ gt q D ∧ gt q D ≤ 720000000) : gt (wipR q P D) c = gt q c * gt P D - gt P c * gt q D := by
  have e : gt (wipR q P D) c = IntKind.i64.wrap (IntKind.i64.wrap (gt q c * gt P D) - IntKind.i64.wrap (gt P c * gt q D)) := by unfold wipR; rw [gt_map_range _ hc]
  have b : ∀ {x y : Int}, (-720000000 ≤ x ∧ x ≤ 720000000) → (-720000000 ≤ y ∧ y ≤ 720000000) → -518400000000000000 ≤ x * y ∧ x * y ≤ 518400000000000000 := by
    intro x y hx hy
    have h : (x * y).natAbs ≤ 720000000 * 720000000 := by rw [Int.natAbs_mul]; exact Nat.mul_le_mul (by omega) (by omega)
    omega
  have b1 := b h1 h2
  have b2 := b h3 h4
  rw [e, wrap_id (n := gt q c * gt P D) (by omega) (by omega), wrap_id (n := gt P c * gt q D) (by omega) (by omega), wrap_id (by omega) (by omega)]
theorem rbar_bd {R N D cols : Nat} {A0 A : Nat → Nat → Int} {p : Nat → Nat} {s : Rs} (h : RBar R N D A0 A p s) (hR : R ≤ 6) (hD : D ≤ cols) (hb1 : ∀ i, i < R → ∀ c, c < cols → -1 ≤ A0 i c ∧ A0 i c ≤ 1) (hb2 : ∀ i, i < R → ∀ c, c < N → -1000000 ≤ A0 i c ∧ A0 i c ≤ 1000000) :
    (∀ t, t < s.piv.length → ∀ c, c < N → -720000000 ≤ gt (rowL s.done t) c ∧ gt (rowL s.done t) c ≤ 720000000) ∧ (∀ x, x < s.left.length → ∀ c, c < N → -720000000 ≤ gt (rowL s.left x) c ∧ gt (rowL s.left x) c ≤ 720000000) := by
  have hA1 : ∀ x, x < R → ∀ c, c < cols → -1 ≤ A x c ∧ A x c ≤ 1 := fun x hx c hc => arr_bd h.arr (fun i hi => hb1 i hi c hc) x hx
  have hA2 : ∀ x, x < R → ∀ c, c < N → -1000000 ≤ A x c ∧ A x c ≤ 1000000 := fun x hx c hc => arr_bd h.arr (fun i hi => hb2 i hi c hc) x hx
  have hl := h.ll
  have big : ∀ x, x < R → ∀ c, c < N → -720000000 ≤ mk A p s.piv.length x c ∧ mk A p s.piv.length x c ≤ 720000000 := fun x hx c hc => mk_bd6 (Y := 1000000) (by decide) (by omega) hR hx (fun i hi t ht => hA1 i hi _ (by have := h.pz t ht; omega)) (fun i hi => hA2 i hi c hc)
  constructor
  · intro t ht c hc
    obtain ⟨g, hg, e⟩ := h.vd t ht
    have := big t (by omega) c hc
    rw [e c hc] at this
    exact mul_small hg this
  · intro x hx c hc
    obtain ⟨g, hg, e⟩ := h.vl x hx
    have := big (s.piv.length + x) (by omega) c hc
    rw [e c hc] at this
    exact mul_small hg this
theorem rowL_erase {L : List (List Int)} {i x : Nat} : rowL (L.eraseIdx i) x = rowL L (if x < i then x else x + 1) := by
  unfold rowL
  rw [List.getElem?_eraseIdx]
  split <;> rfl
theorem rowL_snoc {L : List (List Int)} {q : List Int} {x : Nat} : rowL (L ++ [q]) x = if x < L.length then rowL L x else if x = L.length then q else [] := by
  unfold rowL
  by_cases h : x < L.length
  · rw [if_pos h, List.getElem?_append_left h]
  · rw [if_neg h, List.getElem?_append_right (by omega)]
    by_cases e : x = L.length
    · subst e; simp
    · rw [if_neg e, List.getElem?_eq_none (by simp; omega)]; rfl
def olX (k i x : Nat) : Nat := if x < k then x else if x = k then k + i else if x ≤ k + i then x - 1 else x
theorem rbar_step {R N D cols : Nat} {A0 A : Nat → Nat → Int} {p : Nat → Nat} {s : Rs} (h : RBar R N D A0 A p s) (hR : R ≤ 6) (hDN : D < N) (hD : D ≤ cols) (hb1 : ∀ i, i < R → ∀ c, c < cols → -1 ≤ A0 i c ∧ A0 i c ≤ 1) (hb2 : ∀ i, i < R → ∀ c, c < N → -1000000 ≤ A0 i c ∧ A0 i c ≤ 1000000)
    {i : Nat} (hp : lastR s.left D s.left.length = some i) : ∃ A' p', RBar R N (D + 1) A0 A' p' (stepR D s) := by
  obtain ⟨hi, hnz⟩ := lastR_some hp
  obtain ⟨bd, bl⟩ := rbar_bd h hR hD hb1 hb2
  obtain ⟨done, left, piv⟩ := s
  obtain ⟨pe, ld, ll, rd, rl, pz, asc, vd, vl, dn, uq, low, ech, pos, arr, ker⟩ := h
  dsimp only at pe ld ll rd rl pz asc vd vl dn uq low ech pos arr ker hi hnz bd bl hp
  obtain ⟨k, hk⟩ : ∃ k, piv.length = k := ⟨_, rfl⟩
  rw [hk] at pe ld ll pz asc vd vl dn uq ech pos bd
  have lld : ∀ t, t < k → (rowL done t).length = N := fun t ht => rd _ (rowL_mem (by omega))
  have lll : ∀ x, x < left.length → (rowL left x).length = N := fun x hx => rl _ (rowL_mem hx)
  -- the pivot's row
  obtain ⟨P, hP⟩ : ∃ P, ownR (rowL left i) D = P := ⟨_, rfl⟩
  obtain ⟨sg, hsg⟩ : ∃ sg : Int, (if gt (rowL left i) D < 0 then -1 else 1) = sg := ⟨_, rfl⟩
  have sg1 : sg = 1 ∨ sg = -1 := by rw [← hsg]; split <;> simp
  have lP : P.length = N := by rw [← hP, ownR_len]; exact lll i hi
  have atP : ∀ c, c < N → gt P c = sg * gt (rowL left i) c := fun c hc => by
    rw [← hP, gt_ownR (fun c hc => bl i hi c (by rw [lll i hi] at hc; exact hc)) (by rw [lll i hi]; exact hc), hsg]
  have PD : 0 < gt P D := by rw [atP D hDN, ← hsg]; split <;> omega
  have bP : ∀ c, c < N → -720000000 ≤ gt P c ∧ gt P c ≤ 720000000 := fun c hc => by
    have := bl i hi c hc
    rw [atP c hc]; rcases sg1 with e | e <;> rw [e] <;> omega
  have zP : ∀ c, c < D → gt P c = 0 := fun c hc => by rw [atP c (by omega), low i hi c hc, Int.mul_zero]
  -- the new order
  obtain ⟨A', hA'⟩ : ∃ A' : Nat → Nat → Int, (fun x => A (olX k i x)) = A' := ⟨_, rfl⟩
  obtain ⟨p', hp'⟩ : ∃ p' : Nat → Nat, (fun t => if t < k then p t else D) = p' := ⟨_, rfl⟩
  have a' : ∀ x, A' x = A (olX k i x) := fun x => by rw [← hA']
  have ou : ∀ x, x < k → olX k i x = x := fun x hx => by unfold olX; rw [if_pos hx]
  have ok : olX k i k = k + i := by unfold olX; rw [if_neg (by omega), if_pos rfl]
  have ox : ∀ x, olX k i (k + 1 + x) = k + (if x < i then x else x + 1) := fun x => by
    unfold olX
    rw [if_neg (by omega), if_neg (by omega)]
    by_cases e : x < i
    · rw [if_pos (by omega), if_pos e]; omega
    · rw [if_neg (by omega), if_neg e]; omega
  have ol : ∀ x, x < R → olX k i x < R := fun x hx => by unfold olX; split <;> (try split) <;> (try split) <;> omega
  have og : ∀ x, k ≤ x → k ≤ olX k i x := fun x hx => by unfold olX; split <;> (try split) <;> (try split) <;> omega
  have a'u : ∀ x, x < k → A' x = A x := fun x hx => by rw [a', ou x hx]
  have pu : ∀ t, t < k → p' t = p t := fun t ht => by rw [← hp']; simp [ht]
  have pk : p' k = D := by rw [← hp']; simp
  have mu : ∀ t, t < k → ∀ c, mk A' p' k t c = mk A p k t c := fun t ht c => mk_congr pu a'u (a'u t ht)
  have dte : dt A' p' k = dt A p k := detC_congr k fun t ht x hx => by unfold colF; rw [a'u x hx, pu t ht]
  have ml : ∀ x, mk A' p' k x = fun c => mk A p k (olX k i x) c := fun x => by
    funext c
    by_cases e : x < k
    · rw [ou x e, mu x e]
    · rw [mk_low (by omega), mk_low (x := olX k i x) (og x (by omega)), dte, a' x]
      congr 1
      exact sumTo_congr k fun t ht => by rw [mu t ht, pu t ht]
  obtain ⟨G, hG0, hG⟩ : ∃ G, G ≠ 0 ∧ ∀ c, c < N → mk A' p' k k c = G * gt P c := by
    obtain ⟨g, hg, e⟩ := vl i hi
    refine ⟨g * sg, ?_, fun c hc => ?_⟩
    · rcases sg1 with e | e <;> rw [e] <;> omega
    · rw [ml, ok]
      show mk A p k (k + i) c = _
      rw [e c hc, atP c hc]
      rcases sg1 with e | e <;> rw [e] <;> grind
  have dk : dt A' p' (k + 1) = G * gt P D := by rw [dt_succ, pk, hG D hDN]
  have dk0 : dt A' p' (k + 1) ≠ 0 := by rw [dk]; exact Int.mul_ne_zero hG0 (by omega)
  have uqk : Uniq A' p' k := by
    intro z hz
    refine uq z fun x hx => ?_
    rw [← hz x hx]
    exact sumTo_congr k fun t ht => by rw [a'u x hx, pu t ht]
  have uq' : Uniq A' p' (k + 1) := uniq_succ uqk (by rw [dte]; exact dn) dk0
  -- a row that the pivot's row is taken from
  have wip : ∀ {q : List Int}, q.length = N → (∀ c, c < N → -720000000 ≤ gt q c ∧ gt q c ≤ 720000000) → ∀ c, c < N → gt (wipR q P D) c = gt q c * gt P D - gt P c * gt q D := fun hq hb c hc => gt_wipR (by omega) (hb c hc) (bP D hDN) (bP c hc) (hb D hDN)
  have row : ∀ {q : List Int} {x : Nat} {g : Int}, q.length = N → (∀ c, c < N → -720000000 ≤ gt q c ∧ gt q c ≤ 720000000) → x ≠ k → g ≠ 0 → (∀ c, c < N → mk A' p' k x c = g * gt q c) → ∃ g', g' ≠ 0 ∧ ∀ c, c < N → mk A' p' (k + 1) x c = g' * gt (withoutR q P D) c := by
    intro q x g hq hb hx hg hm
    have hs := fun c => mk_step uq' hx c
    have := prim_mul (q := wipR q P D) (m := fun c => mk A' p' (k + 1) x c) (d := dt A p k) (K := g * G) dn (Int.mul_ne_zero hg hG0) (fun c hc => by
      rw [wipR_len, hq] at hc
      have h1 := hs c
      rw [dte, dk, pk, hm c hc, hm D hDN, hG c hc] at h1
      rw [wip hq hb c hc]
      show dt A p k * mk A' p' (k + 1) x c = _
      rw [h1]
      grind)
    rw [wipR_len, hq] at this
    exact this
  have zr : ∀ {q : List Int}, q.length = N → (∀ c, c < N → -720000000 ≤ gt q c ∧ gt q c ≤ 720000000) → ∀ c, c < N → gt q c = 0 → gt P c = 0 → gt (withoutR q P D) c = 0 := by
    intro q hq hb c hc h1 h2
    exact gt_primR0 (by rw [wipR_len]; omega) (by rw [wip hq hb c hc, h1, h2]; simp)
  have er : stepR D { done := done, left := left, piv := piv } = { done := (done.map fun q => withoutR q P D) ++ [P], left := (left.eraseIdx i).map fun q => withoutR q P D, piv := piv ++ [(D : Int)] } := by
    unfold stepR
    dsimp only
    rw [hp]
    simp only [hP]
  rw [er]
  have hpl : (piv ++ [(D : Int)]).length = k + 1 := by simp [hk]
  have hel : (left.eraseIdx i).length = left.length - 1 := List.length_eraseIdx_of_lt hi
  have hll : ((left.eraseIdx i).map fun q => withoutR q P D).length = left.length - 1 := by rw [List.length_map, hel]
  have dnu : ∀ t, t < k → rowL ((done.map fun q => withoutR q P D) ++ [P]) t = withoutR (rowL done t) P D := fun t ht => by rw [rowL_snoc, if_pos (by simp; omega), rowL_map _ (by omega)]
  have dnk : rowL ((done.map fun q => withoutR q P D) ++ [P]) k = P := by rw [rowL_snoc, if_neg (by simp; omega), if_pos (by simp; omega)]
  have lfx : ∀ x, x < left.length - 1 → rowL ((left.eraseIdx i).map fun q => withoutR q P D) x = withoutR (rowL left (if x < i then x else x + 1)) P D := fun x hx => by rw [rowL_map _ (by omega), rowL_erase]
  have lx : ∀ x, x < left.length - 1 → (if x < i then x else x + 1) < left.length := fun x hx => by split <;> omega
  refine ⟨A', p', ?_⟩
  constructor <;> (try dsimp only)
  case pe =>
    intro t ht
    rw [hpl] at ht
    rw [gt_snoc, hk]
    by_cases e : t < k
    · rw [if_pos e, pu t e]; exact pe t e
    · have e2 : t = k := by omega
      subst e2; rw [if_neg e, if_pos rfl, pk]
  case ld => simp [ld, hk]
  case ll => rw [hpl, hll]; omega
  case rd =>
    intro q hq
    rcases List.mem_append.mp hq with hq | hq
    · obtain ⟨r, hr, rfl⟩ := List.mem_map.mp hq; rw [withoutR_len]; exact rd r hr
    · rw [List.mem_singleton] at hq; rw [hq]; exact lP
  case rl =>
    intro q hq
    obtain ⟨r, hr, rfl⟩ := List.mem_map.mp hq; rw [withoutR_len]; exact rl r (List.mem_of_mem_eraseIdx hr)
  case pz =>
    intro t ht
    rw [hpl] at ht
    by_cases e : t < k
    · rw [pu t e]; have := pz t e; omega
    · have e2 : t = k := by omega
      rw [e2, pk]; omega
  case asc =>
    intro a b hab hb
    rw [hpl] at hb
    by_cases e : b < k
    · rw [pu a (by omega), pu b e]; exact asc a b hab e
    · have e2 : b = k := by omega
      rw [e2, pk, pu a (by omega)]; exact pz a (by omega)
  case vd =>
    intro t ht
    rw [hpl] at ht ⊢
    by_cases e : t < k
    · rw [dnu t e]
      obtain ⟨g, hg, hm⟩ := vd t e
      exact row (lld t e) (bd t e) (by omega) hg fun c hc => by rw [mu t e]; exact hm c hc
    · have e2 : t = k := by omega
      rw [e2, dnk]
      exact ⟨G, hG0, fun c hc => by rw [mk_succ_own]; exact hG c hc⟩
  case vl =>
    intro x hx
    rw [hll] at hx
    rw [hpl, lfx x hx]
    obtain ⟨g, hg, hm⟩ := vl _ (lx x hx)
    exact row (lll _ (lx x hx)) (bl _ (lx x hx)) (by omega) hg fun c hc => by rw [ml, ox]; exact hm c hc
  case dn => rw [hpl]; exact dk0
  case uq => rw [hpl]; exact uq'
  case low =>
    intro x hx c hc
    rw [hll] at hx
    rw [lfx x hx]
    by_cases e : c < D
    · exact zr (lll _ (lx x hx)) (bl _ (lx x hx)) c (by omega) (low _ (lx x hx) c e) (zP c e)
    · have e2 : c = D := by omega
      rw [e2]
      exact gt_primR0 (by rw [wipR_len, lll _ (lx x hx)]; exact hDN) (by rw [wip (lll _ (lx x hx)) (bl _ (lx x hx)) D hDN]; grind)
  case ech =>
    intro t ht c hc
    rw [hpl] at ht
    by_cases e : t < k
    · rw [pu t e] at hc
      have := pz t e
      rw [dnu t e]
      exact zr (lld t e) (bd t e) c (by omega) (ech t e c hc) (zP c (by omega))
    · have e2 : t = k := by omega
      rw [e2, pk] at hc
      rw [e2, dnk]; exact zP c hc
  case pos =>
    intro t ht
    rw [hpl] at ht
    by_cases e : t < k
    · have := pz t e
      rw [dnu t e, pu t e]
      refine gt_primR_pos (by rw [wipR_len, lld t e]; omega) ?_
      rw [wip (lld t e) (bd t e) _ (by omega), zP _ this, Int.zero_mul, Int.sub_zero]
      exact Int.mul_pos (pos t e) PD
    · have e2 : t = k := by omega
      rw [e2, dnk, pk]; exact PD
  case arr => intro x hx; rw [a']; exact arr _ (ol x hx)
  case ker =>
    intro w
    rw [ker w]
    constructor
    · intro hw x hx
      rw [a']; exact hw _ (ol x hx)
    · intro hw x hx
      by_cases e : x < k
      · have := hw x hx; rw [a', ou x e] at this; exact this
      · by_cases e2 : x = k + i
        · have := hw k (by omega); rw [a', ok] at this; rw [e2]; exact this
        · by_cases e3 : x < k + i
          · have := hw (k + 1 + (x - k)) (by omega)
            rw [a', ox, if_pos (by omega), show k + (x - k) = x by omega] at this; exact this
          · have := hw (k + 1 + (x - k - 1)) (by omega)
            rw [a', ox, if_neg (by omega), show k + (x - k - 1 + 1) = x by omega] at this; exact this
end Go.Proofs.Ytfnomiingelfaaa
/- Two reduced echelon forms with the same vectors read as 0: the same pivots, rows that are multiples. Plain words. Speaks of no program. -/
namespace Go.Proofs.Ytfnomiingelfaaa
open Go.RowKit

structure Ech (N n k : Nat) (p : Nat → Nat) (B : Nat → Nat → Int) : Prop where
  nN : n ≤ N
  pz : ∀ t, t < k → p t < n
  asc : ∀ a b, a < b → b < k → p a < p b
  nz : ∀ t, t < k → B t (p t) ≠ 0
  self : ∀ a b, a < k → b < k → a ≠ b → B b (p a) = 0
  ech : ∀ t, t < k → ∀ c, c < p t → B t c = 0
variable {N n k : Nat} {p : Nat → Nat} {B : Nat → Nat → Int}
theorem Ech.inj (h : Ech N n k p B) {a b : Nat} (ha : a < k) (hb : b < k) (e : p a = p b) : a = b := by
  rcases Nat.lt_trichotomy a b with h1 | h1 | h1
  · have := h.asc a b h1 hb; omega
  · exact h1
  · have := h.asc b a h1 ha; omega
theorem common (g : Nat → Int) : ∀ k, (∀ t, t < k → g t ≠ 0) → ∃ L : Int, L ≠ 0 ∧ ∃ q : Nat → Int, ∀ t, t < k → L = g t * q t
  | 0, _ => ⟨1, by decide, fun _ => 0, fun t h => absurd h (by omega)⟩
  | k + 1, h => by
    obtain ⟨L, hL, q, hq⟩ := common g k fun t ht => h t (by omega)
    refine ⟨L * g k, Int.mul_ne_zero hL (h k (by omega)), fun t => if t = k then L else q t * g k, fun t ht => ?_⟩
    dsimp only
    by_cases e : t = k
    · rw [if_pos e, e]; exact Int.mul_comm _ _
    · rw [if_neg e, hq t (by omega), Int.mul_assoc]
theorem Ech.vec (h : Ech N n k p B) {f : Nat} (hf : f < n) (hn : ∀ t, t < k → p t ≠ f) : ∃ w : Nat → Int, w f ≠ 0 ∧ (∀ c, f < c → w c = 0) ∧ (∀ c, c ≠ f → (∀ t, t < k → p t ≠ c) → w c = 0) ∧ (∀ t, t < k → w (p t) * B t (p t) = -(B t f * w f)) ∧ ∀ t, t < k → sumTo (fun c => B t c * w c) N = 0 := by
  obtain ⟨L, hL, q, hq⟩ := common (fun t => B t (p t)) k h.nz
  obtain ⟨w, hw⟩ : ∃ w : Nat → Int, (fun c => if c = f then L else -sumTo (fun t => if p t = c then B t f * q t else 0) k) = w := ⟨_, rfl⟩
  have wf : w f = L := by rw [← hw]; simp
  have wc : ∀ c, c ≠ f → w c = -sumTo (fun t => if p t = c then B t f * q t else 0) k := fun c e => by rw [← hw]; simp [e]
  have w0 : ∀ c, c ≠ f → (∀ t, t < k → p t ≠ c) → w c = 0 := fun c e hc => by
    rw [wc c e, sumZ k fun t ht => by rw [if_neg (hc t ht)]]; rfl
  have wp : ∀ t, t < k → w (p t) = -(B t f * q t) := fun t ht => by
    rw [wc _ (hn t ht), sumOne k ht fun s hs e => by rw [if_neg (fun e2 => e (h.inj hs ht e2))], if_pos rfl]
  refine ⟨w, by rw [wf]; exact hL, fun c hc => ?_, w0, fun t ht => ?_, fun t ht => ?_⟩
  · rw [wc c (by omega), sumZ k fun t ht => ?_]; rfl
    split
    · rename_i e; rw [h.ech t ht f (by omega), Int.zero_mul]
    · rfl
  · have := hq t ht
    rw [wp t ht, wf]; rw [this]; grind
  · have e0 : ∀ c, c < N → c ≠ f → c ≠ p t → B t c * w c = 0 := fun c _ e1 e2 => by
      by_cases e : ∃ s, s < k ∧ p s = c
      · obtain ⟨s, hs, e3⟩ := e
        rw [← e3, h.self s t hs ht (fun e4 => by rw [e4] at e3; omega), Int.zero_mul]
      · rw [w0 c e1 fun s hs e3 => e ⟨s, hs, e3⟩, Int.mul_zero]
    have hp := h.pz t ht
    have hN := h.nN
    have e := hq t ht
    have hnt := hn t ht
    have goal : B t f * w f + B t (p t) * w (p t) = 0 := by rw [wf, wp t ht, e]; grind
    rcases Nat.lt_or_ge f (p t) with h1 | h1
    · rw [sumPair h1 N (by omega) fun c hc a b => e0 c hc a b]; exact goal
    · rw [sumPair (s := p t) (t := f) (by omega) N (by omega) fun c hc a b => e0 c hc b a]; omega
theorem Ech.stop (h : Ech N n k p B) {t : Nat} (ht : t < k) {w : Nat → Int} (hw : sumTo (fun c => B t c * w c) N = 0) (hz : ∀ c, p t < c → c < N → w c = 0) : w (p t) = 0 := by
  have hp := h.pz t ht
  have hN := h.nN
  rw [sumOne (s := p t) N (by omega) fun c hc e => by
    rcases Nat.lt_or_ge c (p t) with h1 | h1
    · rw [h.ech t ht c h1, Int.zero_mul]
    · rw [hz c (by omega) hc, Int.mul_zero]] at hw
  rcases Int.mul_eq_zero.mp hw with e | e
  · exact absurd e (h.nz t ht)
  · exact e
theorem Ech.sub {m j : Nat} {q : Nat → Nat} {C : Nat → Nat → Int} (h : Ech N n k p B) (g : Ech N m j q C) (hk : ∀ w : Nat → Int, (∀ c, m ≤ c → w c = 0) → (∀ t, t < j → sumTo (fun c => C t c * w c) N = 0) → ∀ t, t < k → sumTo (fun c => B t c * w c) N = 0) {t : Nat} (ht : t < k) (hm : p t < m) : ∃ s, s < j ∧ q s = p t := by
  by_cases e : ∃ s, s < j ∧ q s = p t
  · exact e
  · obtain ⟨w, h1, h2, _, _, h5⟩ := g.vec hm fun s hs e2 => e ⟨s, hs, e2⟩
    exact absurd (h.stop ht (hk w (fun c hc => h2 c (by omega)) h5 t ht) fun c hc _ => h2 c hc) h1
theorem same_asc {j : Nat} {p q : Nat → Nat} (hp : ∀ a b, a < b → b < k → p a < p b) (hq : ∀ a b, a < b → b < j → q a < q b) (h1 : ∀ t, t < k → ∃ s, s < j ∧ q s = p t) (h2 : ∀ t, t < j → ∃ s, s < k ∧ p s = q t) : k = j ∧ ∀ t, t < k → p t = q t := by
  have key : ∀ t, t < k → t < j → p t = q t := by
    intro t
    induction t using Nat.strongRecOn with
    | _ t ih =>
      intro ht hj
      rcases Nat.lt_trichotomy (p t) (q t) with e | e | e
      · obtain ⟨s, hs, e2⟩ := h1 t ht
        have hst : s < t := by
          rcases Nat.lt_trichotomy s t with e3 | e3 | e3
          · exact e3
          · rw [e3] at e2; omega
          · have := hq t s e3 hs; omega
        have := ih s hst (by omega) hs
        have := hp s t hst ht
        omega
      · exact e
      · obtain ⟨s, hs, e2⟩ := h2 t hj
        have hst : s < t := by
          rcases Nat.lt_trichotomy s t with e3 | e3 | e3
          · exact e3
          · rw [e3] at e2; omega
          · have := hp t s e3 hs; omega
        have := ih s hst hs (by omega)
        have := hq s t hst hj
        omega
  have hkj : k = j := by
    rcases Nat.lt_trichotomy k j with e | e | e
    · obtain ⟨s, hs, e2⟩ := h2 k e
      have := key s hs (by omega)
      have := hq s k hs e
      omega
    · exact e
    · obtain ⟨s, hs, e2⟩ := h1 j e
      have := key s (by omega) hs
      have := hp s j hs e
      omega
  exact ⟨hkj, fun t ht => key t ht (by omega)⟩
theorem Ech.prop {C : Nat → Nat → Int} (h : Ech N n k p B) (hs : ∀ a b, a < k → b < k → a ≠ b → C b (p a) = 0) (hk : ∀ w : Nat → Int, (∀ c, n ≤ c → w c = 0) → (∀ t, t < k → sumTo (fun c => B t c * w c) N = 0) → ∀ t, t < k → sumTo (fun c => C t c * w c) N = 0) {t f : Nat} (ht : t < k) (hf : f < n) : C t f * B t (p t) = C t (p t) * B t f := by
  by_cases e : ∃ s, s < k ∧ p s = f
  · obtain ⟨s, hs2, rfl⟩ := e
    by_cases e2 : s = t
    · rw [e2]
    · rw [hs s t hs2 ht e2, h.self s t hs2 ht e2]; simp
  · have hnt : ∀ s, s < k → p s ≠ f := fun s hs e2 => e ⟨s, hs, e2⟩
    obtain ⟨w, h1, h2, h3, h4, h5⟩ := h.vec hf hnt
    have hp := h.pz t ht
    have hN := h.nN
    have hne := hnt t ht
    have e0 : ∀ c, c < N → c ≠ f → c ≠ p t → C t c * w c = 0 := fun c _ e1 e2 => by
      by_cases e : ∃ s, s < k ∧ p s = c
      · obtain ⟨s, hs2, e3⟩ := e
        rw [← e3, hs s t hs2 ht (fun e4 => by rw [e4] at e3; omega), Int.zero_mul]
      · rw [h3 c e1 fun s hs e3 => e ⟨s, hs, e3⟩, Int.mul_zero]
    have z := hk w (fun c hc => h2 c (by omega)) h5 t ht
    have z2 : C t f * w f + C t (p t) * w (p t) = 0 := by
      rcases Nat.lt_or_ge f (p t) with h6 | h6
      · rw [sumPair h6 N (by omega) fun c hc a b => e0 c hc a b] at z; exact z
      · rw [sumPair (s := p t) (t := f) (by omega) N (by omega) fun c hc a b => e0 c hc b a] at z; omega
    have h4 := h4 t ht
    refine Int.eq_of_mul_eq_mul_right h1 ?_
    grind
end Go.Proofs.Ytfnomiingelfaaa
/- The answers' reduction and the program's agree. Plain words. Speaks of no program. -/
namespace Go.Proofs.Ytfnomiingelfaaa
open Go.RowKit

theorem redR_succ (M : List (List Int)) (D : Nat) : redR M (D + 1) = stepR D (redR M D) := rfl
theorem rbar_all {R N cols : Nat} {M : List (List Int)} (h1 : M.length = R) (h2 : ∀ q ∈ M, q.length = N) (hR : R ≤ 6) (hb1 : ∀ i, i < R → ∀ c, c < cols → -1 ≤ a0 M i c ∧ a0 M i c ≤ 1) (hb2 : ∀ i, i < R → ∀ c, c < N → -1000000 ≤ a0 M i c ∧ a0 M i c ≤ 1000000) :
    ∀ D, D ≤ N → D ≤ cols + 1 → ∃ A p, RBar R N D (a0 M) A p (redR M D)
  | 0, _, _ => ⟨_, _, rbar_start h1 h2⟩
  | D + 1, hD, hc => by
    obtain ⟨A, p, hA⟩ := rbar_all h1 h2 hR hb1 hb2 D (by omega) (by omega)
    rw [redR_succ]
    cases hp : lastR (redR M D).left D (redR M D).left.length with
    | none => exact ⟨A, p, rbar_skip hA hp⟩
    | some i => exact rbar_step hA hR (by omega) (by omega) hb1 hb2 hp
theorem RBar.ech' {R N D : Nat} {A0 A : Nat → Nat → Int} {p : Nat → Nat} {s : Rs} (h : RBar R N D A0 A p s) (hD : D ≤ N) : Ech N D s.piv.length p (fun t c => gt (rowL s.done t) c) where
  nN := hD
  pz := h.pz
  asc := h.asc
  nz := fun t ht => by have := h.pos t ht; omega
  self := fun a b ha hb e => by
    obtain ⟨g, hg, hm⟩ := h.vd b hb
    have h1 := hm (p a) (by have := h.pz a ha; omega)
    rw [mk_self h.uq ha hb, if_neg (Ne.symm e)] at h1
    rcases Int.mul_eq_zero.mp h1.symm with e2 | e2
    · exact absurd e2 hg
    · exact e2
  ech := h.ech
theorem sumG {f u : Nat → Int} {g : Int} {N : Nat} (w : Nat → Int) (h : ∀ c, c < N → f c = g * u c) : sumTo (fun c => f c * w c) N = g * sumTo (fun c => u c * w c) N := by
  rw [← sumTo_mul]
  exact sumTo_congr N fun c hc => by rw [h c hc, Int.mul_assoc]
theorem RBar.ker' {R N : Nat} {A0 A : Nat → Nat → Int} {p : Nat → Nat} {s : Rs} (h : RBar R N N A0 A p s) (w : Nat → Int) : (∀ i, i < R → sumTo (fun c => A0 i c * w c) N = 0) ↔ (∀ t, t < s.piv.length → sumTo (fun c => gt (rowL s.done t) c * w c) N = 0) := by
  have hl := h.ll
  rw [h.ker w, mk_ker h.uq h.dn R N (by omega) w]
  constructor
  · intro hw t ht
    obtain ⟨g, hg, hm⟩ := h.vd t ht
    have h1 := hw t (by omega)
    rw [sumG w hm] at h1
    rcases Int.mul_eq_zero.mp h1 with e | e
    · exact absurd e hg
    · exact e
  · intro hw x hx
    by_cases e : x < s.piv.length
    · obtain ⟨g, hg, hm⟩ := h.vd x e
      rw [sumG w hm, hw x e, Int.mul_zero]
    · have hx2 : x - s.piv.length < s.left.length := by omega
      obtain ⟨g, hg, hm⟩ := h.vl _ hx2
      rw [show s.piv.length + (x - s.piv.length) = x by omega] at hm
      exact sumZ N fun c hc => by rw [hm c hc, h.low _ hx2 c hc]; simp
theorem RFin.ech' {R N cols : Nat} {A0 : Nat → Nat → Int} {r : Rd} (h : RFin R N cols A0 r) (hc : cols ≤ N) : Ech N cols r.piv.length (pivN r) (fun t c => gt (rowL r.rows t) c) where
  nN := hc
  pz := fun t ht => h.pivN_lt ht
  asc := h.asc
  nz := fun t ht => by have h1 := h.self t t ht ht; have := h.pos; rw [if_pos rfl] at h1; omega
  self := fun a b ha hb e => by have h1 := h.self a b ha hb; rw [if_neg (Ne.symm e)] at h1; exact h1
  ech := h.ech
theorem RFin.ker' {R N cols : Nat} {A0 : Nat → Nat → Int} {r : Rd} (h : RFin R N cols A0 r) (hz : ∀ x, r.piv.length ≤ x → x < R → ∀ c, c < N → gt (rowL r.rows x) c = 0) (w : Nat → Int) : (∀ i, i < R → sumTo (fun c => A0 i c * w c) N = 0) ↔ (∀ t, t < r.piv.length → sumTo (fun c => gt (rowL r.rows t) c * w c) N = 0) := by
  have hl := h.pl
  rw [h.ker w]
  constructor
  · intro hw t ht; exact hw t (by omega)
  · intro hw x hx
    by_cases e : x < r.piv.length
    · exact hw x e
    · exact sumZ N fun c hc => by rw [hz x (by omega) hx c hc, Int.zero_mul]
theorem list_gt {xs ys : List Int} (h1 : xs.length = ys.length) (h2 : ∀ t, t < xs.length → gt xs t = gt ys t) : xs = ys := by
  apply List.ext_getElem h1
  intro t ha hb
  have := h2 t ha
  unfold gt at this
  simpa [ha, hb] using this
theorem red_agree {R N cols : Nat} {A0 A : Nat → Nat → Int} {p : Nat → Nat} {r : Rd} {s : Rs} (h : RFin R N cols A0 r) (hc : cols ≤ N) (g : RBar R N N A0 A p s) (hz : ∀ x, r.piv.length ≤ x → x < R → ∀ c, c < N → gt (rowL r.rows x) c = 0) :
    s.piv = r.piv ∧ (∀ t, t < s.piv.length → p t = pivN r t) ∧ ∀ t, t < s.piv.length → ∀ f, f < N → gt (rowL r.rows t) f * gt (rowL s.done t) (p t) = r.dv * gt (rowL s.done t) f := by
  have e1 := h.ech' hc
  have e2 := g.ech' (Nat.le_refl N)
  have e1N : Ech N N r.piv.length (pivN r) (fun t c => gt (rowL r.rows t) c) := { e1 with nN := Nat.le_refl N, pz := fun t ht => by have := e1.pz t ht; omega }
  have k1 := h.ker' hz
  have k2 := g.ker'
  obtain ⟨q1, q2⟩ := same_asc e2.asc e1.asc
    (fun t ht => e2.sub e1N (fun w _ hw => (k2 w).mp ((k1 w).mpr hw)) ht (e2.pz t ht))
    (fun t ht => e1N.sub e2 (fun w _ hw => (k1 w).mp ((k2 w).mpr hw)) ht (e1N.pz t ht))
  refine ⟨list_gt q1 fun t ht => ?_, q2, fun t ht f hf => ?_⟩
  · rw [g.pe t ht, q2 t ht, h.pivN_eq (by omega)]
  · have := e2.prop (C := fun t c => gt (rowL r.rows t) c) (fun a b ha hb e => by rw [q2 a ha]; exact e1.self a b (by omega) (by omega) e) (fun w _ hw t ht => (k1 w).mp ((k2 w).mpr hw) t (by omega)) ht hf
    rw [this, q2 t ht]
    have h3 := h.self t t (by omega) (by omega)
    rw [if_pos rfl] at h3
    rw [h3]
end Go.Proofs.Ytfnomiingelfaaa
/- The answers' kernel vectors are the program's. Plain words. Speaks of no program. -/
namespace Go.Proofs.Ytfnomiingelfaaa
open Go.RowKit

theorem gcdTo_scale {v w : List Int} {a b : Nat} : ∀ n, (∀ c, c < n → (a : Int) * gt v c = (b : Int) * gt w c) → a * gcdTo v n = b * gcdTo w n
  | 0, _ => by simp [gcdTo]
  | n + 1, h => by
    have h1 := gcdTo_scale n fun c hc => h c (by omega)
    have h2 := congrArg Int.natAbs (h n (by omega))
    rw [Int.natAbs_mul, Int.natAbs_mul, Int.natAbs_natCast, Int.natAbs_natCast] at h2
    show a * Nat.gcd (gcdTo v n) (gt v n).natAbs = b * Nat.gcd (gcdTo w n) (gt w n).natAbs
    rw [← Nat.gcd_mul_left, ← Nat.gcd_mul_left, h1, h2]
theorem primR_prop {v w : List Int} {a b : Nat} (hl : v.length = w.length) (ha : 0 < a) (hb : 0 < b) (h : ∀ c, c < v.length → (a : Int) * gt v c = (b : Int) * gt w c) : primR v = primR w := by
  have hg := gcdTo_scale v.length h
  have hg : a * gcdL v = b * gcdL w := by rw [gcdL, gcdL, ← hl]; exact hg
  refine list_gt (by rw [primR_len, primR_len, hl]) fun c hc => ?_
  rw [primR_len] at hc
  have e1 := gt_primR hc
  have e2 := gt_primR (q := w) (c := c) (by omega)
  have e := h c hc
  by_cases h0 : gcdL v = 0
  · have h0' : gcdL w = 0 := by
      rw [h0, Nat.mul_zero] at hg
      rcases Nat.mul_eq_zero.mp hg.symm with e | e
      · omega
      · exact e
    rw [gt_primR0 hc (gcdTo_zero _ h0 c hc), gt_primR0 (q := w) (by omega) (gcdTo_zero _ h0' c (by omega))]
  · have h0' : gcdL w ≠ 0 := by
      intro e
      rw [e, Nat.mul_zero] at hg
      rcases Nat.mul_eq_zero.mp hg with e | e <;> omega
    rw [show max (gcdL v) 1 = gcdL v by omega] at e1
    rw [show max (gcdL w) 1 = gcdL w by omega] at e2
    rw [e1, e2, ← Int.mul_assoc, ← Int.mul_assoc, ← Int.natCast_mul, ← Int.natCast_mul, hg] at e
    refine Int.eq_of_mul_eq_mul_left ?_ e
    have : b * gcdL w ≠ 0 := Nat.mul_ne_zero (by omega) h0'
    omega
theorem primR_short {v : List Int} (h : gcdL v ≠ 0) : primR v = shortL v := by
  unfold primR shortL
  rw [show max (gcdL v) 1 = gcdL v by omega]
def pvR (s : Rs) (t : Nat) : Int := gt (rowL s.done t) (gt s.piv t).toNat
def lcTo (s : Rs) : Nat → Int
  | 0 => 1
  | t + 1 => IntKind.i64.wrap ((lcTo s t).tdiv ((Nat.gcd (lcTo s t).natAbs (pvR s t).natAbs : Nat) : Int) * pvR s t)
def rkV (s : Rs) (all : Int) (f t : Nat) : Int := IntKind.i64.wrap (IntKind.i64.wrap (-gt (rowL s.done t) f) * all.tdiv (pvR s t))
def rkTo (n : Nat) (s : Rs) (all : Int) (f : Nat) : Nat → List Int
  | 0 => (List.replicate n 0).set f all
  | t + 1 => (rkTo n s all f t).set (gt s.piv t).toNat (rkV s all f t)
theorem rkTo_len (n : Nat) (s : Rs) (all : Int) (f : Nat) : ∀ t, (rkTo n s all f t).length = n
  | 0 => by simp [rkTo]
  | t + 1 => by unfold rkTo; rw [List.length_set]; exact rkTo_len n s all f t
theorem lc_step {L d D : Nat} (hL : 0 < L) (hd : 0 < d) (h1 : L ∣ D) (h2 : d ∣ D) (hD : 0 < D ∧ D ≤ 720) : IntKind.i64.wrap ((L : Int).tdiv ((Nat.gcd L d : Nat) : Int) * (d : Int)) = ((Nat.lcm L d : Nat) : Int) ∧ 0 < Nat.lcm L d ∧ Nat.lcm L d ∣ D := by
  have h3 : Nat.lcm L d ∣ D := Nat.lcm_dvd h1 h2
  have h4 : 0 < Nat.lcm L d := Nat.lcm_pos hL hd
  have h5 := Nat.le_of_dvd hD.1 h3
  have e : (L : Int).tdiv ((Nat.gcd L d : Nat) : Int) * (d : Int) = ((Nat.lcm L d : Nat) : Int) := by
    have e1 : (L : Int).tdiv ((Nat.gcd L d : Nat) : Int) = ((L / Nat.gcd L d : Nat) : Int) := by rw [Int.ofNat_tdiv]
    rw [e1, ← Int.natCast_mul]
    congr 1
    unfold Nat.lcm
    exact (Nat.div_mul_right_comm (Nat.gcd_dvd_left L d) d).symm |> fun x => by omega
  exact ⟨by rw [e, wrap_id (by omega) (by omega)], h4, h3⟩
theorem RBar.pv {R N D : Nat} {A0 A : Nat → Nat → Int} {p : Nat → Nat} {s : Rs} (h : RBar R N D A0 A p s) {t : Nat} (ht : t < s.piv.length) : pvR s t = gt (rowL s.done t) (p t) := by unfold pvR; rw [h.pe t ht]; rfl
theorem RBar.dt_bd {R N : Nat} {A0 A : Nat → Nat → Int} {p : Nat → Nat} {s : Rs} (h : RBar R N N A0 A p s) (hR : R ≤ 6) (hb : ∀ i, i < R → ∀ c, c < N → -1 ≤ A0 i c ∧ A0 i c ≤ 1) (hk : 0 < s.piv.length) : (dt A p s.piv.length).natAbs ≤ 720 ∧ ∀ t, t < s.piv.length → pvR s t ∣ dt A p s.piv.length := by
  have hl := h.ll
  have hA : ∀ x, x < R → ∀ c, c < N → -1 ≤ A x c ∧ A x c ≤ 1 := fun x hx c hc => arr_bd h.arr (fun i hi => hb i hi c hc) x hx
  constructor
  · have := mk_bd6 (A := A) (p := p) (k := s.piv.length) (x := 0) (c := p 0) (R := R) (Y := 1) (by decide) (by omega) hR (by omega) (fun i hi t ht => hA i hi _ (h.pz t ht)) (fun i hi => hA i hi _ (h.pz 0 hk))
    rw [mk_self h.uq hk hk, if_pos rfl] at this
    omega
  · intro t ht
    obtain ⟨g, hg, hm⟩ := h.vd t ht
    have := hm (p t) (h.pz t ht)
    rw [mk_self h.uq ht ht, if_pos rfl] at this
    rw [h.pv ht]
    exact ⟨g, by rw [this, Int.mul_comm]⟩
theorem RBar.lc {R N : Nat} {A0 A : Nat → Nat → Int} {p : Nat → Nat} {s : Rs} (h : RBar R N N A0 A p s) (hR : R ≤ 6) (hb : ∀ i, i < R → ∀ c, c < N → -1 ≤ A0 i c ∧ A0 i c ≤ 1) : ∀ t, t ≤ s.piv.length → ∃ L : Nat, lcTo s t = (L : Int) ∧ 0 < L ∧ L ≤ 720 ∧ (0 < s.piv.length → L ∣ (dt A p s.piv.length).natAbs) ∧ ∀ i, i < t → pvR s i ∣ lcTo s t
  | 0, _ => ⟨1, rfl, by decide, by decide, fun _ => Nat.one_dvd _, fun i hi => absurd hi (by omega)⟩
  | t + 1, ht => by
    obtain ⟨L, e, h1, h2, h3, h4⟩ := RBar.lc h hR hb t (by omega)
    obtain ⟨b1, b2⟩ := h.dt_bd hR hb (by omega)
    have hpos := h.pos t (by omega)
    rw [← h.pv (by omega)] at hpos
    obtain ⟨d, hd⟩ : ∃ d : Nat, pvR s t = (d : Int) := ⟨(pvR s t).natAbs, by omega⟩
    have b3 := b2 t (by omega)
    rw [hd] at b3 hpos
    have b4 : d ∣ (dt A p s.piv.length).natAbs := Int.ofNat_dvd_left.mp b3
    have hD : 0 < (dt A p s.piv.length).natAbs := by have := h.dn; omega
    obtain ⟨c1, c2, c3⟩ := lc_step h1 (by omega) (h3 (by omega)) b4 ⟨hD, b1⟩
    have ee : lcTo s (t + 1) = ((Nat.lcm L d : Nat) : Int) := by
      rw [← c1]
      show IntKind.i64.wrap ((lcTo s t).tdiv ((Nat.gcd (lcTo s t).natAbs (pvR s t).natAbs : Nat) : Int) * pvR s t) = _
      rw [e, hd, Int.natAbs_natCast, Int.natAbs_natCast]
    refine ⟨Nat.lcm L d, ee, c2, by have := Nat.le_of_dvd hD c3; omega, fun _ => c3, fun i hi => ?_⟩
    rw [ee]
    by_cases e2 : i = t
    · rw [e2, hd]; exact Int.natCast_dvd_natCast.mpr (Nat.dvd_lcm_right _ _)
    · have := h4 i (by omega)
      rw [e] at this
      exact Int.dvd_trans this (Int.natCast_dvd_natCast.mpr (Nat.dvd_lcm_left _ _))
end Go.Proofs.Ytfnomiingelfaaa
/- The answers' kernel vector of a column is the program's. Plain words. Speaks of no program. -/
namespace Go.Proofs.Ytfnomiingelfaaa
open Go.RowKit

theorem gt_rep {n f c : Nat} {v : Int} (hf : f < n) : gt ((List.replicate n (0 : Int)).set f v) c = if c = f then v else 0 := by
  rw [gt_set (by simpa using hf)]
  split
  · rfl
  · unfold gt; rw [List.getElem?_replicate]; split <;> rfl
theorem rk_at {R N D : Nat} {A0 A : Nat → Nat → Int} {p : Nat → Nat} {s : Rs} (h : RBar R N D A0 A p s) (hD : D ≤ N) {f : Nat} (hf : f < N) (hn : ∀ t, t < s.piv.length → p t ≠ f) (all : Int) : ∀ T, T ≤ s.piv.length →
    gt (rkTo N s all f T) f = all ∧ (∀ t, t < T → gt (rkTo N s all f T) (p t) = rkV s all f t) ∧ (∀ c, c ≠ f → (∀ t, t < T → p t ≠ c) → gt (rkTo N s all f T) c = 0)
  | 0, _ => ⟨by show gt ((List.replicate N (0 : Int)).set f all) f = _; rw [gt_rep hf, if_pos rfl], fun t ht => absurd ht (by omega), fun c hc _ => by show gt ((List.replicate N (0 : Int)).set f all) c = _; rw [gt_rep hf, if_neg hc]⟩
  | T + 1, hT => by
    obtain ⟨h1, h2, h3⟩ := rk_at h hD hf hn all T (by omega)
    have hp := h.pz T (by omega)
    have e : ∀ c, gt (rkTo N s all f (T + 1)) c = if c = p T then rkV s all f T else gt (rkTo N s all f T) c := fun c => by
      show gt ((rkTo N s all f T).set (gt s.piv T).toNat (rkV s all f T)) c = _
      rw [h.pe T (by omega), Int.toNat_natCast, gt_set (by rw [rkTo_len]; omega)]
    refine ⟨?_, fun t ht => ?_, fun c hc hcc => ?_⟩
    · rw [e, if_neg (fun e2 => hn T (by omega) e2.symm)]; exact h1
    · rw [e]
      by_cases e2 : t = T
      · rw [e2, if_pos rfl]
      · rw [if_neg (fun e3 => by have := h.asc t T (by omega) (by omega); omega)]; exact h2 t (by omega)
    · rw [e, if_neg (fun e2 => hcc T (by omega) e2.symm)]; exact h3 c hc fun t ht => hcc t (by omega)
theorem ker_agree {R N : Nat} {A0 A : Nat → Nat → Int} {p : Nat → Nat} {r : Rd} {s : Rs} (h : RFin R N N A0 r) (g : RBar R N N A0 A p s) (hR : R ≤ 6) (hb : ∀ i, i < R → ∀ c, c < N → -1 ≤ A0 i c ∧ A0 i c ≤ 1) {f : Nat} (hf : f < N) (hn : (f : Int) ∉ r.piv) :
    primR (rkTo N s (lcTo s s.piv.length) f s.piv.length) = shortL (kvec r N f) := by
  have hz : ∀ x, r.piv.length ≤ x → x < R → ∀ c, c < N → gt (rowL r.rows x) c = 0 := h.low
  obtain ⟨e1, e2, e3⟩ := red_agree h (Nat.le_refl N) g hz
  have hnp : ∀ t, t < s.piv.length → p t ≠ f := fun t ht e => hn (by rw [← e1]; exact mem_gt.mpr ⟨t, ht, by rw [g.pe t ht, e]⟩)
  obtain ⟨L, eL, L1, L2, _, L4⟩ := g.lc hR hb s.piv.length (Nat.le_refl _)
  obtain ⟨a1, a2, a3⟩ := rk_at g (Nat.le_refl N) hf hnp (lcTo s s.piv.length) s.piv.length (Nat.le_refl _)
  have bd := (rbar_bd (cols := N) g hR (Nat.le_refl N) hb (fun i hi c hc => by have := hb i hi c hc; omega)).1
  have hpos := h.pos
  have hval : ∀ t, t < s.piv.length → r.dv * rkV s (lcTo s s.piv.length) f t = (L : Int) * -gt (rowL r.rows t) f := by
    intro t ht
    have hp := g.pos t ht
    have hpv := g.pv ht
    have b := bd t ht f hf
    have hd := L4 t ht
    have k := e3 t ht f hf
    obtain ⟨q, hq⟩ := hd
    rw [eL, hpv] at hq
    obtain ⟨P, hP⟩ : ∃ P, gt (rowL s.done t) (p t) = P := ⟨_, rfl⟩
    rw [hP] at hp hq k
    have etd : (lcTo s s.piv.length).tdiv (pvR s t) = q := by
      rw [eL, hpv, hP, hq]; exact Int.mul_tdiv_cancel_left _ (by omega)
    have bq : -720 ≤ q ∧ q ≤ 720 := by
      have h1 : q.natAbs ≤ (P * q).natAbs := by rw [Int.natAbs_mul]; exact Nat.le_mul_of_pos_left _ (by omega)
      rw [← hq, Int.natAbs_natCast] at h1
      omega
    have bm : -518400000000 ≤ -gt (rowL s.done t) f * q ∧ -gt (rowL s.done t) f * q ≤ 518400000000 := by
      have h1 : (-gt (rowL s.done t) f * q).natAbs ≤ 720000000 * 720 := by rw [Int.natAbs_mul]; exact Nat.mul_le_mul (by omega) (by omega)
      omega
    have ev : rkV s (lcTo s s.piv.length) f t = -gt (rowL s.done t) f * q := by
      unfold rkV
      rw [etd, wrap_id (n := -gt (rowL s.done t) f) (by omega) (by omega), wrap_id (by omega) (by omega)]
    rw [ev, hq]
    grind
  have key := primR_prop (v := rkTo N s (lcTo s s.piv.length) f s.piv.length) (w := kvec r N f) (a := r.dv.toNat) (b := L) (by rw [rkTo_len, kvec_len]) (by omega) L1 (fun c hc => by
    rw [rkTo_len] at hc
    rw [show ((r.dv.toNat : Nat) : Int) = r.dv by omega]
    by_cases c1 : c = f
    · rw [c1, a1, h.kvec_free hR (Nat.le_refl N) hf hn, eL, Int.mul_comm]
    · by_cases c2 : ∃ t, t < s.piv.length ∧ p t = c
      · obtain ⟨t, ht, e4⟩ := c2
        rw [← e4, a2 t ht, hval t ht, e2 t ht, h.kvec_piv hR (Nat.le_refl N) hf hn (by rw [← e1]; exact ht)]
      · have c3 : (c : Int) ∉ r.piv := by
          rw [← e1]
          intro hm
          obtain ⟨t, ht, e4⟩ := mem_gt.mp hm
          rw [g.pe t ht] at e4
          exact c2 ⟨t, ht, by omega⟩
        rw [a3 c c1 (fun t ht e4 => c2 ⟨t, ht, e4⟩), h.kvec_else hR (Nat.le_refl N) hf hn hc c1 c3]; simp)
  rw [key, primR_short (h.kvec_gcd hR (Nat.le_refl N) hf hn)]
end Go.Proofs.Ytfnomiingelfaaa
/- Kernel of layer 3: a contract. -/
namespace Go.Proofs.Ytfnomiingelfaaa
open Go.RowKit

theorem wpList_pushRow {ops : Array Oper} {rest : List Oper} {o : Oper} {act : Act} {Q : Exit → Act → World → Prop} (hgd : o.guard = none) (s x : Operand)
    (ho : o.op = .call { callee := .builtin .append, args := #[s, x], argTypes := #[22, 22] }) (base : Nat) (rv : Value) (ads : List (Nat × Nat)) (M : List (List Int)) (row : List Int) (rl : Nat) (hrl : row.length = rl) (nb nc : Nat) (V : World) (t : TypeId) (A : Nat)
    (hv : act.eval s = rv) (hx : act.eval x = .slice (some ⟨A, 0, none⟩) 1 1) (hA : A = V.heap.size) (hown : RS base rv ads M V) (hrow : OwnI V base (.slice (some ⟨nb, 0, none⟩) row.length nc) row)
    (hap : ∀ (i : Nat) (x : Nat × Nat), ads[i]? = some x → x.1 ≠ nb) (hne : rv.ownBlock ≠ some nb) (hl : M.length ≤ 100000) (hbase : base ≤ V.heap.size)
    (h : ∀ g cap w', RS base (.slice (some ⟨g, 0, none⟩) (M.length + 1) cap) (ads ++ [(nb, nc)]) (M ++ [row]) w' → Below base V w' → wpList Try.prog ops Q rest (act.put o.dst (.slice (some ⟨g, 0, none⟩) (M.length + 1) cap)) w') : wpList Try.prog ops Q (o :: rest) act (V.alloc (.cells #[.slice (some ⟨nb, 0, none⟩) rl nc] t)) := by
  subst hrl
  obtain ⟨i0, hi, hz0, hz1, hz2⟩ := info_parts Try.infoRowL
  subst hA
  have hb1 : Below V.heap.size V (V.alloc (.cells #[.slice (some ⟨nb, 0, none⟩) row.length nc] t)) := (Below.refl _ _).alloc (Nat.le_refl _) _
  have hown' := hown.below hb1
  refine wpList_append_lies _ hgd s x 22 ho base 24 i0 (.slice none 0 0) 1 24 Try.underlying22 hi hz0 hz1 hz2 rfl (by decide) rv M.length (hdrs ads M) hv hown'.own ⟨V.heap.size, 0, none⟩ 1 1 [.slice (some ⟨nb, 0, none⟩) row.length nc] hx rfl ?_ ?_ (by decide) (by unfold maxLen; omega) (by omega) (by rw [World.size_alloc]; omega) _ rfl ?_
  · intro j u hj
    match j, hj with
    | 0, hj =>
      simp at hj; subst hj
      rw [addr_add]; exact alloc_cell _ _ _ _ _ rfl
    | j + 1, hj => simp at hj
  · intro u hu; simp at hu; subst hu; rfl
  · intro g cap w' h1 h2 h3 _
    exact h g cap w' (hown'.push (hrow.below hb1) hap hne h1 h2 h3) (((Below.refl base V).alloc hbase _).grown h2 (by rw [World.size_alloc]; omega) (fun k e => (World.ownsRow.lt hown.own k e).1))
theorem RS.nil (base : Nat) (w : World) : RS base (.slice none 0 0) [] [] w := ⟨rfl, World.ownsRow_nil _ _ _ _, fun i x r e _ => by simp at e, fun i j x y e _ _ => by simp at e, fun i x e => by simp at e⟩
theorem RS.ms {base : Nat} {rv : Value} {ads : List (Nat × Nat)} {M : List (List Int)} {w : World} (h : RS base rv ads M w) : ∃ a cap, rv = .slice a M.length cap ∧ Ms w a M := by
  obtain ⟨hx, ⟨e, h0⟩ | ⟨g, cap, cur, e, hg, hb, hn, hm, hsz, ht⟩⟩ := h.own
  · have : M = [] := List.eq_nil_of_length_eq_zero h0
    subst this
    exact ⟨none, 0, e, fun i hi => by simp at hi⟩
  · refine ⟨some ⟨g, 0, none⟩, cap, e, fun i hi => ?_⟩
    have e1 : ads[i]? = some (ads[i]'(by rw [h.len]; exact hi)) := by simp [h.len, hi]
    have e2 : M[i]? = some M[i] := by simp [hi]
    have ho := h.own
    rw [e] at ho
    have hc := ho.cellAt i (by rw [Nat.mul_one]; exact hi)
    rw [hdrs_at e1 e2] at hc
    rw [e2]
    exact ⟨g, 0, _, _, rfl, by rw [Nat.zero_add]; exact hc, (h.row i _ _ e1 e2).sl⟩
end Go.Proofs.Ytfnomiingelfaaa
/- Rows by their headers: a slice of rows whose array is the call's own, and whose rows lie anywhere else and are only read. -/
namespace Go.Proofs.Ytfnomiingelfaaa
open Go.RowKit

def hdO (ads : List (Option Addr × Nat)) (M : List (List Int)) : List Value := List.zipWith (fun x r => Value.slice x.1 r.length x.2) ads M
theorem hdO_at {ads : List (Option Addr × Nat)} {M : List (List Int)} {i : Nat} {x : Option Addr × Nat} {r : List Int} (e1 : ads[i]? = some x) (e2 : M[i]? = some r) : (hdO ads M)[i]? = some (.slice x.1 r.length x.2) := by
  unfold hdO; rw [List.getElem?_zipWith, e1, e2]
theorem hdO_set {ads : List (Option Addr × Nat)} {M : List (List Int)} {i : Nat} {x : Option Addr × Nat} {r : List Int} (hl : ads.length = M.length) (hi : i < M.length) : hdO (ads.set i x) (M.set i r) = (hdO ads M).set i (.slice x.1 r.length x.2) := by
  apply List.ext_getElem?
  intro j
  by_cases e : j = i
  · subst e
    rw [hdO_at (List.getElem?_set_self (by omega)) (List.getElem?_set_self hi), List.getElem?_set_self (by unfold hdO; simp; omega)]
  · rw [List.getElem?_set_ne (Ne.symm e)]
    unfold hdO
    rw [List.getElem?_zipWith, List.getElem?_zipWith, List.getElem?_set_ne (Ne.symm e), List.getElem?_set_ne (Ne.symm e)]
theorem sl_apart {w : World} {a : Option Addr} {xs : List Int} (h : Sl w a xs) {p : Addr} (hp : ∀ ad, a = some ad → ad.block ≠ p.block) (u : Value) : Sl (w.setCell p u) a xs := by
  intro k hk
  obtain ⟨b, off, e, hc⟩ := h k hk
  exact ⟨b, off, e, (cell_other w p u _ (hp _ e)).trans hc⟩
theorem OwnI.parts {w : World} {base : Nat} {v : Value} {xs : List Int} (h : OwnI w base v xs) : ∃ a c, v = .slice a xs.length c ∧ Sl w a xs ∧ ∀ ad, a = some ad → ad.block < w.heap.size ∧ base ≤ ad.block := by
  obtain ⟨a, c, rfl, hs⟩ := h.any
  refine ⟨a, c, rfl, hs, fun ad e => ?_⟩
  subst e
  have := World.ownsRow.lt h ad.block rfl
  exact ⟨this.2, this.1⟩
structure HR (base : Nat) (rv : Value) (ads : List (Option Addr × Nat)) (M : List (List Int)) (w : World) : Prop where
  len : ads.length = M.length
  own : w.ownsRow base 24 1 rv M.length (hdO ads M)
  row : ∀ (i : Nat) (x : Option Addr × Nat) (r : List Int), ads[i]? = some x → M[i]? = some r → Sl w x.1 r
  out : ∀ (i : Nat) (x : Option Addr × Nat), ads[i]? = some x → ∀ ad, x.1 = some ad → ad.block < w.heap.size ∧ rv.ownBlock ≠ some ad.block
theorem HR.nil (base : Nat) (w : World) : HR base (.slice none 0 0) [] [] w := ⟨rfl, World.ownsRow_nil _ _ _ _, fun i x r e _ => by simp at e, fun i x e => by simp at e⟩
theorem HR.below {base : Nat} {rv : Value} {ads : List (Option Addr × Nat)} {M : List (List Int)} {w w' : World} (h : HR base rv ads M w) (hb : Below w.heap.size w w') : HR base rv ads M w' where
  len := h.len
  own := row_below h.own hb
  row := fun i x r e1 e2 => (h.row i x r e1 e2).below hb
  out := fun i x e ad ea => ⟨Nat.lt_of_lt_of_le (h.out i x e ad ea).1 hb.size, (h.out i x e ad ea).2⟩
theorem HR.mono {base base' : Nat} {rv : Value} {ads : List (Option Addr × Nat)} {M : List (List Int)} {w : World} (h : HR base rv ads M w) (hb : base' ≤ base) : HR base' rv ads M w where
  len := h.len
  own := by
    obtain ⟨h0, h1 | ⟨g, cap, cur, e, hg, rest⟩⟩ := h.own
    · exact ⟨h0, .inl h1⟩
    · exact ⟨h0, .inr ⟨g, cap, cur, e, Nat.le_trans hb hg, rest⟩⟩
  row := h.row
  out := h.out
theorem HR.shape {base : Nat} {rv : Value} {ads : List (Option Addr × Nat)} {M : List (List Int)} {w : World} (h : HR base rv ads M w) : (rv = .slice none 0 0 ∧ M = []) ∨ ∃ g cap, rv = .slice (some ⟨g, 0, none⟩) M.length cap ∧ base ≤ g ∧ g < w.heap.size := by
  obtain ⟨_, ⟨e, h0⟩ | ⟨g, cap, cur, e, hg, hb, _⟩⟩ := h.own
  · exact .inl ⟨e, List.eq_nil_of_length_eq_zero h0⟩
  · exact .inr ⟨g, cap, e, hg, (Array.getElem?_eq_some_iff.1 hb).1⟩
theorem HR.at {base g n cap : Nat} {ads : List (Option Addr × Nat)} {M : List (List Int)} {w : World} (h : HR base (.slice (some ⟨g, 0, none⟩) n cap) ads M w) {i : Nat} (hi : i < M.length) :
    ∃ a c, ads[i]? = some (a, c) ∧ w.cell? ⟨g, i, none⟩ = some (.slice a (rowL M i).length c) ∧ w.frozen? ⟨g, i, none⟩ = false ∧ Sl w a (rowL M i) ∧ ∀ ad, a = some ad → ad.block < w.heap.size ∧ ad.block ≠ g := by
  have e1 : ads[i]? = some (ads[i]'(by rw [h.len]; exact hi)) := by simp [h.len, hi]
  have e2 : M[i]? = some M[i] := by simp [hi]
  have ho := h.own
  obtain rfl : n = M.length := by
    obtain ⟨_, ⟨e, _⟩ | ⟨_, _, _, e, _⟩⟩ := ho
    · cases e
    · simpa using congrArg (fun v => match v with | .slice _ n _ => n | _ => 0) e
  have hc := ho.cellAt i (by rw [Nat.mul_one]; exact hi)
  rw [hdO_at e1 e2] at hc
  refine ⟨_, _, e1, ?_, World.ownsRow.frozenAt h.own i, ?_, fun ad ea => ?_⟩
  · rw [rowL_some e2]; exact hc
  · rw [rowL_some e2]; exact h.row i _ _ e1 e2
  · have := h.out i _ e1 ad ea
    exact ⟨this.1, fun e => this.2 (by rw [e]; rfl)⟩
theorem HR.stored {base g n cap : Nat} {ads : List (Option Addr × Nat)} {M : List (List Int)} {w : World} (h : HR base (.slice (some ⟨g, 0, none⟩) n cap) ads M w) {i : Nat} (hi : i < M.length) {a : Option Addr} {c : Nat} {r : List Int} (hs : Sl w a r) (ha : ∀ ad, a = some ad → ad.block < w.heap.size ∧ ad.block ≠ g) :
    HR base (.slice (some ⟨g, 0, none⟩) n cap) (ads.set i (a, c)) (M.set i r) (w.setCell ⟨g, i, none⟩ (.slice a r.length c)) where
  len := by rw [List.length_set, List.length_set]; exact h.len
  own := by
    rw [List.length_set, hdO_set h.len hi]
    obtain rfl : n = M.length := by
      obtain ⟨_, ⟨e, _⟩ | ⟨_, _, _, e, _⟩⟩ := h.own
      · cases e
      · simpa using congrArg (fun v => match v with | .slice _ n _ => n | _ => 0) e
    exact (World.ownsRow.stored h.own i _).1
  row := fun j x q e1 e2 => by
    by_cases e : j = i
    · subst e
      rw [List.getElem?_set_self (by have := h.len; omega)] at e1
      rw [List.getElem?_set_self hi] at e2
      cases e1; cases e2
      exact sl_apart hs (fun ad ea => (ha ad ea).2) _
    · rw [List.getElem?_set_ne (Ne.symm e)] at e1 e2
      exact sl_apart (h.row j x q e1 e2) (fun ad ea e3 => (h.out j x e1 ad ea).2 (by rw [e3]; rfl)) _
  out := fun j x e1 ad ea => by
    rw [World.size_setCell]
    by_cases e : j = i
    · subst e
      rw [List.getElem?_set_self (by have := h.len; omega)] at e1
      cases e1
      exact ⟨(ha ad ea).1, fun e3 => (ha ad ea).2 (by simpa [Value.ownBlock] using e3.symm)⟩
    · rw [List.getElem?_set_ne (Ne.symm e)] at e1
      exact h.out j x e1 ad ea
theorem HR.far {base : Nat} {rv : Value} {ads : List (Option Addr × Nat)} {M : List (List Int)} {w : World} (h : HR base rv ads M w) {p : Addr} (h1 : rv.ownBlock ≠ some p.block) (h2 : ∀ (i : Nat) (x : Option Addr × Nat), ads[i]? = some x → ∀ ad, x.1 = some ad → ad.block ≠ p.block) (u : Value) : HR base rv ads M (w.setCell p u) where
  len := h.len
  own := row_same h.own fun b e => Below.heap_setCell w _ _ b (by rintro rfl; exact h1 e)
  row := fun i x r e1 e2 => sl_apart (h.row i x r e1 e2) (h2 i x e1) _
  out := fun i x e ad ea => by rw [World.size_setCell]; exact h.out i x e ad ea
theorem HR.push {base : Nat} {rv : Value} {ads : List (Option Addr × Nat)} {M : List (List Int)} {V w' : World} (h : HR base rv ads M V) {row : List Int} {a : Option Addr} {c g cap : Nat} (hs : Sl V a row) (ha : ∀ ad, a = some ad → ad.block < V.heap.size ∧ rv.ownBlock ≠ some ad.block)
    (h1 : w'.ownsRow base 24 1 (.slice (some ⟨g, 0, none⟩) (M.length + 1) cap) (M.length + 1) (hdO ads M ++ [.slice a row.length c])) (h2 : V.grownBy w' rv.ownBlock) (h3 : rv.ownBlock = some g ∨ g = V.heap.size) :
    HR base (.slice (some ⟨g, 0, none⟩) (M.length + 1) cap) (ads ++ [(a, c)]) (M ++ [row]) w' := by
  have far : ∀ b, b < V.heap.size → rv.ownBlock ≠ some b → w'.heap[b]? = V.heap[b]? := fun b hb hn => h2.block b hb (fun e => hn e.symm)
  have hne2 : ∀ b, b < V.heap.size → rv.ownBlock ≠ some b → g ≠ b := by
    intro b hb hn e
    rcases h3 with h3 | h3
    · exact hn (by rw [h3, e])
    · omega
  have hsz : V.heap.size ≤ w'.heap.size := h2.size
  have hh : hdO (ads ++ [(a, c)]) (M ++ [row]) = hdO ads M ++ [.slice a row.length c] := by
    unfold hdO; rw [List.zipWith_append h.len]; rfl
  have keep : ∀ {b : Option Addr} {q : List Int}, Sl V b q → (∀ ad, b = some ad → ad.block < V.heap.size ∧ rv.ownBlock ≠ some ad.block) → Sl w' b q := by
    intro b q hq hb k hk
    obtain ⟨b', off, e, hc⟩ := hq k hk
    have := hb _ e
    exact ⟨b', off, e, (World.cell?_of_block (far b' this.1 this.2)).trans hc⟩
  refine ⟨by simp [h.len], ?_, ?_, ?_⟩
  · rw [hh]; simpa using h1
  · intro i x r e1 e2
    have hl := h.len
    rcases get_snoc e1 with e1 | ⟨i1, rfl⟩
    · have hi := (List.getElem?_eq_some_iff.1 e1).1
      rw [List.getElem?_append_left (by omega)] at e2
      exact keep (h.row i x r e1 e2) (h.out i x e1)
    · subst i1
      rw [hl] at e2; simp at e2; subst e2
      exact keep hs ha
  · intro i x e ad ea
    have : ad.block < V.heap.size ∧ rv.ownBlock ≠ some ad.block := by
      rcases get_snoc e with e | ⟨_, rfl⟩
      · exact h.out i x e ad ea
      · exact ha ad ea
    exact ⟨by omega, fun e => hne2 _ this.1 this.2 (by simpa [Value.ownBlock] using e)⟩
theorem HR.grown {base : Nat} {rv : Value} {ads : List (Option Addr × Nat)} {M : List (List Int)} {V w' : World} {ob : Option Nat} (h : HR base rv ads M V) (hg : V.grownBy w' ob) (h1 : ∀ b, rv.ownBlock = some b → ob ≠ some b) (h2 : ∀ (i : Nat) (x : Option Addr × Nat), ads[i]? = some x → ∀ ad, x.1 = some ad → ob ≠ some ad.block) : HR base rv ads M w' where
  len := h.len
  own := row_same h.own fun b e => hg.block b (World.ownsRow.lt h.own b e).2 (Ne.symm (h1 b e))
  row := fun i x r e1 e2 k hk => by
    obtain ⟨b', off, e, hc⟩ := h.row i x r e1 e2 k hk
    exact ⟨b', off, e, (World.cell?_of_block (hg.block b' (h.out i x e1 _ e).1 (Ne.symm (h2 i x e1 _ e)))).trans hc⟩
  out := fun i x e ad ea => ⟨Nat.lt_of_lt_of_le (h.out i x e ad ea).1 hg.size, (h.out i x e ad ea).2⟩
theorem wpList_pushHR {ops : Array Oper} {rest : List Oper} {o : Oper} {act : Act} {Q : Exit → Act → World → Prop} (hgd : o.guard = none) (s x : Operand)
    (ho : o.op = .call { callee := .builtin .append, args := #[s, x], argTypes := #[22, 22] }) (base : Nat) (rv : Value) (ads : List (Option Addr × Nat)) (M : List (List Int)) (row : List Int) (rl : Nat) (hrl : row.length = rl) (a : Option Addr) (c : Nat) (V : World) (t : TypeId) (A : Nat)
    (hv : act.eval s = rv) (hx : act.eval x = .slice (some ⟨A, 0, none⟩) 1 1) (hA : A = V.heap.size) (hown : HR base rv ads M V) (hs : Sl V a row)
    (ha : ∀ ad, a = some ad → ad.block < V.heap.size ∧ rv.ownBlock ≠ some ad.block) (hl : M.length ≤ 100000) (hbase : base ≤ V.heap.size)
    (h : ∀ g cap w', HR base (.slice (some ⟨g, 0, none⟩) (M.length + 1) cap) (ads ++ [(a, c)]) (M ++ [row]) w' → (rv.ownBlock = some g ∨ V.heap.size ≤ g) → Below base V w' → (V.alloc (.cells #[.slice a rl c] t)).grownBy w' rv.ownBlock → wpList Try.prog ops Q rest (act.put o.dst (.slice (some ⟨g, 0, none⟩) (M.length + 1) cap)) w') : wpList Try.prog ops Q (o :: rest) act (V.alloc (.cells #[.slice a rl c] t)) := by
  subst hrl
  obtain ⟨i0, hi, hz0, hz1, hz2⟩ := info_parts Try.infoRowL
  subst hA
  have hb1 : Below V.heap.size V (V.alloc (.cells #[.slice a row.length c] t)) := (Below.refl _ _).alloc (Nat.le_refl _) _
  have hown' := hown.below hb1
  refine wpList_append_lies _ hgd s x 22 ho base 24 i0 (.slice none 0 0) 1 24 Try.underlying22 hi hz0 hz1 hz2 rfl (by decide) rv M.length (hdO ads M) hv hown'.own ⟨V.heap.size, 0, none⟩ 1 1 [.slice a row.length c] hx rfl ?_ ?_ (by decide) (by unfold maxLen; omega) (by omega) (by rw [World.size_alloc]; omega) _ rfl ?_
  · intro j u hj
    match j, hj with
    | 0, hj =>
      simp at hj; subst hj
      rw [addr_add]; exact alloc_cell _ _ _ _ _ rfl
    | j + 1, hj => simp at hj
  · intro u hu; simp at hu; subst hu; rfl
  · intro g cap w' h1 h2 h3 _
    exact h g cap w' (hown'.push (hs.below hb1) (fun ad ea => ⟨Nat.lt_of_lt_of_le (ha ad ea).1 hb1.size, (ha ad ea).2⟩) h1 h2 h3) (by rcases h3 with h3 | h3; exact .inl h3; rw [World.size_alloc] at h3; exact .inr (by omega)) (((Below.refl base V).alloc hbase _).grown h2 (by rw [World.size_alloc]; omega) (fun k e => (World.ownsRow.lt hown.own k e).1)) h2
end Go.Proofs.Ytfnomiingelfaaa
/- One int appended to a slice of the call's own, told by what grows. -/
namespace Go.Proofs.Ytfnomiingelfaaa
open Go.RowKit

theorem wpList_pushG {ops : Array Oper} {rest : List Oper} {o : Oper} {act : Act} {Q : Exit → Act → World → Prop} (hgd : o.guard = none) (s x : Operand)
    (ho : o.op = .call { callee := .builtin .append, args := #[s, x], argTypes := #[24, 24] }) (base : Nat) (v : Value) (zs : List Int) (y : Int) (V : World) (B : Nat) (t : TypeId)
    (hs : act.eval s = v) (hx : act.eval x = .slice (some ⟨B, 0, none⟩) 1 1) (hB : B = V.heap.size) (hown : OwnI V base v zs) (hl : zs.length ≤ 100000) (hbase : base ≤ V.heap.size)
    (h : ∀ g cap w', OwnI w' base (.slice (some ⟨g, 0, none⟩) (zs.length + 1) cap) (zs ++ [y]) → (v.ownBlock = some g ∨ V.heap.size ≤ g) → Below base V w' → (V.alloc (.cells #[.int .i64 y] t)).grownBy w' v.ownBlock → wpList Try.prog ops Q rest (act.put o.dst (.slice (some ⟨g, 0, none⟩) (zs.length + 1) cap)) w') : wpList Try.prog ops Q (o :: rest) act (V.alloc (.cells #[.int .i64 y] t)) := by
  obtain ⟨i0, hi, hz0, hz1, hz2⟩ := info_parts Try.infoInt
  subst hB
  have hb1 : Below V.heap.size V (V.alloc (.cells #[.int .i64 y] t)) := (Below.refl _ _).alloc (Nat.le_refl _) _
  have hown' := OwnI.below hown hb1
  refine wpList_append_lies _ hgd s x 24 ho base 3 i0 (.int .i64 0) 1 8 Try.underlying24 hi hz0 hz1 hz2 rfl (by decide) v zs.length (zs.map (Value.int .i64)) hs hown' ⟨V.heap.size, 0, none⟩ 1 1 [.int .i64 y] hx rfl ?_ ?_ (by decide) (by unfold maxLen; omega) (by omega) (by rw [World.size_alloc]; omega) _ rfl ?_
  · intro j u hj
    match j, hj with
    | 0, hj =>
      simp at hj; subst hj
      rw [addr_add]; exact alloc_cell _ _ _ _ _ rfl
    | j + 1, hj => simp at hj
  · intro u hu; simp at hu; subst hu; rfl
  · intro g cap w' h1 h2 h3 _
    refine h g cap w' (by simpa [OwnI] using h1) ?_ (((Below.refl base V).alloc hbase _).grown h2 (by rw [World.size_alloc]; omega) (fun k e => (World.ownsRow.lt hown k e).1)) h2
    rcases h3 with h3 | h3
    · exact .inl h3
    · rw [World.size_alloc] at h3; exact .inr (by omega)
end Go.Proofs.Ytfnomiingelfaaa
/- divisor, primitive, scaled, without of the answers: contracts. -/
namespace Go.Proofs.Ytfnomiingelfaaa
open Go.RowKit

theorem gcdTo_succ (xs : List Int) (k : Nat) : gcdTo xs (k + 1) = Nat.gcd (gcdTo xs k) (gt xs k).natAbs := rfl

set_option maxRecDepth 100000 in
set_option maxHeartbeats 800000 in
theorem rdivisor_any (v x : Int) (w : World) (hv : Mid v) (hx : Mid x) :
    Calls Try.prog 97 #[.int .i64 v, .int .i64 x] w fun e w' => e = .returned (.int .i64 ((Nat.gcd v.natAbs x.natAbs : Nat) : Int)) ∧ ∃ nd, w' = w.drewN nd := by
  go_enter Try.func97, Try.ntmps97
  go_wp2
  go_loopw [0, 1] (fun c n wr => ∃ (p q : Int) (nd' : Nat), c = .int .i64 p ∧ n = .int .i64 q ∧ Mid p ∧ Mid q ∧ Hid (Nat.gcd p.natAbs q.natAbs = Nat.gcd v.natAbs x.natAbs) ∧ wr = w.drewN nd') (fun _ n _ => (intOf n).natAbs)
  case atStart => exact ⟨v, x, 0, rfl, rfl, hv, hx, rfl, rfl⟩
  case round =>
    obtain ⟨p, q, nd', rfl, rfl, hp, hq, HE, rfl⟩ := hrel
    by_cases hq0 : q = 0
    · subst hq0
      have HGE : Hid (p.natAbs = Nat.gcd v.natAbs x.natAbs) := by
        show _ = _
        rw [← HE.out]; simp
      obtain ⟨p1, p2⟩ := hp
      have HF : Hid (((Nat.gcd v.natAbs x.natAbs : Nat) : Int) = if p < -p then -p else p) := by
        show _ = _
        rw [← HGE.out]; split <;> omega
      clear HGE HE
      go_wp2
      all_goals go_ret
      all_goals exact ⟨ret_i64 (by rw [HF.out]; split <;> omega), nd', rfl⟩
    · have y0 : (q == 0) = false := by simpa using hq0
      have y1 : (q != 0) = true := by simpa using hq0
      obtain ⟨t, ht⟩ : ∃ t, p.tmod q = t := ⟨_, rfl⟩
      have hta : t.natAbs = p.natAbs % q.natAbs := by rw [← ht, Int.natAbs_tmod]
      have hlt2 : p.natAbs % q.natAbs < q.natAbs := Nat.mod_lt _ (by omega)
      have hmt : Mid t := by unfold Mid at hq ⊢; omega
      have HE2 : Hid (Nat.gcd q.natAbs t.natAbs = Nat.gcd v.natAbs x.natAbs) := by
        show _ = _
        rw [hta, ← HE.out, Nat.gcd_comm p.natAbs, Nat.gcd_rec q.natAbs p.natAbs]
        exact Nat.gcd_comm _ _
      have hmeas : t.natAbs < q.natAbs := by omega
      obtain ⟨t1, t2⟩ := hmt
      have w1 : IntKind.i64.wrap t = t := IntWalk.i64_in _ (by omega)
      have w2 : wrap64 t = t := IntWalk.wrap64_in _ (by omega)
      clear hta hlt2
      go_wp2
      go_quiet (fail)
      go_wp2
      go_roundw
      case rel => exact ⟨q, t, _, rfl, rfl, hq, ⟨t1, t2⟩, HE2, World.drewN_drewN _ _ _⟩
      case measure => simp [intOf]; omega
set_option maxRecDepth 100000 in
set_option maxHeartbeats 800000 in
theorem scaled_any (a : Option Addr) (xs : List Int) (cap : Nat) (w : World) (hl : xs.length ≤ 1000) (hs : Sl w a xs) :
    Calls Try.prog 79 #[.slice a xs.length cap, .int .i64 (-1)] w fun e w' => ∃ v, e = .returned v ∧ OwnI w' w.heap.size v (negL xs) ∧ Below w.heap.size w w' := by
  have HS := Lib.hid hs; clear hs
  go_enter Try.func79, Try.ntmps79
  go_wp2
  go_loopw [5, 10] (fun v i wr => ∃ k : Nat, k ≤ xs.length ∧ i = .int .i64 k ∧ OwnI wr w.heap.size v ((negL xs).take k) ∧ Below w.heap.size w wr) (fun _ i _ => xs.length - (intOf i).toNat)
  case atStart => exact ⟨0, Nat.zero_le _, rfl, OwnI.nil _ _, Below.refl _ _⟩
  case round =>
    obtain ⟨k, hk, rfl, hO, hB⟩ := hrel
    have HO := Lib.hid hO; clear hO
    have HB := Lib.hid hB; clear hB
    by_cases hlt : k < xs.length
    · obtain ⟨b, off, x, rfl, hcell, HX⟩ := (HS.out.below HB.out).at hlt
      have HT : Hid ((negL xs).take (k + 1) = (negL xs).take k ++ [wrap64 (-x)]) := by
        show _ = _
        have h1 := HX.out
        rw [List.take_add_one]
        congr 1
        simp [negL, h1, wrap_is]
      have HL : Hid (((negL xs).take k).length ≤ 100000) := by show _ ≤ _; rw [List.length_take]; omega
      go_wp2_with (at_builtin; go_must (refine wpList_push rfl (.tmp 14) (.tmp 18) rfl w.heap.size _ ((negL xs).take k) _ _ _ _ rfl rfl rfl HO.out HL.out HB.out.size ?_); intro v' w9 ho' hb')
      go_roundw
      case rel => exact ⟨k + 1, by omega, by go_num, by rw [HT.out]; exact ho', HB.out.trans hb'⟩
      case measure => simp [intOf]; omega
    · obtain rfl : k = xs.length := by omega
      have HE : Hid ((negL xs).take xs.length = negL xs) := by show _ = _; rw [List.take_of_length_le]; simp [negL]
      go_wp2
      go_ret
      exact ⟨_, rfl, HE.out ▸ HO.out, HB.out⟩
set_option maxRecDepth 100000 in
set_option maxHeartbeats 800000 in
theorem primitive_any (a : Option Addr) (xs : List Int) (cap : Nat) (w : World) (hl : xs.length ≤ 1000) (hx : ∀ x ∈ xs, Mid x) (hs : Sl w a xs) :
    Calls Try.prog 98 #[.slice a xs.length cap] w fun e w' => ∃ v, e = .returned v ∧ OwnI w' w.heap.size v (primR xs) ∧ Below w.heap.size w w' := by
  have HS := Lib.hid hs; clear hs
  have HX := Lib.hid hx; clear hx
  go_enter Try.func98, Try.ntmps98
  go_wp2
  go_loopw [3, 11] (fun c i wr => ∃ (k nd : Nat), k ≤ xs.length ∧ i = .int .i64 k ∧ c = .int .i64 ((gcdTo xs k : Nat) : Int) ∧ Mid ((gcdTo xs k : Nat) : Int) ∧ wr = w.drewN nd) (fun _ i _ => xs.length - (intOf i).toNat)
  case atStart => exact ⟨0, 0, Nat.zero_le _, rfl, rfl, by unfold Mid gcdTo; omega, rfl⟩
  case round =>
    obtain ⟨k, nd, hk, rfl, rfl, hm, rfl⟩ := hrel
    by_cases hlt : k < xs.length
    · obtain ⟨b, off, x, rfl, hcell, HXK⟩ := HS.out.at hlt
      have hmx := HX.out x (List.mem_of_getElem? HXK.out)
      have HG : Hid (gcdTo xs (k + 1) = Nat.gcd ((gcdTo xs k : Nat) : Int).natAbs x.natAbs) := by show _ = _; rw [gcdTo_succ, gt_some' HXK.out, Int.natAbs_natCast]
      have HM : Hid (Mid ((gcdTo xs (k + 1) : Nat) : Int)) := by
        show Mid _
        rw [HG.out]
        unfold Mid at hm hmx ⊢
        by_cases h0 : x = 0
        · subst h0; simp; omega
        · have := Nat.le_of_dvd (by omega) (Nat.gcd_dvd_right ((gcdTo xs k : Nat) : Int).natAbs x.natAbs); omega
      obtain ⟨g, hg⟩ : ∃ g, ((gcdTo xs k : Nat) : Int) = g := ⟨_, rfl⟩
      rw [hg] at hm HG ⊢
      go_wp2_with fail
      refine (rdivisor_any _ _ _ hm hmx).mono ?_
      rintro e w1 ⟨rfl, n1, rfl⟩
      rw [← HG.out]
      go_wp2
      go_roundw
      case rel => exact ⟨k + 1, _, by omega, by go_num, rfl, HM.out, rfl⟩
      case measure => simp [intOf]; omega
    · obtain rfl : k = xs.length := by omega
      have HBn : Hid (Below w.heap.size w (w.drewN nd)) := drew_below rfl
      obtain ⟨g, hg⟩ : ∃ g, ((gcdTo xs xs.length : Nat) : Int) = g := ⟨_, rfl⟩
      obtain ⟨G, hG⟩ : ∃ G : Int, (if g < 1 then 1 else g) = G := ⟨_, rfl⟩
      have HGG : Hid (G = ((max (gcdL xs) 1 : Nat) : Int)) := by
        show _ = _
        unfold gcdL
        rw [← hG, ← hg]; split <;> omega
      have G1 : 1 ≤ G := by have := HGG.out; omega
      rw [hg] at hm ⊢
      have HW := Lib.hid HBn.out.size
      go_wp2
      go_loopw [6, 21] (fun v i wr => ∃ k : Nat, k ≤ xs.length ∧ i = .int .i64 k ∧ OwnI wr w.heap.size v ((primR xs).take k) ∧ Below w.heap.size w wr) (fun _ i _ => xs.length - (intOf i).toNat)
      case atStart => exact ⟨0, Nat.zero_le _, rfl, OwnI.nil _ _, HBn.out⟩
      case round =>
        obtain ⟨k, hk, rfl, hO, hB⟩ := hrel
        have HO := Lib.hid hO; clear hO
        have HB := Lib.hid hB; clear hB
        by_cases hlt : k < xs.length
        · obtain ⟨b, off, x, rfl, hcell, HXK⟩ := (HS.out.below HB.out).at hlt
          have hmx := HX.out x (List.mem_of_getElem? HXK.out)
          obtain ⟨m1, m2⟩ := tdiv_mid hmx G1
          have HT : Hid ((primR xs).take (k + 1) = (primR xs).take k ++ [x.tdiv G]) := by
            show _ = _
            have h1 := HXK.out
            rw [List.take_add_one]
            congr 1
            simp [primR, h1, HGG.out]
          have hw64 : wrap64 (x.tdiv G) = x.tdiv G := IntWalk.wrap64_in _ (by omega)
          have HL : Hid (((primR xs).take k).length ≤ 100000) := by show _ ≤ _; rw [List.length_take]; omega
          go_wp2_with (at_builtin; go_must (refine wpList_push rfl (.tmp 25) (.tmp 30) rfl w.heap.size _ ((primR xs).take k) _ _ _ _ rfl rfl rfl HO.out HL.out HB.out.size ?_); intro v' w9 ho' hb')
          go_roundw
          case rel => exact ⟨k + 1, by omega, by go_num, by rw [HT.out]; exact ho', HB.out.trans hb'⟩
          case measure => simp [intOf]; omega
        · obtain rfl : k = xs.length := by omega
          have HE : Hid ((primR xs).take xs.length = primR xs) := by show _ = _; rw [List.take_of_length_le]; simp [primR]
          go_wp2
          go_ret
          exact ⟨_, rfl, HE.out ▸ HO.out, HB.out⟩
end Go.Proofs.Ytfnomiingelfaaa
/- without of the answers: the contract. -/
namespace Go.Proofs.Ytfnomiingelfaaa
open Go.RowKit

theorem sl_cell {w : World} {b off : Nat} {xs : List Int} (h : Sl w (some ⟨b, off, none⟩) xs) {k : Nat} (hk : k < xs.length) : w.cell? ⟨b, off + k, none⟩ = some (.int .i64 (gt xs k)) := by
  obtain ⟨b', o', x, e, hc, hx⟩ := h.at hk
  cases e
  rw [gt_some' hx.out]; exact hc
set_option maxRecDepth 1000000 in
set_option maxHeartbeats 4000000 in
theorem without_any (a : Option Addr) (xs : List Int) (cap : Nat) (pa : Option Addr) (ps : List Int) (pc j : Nat) (w : World) (hl : xs.length ≤ 1000) (hp : ps.length = xs.length) (hj : j < xs.length) (hx : ∀ x ∈ wipR xs ps j, Mid x) (hs : Sl w a xs) (ht : Sl w pa ps) :
    Calls Try.prog 113 #[.slice a xs.length cap, .slice pa ps.length pc, .int .i64 (j : Int)] w fun e w' => ∃ v, e = .returned v ∧ OwnI w' w.heap.size v (withoutR xs ps j) ∧ Below w.heap.size w w' := by
  obtain ⟨b, off, _, rfl, _, _⟩ := hs.at hj
  obtain ⟨b2, o2, _, rfl, _, _⟩ := ht.at (show j < ps.length by omega)
  obtain ⟨pl, hpl⟩ : ∃ pl, ps.length = pl := ⟨_, rfl⟩
  rw [hpl] at hp ⊢
  obtain ⟨n, hn⟩ : ∃ n, xs.length = n := ⟨_, rfl⟩
  have HN := Lib.hid hn
  have HPL := Lib.hid hpl; clear hpl
  rw [hn] at hl hj hp ⊢
  clear hn
  subst hp
  have HS := Lib.hid hs; clear hs
  have HTT := Lib.hid ht; clear ht
  have HX := Lib.hid hx; clear hx
  have HWL : Hid ((wipR xs ps j).length = pl) := by show _ = _; rw [wipR_len, HN.out]
  go_enter Try.func113, Try.ntmps113
  go_wp2
  go_loopw [7, 11] (fun v i wr => ∃ k : Nat, k ≤ pl ∧ i = .int .i64 k ∧ OwnI wr w.heap.size v ((wipR xs ps j).take k) ∧ Below w.heap.size w wr) (fun _ i _ => pl - (intOf i).toNat)
  case atStart => exact ⟨0, Nat.zero_le _, rfl, OwnI.nil _ _, Below.refl _ _⟩
  case round =>
    obtain ⟨k, hk, rfl, hO, hB⟩ := hrel
    have HO := Lib.hid hO; clear hO
    have HB := Lib.hid hB; clear hB
    by_cases hlt : k < pl
    · have c1 := sl_cell (HS.out.below HB.out) (k := k) (by rw [HN.out]; exact hlt)
      have c2 := sl_cell (HS.out.below HB.out) (k := j) (by rw [HN.out]; exact hj)
      have c3 := sl_cell (HTT.out.below HB.out) (k := k) (by rw [HPL.out]; exact hlt)
      have c4 := sl_cell (HTT.out.below HB.out) (k := j) (by rw [HPL.out]; exact hj)
      have HT : Hid ((wipR xs ps j).take (k + 1) = (wipR xs ps j).take k ++ [IntKind.i64.wrap (IntKind.i64.wrap (gt xs k * gt ps j) - IntKind.i64.wrap (gt ps k * gt xs j))]) := by
        show _ = _
        rw [List.take_add_one]
        congr 1
        have : k < xs.length := by rw [HN.out]; exact hlt
        simp [wipR, this]
      obtain ⟨x1, hx1⟩ : ∃ v, gt xs k = v := ⟨_, rfl⟩
      obtain ⟨x2, hx2⟩ : ∃ v, gt xs j = v := ⟨_, rfl⟩
      obtain ⟨x3, hx3⟩ : ∃ v, gt ps k = v := ⟨_, rfl⟩
      obtain ⟨x4, hx4⟩ : ∃ v, gt ps j = v := ⟨_, rfl⟩
      rw [hx1] at c1 HT; rw [hx2] at c2 HT; rw [hx3] at c3 HT; rw [hx4] at c4 HT
      clear hx1 hx2 hx3 hx4
      have HL : Hid (((wipR xs ps j).take k).length ≤ 100000) := by show _ ≤ _; rw [List.length_take]; omega
      have HSZ := Lib.hid HB.out.size
      have hk0 : (k : Int) < (pl : Int) := by omega
      have hj0 : (j : Int) < (pl : Int) := by omega
      go_wp2
      go_region_law (refine step_push rfl (.tmp 14) (.tmp 34) rfl w.heap.size _ ((wipR xs ps j).take k) _ _ wr.heap.size (by rfl) (by rfl) (alloc_cell wr _ _ _ _ rfl) ((HO.out.below ((Below.refl _ _).alloc (Nat.le_refl _) _)).drew) HL.out (by simp; have := HSZ.out; omega) ?_; intro v' w9 ho' hb')
      all_goals
        go_wp2
        go_roundw
        case rel => exact ⟨k + 1, by omega, by go_num, by rw [HT.out]; exact ho', HB.out.trans (((Below.refl _ _).alloc HSZ.out _).drew.trans hb')⟩
        case measure => simp [intOf]; omega
    · obtain rfl : k = pl := by omega
      have HE : Hid ((wipR xs ps j).take k = wipR xs ps j) := by show _ = _; rw [List.take_of_length_le]; rw [HWL.out]; exact Nat.le_refl _
      have ho := HO.out
      rw [HE.out] at ho
      obtain ⟨av, cv, rfl, sv⟩ := ho.any
      have HSV := Lib.hid sv; clear sv ho HE HO
      rw [HWL.out]
      go_wp2_with fail
      have hcall := primitive_any av (wipR xs ps j) cv wr (by rw [HWL.out]; exact hl) HX.out HSV.out
      rw [HWL.out] at hcall
      refine hcall.mono ?_
      rintro e w9 ⟨v9, rfl, ho9, hb9⟩
      go_wp2
      go_ret
      exact ⟨_, rfl, ho9.mono HB.out.size, HB.out.trans (hb9.mono HB.out.size)⟩
end Go.Proofs.Ytfnomiingelfaaa
/- Reduced of the answers: the reduction under way and its steps. -/
namespace Go.Proofs.Ytfnomiingelfaaa
open Go.RowKit

structure RInv (base : Nat) (lv dv pv : Value) (lads dads : List (Option Addr × Nat)) (s : Rs) (w : World) : Prop where
  l : HR base lv lads s.left w
  d : HR base dv dads s.done w
  p : OwnI w base pv s.piv
  ld : ∀ b, lv.ownBlock = some b → dv.ownBlock ≠ some b
  lp : ∀ b, lv.ownBlock = some b → pv.ownBlock ≠ some b
  dp : ∀ b, dv.ownBlock = some b → pv.ownBlock ≠ some b
  lD : ∀ b, lv.ownBlock = some b → ∀ (i : Nat) (x : Option Addr × Nat), dads[i]? = some x → ∀ ad, x.1 = some ad → ad.block ≠ b
  dL : ∀ b, dv.ownBlock = some b → ∀ (i : Nat) (x : Option Addr × Nat), lads[i]? = some x → ∀ ad, x.1 = some ad → ad.block ≠ b
  pL : ∀ b, pv.ownBlock = some b → ∀ (i : Nat) (x : Option Addr × Nat), lads[i]? = some x → ∀ ad, x.1 = some ad → ad.block ≠ b
  pD : ∀ b, pv.ownBlock = some b → ∀ (i : Nat) (x : Option Addr × Nat), dads[i]? = some x → ∀ ad, x.1 = some ad → ad.block ≠ b
theorem HR.ms {base : Nat} {rv : Value} {ads : List (Option Addr × Nat)} {M : List (List Int)} {w : World} (h : HR base rv ads M w) : ∃ a cap, rv = .slice a M.length cap ∧ Ms w a M := by
  rcases h.shape with ⟨e, h0⟩ | ⟨g, cap, e, _, _⟩
  · subst h0; exact ⟨none, 0, e, fun i hi => by simp at hi⟩
  · subst e
    refine ⟨some ⟨g, 0, none⟩, cap, rfl, fun i hi => ?_⟩
    obtain ⟨a, c, _, h1, _, h2, _⟩ := h.at hi
    exact ⟨g, 0, a, c, rfl, by rw [Nat.zero_add]; exact h1, h2⟩
theorem redR_rows {M : List (List Int)} {N : Nat} (h : ∀ q ∈ M, q.length = N) : ∀ D, (∀ q ∈ (redR M D).left, q.length = N) ∧ ∀ q ∈ (redR M D).done, q.length = N
  | 0 => ⟨fun q hq => by obtain ⟨r, hr, rfl⟩ := List.mem_map.mp hq; rw [primR_len]; exact h r hr, fun q hq => by simp [redR, stepsR] at hq⟩
  | D + 1 => by
    obtain ⟨h1, h2⟩ := redR_rows h D
    show (∀ q ∈ (stepR D (redR M D)).left, q.length = N) ∧ ∀ q ∈ (stepR D (redR M D)).done, q.length = N
    unfold stepR
    split
    · exact ⟨h1, h2⟩
    · rename_i i hi
      have hi := (lastR_some hi).1
      refine ⟨fun q hq => ?_, fun q hq => ?_⟩
      · obtain ⟨r, hr, rfl⟩ := List.mem_map.mp hq; rw [withoutR_len]; exact h1 r (List.mem_of_mem_eraseIdx hr)
      · rcases List.mem_append.mp hq with hq | hq
        · obtain ⟨r, hr, rfl⟩ := List.mem_map.mp hq; rw [withoutR_len]; exact h2 r hr
        · rw [List.mem_singleton] at hq; rw [hq, ownR_len]; exact h1 _ (rowL_mem hi)
def atZ (L : List (List Int)) (j n : Nat) : Int := match lastR L j n with | none => -1 | some i => (i : Int)
theorem atZ_succ (L : List (List Int)) (j n : Nat) : atZ L j (n + 1) = if gt (rowL L n) j ≠ 0 then (n : Int) else atZ L j n := by
  unfold atZ
  by_cases e : gt (rowL L n) j ≠ 0
  · have h : lastR L j (n + 1) = some n := by show (if gt (rowL L n) j ≠ 0 then some n else lastR L j n) = _; rw [if_pos e]
    rw [h, if_pos e]
  · have h : lastR L j (n + 1) = lastR L j n := by show (if gt (rowL L n) j ≠ 0 then some n else lastR L j n) = _; rw [if_neg e]
    rw [h, if_neg e]
theorem redR_left (M : List (List Int)) : ∀ D, (redR M D).left.length ≤ M.length
  | 0 => by simp [redR, stepsR]
  | D + 1 => by
    have h1 := redR_left M D
    show (stepR D (redR M D)).left.length ≤ _
    unfold stepR
    split
    · exact h1
    · show List.length (List.map _ _) ≤ _
      rw [List.length_map]
      exact Nat.le_trans (List.length_eraseIdx_le _ _) h1
theorem own_none {b : Nat} (e : (Value.slice none 0 0).ownBlock = some b) : False := by simp [Value.ownBlock] at e
theorem RInv.start {base : Nat} {lv : Value} {lads : List (Option Addr × Nat)} {L : List (List Int)} {w : World} (h : HR base lv lads L w) : RInv base lv (.slice none 0 0) (.slice none 0 0) lads [] { done := [], left := L, piv := [] } w where
  l := h
  d := HR.nil _ _
  p := OwnI.nil _ _
  ld := fun _ _ e => own_none e
  lp := fun _ _ e => own_none e
  dp := fun _ _ e => own_none e
  lD := fun _ _ i x e => by simp at e
  dL := fun _ e => (own_none e).elim
  pL := fun _ e => (own_none e).elim
  pD := fun _ e => (own_none e).elim
theorem redR_stop {M : List (List Int)} {D : Nat} (h : (redR M D).left = []) : ∀ n, redR M (D + n) = redR M D
  | 0 => rfl
  | n + 1 => by
    rw [show D + (n + 1) = D + n + 1 by omega]
    show stepR (D + n) (redR M (D + n)) = _
    rw [redR_stop h n]
    unfold stepR
    rw [h]; rfl
theorem RInv.below {base : Nat} {lv dv pv : Value} {lads dads : List (Option Addr × Nat)} {s : Rs} {w w' : World} (h : RInv base lv dv pv lads dads s w) (hb : Below w.heap.size w w') : RInv base lv dv pv lads dads s w' :=
  ⟨h.l.below hb, h.d.below hb, OwnI.below h.p hb, h.ld, h.lp, h.dp, h.lD, h.dL, h.pL, h.pD⟩
structure RDone (base S : Nat) (rv dv pv : Value) (rads dads : List (Option Addr × Nat)) (rest D : List (List Int)) (piv : List Int) (pa : Option Addr) (P : List Int) (w : World) : Prop where
  d : HR base dv dads D w
  r : HR S rv rads rest w
  p : OwnI w base pv piv
  P : Sl w pa P
  rS : ∀ (i : Nat) (x : Option Addr × Nat), rads[i]? = some x → ∀ ad, x.1 = some ad → S ≤ ad.block
  dvS : ∀ b, dv.ownBlock = some b → b < S
  pvS : ∀ b, pv.ownBlock = some b → b < S
  dp : ∀ b, dv.ownBlock = some b → pv.ownBlock ≠ some b
  PO : ∀ ad, pa = some ad → ad.block < S ∧ dv.ownBlock ≠ some ad.block ∧ pv.ownBlock ≠ some ad.block
  dR : ∀ (i : Nat) (x : Option Addr × Nat), dads[i]? = some x → ∀ ad, x.1 = some ad → rv.ownBlock ≠ some ad.block ∧ pv.ownBlock ≠ some ad.block
  sz : S ≤ w.heap.size
theorem RDone.below {base S : Nat} {rv dv pv : Value} {rads dads : List (Option Addr × Nat)} {rest D : List (List Int)} {piv : List Int} {pa : Option Addr} {P : List Int} {w w' : World} (h : RDone base S rv dv pv rads dads rest D piv pa P w) (hb : Below w.heap.size w w') : RDone base S rv dv pv rads dads rest D piv pa P w' :=
  ⟨h.d.below hb, h.r.below hb, OwnI.below h.p hb, h.P.below hb, h.rS, h.dvS, h.pvS, h.dp, h.PO, h.dR, Nat.le_trans h.sz hb.size⟩
theorem HR.own_lt {base : Nat} {rv : Value} {ads : List (Option Addr × Nat)} {M : List (List Int)} {w : World} (h : HR base rv ads M w) (b : Nat) (e : rv.ownBlock = some b) : base ≤ b ∧ b < w.heap.size := World.ownsRow.lt h.own b e
theorem RDone.start {base S : Nat} {rv lv dv pv : Value} {rads lads dads : List (Option Addr × Nat)} {rest : List (List Int)} {s : Rs} {pa : Option Addr} {P : List Int} {w w' : World} (h : RInv base lv dv pv lads dads s w) (hS : w.heap.size = S) (hb : Below S w w') (hP : Sl w pa P) (hr : HR S rv rads rest w') (hrS : ∀ (i : Nat) (x : Option Addr × Nat), rads[i]? = some x → ∀ ad, x.1 = some ad → S ≤ ad.block)
    (hPO : ∀ ad, pa = some ad → ad.block < S ∧ dv.ownBlock ≠ some ad.block ∧ pv.ownBlock ≠ some ad.block) : RDone base S rv dv pv rads dads rest s.done s.piv pa P w' := by
  subst hS
  refine ⟨h.d.below hb, hr, OwnI.below h.p hb, hP.below hb, hrS, fun b e => (h.d.own_lt b e).2, fun b e => (World.ownsRow.lt h.p b e).2, h.dp, hPO, fun i x e ad ea => ⟨fun e2 => ?_, fun e2 => h.pD _ e2 i x e ad ea rfl⟩, hb.size⟩
  have h1 := (hr.own_lt _ e2).1
  have h2 := (h.d.out i x e ad ea).1
  omega
theorem RDone.stored {base S g n cap : Nat} {rv pv : Value} {rads dads : List (Option Addr × Nat)} {rest D : List (List Int)} {piv : List Int} {pa : Option Addr} {P : List Int} {w : World} (h : RDone base S rv (.slice (some ⟨g, 0, none⟩) n cap) pv rads dads rest D piv pa P w) {i : Nat} (hi : i < D.length) {a : Option Addr} {c : Nat} {r : List Int} (hs : Sl w a r) (ha : ∀ ad, a = some ad → ad.block < w.heap.size ∧ S ≤ ad.block ∧ rv.ownBlock ≠ some ad.block) :
    RDone base S rv (.slice (some ⟨g, 0, none⟩) n cap) pv rads (dads.set i (a, c)) rest (D.set i r) piv pa P (w.setCell ⟨g, i, none⟩ (.slice a r.length c)) := by
  have hg : g < S := h.dvS g rfl
  refine ⟨h.d.stored hi hs (fun ad ea => ⟨(ha ad ea).1, by have := (ha ad ea).2.1; omega⟩), h.r.far (p := ⟨g, i, none⟩) (fun e => by have := (h.r.own_lt _ e).1; simp at this; omega) (fun j x e ad ea => by have := h.rS j x e ad ea; show _ ≠ g; omega) _, row_same h.p fun b e => Below.heap_setCell w _ _ b (by rintro rfl; exact h.dp _ rfl e), sl_apart h.P (fun ad ea => by have := (h.PO ad ea).2.1; intro e; exact this (by rw [e]; rfl)) _, h.rS, h.dvS, h.pvS, h.dp, h.PO, fun j x e ad ea => ?_, by rw [World.size_setCell]; exact h.sz⟩
  by_cases e1 : j = i
  · subst e1
    have hj : j < dads.length := by rw [h.d.len]; exact hi
    rw [List.getElem?_set_self hj] at e
    cases e
    exact ⟨(ha ad ea).2.2, fun e2 => by have := h.pvS _ e2; have := (ha ad ea).2.1; omega⟩
  · rw [List.getElem?_set_ne (Ne.symm e1)] at e
    exact h.dR j x e ad ea
theorem RDone.pushd {base S g cap pc n : Nat} {rv dv pv : Value} {rads dads : List (Option Addr × Nat)} {rest D : List (List Int)} {piv : List Int} {pa : Option Addr} {P : List Int} {w w' : World} {o : Obj} (h : RDone base S rv dv pv rads dads rest D piv pa P w) (hbS : base ≤ S)
    (h1 : HR base (.slice (some ⟨g, 0, none⟩) n cap) (dads ++ [(pa, pc)]) (D ++ [P]) w') (h2 : dv.ownBlock = some g ∨ w.heap.size ≤ g) (h3 : (w.alloc o).grownBy w' dv.ownBlock) :
    RInv base rv (.slice (some ⟨g, 0, none⟩) n cap) pv rads (dads ++ [(pa, pc)]) { done := D ++ [P], left := rest, piv := piv } w' := by
  have hb1 : Below w.heap.size w (w.alloc o) := (Below.refl _ _).alloc (Nat.le_refl _) _
  have hsz := h.sz
  have hsa : (w.alloc o).heap.size = w.heap.size + 1 := World.size_alloc _ _
  have rlt : ∀ b, rv.ownBlock = some b → S ≤ b ∧ b < w.heap.size := h.r.own_lt
  have hg : ∀ b, S ≤ b → b < w.heap.size → g ≠ b := by
    intro b hb1 hb2 e
    rcases h2 with e2 | e2
    · have := h.dvS _ e2; omega
    · omega
  have plt : ∀ b, pv.ownBlock = some b → b < w.heap.size := fun b e => (World.ownsRow.lt h.p b e).2
  have hgp : pv.ownBlock ≠ some g := by
    intro e
    rcases h2 with e2 | e2
    · exact h.dp _ e2 e
    · have := plt _ e; omega
  have e0 : ∀ b, (Value.slice (some ⟨g, 0, none⟩) n cap).ownBlock = some b → b = g := fun b e => by simpa [Value.ownBlock] using e.symm
  refine ⟨((h.r.below hb1).grown h3 (fun b e e2 => by have := h.dvS _ e2; have := (rlt _ e).1; omega) (fun i x e ad ea e2 => by have := h.dvS _ e2; have := h.rS i x e ad ea; omega)).mono hbS, h1, row_same (OwnI.below h.p hb1) fun b e => h3.block b (by rw [hsa]; have := plt b e; omega) (fun e2 => h.dp b e2.symm e), ?_, ?_, ?_, ?_, ?_, ?_, ?_⟩
  · intro b e e2
    have := e0 _ e2
    exact hg b (rlt b e).1 (rlt b e).2 this.symm
  · intro b e e2
    have := h.pvS _ e2; have := (rlt _ e).1; omega
  · intro b e e2
    rw [e0 _ e] at e2; exact hgp e2
  · intro b e i x ex ad ea e2
    rcases get_snoc ex with ex | ⟨_, rfl⟩
    · exact (h.dR i x ex ad ea).1 (by rw [e2]; exact e)
    · have := (h.PO ad ea).1; have := (rlt _ e).1; omega
  · intro b e i x ex ad ea e2
    rw [e0 _ e] at e2
    exact hg ad.block (h.rS i x ex ad ea) (h.r.out i x ex ad ea).1 e2.symm
  · intro b e i x ex ad ea e2
    have := h.pvS _ e; have := h.rS i x ex ad ea; omega
  · intro b e i x ex ad ea e2
    rcases get_snoc ex with ex | ⟨_, rfl⟩
    · exact (h.dR i x ex ad ea).2 (by rw [e2]; exact e)
    · exact (h.PO ad ea).2.2 (by rw [e2]; exact e)
theorem RInv.pushp {base g cap n : Nat} {lv dv pv : Value} {lads dads : List (Option Addr × Nat)} {L D : List (List Int)} {piv : List Int} {y : Int} {w w' : World} {o : Obj} (h : RInv base lv dv pv lads dads { done := D, left := L, piv := piv } w)
    (h1 : OwnI w' base (.slice (some ⟨g, 0, none⟩) n cap) (piv ++ [y])) (h2 : pv.ownBlock = some g ∨ w.heap.size ≤ g) (h3 : (w.alloc o).grownBy w' pv.ownBlock) :
    RInv base lv dv (.slice (some ⟨g, 0, none⟩) n cap) lads dads { done := D, left := L, piv := piv ++ [y] } w' := by
  have hb1 : Below w.heap.size w (w.alloc o) := (Below.refl _ _).alloc (Nat.le_refl _) _
  have e0 : ∀ b, (Value.slice (some ⟨g, 0, none⟩) n cap).ownBlock = some b → b = g := fun b e => by simpa [Value.ownBlock] using e.symm
  refine ⟨(h.l.below hb1).grown h3 (fun b e => h.lp b e) (fun i x e ad ea e2 => h.pL _ e2 i x e ad ea rfl), (h.d.below hb1).grown h3 (fun b e => h.dp b e) (fun i x e ad ea e2 => h.pD _ e2 i x e ad ea rfl), h1, h.ld, ?_, ?_, h.lD, h.dL, ?_, ?_⟩
  · intro b e e2
    have e3 := e0 _ e2; subst e3
    rcases h2 with e3 | e3
    · exact h.lp _ e e3
    · have := (h.l.own_lt _ e).2; omega
  · intro b e e2
    have e3 := e0 _ e2; subst e3
    rcases h2 with e3 | e3
    · exact h.dp _ e e3
    · have := (h.d.own_lt _ e).2; omega
  · intro b e i x ex ad ea e2
    have e3 := e0 _ e; subst e3
    rcases h2 with e3 | e3
    · exact h.pL _ e3 i x ex ad ea e2
    · have := (h.l.out i x ex ad ea).1; omega
  · intro b e i x ex ad ea e2
    have e3 := e0 _ e; subst e3
    rcases h2 with e3 | e3
    · exact h.pD _ e3 i x ex ad ea e2
    · have := (h.d.out i x ex ad ea).1; omega
theorem redR_lens (M : List (List Int)) : ∀ D, (redR M D).done.length ≤ D ∧ (redR M D).piv.length ≤ D
  | 0 => by simp [redR, stepsR]
  | D + 1 => by
    have h1 := redR_lens M D
    show (stepR D (redR M D)).done.length ≤ _ ∧ (stepR D (redR M D)).piv.length ≤ _
    unfold stepR
    split
    · omega
    · simp
      omega
def restTo (L : List (List Int)) (P : List Int) (D at_ k : Nat) : List (List Int) := ((L.take k).eraseIdx at_).map fun q => withoutR q P D
theorem restTo_succ {L : List (List Int)} {P : List Int} {D at_ k : Nat} (hk : k < L.length) : restTo L P D at_ (k + 1) = if k = at_ then restTo L P D at_ k else restTo L P D at_ k ++ [withoutR (rowL L k) P D] := by
  have e : L.take (k + 1) = L.take k ++ [rowL L k] := by
    rw [List.take_add_one]; unfold rowL; simp [hk]
  have hl : (L.take k).length = k := by rw [List.length_take]; omega
  unfold restTo
  rw [e]
  split
  · rename_i h
    subst h
    have e3 : (L.take k).eraseIdx k = L.take k := List.eraseIdx_of_length_le (by omega)
    rw [List.eraseIdx_append_of_length_le (by omega), hl, Nat.sub_self, e3]
    simp
  · rename_i h
    by_cases h2 : at_ < k
    · rw [List.eraseIdx_append_of_lt_length (by omega)]; simp
    · rw [List.eraseIdx_of_length_le (by simp; omega), List.eraseIdx_of_length_le (by omega)]; simp
theorem restTo_len (L : List (List Int)) (P : List Int) (D at_ k : Nat) : (restTo L P D at_ k).length ≤ L.length := by
  unfold restTo
  rw [List.length_map]
  exact Nat.le_trans (List.length_eraseIdx_le _ _) (by rw [List.length_take]; omega)
theorem restTo_all (L : List (List Int)) (P : List Int) (D at_ : Nat) : restTo L P D at_ L.length = (L.eraseIdx at_).map fun q => withoutR q P D := by
  unfold restTo; rw [List.take_length]
def doneTo (L : List (List Int)) (P : List Int) (D k : Nat) : List (List Int) := ((L.take k).map fun q => withoutR q P D) ++ L.drop k
theorem doneTo_len (L : List (List Int)) (P : List Int) (D k : Nat) : (doneTo L P D k).length = L.length := by
  unfold doneTo; simp; omega
theorem doneTo_row {L : List (List Int)} {P : List Int} {D k : Nat} (hk : k < L.length) : rowL (doneTo L P D k) k = rowL L k := by
  unfold doneTo rowL
  rw [List.getElem?_append_right (by simp; omega)]
  simp [Nat.min_eq_left (Nat.le_of_lt hk)]
theorem doneTo_set {L : List (List Int)} {P : List Int} {D k : Nat} (hk : k < L.length) : (doneTo L P D k).set k (withoutR (rowL L k) P D) = doneTo L P D (k + 1) := by
  have e : L.take (k + 1) = L.take k ++ [rowL L k] := by
    rw [List.take_add_one]; unfold rowL; simp [hk]
  have e2 : L.drop k = rowL L k :: L.drop (k + 1) := by
    rw [List.drop_eq_getElem_cons hk]; unfold rowL; simp [hk]
  unfold doneTo
  have hl : (List.map (fun q => withoutR q P D) (L.take k)).length = k := by rw [List.length_map, List.length_take]; omega
  rw [e, e2, List.set_append, if_neg (by omega), hl, Nat.sub_self]
  simp
theorem doneTo_zero (L : List (List Int)) (P : List Int) (D : Nat) : doneTo L P D 0 = L := by simp [doneTo]
theorem doneTo_all (L : List (List Int)) (P : List Int) (D : Nat) : doneTo L P D L.length = L.map fun q => withoutR q P D := by simp [doneTo]
def Small7 (N : Nat) (q : List Int) : Prop := ∀ c, c < N → -720000000 ≤ gt q c ∧ gt q c ≤ 720000000
theorem small_own {N D : Nat} {q : List Int} (h : Small7 N q) : Small7 N (ownR q D) := by
  unfold ownR
  split
  · intro c hc
    have e : gt (negL q) c = IntKind.i64.wrap (- gt q c) := by
      unfold gt negL
      rw [List.getElem?_map]
      cases q[c]? <;> rfl
    have := h c hc
    rw [e, wrap_id (by omega) (by omega)]; omega
  · exact h
theorem wip_mid {N D : Nat} {q P : List Int} (hq : q.length = N) (hD : D < N) (h1 : Small7 N q) (h2 : Small7 N P) : ∀ x ∈ wipR q P D, Mid x := by
  intro x hx
  obtain ⟨c, hc, rfl⟩ := List.getElem_of_mem hx
  rw [wipR_len, hq] at hc
  have e := gt_wipR (q := q) (P := P) (D := D) (c := c) (by omega) (h1 c hc) (h2 D hD) (h2 c hc) (h1 D hD)
  have e2 : gt (wipR q P D) c = (wipR q P D)[c]'(by rw [wipR_len]; omega) := by unfold gt; simp [wipR_len, hq, hc]
  rw [← e2, e]
  have b : ∀ {x y : Int}, (-720000000 ≤ x ∧ x ≤ 720000000) → (-720000000 ≤ y ∧ y ≤ 720000000) → -518400000000000000 ≤ x * y ∧ x * y ≤ 518400000000000000 := by
    intro x y hx hy
    have h : (x * y).natAbs ≤ 720000000 * 720000000 := by rw [Int.natAbs_mul]; exact Nat.mul_le_mul (by omega) (by omega)
    omega
  have b1 := b (h1 c hc) (h2 D hD)
  have b2 := b (h2 c hc) (h1 D hD)
  unfold Mid
  omega
end Go.Proofs.Ytfnomiingelfaaa
/- What the answers' kernel needs of their reduction. Plain words. Speaks of no program. -/
namespace Go.Proofs.Ytfnomiingelfaaa
open Go.RowKit

theorem mem_gt_at {q : List Int} {x : Int} (h : x ∈ q) : ∃ c, c < q.length ∧ gt q c = x := by
  obtain ⟨c, hc, e⟩ := List.getElem_of_mem h
  exact ⟨c, hc, by unfold gt; simp [hc, e]⟩
theorem rowL_of_mem {L : List (List Int)} {q : List Int} (h : q ∈ L) : ∃ t, t < L.length ∧ rowL L t = q := by
  obtain ⟨t, ht, e⟩ := List.getElem_of_mem h
  exact ⟨t, ht, by unfold rowL; simp [ht, e]⟩
theorem red_pre {R N cols : Nat} {M : List (List Int)} (h1 : M.length = R) (h2 : ∀ q ∈ M, q.length = N) (hR : R ≤ 6) (hN : N ≤ cols + 1) (hb1 : ∀ i, i < R → ∀ c, c < cols → -1 ≤ a0 M i c ∧ a0 M i c ≤ 1) (hb2 : ∀ i, i < R → ∀ c, c < N → -1000000 ≤ a0 M i c ∧ a0 M i c ≤ 1000000) :
    (∀ q ∈ M, ∀ x ∈ q, Mid x) ∧ ∀ D, D < N → ∀ q, (q ∈ (redR M D).left ∨ q ∈ (redR M D).done) → Small7 N q := by
  constructor
  · intro q hq x hx
    obtain ⟨t, ht, e⟩ := rowL_of_mem hq
    obtain ⟨c, hc, ec⟩ := mem_gt_at hx
    have := hb2 t (by omega) c (by rw [← h2 q hq]; exact hc)
    unfold a0 at this
    rw [e, ec] at this
    unfold Mid; omega
  · intro D hD q hq
    obtain ⟨A, p, h⟩ := rbar_all h1 h2 hR hb1 hb2 D (by omega) (by omega)
    obtain ⟨k1, k2⟩ := rbar_bd h hR (by omega) hb1 hb2
    rcases hq with hq | hq
    · obtain ⟨t, ht, e⟩ := rowL_of_mem hq
      rw [← e]; exact k2 t ht
    · obtain ⟨t, ht, e⟩ := rowL_of_mem hq
      rw [← e]; exact k1 t (by rw [← h.ld]; exact ht)
structure KF (N : Nat) (s : Rs) : Prop where
  dl : s.done.length = s.piv.length
  rl : ∀ t, t < s.piv.length → (rowL s.done t).length = N
  pk : ∀ t, t < s.piv.length → ∃ p : Nat, gt s.piv t = (p : Int) ∧ p < N
  lc : ∀ t, t ≤ s.piv.length → 1 ≤ lcTo s t ∧ lcTo s t ≤ 720
  pv : ∀ t, t < s.piv.length → 1 ≤ pvR s t ∧ pvR s t ≤ 720000000
  bd : ∀ t, t < s.piv.length → Small7 N (rowL s.done t)
  kl : s.piv.length ≤ 6
theorem kf_of {R N : Nat} {A0 A : Nat → Nat → Int} {p : Nat → Nat} {s : Rs} (g : RBar R N N A0 A p s) (hR : R ≤ 6) (hb : ∀ i, i < R → ∀ c, c < N → -1 ≤ A0 i c ∧ A0 i c ≤ 1) : KF N s := by
  have bd := (rbar_bd (cols := N) g hR (Nat.le_refl N) hb (fun i hi c hc => by have := hb i hi c hc; omega)).1
  have hll := g.ll
  refine ⟨g.ld, fun t ht => g.rd _ (rowL_mem (by rw [g.ld]; exact ht)), fun t ht => ⟨p t, g.pe t ht, g.pz t ht⟩, fun t ht => ?_, fun t ht => ?_, bd, by omega⟩
  · obtain ⟨L, e, h1, h2, _⟩ := g.lc hR hb t ht
    omega
  · rw [g.pv ht]
    have h1 := g.pos t ht
    have h2 := bd t ht (p t) (g.pz t ht)
    omega
theorem KF.q {N : Nat} {s : Rs} (h : KF N s) {t : Nat} (ht : t < s.piv.length) {L : Int} (h1 : 1 ≤ L ∧ L ≤ 720) : 0 ≤ L.tdiv (pvR s t) ∧ L.tdiv (pvR s t) ≤ 720 := by
  have hp := h.pv t ht
  obtain ⟨P, hP⟩ : ∃ P : Nat, pvR s t = (P : Int) := ⟨(pvR s t).natAbs, by omega⟩
  obtain ⟨K, hK⟩ : ∃ K : Nat, L = (K : Int) := ⟨L.natAbs, by omega⟩
  have e : (K : Int).tdiv (P : Int) = ((K / P : Nat) : Int) := by rw [Int.ofNat_tdiv]
  rw [hP, hK, e]
  have := Nat.div_le_self K P
  generalize K / P = z at *
  omega
theorem KF.v {N : Nat} {s : Rs} (h : KF N s) {t f : Nat} (hf : f < N) (ht : t < s.piv.length) {L : Int} (h1 : 1 ≤ L ∧ L ≤ 720) : IntKind.i64.wrap (-gt (rowL s.done t) f) = -gt (rowL s.done t) f ∧ (-518400000000 ≤ rkV s L f t ∧ rkV s L f t ≤ 518400000000) ∧ rkV s L f t = -gt (rowL s.done t) f * L.tdiv (pvR s t) := by
  have b := h.bd t ht f hf
  obtain ⟨q, hq⟩ : ∃ q, L.tdiv (pvR s t) = q := ⟨_, rfl⟩
  have bq := h.q ht h1
  rw [hq] at bq
  have w1 : IntKind.i64.wrap (-gt (rowL s.done t) f) = -gt (rowL s.done t) f := wrap_id (by omega) (by omega)
  have bm : -518400000000 ≤ -gt (rowL s.done t) f * q ∧ -gt (rowL s.done t) f * q ≤ 518400000000 := by
    have h1 : (-gt (rowL s.done t) f * q).natAbs ≤ 720000000 * 720 := by rw [Int.natAbs_mul]; exact Nat.mul_le_mul (by omega) (by omega)
    omega
  have e : rkV s L f t = -gt (rowL s.done t) f * q := by
    unfold rkV; rw [w1, hq, wrap_id (by omega) (by omega)]
  exact ⟨w1, by rw [e]; exact bm, by rw [e, hq]⟩
theorem KF.mid {N : Nat} {s : Rs} (h : KF N s) {f : Nat} (hf : f < N) {L : Int} (h1 : 1 ≤ L ∧ L ≤ 720) : ∀ t, t ≤ s.piv.length → ∀ x ∈ rkTo N s L f t, Mid x
  | 0, _, x, hx => by
    rcases List.mem_or_eq_of_mem_set hx with e | e
    · have := List.eq_of_mem_replicate e; unfold Mid; omega
    · unfold Mid; omega
  | t + 1, ht, x, hx => by
    rcases List.mem_or_eq_of_mem_set hx with e | e
    · exact KF.mid h hf h1 t (by omega) x e
    · have := (h.v hf (t := t) (by omega) h1).2.1
      unfold Mid; omega
def frB (s : Rs) (f t : Nat) : Bool := decide (∀ i, i < t → gt s.piv i ≠ (f : Int))
theorem frB_succ (s : Rs) (f t : Nat) : frB s f (t + 1) = (frB s f t && decide (gt s.piv t ≠ (f : Int))) := by
  unfold frB
  rw [Bool.eq_iff_iff]
  simp only [Bool.and_eq_true, decide_eq_true_eq]
  constructor
  · exact fun h => ⟨fun i hi => h i (by omega), h t (by omega)⟩
  · intro h i hi
    by_cases e : i = t
    · rw [e]; exact h.2
    · exact h.1 i (by omega)
def kerR (s : Rs) (N : Nat) : Nat → List (List Int)
  | 0 => []
  | f + 1 => if frB s f s.piv.length = true then kerR s N f ++ [primR (rkTo N s (lcTo s s.piv.length) f s.piv.length)] else kerR s N f
theorem kerR_len (s : Rs) (N : Nat) : ∀ f, (kerR s N f).length ≤ f
  | 0 => Nat.le_refl _
  | f + 1 => by
    have := kerR_len s N f
    unfold kerR
    split
    · rw [List.length_append]; simp; exact this
    · omega
end Go.Proofs.Ytfnomiingelfaaa
/- The answers' basis of a kernel is the program's, and what it is. Plain words. Speaks of no program. -/
namespace Go.Proofs.Ytfnomiingelfaaa
open Go.RowKit

theorem gt_upTo {n c : Nat} (h : c < n) : gt (upTo n) c = (c : Int) := by unfold upTo gt; simp [h]
theorem pix_all {m : List (List Int)} (hr : ∀ q ∈ m, q.length = colsM m) : pixM (upTo (colsM m)) m = m := by
  unfold pixM
  conv => rhs; rw [← List.map_id m]
  refine List.map_congr_left fun q hq => ?_
  refine list_gt (by show _ = q.length; unfold pixR; rw [List.length_map, upTo_len, hr q hq]) fun t ht => ?_
  have ht : t < colsM m := by rw [pixR_len, upTo_len] at ht; exact ht
  rw [gt_pixR (by rw [upTo_len]; exact ht), gt_upTo ht]
  rfl
theorem freeTo_succ (pz : List Int) (k : Nat) : freeTo pz (k + 1) = if (k : Int) ∈ pz then freeTo pz k else freeTo pz k ++ [(k : Int)] := rfl
theorem frB_mem (s : Rs) (f : Nat) : frB s f s.piv.length = decide ((f : Int) ∉ s.piv) := by
  unfold frB
  rw [decide_eq_decide]
  constructor
  · intro h hm
    obtain ⟨t, ht, e⟩ := mem_gt.mp hm
    exact h t ht e
  · intro h i hi e
    exact h (mem_gt.mpr ⟨i, hi, e⟩)
theorem ker_same {M : List (List Int)} {N : Nat} {r : Rd} (hM : M.length ≤ 6) (h2 : ∀ q ∈ M, q.length = N) (hb : ∀ i, i < M.length → ∀ c, c < N → -1 ≤ a0 M i c ∧ a0 M i c ≤ 1) (h : RFin M.length N N (a0 M) r) :
    (redR M N).piv = r.piv ∧ ∀ f, f ≤ N → kerR (redR M N) N f = (freeTo r.piv f).map fun c => shortL (kvec r N c.toNat) := by
  obtain ⟨A, p, g⟩ := rbar_all (cols := N) rfl h2 hM hb (fun i hi c hc => by have := hb i hi c hc; omega) N (Nat.le_refl _) (by omega)
  obtain ⟨e1, _, _⟩ := red_agree h (Nat.le_refl N) g h.low
  refine ⟨e1, fun f => ?_⟩
  induction f with
  | zero => intro _; rfl
  | succ f ih =>
    intro hf
    have ih := ih (by omega)
    rw [kerR, freeTo_succ, frB_mem, e1]
    by_cases hm : (f : Int) ∈ r.piv
    · simp only [hm, not_true_eq_false, decide_false, Bool.false_eq_true, if_false, if_true]; exact ih
    · have k := ker_agree h g hM hb (f := f) (by omega) hm
      rw [e1] at k
      simp only [hm, not_false_eq_true, decide_true, if_true, if_false]
      rw [ih, k, List.map_append]
      rfl
theorem basis_fin {m : List (List Int)} (hv : validM m = true) : RFin m.length (colsM m) (colsM m) (a0 m) (redN m (upTo (colsM m))) := by
  have h := redN_fin hv (px := upTo (colsM m)) (fun j hj => upTo_in hj)
  rw [upTo_len, pix_all (fun q hq => ((validM_of hv).2.2.2.2 q hq).1)] at h
  exact h
theorem free_count {R N cols : Nat} {A0 : Nat → Nat → Int} {r : Rd} (h : RFin R N cols A0 r) : ∀ k, k ≤ cols → ∃ j, j ≤ r.piv.length ∧ (freeTo r.piv k).length + j = k ∧ (∀ t, t < j → pivN r t < k) ∧ ∀ t, j ≤ t → t < r.piv.length → k ≤ pivN r t
  | 0, _ => ⟨0, Nat.zero_le _, rfl, fun t ht => absurd ht (by omega), fun t _ _ => Nat.zero_le _⟩
  | k + 1, hk => by
    obtain ⟨j, h1, h2, h3, h4⟩ := free_count h k (by omega)
    rw [freeTo_succ]
    by_cases hm : (k : Int) ∈ r.piv
    · obtain ⟨t, ht, e⟩ := h.mem.mp hm
      have hj : j = t := by
        by_cases h5 : t < j
        · have := h3 t h5; omega
        · by_cases h6 : j = t
          · exact h6
          · have := h.asc j t (by omega) ht
            have := h4 j (Nat.le_refl _) (by omega)
            omega
      subst hj
      refine ⟨j + 1, by omega, by rw [if_pos hm]; omega, fun t ht => ?_, fun t h5 h6 => ?_⟩
      · by_cases e2 : t = j
        · subst e2; omega
        · have := h3 t (by omega); omega
      · have := h.asc j t (by omega) h6; omega
    · refine ⟨j, h1, by rw [if_neg hm, List.length_append, List.length_singleton]; omega, fun t ht => by have := h3 t ht; omega, fun t h5 h6 => ?_⟩
      have h7 := h4 t h5 h6
      by_cases e : pivN r t = k
      · exact absurd (h.mem.mpr ⟨t, h6, e⟩) hm
      · omega
theorem RFin.count {R N cols : Nat} {A0 : Nat → Nat → Int} {r : Rd} (h : RFin R N cols A0 r) : r.piv.length + (freeTo r.piv cols).length = cols := by
  obtain ⟨j, h1, h2, _, h4⟩ := free_count h cols (Nat.le_refl _)
  by_cases e : j < r.piv.length
  · have := h4 j (Nat.le_refl _) e
    have := h.pivN_lt e
    omega
  · omega
theorem RFin.kvec_ker {R N : Nat} {A0 : Nat → Nat → Int} {r : Rd} (h : RFin R N N A0 r) (hR : R ≤ 6) {f : Nat} (hf : f < N) (hn : (f : Int) ∉ r.piv) : ∀ i, i < R → sumTo (fun c => A0 i c * gt (kvec r N f) c) N = 0 := by
  refine (h.ker' h.low fun c => gt (kvec r N f) c).mpr fun t ht => ?_
  have hp := h.pivN_lt ht
  have hne : f ≠ pivN r t := fun e => hn (h.mem.mpr ⟨t, ht, e.symm⟩)
  have e0 : ∀ c, c < N → c ≠ f → c ≠ pivN r t → gt (rowL r.rows t) c * gt (kvec r N f) c = 0 := fun c hc e1 e2 => by
    by_cases hm : (c : Int) ∈ r.piv
    · obtain ⟨s, hs, e⟩ := h.mem.mp hm
      have := h.self s t hs ht
      rw [e, if_neg (fun e3 => e2 (by rw [e3]; exact e.symm))] at this
      rw [this, Int.zero_mul]
    · rw [h.kvec_else hR (Nat.le_refl _) hf hn hc e1 hm, Int.mul_zero]
  have hs := h.self t t ht ht
  rw [if_pos rfl] at hs
  have goal : gt (rowL r.rows t) f * gt (kvec r N f) f + gt (rowL r.rows t) (pivN r t) * gt (kvec r N f) (pivN r t) = 0 := by
    rw [hs, h.kvec_free hR (Nat.le_refl _) hf hn, h.kvec_piv hR (Nat.le_refl _) hf hn ht]; grind
  rcases Nat.lt_or_ge f (pivN r t) with h1 | h1
  · rw [sumPair h1 N (by omega) fun c hc a b => e0 c hc a b]; exact goal
  · rw [sumPair (s := pivN r t) (t := f) (by omega) N (by omega) fun c hc a b => e0 c hc b a]; omega
theorem gt_short {v : List Int} {c : Nat} (hc : c < v.length) : gt v c = ((gcdL v : Nat) : Int) * gt (shortL v) c := by
  by_cases h : gcdL v = 0
  · rw [gcdTo_zero _ h c hc, h]; simp
  · have := gt_primR hc
    rw [primR_short h, show max (gcdL v) 1 = gcdL v by omega] at this
    exact this
theorem short_len (v : List Int) : (shortL v).length = v.length := by simp [shortL]
theorem allB_all {M : Int} {xs : List Int} (h : ∀ c, c < xs.length → -M ≤ gt xs c ∧ gt xs c ≤ M) : allB M xs = true := by
  unfold allB
  rw [List.all_eq_true]
  intro x hx
  obtain ⟨c, hc, rfl⟩ := mem_gt.mp hx
  have := h c hc
  unfold outB
  simp
  omega
end Go.Proofs.Ytfnomiingelfaaa
/- Reduced of the answers: the contract. -/
namespace Go.Proofs.Ytfnomiingelfaaa
open Go.RowKit

set_option maxRecDepth 1000000 in
set_option maxHeartbeats 4000000 in
theorem reduced_any (a : Option Addr) (M : List (List Int)) (cap N : Nat) (w : World) (hl : M.length ≤ 100) (hN : N ≤ 1000) (hr : ∀ q ∈ M, q.length = N) (hx : ∀ q ∈ M, ∀ x ∈ q, Mid x) (hbd : ∀ D, D < N → ∀ q, (q ∈ (redR M D).left ∨ q ∈ (redR M D).done) → Small7 N q) (hs : Ms w a M) :
    Calls Try.prog 96 #[.slice a M.length cap] w fun e w' => ∃ ad c pa pc, e = .returned (.tuple #[.slice ad (redR M N).done.length c, .slice pa (redR M N).piv.length pc]) ∧ Ms w' ad (redR M N).done ∧ Sl w' pa (redR M N).piv ∧ Below w.heap.size w w' := by
  have HS := Lib.hid hs; clear hs
  have HBD := Lib.hid hbd; clear hbd
  have HX := Lib.hid hx; clear hx
  have HR0 := Lib.hid hr; clear hr
  obtain ⟨n, hn⟩ : ∃ n, M.length = n := ⟨_, rfl⟩
  have HN := Lib.hid hn
  rw [hn] at hl ⊢
  clear hn
  go_enter Try.func96, Try.ntmps96
  go_wp2
  go_loopw [4, 21] (fun v i wr => ∃ (k : Nat) (ads : List (Option Addr × Nat)), k ≤ n ∧ i = .int .i64 k ∧ HR w.heap.size v ads ((M.map primR).take k) wr ∧ Below w.heap.size w wr) (fun _ i _ => n - (intOf i).toNat)
  case atStart => exact ⟨0, [], Nat.zero_le _, rfl, HR.nil _ _, Below.refl _ _⟩
  case round =>
    obtain ⟨k, ads, hk, rfl, hO, hB⟩ := hrel
    have HO := Lib.hid hO; clear hO
    have HB := Lib.hid hB; clear hB
    by_cases hlt : k < n
    · have hkM : k < M.length := by rw [HN.out]; exact hlt
      obtain ⟨b, off, ai, ci, rfl, hcell, hsl⟩ := HS.out k hkM
      have e2 : M[k]? = some M[k] := by simp [hkM]
      rw [e2] at hcell hsl
      obtain ⟨q, hq⟩ : ∃ q, M[k] = q := ⟨_, rfl⟩
      have hqM : q ∈ M := by rw [← hq]; exact List.getElem_mem hkM
      have HQN : Hid (q.length = N) := HR0.out q hqM
      have HQX := Lib.hid (HX.out q hqM)
      have HT : Hid ((M.map primR).take (k + 1) = (M.map primR).take k ++ [primR q]) := by
        show _ = _
        rw [List.take_add_one]
        congr 1
        simp [hkM, hq]
      rw [hq] at hcell hsl e2
      have HSL : Hid (Sl wr ai q) := hsl.below HB.out
      have hc2 : wr.cell? ⟨b, off + k, none⟩ = some (.slice ai q.length ci) := (HB.out.cell (p := ⟨b, off + k, none⟩) (cell_lt hcell)).trans hcell
      clear hcell hsl hq e2
      go_wp2_with fail
      refine (primitive_any ai q ci wr (by rw [HQN.out]; exact hN) HQX.out HSL.out).mono ?_
      rintro e w9 ⟨v9, rfl, ho9, hb9⟩
      obtain ⟨a9, c9, rfl, s9, l9⟩ := ho9.parts
      have HO9 := Lib.hid (HO.out.below hb9)
      have HB9 : Hid (Below w.heap.size w w9) := HB.out.trans (hb9.mono HB.out.size)
      have HS9 := Lib.hid s9; clear s9
      have HA9 : Hid (∀ ad, a9 = some ad → ad.block < w9.heap.size ∧ u4.ownBlock ≠ some ad.block) := fun ad e => ⟨(l9 ad e).1, fun e2 => by have := World.ownsRow.lt HO.out.own _ e2; have := (l9 ad e).2; omega⟩
      obtain ⟨L, hLL⟩ : ∃ L, (M.map primR).take k = L := ⟨_, rfl⟩
      rw [hLL] at HO9 HT
      have HL : Hid (L.length ≤ 100000) := by show _ ≤ _; rw [← hLL, List.length_take]; omega
      clear ho9 hb9 l9 hLL
      go_wp2_with (at_builtin; go_must (refine wpList_pushHR rfl (.tmp 25) (.tmp 28) rfl w.heap.size _ ads L (primR q) _ rfl a9 c9 _ _ _ rfl rfl rfl HO9.out HS9.out HA9.out HL.out HB9.out.size ?_); intro g cap' w10 ho' _ hb' _)
      go_roundw
      case rel => exact ⟨k + 1, _, by omega, by go_num, by rw [HT.out]; exact ho', HB9.out.trans hb'⟩
      case measure => simp [intOf]; omega
    · obtain rfl : k = n := by omega
      have HE : Hid ((M.map primR).take k = M.map primR) := by show _ = _; rw [List.take_of_length_le]; simp; exact Nat.le_of_eq HN.out
      have HO1 : Hid (RInv w.heap.size u4 (.slice none 0 0) (.slice none 0 0) ads [] (redR M 0) wr) := by have := HO.out; rw [HE.out] at this; exact RInv.start this
      clear HO HE
      go_wp2
      go_loopw [4, 5, 8, 9] (fun lv dv pv i wr => ∃ (D : Nat) (lads dads : List (Option Addr × Nat)), D ≤ N ∧ i = .int .i64 D ∧ RInv w.heap.size lv dv pv lads dads (redR M D) wr ∧ Below w.heap.size w wr) (fun _ _ _ i _ => N - (intOf i).toNat)
      case atStart => exact ⟨0, ads, [], Nat.zero_le _, rfl, HO1.out, HB.out⟩
      case round =>
        clear HO1 HB
        obtain ⟨D, lads, dads, hD, rfl, hI, hB⟩ := hrel
        have HI := Lib.hid hI; clear hI
        have HB := Lib.hid hB; clear hB
        have fin : Hid (∀ dv pv, HR w.heap.size dv dads (redR M N).done wr → OwnI wr w.heap.size pv (redR M N).piv → ∃ ad c pa pc, Ending.returned (.tuple #[dv, pv]) = Ending.returned (.tuple #[.slice ad (redR M N).done.length c, .slice pa (redR M N).piv.length pc]) ∧ Ms wr ad (redR M N).done ∧ Sl wr pa (redR M N).piv ∧ Below w.heap.size w wr) := by
          intro dv pv h1 h2
          obtain ⟨ad, c, rfl, hm⟩ := h1.ms
          obtain ⟨pa, pc, rfl, hp⟩ := h2.any
          exact ⟨ad, c, pa, pc, rfl, hm, hp, HB.out⟩
        rcases HI.out.l.shape with ⟨rfl, hL0⟩ | ⟨g, lcap, rfl, hg1, hg2⟩
        · have HE : Hid (redR M N = redR M D) := by
            show _ = _
            have := redR_stop hL0 (N - D)
            rw [show D + (N - D) = N by omega] at this; exact this
          clear hL0
          go_wp2
          go_ret2
          exact fin.out _ _ (by rw [HE.out]; exact HI.out.d) (by rw [HE.out]; exact HI.out.p)
        · have HRL : Hid (∀ q ∈ (redR M D).left, q.length = N) := (redR_rows HR0.out D).1
          obtain ⟨ln, hln⟩ : ∃ ln, (redR M D).left.length = ln := ⟨_, rfl⟩
          have HLN := Lib.hid hln
          have hln100 : ln ≤ 100 := by have := redR_left M D; rw [HN.out] at this; omega
          rw [hln] at HI ⊢
          clear hln
          by_cases h0 : ln = 0
          · subst h0
            have HE : Hid (redR M N = redR M D) := by
              show _ = _
              have := redR_stop (List.eq_nil_of_length_eq_zero HLN.out) (N - D)
              rw [show D + (N - D) = N by omega] at this; exact this
            go_wp2
            go_ret2
            exact fin.out _ _ (by rw [HE.out]; exact HI.out.d) (by rw [HE.out]; exact HI.out.p)
          · have hln0 : (0 : Int) < (ln : Int) := by omega
            obtain ⟨a0, c0, _, hc0, _, _, _⟩ := HI.out.l.at (i := 0) (by rw [HLN.out]; omega)
            rw [HRL.out _ (rowL_mem (by rw [HLN.out]; omega))] at hc0
            by_cases hDN : D < N
            · have hDN0 : (D : Int) < (N : Int) := by omega
              go_wp2
              go_loopw [10, 46] (fun c i wr2 => ∃ k : Nat, k ≤ ln ∧ i = .int .i64 k ∧ c = .int .i64 (atZ (redR M D).left D k) ∧ wr2 = wr) (fun _ i _ => ln - (intOf i).toNat)
              case atStart => exact ⟨0, Nat.zero_le _, rfl, rfl, rfl⟩
              case round =>
                obtain ⟨k2, hk2, rfl, rfl, rfl⟩ := hrel
                by_cases hlt2 : k2 < ln
                · have hkL : k2 < (redR M D).left.length := by rw [HLN.out]; exact hlt2
                  have hrn := HRL.out _ (rowL_mem hkL)
                  obtain ⟨ak, ck, _, hck, _, hsk, _⟩ := HI.out.l.at hkL
                  obtain ⟨b, off, x, rfl, hcell, hx⟩ := hsk.at (k := D) (by rw [hrn]; exact hDN)
                  have HZ := Lib.hid (atZ_succ (redR M D).left D k2)
                  have hg := gt_some' hx.out
                  rw [hg] at HZ
                  rw [hrn] at hck
                  clear hsk hx hg hrn hkL
                  obtain ⟨z, hz⟩ : ∃ z, atZ (redR M D).left D k2 = z := ⟨_, rfl⟩
                  rw [hz] at HZ ⊢
                  clear hz
                  by_cases hx0 : x = 0
                  · subst hx0
                    have HZ1 : Hid (atZ (redR M D).left D (k2 + 1) = z) := by show _ = _; rw [HZ.out]; simp
                    clear HZ
                    go_wp2
                    go_roundw
                    case rel => exact ⟨k2 + 1, by omega, by go_num, by rw [HZ1.out], trivial⟩
                    case measure => simp [intOf]; omega
                  · have HZ1 : Hid (atZ (redR M D).left D (k2 + 1) = (k2 : Int)) := by show _ = _; rw [HZ.out, if_pos hx0]
                    have y0 : (x == 0) = false := by simpa using hx0
                    have y1 : (x != 0) = true := by simpa using hx0
                    clear HZ
                    go_wp2
                    go_roundw
                    case rel => exact ⟨k2 + 1, by omega, by go_num, by rw [HZ1.out], trivial⟩
                    case measure => simp [intOf]; omega
                · obtain rfl : k2 = ln := by omega
                  cases hlast : lastR (redR M D).left D k2 with
                  | none =>
                    have hz : atZ (redR M D).left D k2 = -1 := by unfold atZ; rw [hlast]
                    have HS1 : Hid (redR M (D + 1) = redR M D) := by
                      show stepR D (redR M D) = _
                      unfold stepR
                      rw [HLN.out, hlast]
                    clear hlast
                    rw [hz]
                    clear hz
                    go_wp2
                    go_roundw
                    case rel => exact ⟨D + 1, lads, dads, by omega, by go_num, by rw [HS1.out]; exact HI.out, HB.out⟩
                    case measure => simp [intOf]; omega
                  | some at_ =>
                    have hz : atZ (redR M D).left D k2 = (at_ : Int) := by unfold atZ; rw [hlast]
                    have hat1 : at_ < k2 := (lastR_some hlast).1
                    have hat2 : gt (rowL (redR M D).left at_) D ≠ 0 := (lastR_some hlast).2
                    have HS1 : Hid (redR M (D + 1) = { done := ((redR M D).done.map fun q => withoutR q (ownR (rowL (redR M D).left at_) D) D) ++ [ownR (rowL (redR M D).left at_) D], left := ((redR M D).left.eraseIdx at_).map fun q => withoutR q (ownR (rowL (redR M D).left at_) D) D, piv := (redR M D).piv ++ [(D : Int)] }) := by
                      show stepR D (redR M D) = _
                      unfold stepR
                      rw [HLN.out, hlast]
                    have hatL : at_ < (redR M D).left.length := by rw [HLN.out]; exact hat1
                    have hrn := HRL.out _ (rowL_mem hatL)
                    obtain ⟨aA, cA, hadA, hcA, _, hsA, hfA⟩ := HI.out.l.at hatL
                    have HADA := Lib.hid hadA
                    rw [hrn] at hcA
                    obtain ⟨P0, hP0⟩ : ∃ P0, rowL (redR M D).left at_ = P0 := ⟨_, rfl⟩
                    rw [hP0] at HS1 hat2 hsA hrn
                    obtain ⟨bA, oA, x, rfl, hcell, hxx⟩ := hsA.at (k := D) (by rw [hrn]; exact hDN)
                    have hgx := gt_some' hxx.out
                    rw [hgx] at hat2
                    have HRN := Lib.hid hrn
                    have HSA := Lib.hid hsA
                    have HFA := Lib.hid hfA
                    have HGX := Lib.hid hgx
                    have HP0 := Lib.hid hP0
                    rw [hz]
                    clear hz hlast hatL hrn hsA hfA hgx hP0 hxx hadA
                    have hat0 : (at_ : Int) < (k2 : Int) := by omega
                    have HRD : Hid (∀ q ∈ (redR M D).done, q.length = N) := (redR_rows HR0.out D).2
                    have HSM := Lib.hid (HBD.out D hDN)
                    have HPN : Hid ((ownR P0 D).length = N) := by show _ = _; rw [ownR_len]; exact HRN.out
                    have HPS7 : Hid (Small7 N (ownR P0 D)) := small_own (HSM.out P0 (.inl (by rw [← HP0.out]; exact rowL_mem (by rw [HLN.out]; exact hat1))))
                    have HLM : Hid ((redR M D).left.length ≤ 100) := by show _ ≤ _; rw [HLN.out]; exact hln100
                    obtain ⟨da, dn, dcap, rfl, HDN, HDA⟩ : ∃ (da : Option Addr) (dn dcap : Nat), u5 = .slice da dn dcap ∧ Hid ((redR M D).done.length = dn) ∧ Hid (0 < dn → ∃ g2, da = some ⟨g2, 0, none⟩) := by
                      rcases HI.out.d.shape with ⟨e, h0⟩ | ⟨g2, c2, e, _, _⟩
                      · exact ⟨none, 0, 0, e, by show _ = _; rw [h0]; rfl, fun h => absurd h (Nat.lt_irrefl _)⟩
                      · exact ⟨_, _, _, e, rfl, fun _ => ⟨g2, rfl⟩⟩
                    have HDM : Hid ((redR M D).done.length ≤ 100000) := by show _ ≤ _; have := (redR_lens M D).1; omega
                    have hdn : dn ≤ 1000 := by rw [← HDN.out]; have := (redR_lens M D).1; omega
                    have HPM : Hid ((redR M D).piv.length ≤ 100000) := by show _ ≤ _; have := (redR_lens M D).2; omega
                    have HLT : Hid (∀ k, k < k2 → ∃ ak ck, wr.cell? ⟨g, k, none⟩ = some (.slice ak N ck) ∧ Sl wr ak (rowL (redR M D).left k)) := fun k hk => by
                      have hk2 : k < (redR M D).left.length := by rw [HLN.out]; exact hk
                      obtain ⟨ak, ck, _, h1, _, h2, _⟩ := HI.out.l.at hk2
                      rw [HRL.out _ (rowL_mem hk2)] at h1
                      exact ⟨ak, ck, h1, h2⟩
                    have HQL : Hid (∀ k, k < k2 → (rowL (redR M D).left k).length = N ∧ Small7 N (rowL (redR M D).left k)) := fun k hk => by
                      have hk2 : k < (redR M D).left.length := by rw [HLN.out]; exact hk
                      exact ⟨HRL.out _ (rowL_mem hk2), HSM.out _ (.inl (rowL_mem hk2))⟩
                    have HQD : Hid (∀ k, k < dn → (rowL (redR M D).done k).length = N ∧ Small7 N (rowL (redR M D).done k)) := fun k hk => by
                      have hk2 : k < (redR M D).done.length := by rw [HDN.out]; exact hk
                      exact ⟨HRD.out _ (rowL_mem hk2), HSM.out _ (.inr (rowL_mem hk2))⟩
                    have HPL0 : Hid (P0.length = N) := HRN
                    by_cases hneg : x < 0
                    case' pos =>
                      have HC1 : Hid (Calls Try.prog 79 #[.slice (some ⟨bA, oA, none⟩) N cA, .int .i64 (-1)] wr fun e w' => ∃ v, e = .returned v ∧ OwnI w' wr.heap.size v (ownR P0 D) ∧ Below wr.heap.size wr w') := by
                        have h := scaled_any (some ⟨bA, oA, none⟩) P0 cA wr (by rw [HPL0.out]; exact hN) HSA.out
                        have e : ownR P0 D = negL P0 := by unfold ownR; rw [HGX.out, if_pos hneg]
                        rw [HPL0.out] at h
                        rw [e]; exact h
                      go_wp2_with fail
                      refine HC1.out.mono ?_
                      rintro e w9 ⟨v9, rfl, ho9, hb9⟩
                      obtain ⟨pa, pc, rfl, s9, l9⟩ := ho9.parts
                      rw [HPN.out]
                      have HRI := Lib.hid (HI.out.below hb9)
                      have HPS := Lib.hid s9
                      have HPO : Hid (∀ ad, pa = some ad → ad.block < w9.heap.size ∧ (Value.slice da dn dcap).ownBlock ≠ some ad.block ∧ u8.ownBlock ≠ some ad.block) := fun ad e => ⟨(l9 ad e).1, fun e2 => by have := (HI.out.d.own_lt _ e2).2; have := (l9 ad e).2; omega, fun e2 => by have := (World.ownsRow.lt HI.out.p _ e2).2; have := (l9 ad e).2; omega⟩
                      have HBW : Hid (Below w.heap.size w w9) := HB.out.trans (hb9.mono HB.out.size)
                      have HLT9 : Hid (∀ k, k < k2 → ∃ ak ck, w9.cell? ⟨g, k, none⟩ = some (.slice ak N ck) ∧ Sl w9 ak (rowL (redR M D).left k)) := fun k hk => by
                        obtain ⟨ak, ck, h1, h2⟩ := HLT.out k hk
                        exact ⟨ak, ck, (hb9.cell (p := ⟨g, k, none⟩) (cell_lt h1)).trans h1, h2.below hb9⟩
                      clear ho9 hb9 s9 l9 HC1 HI HB HLT fin hcA hcell
                      go_wp2
                    case' neg =>
                      have hpn : ownR P0 D = P0 := by unfold ownR; rw [HGX.out, if_neg hneg]
                      have HPN2 := Lib.hid hpn; clear hpn
                      go_wp2_with fail
                      obtain ⟨w9, hw9⟩ : ∃ w9, w9 = wr := ⟨_, rfl⟩
                      subst hw9
                      obtain ⟨pa, hpa⟩ : ∃ pa, some (⟨bA, oA, none⟩ : Addr) = pa := ⟨_, rfl⟩
                      obtain ⟨pc, hpc⟩ : ∃ pc, cA = pc := ⟨_, rfl⟩
                      have HRI := HI
                      have HPS : Hid (Sl w9 pa (ownR P0 D)) := by show Sl _ _ _; rw [HPN2.out, ← hpa]; exact HSA.out
                      have HPO : Hid (∀ ad, pa = some ad → ad.block < w9.heap.size ∧ (Value.slice da dn dcap).ownBlock ≠ some ad.block ∧ u8.ownBlock ≠ some ad.block) := fun ad e => ⟨(HFA.out ad (hpa.trans e)).1, fun e2 => HI.out.dL _ e2 at_ _ HADA.out ad (hpa.trans e) rfl, fun e2 => HI.out.pL _ e2 at_ _ HADA.out ad (hpa.trans e) rfl⟩
                      have HBW := HB
                      have HLT9 := HLT
                      rw [hpa, hpc]
                      clear HI HB HLT fin hcA hcell hpa hpc HPN2
                    all_goals
                      obtain ⟨P, hP⟩ : ∃ P, ownR P0 D = P := ⟨_, rfl⟩
                      rw [hP] at HS1 HPN HPS7 HPS
                      clear hP
                      obtain ⟨S, hS⟩ : ∃ S, w9.heap.size = S := ⟨_, rfl⟩
                      have HSZ := Lib.hid hS; clear hS
                      have HBS0 : Hid (w.heap.size ≤ S) := by show _ ≤ _; rw [← HSZ.out]; exact HBW.out.size
                      have HGS : Hid (g < S) := by show _ < _; rw [← HSZ.out]; exact (HRI.out.l.own_lt g rfl).2
                      go_loopw [14, 73] (fun rv i wr2 => ∃ (k : Nat) (rads : List (Option Addr × Nat)), k ≤ k2 ∧ i = .int .i64 k ∧ HR S rv rads (restTo (redR M D).left P D at_ k) wr2 ∧ (∀ (i : Nat) (x : Option Addr × Nat), rads[i]? = some x → ∀ ad, x.1 = some ad → S ≤ ad.block) ∧ Below S w9 wr2) (fun _ i _ => k2 - (intOf i).toNat)
                      case atStart => exact ⟨0, [], Nat.zero_le _, rfl, HR.nil _ _, fun i x e => by simp at e, Below.refl _ _⟩
                      case round =>
                        obtain ⟨k, rads, hk, rfl, hO, hG, hB⟩ := hrel
                        have HO := Lib.hid hO; clear hO
                        have HG := Lib.hid hG; clear hG
                        have HB := Lib.hid hB; clear hB
                        by_cases hlt : k < k2
                        · obtain ⟨ak, ck, hck, hsk⟩ := HLT9.out k hlt
                          have hcell : wr.cell? ⟨g, k, none⟩ = some (.slice ak N ck) := (HB.out.cell (p := ⟨g, k, none⟩) HGS.out).trans hck
                          have HR1 := Lib.hid (restTo_succ (L := (redR M D).left) (P := P) (D := D) (at_ := at_) (k := k) (by rw [HLN.out]; exact hlt))
                          by_cases hka : k = at_
                          · have y0 : ((k : Int) == (at_ : Int)) = true := by simp [hka]
                            have y1 : ((k : Int) != (at_ : Int)) = false := by simp [hka]
                            have HR2 : Hid (restTo (redR M D).left P D at_ (k + 1) = restTo (redR M D).left P D at_ k) := by show _ = _; rw [HR1.out, if_pos hka]
                            clear HR1 hka
                            go_wp2
                            go_roundw
                            case rel => exact ⟨k + 1, rads, by omega, by go_num, by rw [HR2.out]; exact HO.out, HG.out, HB.out⟩
                            case measure => simp [intOf]; omega
                          · have y0 : ((k : Int) == (at_ : Int)) = false := by simpa using fun e : (k : Int) = (at_ : Int) => hka (by omega)
                            have y1 : ((k : Int) != (at_ : Int)) = true := by simpa using fun e : (k : Int) = (at_ : Int) => hka (by omega)
                            have HR2 : Hid (restTo (redR M D).left P D at_ (k + 1) = restTo (redR M D).left P D at_ k ++ [withoutR (rowL (redR M D).left k) P D]) := by show _ = _; rw [HR1.out, if_neg hka]
                            have HC2 : Hid (Calls Try.prog 113 #[.slice ak N ck, .slice pa N pc, .int .i64 (D : Int)] wr fun e w' => ∃ v, e = .returned v ∧ OwnI w' wr.heap.size v (withoutR (rowL (redR M D).left k) P D) ∧ Below wr.heap.size wr w') := by
                              obtain ⟨q1, q2⟩ := HQL.out k hlt
                              have h := without_any ak (rowL (redR M D).left k) ck pa P pc D wr (by omega) (by rw [HPN.out, q1]) (by omega) (wip_mid q1 hDN q2 HPS7.out) (hsk.below (by rw [HSZ.out]; exact HB.out)) (HPS.out.below (by rw [HSZ.out]; exact HB.out))
                              rw [q1, HPN.out] at h
                              exact h
                            clear HR1 hka hsk hck
                            go_wp2_with fail
                            refine HC2.out.mono ?_
                            rintro e w5 ⟨v5, rfl, ho5, hb5⟩
                            obtain ⟨a5, c5, rfl, s5, l5⟩ := ho5.parts
                            have HO5 := Lib.hid (HO.out.below hb5)
                            have HS5 := Lib.hid s5
                            have HA5 : Hid (∀ ad, a5 = some ad → ad.block < w5.heap.size ∧ u14.ownBlock ≠ some ad.block) := fun ad e => ⟨(l5 ad e).1, fun e2 => by have := (HO.out.own_lt _ e2).2; have := (l5 ad e).2; omega⟩
                            have HSW : Hid (S ≤ wr.heap.size) := by show _ ≤ _; rw [← HSZ.out]; exact HB.out.size
                            have HB5 : Hid (Below S w9 w5) := HB.out.trans (hb5.mono HSW.out)
                            have HG5 : Hid (∀ ad, a5 = some ad → S ≤ ad.block) := fun ad e => Nat.le_trans HSW.out (l5 ad e).2
                            have HLr : Hid ((restTo (redR M D).left P D at_ k).length ≤ 100000) := by show _ ≤ _; have := restTo_len (redR M D).left P D at_ k; have := HLM.out; omega
                            have HS5b : Hid (S ≤ w5.heap.size) := Nat.le_trans HSW.out hb5.size
                            clear ho5 hb5 s5 l5 HC2 hcell
                            go_wp2_with (at_builtin; go_must (refine wpList_pushHR rfl (.tmp 81) (.tmp 86) rfl S _ rads (restTo (redR M D).left P D at_ k) (withoutR (rowL (redR M D).left k) P D) _ rfl a5 c5 _ _ _ rfl rfl rfl HO5.out HS5.out HA5.out HLr.out HS5b.out ?_); intro g' cap' w10 ho' _ hb' _)
                            go_roundw
                            case rel => exact ⟨k + 1, _, by omega, by go_num, by rw [HR2.out]; exact ho', fun i x e ad ea => (get_snoc e).elim (fun e => HG.out i x e ad ea) (fun h => by obtain ⟨_, rfl⟩ := h; exact HG5.out ad ea), HB5.out.trans hb'⟩
                            case measure => simp [intOf]; omega
                        · obtain rfl : k2 = k := by omega
                          have HRA : Hid (restTo (redR M D).left P D at_ k2 = ((redR M D).left.eraseIdx at_).map fun q => withoutR q P D) := by show _ = _; rw [← restTo_all, HLN.out]
                          have HRE : Hid (RDone w.heap.size S u14 (.slice da dn dcap) u8 rads dads (restTo (redR M D).left P D at_ k2) (redR M D).done (redR M D).piv pa P wr) := RDone.start HRI.out HSZ.out HB.out HPS.out HO.out HG.out (fun ad e => ⟨by rw [← HSZ.out]; exact (HPO.out ad e).1, (HPO.out ad e).2⟩)
                          have HBW2 : Hid (Below w.heap.size w wr) := HBW.out.trans (HB.out.mono (by rw [← HSZ.out]; exact HBW.out.size))
                          clear HO HG HB HLT9 HRI HBW HPO HPS
                          go_wp2
                          go_loopw [91] (fun i wr3 => ∃ (k : Nat) (dads : List (Option Addr × Nat)), k ≤ dn ∧ i = .int .i64 k ∧ RDone w.heap.size S u14 (.slice da dn dcap) u8 rads dads (restTo (redR M D).left P D at_ k2) (doneTo (redR M D).done P D k) (redR M D).piv pa P wr3 ∧ Below w.heap.size w wr3) (fun i _ => dn - (intOf i).toNat)
                          case atStart => exact ⟨0, dads, Nat.zero_le _, rfl, by rw [doneTo_zero]; exact HRE.out, HBW2.out⟩
                          case round =>
                            clear HRE HBW2
                            obtain ⟨k, dads, hk, rfl, hD, hB⟩ := hrel
                            have HRE := Lib.hid hD; clear hD
                            have HB := Lib.hid hB; clear hB
                            by_cases hlt : k < dn
                            · obtain ⟨g2, rfl⟩ := HDA.out (by omega)
                              have hkD : k < (redR M D).done.length := by rw [HDN.out]; exact hlt
                              have hkD2 : k < (doneTo (redR M D).done P D k).length := by rw [doneTo_len]; exact hkD
                              obtain ⟨ak, ck, _, hck, hfk, hsk, _⟩ := HRE.out.d.at hkD2
                              rw [doneTo_row hkD] at hck hsk
                              obtain ⟨q1, q2⟩ := HQD.out k hlt
                              rw [q1] at hck
                              have HC2 : Hid (Calls Try.prog 113 #[.slice ak N ck, .slice pa N pc, .int .i64 (D : Int)] wr fun e w' => ∃ v, e = .returned v ∧ OwnI w' wr.heap.size v (withoutR (rowL (redR M D).done k) P D) ∧ Below wr.heap.size wr w') := by
                                have h := without_any ak (rowL (redR M D).done k) ck pa P pc D wr (by omega) (by rw [HPN.out, q1]) (by omega) (wip_mid q1 hDN q2 HPS7.out) hsk HRE.out.P
                                rw [q1, HPN.out] at h
                                exact h
                              have HST := Lib.hid (doneTo_set (L := (redR M D).done) (P := P) (D := D) (k := k) hkD)
                              have HK2 := Lib.hid hkD2
                              clear hkD hkD2 hsk q1 q2
                              have hg2 : g2 < wr.heap.size := cell_lt hck
                              go_wp2_with fail
                              refine HC2.out.mono ?_
                              rintro e w5 ⟨v5, rfl, ho5, hb5⟩
                              obtain ⟨a5, c5, rfl, s5, l5⟩ := ho5.parts
                              have HS5 := Lib.hid s5
                              have hc5 : w5.cell? ⟨g2, k, none⟩ = some (.slice ak N ck) := (hb5.cell (p := ⟨g2, k, none⟩) hg2).trans hck
                              have hf5 : w5.frozen? ⟨g2, k, none⟩ = false := (hb5.frozen (p := ⟨g2, k, none⟩) hg2).trans hfk
                              have HRE5 := Lib.hid (HRE.out.below hb5)
                              have HA5 : Hid (∀ ad, a5 = some ad → ad.block < w5.heap.size ∧ S ≤ ad.block ∧ u14.ownBlock ≠ some ad.block) := fun ad e => ⟨(l5 ad e).1, Nat.le_trans HRE.out.sz (l5 ad e).2, fun e2 => by have := (HRE.out.r.own_lt _ e2).2; have := (l5 ad e).2; omega⟩
                              have HB5 : Hid (Below w.heap.size w w5) := HB.out.trans (hb5.mono HB.out.size)
                              have HGB : Hid (w.heap.size ≤ g2) := (HRE.out.d.own_lt g2 rfl).1
                              clear ho5 hb5 s5 l5 HC2 hck hfk HRE HB
                              go_wp2
                              go_roundw
                              case rel => exact ⟨k + 1, _, by omega, by go_num, by rw [← HST.out]; exact HRE5.out.stored HK2.out HS5.out HA5.out, HB5.out.setCell (p := ⟨g2, k, none⟩) HGB.out _⟩
                              case measure => simp [intOf]; omega
                            · obtain rfl : dn = k := by omega
                              have HDE : Hid (doneTo (redR M D).done P D dn = (redR M D).done.map fun q => withoutR q P D) := by show _ = _; rw [← doneTo_all, HDN.out]
                              have HDL : Hid ((doneTo (redR M D).done P D dn).length = dn) := by show _ = _; rw [doneTo_len, HDN.out]
                              have HDM2 : Hid ((doneTo (redR M D).done P D dn).length ≤ 100000) := by show _ ≤ _; rw [HDL.out, ← HDN.out]; exact HDM.out
                              have HPO2 : Hid (∀ ad, pa = some ad → ad.block < wr.heap.size ∧ (Value.slice da dn dcap).ownBlock ≠ some ad.block) := fun ad e => ⟨Nat.lt_of_lt_of_le (HRE.out.PO ad e).1 HRE.out.sz, (HRE.out.PO ad e).2.1⟩
                              have HBS : Hid (w.heap.size ≤ S) := HBS0.out
                              go_wp2_with (first | (at_builtin; refine wpList_pushHR rfl (.tmp 105) (.tmp 107) rfl w.heap.size _ dads (doneTo (redR M D).done P D dn) P N HPN.out pa pc _ _ _ rfl rfl rfl HRE.out.d HRE.out.P HPO2.out HDM2.out HB.out.size ?_; intro g3 cap3 w6 ho6 hx6 hb6 hg6; have HI6 := Lib.hid (HRE.out.pushd HBS.out ho6 hx6 hg6); have HB6 : Hid (Below w.heap.size w w6) := HB.out.trans hb6; clear ho6 hx6 hb6 hg6) | (at_builtin; refine wpList_pushG rfl (.tmp 109) (.tmp 111) rfl w.heap.size u8 (redR M D).piv (D : Int) _ _ _ rfl rfl rfl HI6.out.p HPM.out HB6.out.size ?_; intro g4 cap4 w7 ho7 hx7 hb7 hg7; have HI7 := Lib.hid (HI6.out.pushp ho7 hx7 hg7); have HB7 : Hid (Below w.heap.size w w7) := HB6.out.trans hb7; clear ho7 hx7 hb7 hg7))
                              go_roundw
                              case rel => exact ⟨D + 1, rads, dads ++ [(pa, pc)], by omega, by go_num, by rw [HS1.out, ← HRA.out, ← HDE.out]; exact HI7.out, HB7.out⟩
                              case measure => simp [intOf]; omega
            · obtain rfl : D = N := by omega
              go_wp2
              go_ret2
              exact fin.out _ _ HI.out.d HI.out.p
end Go.Proofs.Ytfnomiingelfaaa
