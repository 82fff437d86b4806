
/- The motions of pictures, and moved: contracts of layer 1. -/
import Derived.Test.YtknhfliefkkpfabMotMath
import Derived.Test.YtknhfliefkkpfabSums2
import Derived.Deep.RegionLaw
namespace Go.Proofs.Ytknhfliefkkpfab
open Go.RowKit

/-- The motion q as a function value; what it captured lies at R (right) and B (bottom). -/
def motF (q R B : Nat) : Value :=
  if q = 0 then .func (.func 81) #[] #[]
  else if q = 1 then .func (.func 82) #[] #[.pointer (some ⟨B, 0, none⟩)]
  else if q = 2 then .func (.func 83) #[] #[.pointer (some ⟨R, 0, none⟩), .pointer (some ⟨B, 0, none⟩)]
  else if q = 3 then .func (.func 84) #[] #[.pointer (some ⟨R, 0, none⟩)]
  else .func (.func 85) #[] #[.pointer (some ⟨R, 0, none⟩)]
/-- The captured sides. -/
structure Caps (W H R B : Nat) (w : World) : Prop where
  r : w.cell? ⟨R, 0, none⟩ = some (.int .i64 ((W : Int) - 1))
  b : w.cell? ⟨B, 0, none⟩ = some (.int .i64 ((H : Int) - 1))
theorem Caps.below {W H R B : Nat} {w w' : World} (h : Caps W H R B w) {n : Nat} (hb : Below n w w') (hR : R < n) (hB : B < n) : Caps W H R B w' :=
  ⟨(hb.cell (p := ⟨R, 0, none⟩) hR).trans h.r, (hb.cell (p := ⟨B, 0, none⟩) hB).trans h.b⟩
theorem Caps.drewN {W H R B : Nat} {w : World} (h : Caps W H R B w) (n : Nat) : Caps W H R B (w.drewN n) := ⟨h.r, h.b⟩

theorem mot0_any (x y : Nat) (w : World) : Calls Try.prog 81 #[.int .i64 x, .int .i64 y] w fun e w' => e = .returned (.tuple #[.int .i64 x, .int .i64 y]) ∧ ∃ n, w' = w.drewN n := by
  go_enter Try.func81, Try.ntmps81
  go_wp2
  go_ret2
  exact ⟨rfl, 0, rfl⟩
theorem mot1_any (W H R B x y : Nat) (hx : x < W) (hy : y < H) (hW : W ≤ 16) (hH : H ≤ 16) (w : World) (hc : Caps W H R B w) : Calls Try.prog 82 #[.int .i64 x, .int .i64 y, .pointer (some ⟨B, 0, none⟩)] w fun e w' => e = .returned (.tuple #[.int .i64 ((H - 1 - y : Nat) : Int), .int .i64 x]) ∧ ∃ n, w' = w.drewN n := by
  have c1 := hc.b
  have hs : (H : Int) - 1 - (y : Int) = ((H - 1 - y : Nat) : Int) := by omega
  go_enter Try.func82, Try.ntmps82
  go_wp2
  go_ret2
  exact ⟨rfl, 0, rfl⟩
theorem mot2_any (W H R B x y : Nat) (hx : x < W) (hy : y < H) (hW : W ≤ 16) (hH : H ≤ 16) (w : World) (hc : Caps W H R B w) : Calls Try.prog 83 #[.int .i64 x, .int .i64 y, .pointer (some ⟨R, 0, none⟩), .pointer (some ⟨B, 0, none⟩)] w fun e w' => e = .returned (.tuple #[.int .i64 ((W - 1 - x : Nat) : Int), .int .i64 ((H - 1 - y : Nat) : Int)]) ∧ ∃ n, w' = w.drewN n := by
  have c1 := hc.b
  have c2 := hc.r
  have hs : (H : Int) - 1 - (y : Int) = ((H - 1 - y : Nat) : Int) := by omega
  have hs2 : (W : Int) - 1 - (x : Int) = ((W - 1 - x : Nat) : Int) := by omega
  have m1 : IntKind.i64.wrap (((H - 1 - y : Nat) : Int)) = ((H - 1 - y : Nat) : Int) := IntWalk.i64_in _ (by omega)
  have m2 : IntKind.i64.wrap (((W - 1 - x : Nat) : Int)) = ((W - 1 - x : Nat) : Int) := IntWalk.i64_in _ (by omega)
  go_enter Try.func83, Try.ntmps83
  go_wp2
  go_quiet (fail)
  go_wp2
  go_ret2
  exact ⟨rfl, _, rfl⟩
theorem mot3_any (W H R B x y : Nat) (hx : x < W) (hy : y < H) (hW : W ≤ 16) (hH : H ≤ 16) (w : World) (hc : Caps W H R B w) : Calls Try.prog 84 #[.int .i64 x, .int .i64 y, .pointer (some ⟨R, 0, none⟩)] w fun e w' => e = .returned (.tuple #[.int .i64 y, .int .i64 ((W - 1 - x : Nat) : Int)]) ∧ ∃ n, w' = w.drewN n := by
  have c2 := hc.r
  have hs2 : (W : Int) - 1 - (x : Int) = ((W - 1 - x : Nat) : Int) := by omega
  have m2 : IntKind.i64.wrap (((W - 1 - x : Nat) : Int)) = ((W - 1 - x : Nat) : Int) := IntWalk.i64_in _ (by omega)
  go_enter Try.func84, Try.ntmps84
  go_wp2
  go_quiet (fail)
  go_wp2
  go_ret2
  exact ⟨rfl, _, rfl⟩
theorem mot4_any (W H R B x y : Nat) (hx : x < W) (hy : y < H) (hW : W ≤ 16) (hH : H ≤ 16) (w : World) (hc : Caps W H R B w) : Calls Try.prog 85 #[.int .i64 x, .int .i64 y, .pointer (some ⟨R, 0, none⟩)] w fun e w' => e = .returned (.tuple #[.int .i64 ((W - 1 - x : Nat) : Int), .int .i64 y]) ∧ ∃ n, w' = w.drewN n := by
  have c2 := hc.r
  have hs2 : (W : Int) - 1 - (x : Int) = ((W - 1 - x : Nat) : Int) := by omega
  go_enter Try.func85, Try.ntmps85
  go_wp2
  go_ret2
  exact ⟨rfl, 0, rfl⟩
end Go.Proofs.Ytknhfliefkkpfab
