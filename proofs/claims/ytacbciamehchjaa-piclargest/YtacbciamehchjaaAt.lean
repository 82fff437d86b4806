
/- At of layer 1 and of its answers; long of the statements: contracts. -/
import Derived.Test.YtacbciamehchjaaVal2
namespace Go.Proofs.Ytacbciamehchjaa
open Go.RowKit

theorem ret_two {a b c d : Int} (h : a = b) (h' : c = d) : Ending.returned (.tuple #[.int .i64 a, .int .i64 c]) = .returned (.tuple #[.int .i64 b, .int .i64 d]) := by rw [h, h']

/-- The pixel at x, y, and the error. -/
def atV (wide high : Int) (xs : List Int) (x y : Int) : Int × Int :=
  if validPicB wide high xs = false then (0, 1) else if x < 0 ∨ wide ≤ x ∨ y < 0 ∨ high ≤ y then (0, 7) else (xs[(x + wide * y).toNat]?.getD 0, 0)
theorem atV_1 {wide high : Int} {xs : List Int} {x y : Int} (h : validPicB wide high xs = false) : atV wide high xs x y = (0, 1) := by simp [atV, h]
theorem atV_7 {wide high : Int} {xs : List Int} {x y : Int} (h : validPicB wide high xs = true) (h' : x < 0 ∨ wide ≤ x ∨ y < 0 ∨ high ≤ y) : atV wide high xs x y = (0, 7) := by simp [atV, h, h']
theorem atV_0 {wide high : Int} {xs : List Int} {x y : Int} (h : validPicB wide high xs = true) (h' : ¬ (x < 0 ∨ wide ≤ x ∨ y < 0 ∨ high ≤ y)) : atV wide high xs x y = (xs[(x + wide * y).toNat]?.getD 0, 0) := by
  unfold atV; rw [if_neg (by simp [h]), if_neg h']

/-- What a valid picture's numbers are. -/
theorem validPic_of {wide high : Int} {xs : List Int} (h : validPicB wide high xs = true) : 1 ≤ wide ∧ wide ≤ 16 ∧ 1 ≤ high ∧ high ≤ 16 ∧ (xs.length : Int) = wide * high ∧ allB 1000000 xs = true := by
  simp [validPicB, rangeB] at h; obtain ⟨⟨⟨⟨h1, h2⟩, h3, h4⟩, h5⟩, h6⟩ := h; exact ⟨h1, h2, h3, h4, h5, h6⟩
theorem place_lt {wide high x y : Int} (h0 : 0 ≤ x) (h1 : x < wide) (h2 : 0 ≤ y) (h3 : y < high) : 0 ≤ x + wide * y ∧ x + wide * y < wide * high ∧ 0 ≤ wide * y := by
  obtain ⟨n, rfl⟩ := Int.eq_ofNat_of_zero_le (show 0 ≤ wide by omega)
  obtain ⟨m, rfl⟩ := Int.eq_ofNat_of_zero_le h2
  have e : (n : Int) * (m : Int) = ((n * m : Nat) : Int) := by simp
  have h : (n : Int) * (m + 1) ≤ n * high := Int.mul_le_mul_of_nonneg_left (by omega) (by omega)
  have h' : (n : Int) * (m + 1) = n * m + n := by rw [Int.mul_add]; omega
  rw [e] at *
  omega

/-- A picture's box keeps its three cells behind a call that writes nothing older. -/
theorem box3 {w w' : World} {v0 v1 v2 : Value} {t : TypeId} (hb : Below (w.alloc (.cells #[v0, v1, v2] t)).heap.size (w.alloc (.cells #[v0, v1, v2] t)) w') :
    w'.cell? ⟨w.heap.size, 0, none⟩ = some v0 ∧ w'.cell? ⟨w.heap.size, 1, none⟩ = some v1 ∧ w'.cell? ⟨w.heap.size, 2, none⟩ = some v2 := by
  refine ⟨(hb.cell (p := ⟨w.heap.size, 0, none⟩) (by simp)).trans ?_, (hb.cell (p := ⟨w.heap.size, 1, none⟩) (by simp)).trans ?_, (hb.cell (p := ⟨w.heap.size, 2, none⟩) (by simp)).trans ?_⟩ <;> simp

/-- long over slices of whatever ints: whether one has more than 600. -/
theorem long_any (B : Nat) (ls : List (Option Addr × Nat × Nat)) (w : World) (hl : ls.length ≤ 100) (hc : ∀ k, (h : k < ls.length) → w.cell? ⟨B, k, none⟩ = some (.slice ls[k].1 ls[k].2.1 ls[k].2.2)) (hb : ∀ x, x ∈ ls → x.2.1 ≤ 9223372036854775807) :
    Calls Try.prog 6 #[.slice (some ⟨B, 0, none⟩) ls.length ls.length] w fun e w' => e = .returned (.bool (ls.any fun x => decide (600 < x.2.1))) ∧ w = w' := by
  have HC := Lib.hid hc; clear hc
  have HB := Lib.hid hb; clear hb
  go_enter Try.func6, Try.ntmps6
  go_wp2
  go_loop [7] (fun i => ∃ k : Nat, k ≤ ls.length ∧ i = .int .i64 k ∧ ∀ j, (h : j < k) → (h' : j < ls.length) → ls[j].2.1 ≤ 600) (fun i => ls.length - (intOf i).toNat)
  case atStart => exact ⟨0, Nat.zero_le _, rfl, fun j h => by omega⟩
  case round =>
    obtain ⟨k, hk, rfl, hno⟩ := hrel
    have HN := Lib.hid hno; clear hno
    by_cases hlt : k < ls.length
    · have hcell := HC.out k hlt
      have hbd := HB.out ls[k] (List.getElem_mem _)
      obtain ⟨x, hx⟩ : ∃ x, ls[k] = x := ⟨_, rfl⟩
      have HX := Lib.hid hx
      rw [hx] at hcell hbd
      clear hx
      obtain ⟨xa, xn, xc⟩ := x
      dsimp only at hcell hbd
      by_cases hg : 600 < xn
      · go_wp2
        go_ret
        refine ⟨ret_bool ?_, rfl⟩
        symm
        rw [List.any_eq_true]
        exact ⟨ls[k], List.getElem_mem _, by rw [HX.out]; simpa using hg⟩
      · go_wp2
        go_round
        case rel => exact ⟨k + 1, by omega, by go_num, fun j hj h' => by
            by_cases hj' : j = k
            · subst hj'; rw [HX.out]; show xn ≤ 600; omega
            · exact HN.out j (by omega) h'⟩
        case measure => simp [intOf]; omega
    · go_wp2
      go_ret
      refine ⟨ret_bool ?_, rfl⟩
      symm
      rw [List.any_eq_false]
      intro x hx
      obtain ⟨j, hj, rfl⟩ := List.mem_iff_getElem.1 hx
      have := HN.out j (by omega) hj
      simp; omega
end Go.Proofs.Ytacbciamehchjaa
