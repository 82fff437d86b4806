
/- long of the statements of layer 2: contracts. -/
import Derived.Test.YtacbciamehchjaaBox
import Derived.Test.YtacbciamehchjaaProg
namespace Go.Proofs.Ytacbciamehchjaa
open Go.RowKit

theorem mlong_any (B : Nat) (ls : List (Option Addr × Nat × Nat)) (w : World) (hl : ls.length ≤ 100) (hc : ∀ k, (h : k < ls.length) → w.cell? ⟨B, k, none⟩ = some (.slice ls[k].1 ls[k].2.1 ls[k].2.2)) (hb : ∀ x, x ∈ ls → x.2.1 ≤ 9223372036854775807) :
    Calls Try.prog 20 #[.slice (some ⟨B, 0, none⟩) ls.length ls.length] w fun e w' => e = .returned (.bool (ls.any fun x => decide (200 < x.2.1))) ∧ w = w' := by
  have HC := Lib.hid hc; clear hc
  have HB := Lib.hid hb; clear hb
  go_enter Try.func20, Try.ntmps20
  go_wp2
  go_loop [7] (fun i => ∃ k : Nat, k ≤ ls.length ∧ i = .int .i64 k ∧ ∀ j, (h : j < k) → (h' : j < ls.length) → ls[j].2.1 ≤ 200) (fun i => ls.length - (intOf i).toNat)
  case atStart => exact ⟨0, Nat.zero_le _, rfl, fun j h => by omega⟩
  case round =>
    obtain ⟨k, hk, rfl, hno⟩ := hrel
    have HN := Lib.hid hno; clear hno
    by_cases hlt : k < ls.length
    · have hcell := HC.out k hlt
      have hbd := HB.out ls[k] (List.getElem_mem _)
      obtain ⟨x, hx⟩ : ∃ x, ls[k] = x := ⟨_, rfl⟩
      have HX := Lib.hid hx
      rw [hx] at hcell hbd
      clear hx
      obtain ⟨xa, xn, xc⟩ := x
      dsimp only at hcell hbd
      by_cases hg : 200 < xn
      · go_wp2
        go_ret
        refine ⟨ret_bool ?_, rfl⟩
        symm
        rw [List.any_eq_true]
        exact ⟨ls[k], List.getElem_mem _, by rw [HX.out]; simpa using hg⟩
      · go_wp2
        go_round
        case rel => exact ⟨k + 1, by omega, by go_num, fun j hj h' => by
            by_cases hj' : j = k
            · subst hj'; rw [HX.out]; show xn ≤ 200; omega
            · exact HN.out j (by omega) h'⟩
        case measure => simp [intOf]; omega
    · go_wp2
      go_ret
      refine ⟨ret_bool ?_, rfl⟩
      symm
      rw [List.any_eq_false]
      intro x hx
      obtain ⟨j, hj, rfl⟩ := List.mem_iff_getElem.1 hx
      have := HN.out j (by omega) hj
      simp; omega

theorem mlong_lit (ls : List (Option Addr × Nat × Nat)) (V : World) (B : Nat) (hB : B = V.heap.size) (t : TypeId) (hl : ls.length ≤ 100) (hb : ∀ x, x ∈ ls → x.2.1 ≤ 9223372036854775807) :
    Calls Try.prog 20 #[.slice (some ⟨B, 0, none⟩) ls.length ls.length] (V.alloc (.cells (ls.map fun x => Value.slice x.1 x.2.1 x.2.2).toArray t)) fun e w' => e = .returned (.bool (ls.any fun x => decide (200 < x.2.1))) ∧ V.alloc (.cells (ls.map fun x => Value.slice x.1 x.2.1 x.2.2).toArray t) = w' := by
  subst hB
  exact mlong_any V.heap.size ls _ hl (fun k hk => alloc_cell _ _ _ _ _ (by simp [hk])) hb
theorem mlong1 (a : Option Addr) (n c : Nat) (V : World) (B : Nat) (hB : B = V.heap.size) (t : TypeId) (hn : n ≤ 9223372036854775807) :
    Calls Try.prog 20 #[.slice (some ⟨B, 0, none⟩) 1 1] (V.alloc (.cells #[.slice a n c] t)) fun e w' => e = .returned (.bool (decide (200 < n))) ∧ V.alloc (.cells #[.slice a n c] t) = w' := by
  refine (mlong_lit [(a, n, c)] V B hB t (by simp) (fun x hx => by simp at hx; subst hx; exact hn)).mono ?_
  rintro e w' ⟨rfl, rfl⟩
  exact ⟨ret_bool (by simp), rfl⟩
theorem mlong2 (a : Option Addr) (n c : Nat) (b : Option Addr) (m d : Nat) (V : World) (B : Nat) (hB : B = V.heap.size) (t : TypeId) (hn : n ≤ 9223372036854775807) (hm : m ≤ 9223372036854775807) :
    Calls Try.prog 20 #[.slice (some ⟨B, 0, none⟩) 2 2] (V.alloc (.cells #[.slice a n c, .slice b m d] t)) fun e w' => e = .returned (.bool (decide (200 < n) || decide (200 < m))) ∧ V.alloc (.cells #[.slice a n c, .slice b m d] t) = w' := by
  refine (mlong_lit [(a, n, c), (b, m, d)] V B hB t (by simp) (fun x hx => by simp at hx; rcases hx with rfl | rfl <;> assumption)).mono ?_
  rintro e w' ⟨rfl, rfl⟩
  exact ⟨ret_bool (by simp), rfl⟩
theorem mlong3 (a : Option Addr) (n c : Nat) (b : Option Addr) (m d : Nat) (a' : Option Addr) (n' c' : Nat) (V : World) (B : Nat) (hB : B = V.heap.size) (t : TypeId) (hn : n ≤ 9223372036854775807) (hm : m ≤ 9223372036854775807) (hn' : n' ≤ 9223372036854775807) :
    Calls Try.prog 20 #[.slice (some ⟨B, 0, none⟩) 3 3] (V.alloc (.cells #[.slice a n c, .slice b m d, .slice a' n' c'] t)) fun e w' => e = .returned (.bool (decide (200 < n) || (decide (200 < m) || decide (200 < n')))) ∧ V.alloc (.cells #[.slice a n c, .slice b m d, .slice a' n' c'] t) = w' := by
  refine (mlong_lit [(a, n, c), (b, m, d), (a', n', c')] V B hB t (by simp) (fun x hx => by simp at hx; rcases hx with rfl | rfl | rfl <;> assumption)).mono ?_
  rintro e w' ⟨rfl, rfl⟩
  exact ⟨ret_bool (by simp), rfl⟩
end Go.Proofs.Ytacbciamehchjaa
