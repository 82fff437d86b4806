/- Rows of Walsh masks, and the beginnings of seeded masks: plain facts. -/
import Derived.Test.YtkakjfijmekdjabMSeed
import Derived.Test.YtkakjfijmekdjabMWalsh
namespace Go.Proofs.Ytkakjfijmekdjab
open Go.RowKit

theorem MOk_of {m : List (List Int)} (h : m.length ≤ 1000) (hr : ∀ r ∈ m, r.length ≤ 1000 ∧ allB 1000000 r = true) : MOk m := by
  refine ⟨by omega, fun r hm => ⟨by have := (hr r hm).1; omega, fun x hx => ?_⟩⟩
  have := (hr r hm).2
  unfold allB at this; rw [List.all_eq_true] at this
  have := this x hx
  simp [outB] at this
  unfold I64; omega
theorem allB_more {A B : Int} {xs : List Int} (h : allB A xs = true) (hAB : A ≤ B) : allB B xs = true := by
  unfold allB at *; rw [List.all_eq_true] at *
  intro x hx
  have := h x hx
  simp [outB] at this ⊢; omega
theorem sdV_bd (s n : Nat) : -1 ≤ sdV s n ∧ sdV s n ≤ 1 := by unfold sdV; omega
theorem seedRow_all (s p i : Nat) : allB 1 (seedRow s p i) = true := by
  unfold allB; rw [List.all_eq_true]
  intro x hx
  obtain ⟨j, _, rfl⟩ := List.mem_map.1 hx
  have := sdV_bd s (i * p + j + 1)
  simp [outB]; omega
theorem seedM_ok {s r p : Nat} (hr : r ≤ 6) (hp : p ≤ 10) : MOk (seedM s r p) := by
  refine MOk_of (by simp [seedM]; omega) fun x hx => ?_
  obtain ⟨i, _, rfl⟩ := List.mem_map.1 hx
  exact ⟨by rw [seedRow_len]; omega, allB_more (seedRow_all s p i) (by omega)⟩
theorem seedM_len (s r p : Nat) : (seedM s r p).length = r := by simp [seedM]
theorem seedM_next (s r p : Nat) : seedM s (r + 1) p = seedM s r p ++ [seedRow s p r] := by simp [seedM, List.range_succ]
theorem seedM_take (s r p : Nat) : (seedM s (r + 1) p).take (seedM s r p).length = seedM s r p := by rw [seedM_next]; simp
theorem wsign_bd (i j : Nat) : -1 ≤ wsign i j ∧ wsign i j ≤ 1 := by
  unfold wsign
  have := popc_bd (i &&& j)
  omega
theorem walshRow_all (n i : Nat) : allB 1 (walshRow n i) = true := by
  unfold allB; rw [List.all_eq_true]
  intro x hx
  obtain ⟨j, _, rfl⟩ := List.mem_map.1 hx
  have := wsign_bd i j
  simp [outB]; omega
theorem walshRow_len (n i : Nat) : (walshRow n i).length = n := by simp [walshRow]
theorem walsh_dots : ∀ n, (n = 1 ∨ n = 2 ∨ n = 4 ∨ n = 8) → ∀ a, a < n → ∀ b, b < n → a ≠ b → dot (walshRow n a) (walshRow n b) = 0 := by
  have h1 : ∀ a, a < 1 → ∀ b, b < 1 → a ≠ b → dot (walshRow 1 a) (walshRow 1 b) = 0 := by decide +kernel
  have h2 : ∀ a, a < 2 → ∀ b, b < 2 → a ≠ b → dot (walshRow 2 a) (walshRow 2 b) = 0 := by decide +kernel
  have h4 : ∀ a, a < 4 → ∀ b, b < 4 → a ≠ b → dot (walshRow 4 a) (walshRow 4 b) = 0 := by decide +kernel
  have h8 : ∀ a, a < 8 → ∀ b, b < 8 → a ≠ b → dot (walshRow 8 a) (walshRow 8 b) = 0 := by decide +kernel
  rintro n (rfl | rfl | rfl | rfl)
  · exact h1
  · exact h2
  · exact h4
  · exact h8
theorem asc_lt {l : List Int} {p : Int} (h : ascB p l = true) : ∀ i k, k < i → i < l.length → gt l k < gt l i := by
  intro i
  induction i with
  | zero => intro k hk; omega
  | succ i ih =>
    intro k hk hi
    have h1 := ascB_of h (i + 1) hi
    unfold prevOf at h1
    rw [if_neg (by omega), Nat.add_sub_cancel] at h1
    by_cases e : k = i
    · subst e; exact h1
    · have := ih k (by omega) (by omega); omega
/-- What is known of a Walsh mask. -/
structure WalshIs (ms : List (List Int)) : Prop where
  len : ms.length ≤ 6
  row : ∀ (i : Nat) (r : List Int), ms[i]? = some r → r.length ≤ 8 ∧ allB 1 r = true
  same : ∀ (i k : Nat) (r r' : List Int), ms[i]? = some r → ms[k]? = some r' → r.length = r'.length
  dots : ∀ (i k : Nat) (r r' : List Int), k < i → ms[i]? = some r → ms[k]? = some r' → dot r r' = 0
theorem walshM_is {p : Int} {rows : List Int} (h : (longB p && wrowsB p rows) = true) : WalshIs (walshM p.toNat rows) := by
  simp only [Bool.and_eq_true] at h
  obtain ⟨hl, hw⟩ := h
  unfold wrowsB at hw
  simp only [Bool.and_eq_true] at hw
  obtain ⟨h1, h2, h3⟩ := hw
  have hn : p.toNat = 1 ∨ p.toNat = 2 ∨ p.toNat = 4 ∨ p.toNat = 8 := by have := longB_of hl; omega
  have get : ∀ i r, (walshM p.toNat rows)[i]? = some r → i < rows.length ∧ r = walshRow p.toNat (gt rows i).toNat := by
    intro i r e
    obtain ⟨hi, e2⟩ := List.getElem?_eq_some_iff.1 e
    have hi' : i < rows.length := by simpa [walshM] using hi
    refine ⟨hi', ?_⟩
    rw [← e2]; simp [walshM]
  refine ⟨by have : rows.length ≤ 6 := by have := h1; simp [rangeB] at this; omega
             simpa [walshM] using this, fun i r e => ?_, fun i k r r' e e' => ?_, fun i k r r' hk e e' => ?_⟩
  · obtain ⟨_, rfl⟩ := get i r e
    exact ⟨by rw [walshRow_len]; omega, walshRow_all _ _⟩
  · obtain ⟨_, rfl⟩ := get i r e
    obtain ⟨_, rfl⟩ := get k r' e'
    rw [walshRow_len, walshRow_len]
  · obtain ⟨hi, rfl⟩ := get i r e
    obtain ⟨hk', rfl⟩ := get k r' e'
    have b1 := allR_get h2 hi
    have b2 := allR_get h2 hk'
    have b3 := asc_lt h3 i k hk hi
    exact walsh_dots _ hn _ (by omega) _ (by omega) (by omega)
theorem WalshIs.nil : WalshIs [] := ⟨by simp, fun i r e => by simp at e, fun i k r r' e => by simp at e, fun i k r r' _ e => by simp at e⟩
end Go.Proofs.Ytkakjfijmekdjab
