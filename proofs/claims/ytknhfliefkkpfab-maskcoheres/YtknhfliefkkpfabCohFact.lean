
/- The coherence is 1 exactly if two columns are alike: the plain fact. -/
import Derived.Test.YtknhfliefkkpfabRCoh
import Derived.Test.YtknhfliefkkpfabRAlk
namespace Go.Proofs.Ytknhfliefkkpfab
open Go.RowKit

theorem quo_one {n d : Nat} (hd : 0 < d) : ((n / Nat.gcd n d : Nat) : Int) = 1 ∧ ((d / Nat.gcd n d : Nat) : Int) = 1 ↔ n = d := by
  have hg : 0 < Nat.gcd n d := Nat.gcd_pos_of_pos_right _ hd
  constructor
  · rintro ⟨h1, h2⟩
    have e1 : n / Nat.gcd n d = 1 := by omega
    have e2 : d / Nat.gcd n d = 1 := by omega
    have k1 := Nat.div_mul_cancel (Nat.gcd_dvd_left n d)
    have k2 := Nat.div_mul_cancel (Nat.gcd_dvd_right n d)
    rw [e1] at k1
    rw [e2] at k2
    omega
  · rintro rfl
    rw [Nat.gcd_self, Nat.div_self hd]
    exact ⟨rfl, rfl⟩
theorem likeC_one {a b : List Int} (ha : allB 1 a = true) (hb : allB 1 b = true) (hl : a.length = b.length) (h : (likeC a b).2 = 0) : (likeC a b).1 = (1, 1) ↔ alikeB a b = true := by
  have h0 : dot a a * dot b b ≠ 0 := by
    intro e; unfold likeC at h; rw [if_pos e] at h; cases h
  have e : (likeC a b).1 = ((((dot a b * dot a b).toNat / Nat.gcd (dot a b * dot a b).toNat (dot a a * dot b b).toNat : Nat) : Int), (((dot a a * dot b b).toNat / Nat.gcd (dot a b * dot a b).toNat (dot a a * dot b b).toNat : Nat) : Int)) := by
    unfold likeC; rw [if_neg h0]
  have h1 : 0 ≤ dot a a * dot b b := Int.mul_nonneg (sumTo_nonneg _ fun i _ => sq_pos' _) (sumTo_nonneg _ fun i _ => sq_pos' _)
  have h2 : 0 ≤ dot a b * dot a b := sq_pos' _
  have key := dot_alike hl ha hb h0
  rw [e]
  have e2 : (((((dot a b * dot a b).toNat / Nat.gcd (dot a b * dot a b).toNat (dot a a * dot b b).toNat : Nat) : Int), (((dot a a * dot b b).toNat / Nat.gcd (dot a b * dot a b).toNat (dot a a * dot b b).toNat : Nat) : Int)) : Int × Int) = (1, 1) ↔ (dot a b * dot a b).toNat = (dot a a * dot b b).toNat := by
    rw [Prod.mk.injEq]
    exact quo_one (by omega)
  rw [e2]
  have e3 : (dot a b * dot a b).toNat = (dot a a * dot b b).toNat ↔ dot a b * dot a b = dot a a * dot b b := by omega
  rw [e3, key]
  unfold alikeB
  rw [Bool.or_eq_true, decide_eq_true_iff, oppB_iff hl]
  constructor
  · rintro (h | h)
    · exact .inl (list_ext_gt hl h)
    · exact .inr h
  · rintro (h | h)
    · subst h; exact .inl fun _ _ => rfl
    · exact .inr h
/-- P2.4. -/
theorem coh_one {m : List (List Int)} (h : (cohV m).2 = 0) : ((cohV m).1 = (1, 1)) ↔ 0 < (alkV m).1.length := by
  unfold cohV at h
  split at h
  case isFalse => cases h
  rename_i hv
  split at h
  case isTrue => cases h
  rename_i h2
  split at h
  case isTrue => cases h
  rename_i hb
  have hg : ∀ x : PN (colsM m), (likeP m x).2 = 0 := by
    intro x
    apply Classical.byContradiction
    intro hx
    apply hb
    unfold badP
    rw [List.any_eq_true]
    exact ⟨x, mem_upPN _, by simpa using hx⟩
  have e1 : cohV m = (bestL ((upPN (colsM m) (colsM m)).map fun x => (likeP m x).1), 0) := by
    unfold cohV; rw [if_pos hv, if_neg h2, if_neg hb]
  have e2 : alkV m = (alkL m (upPN (colsM m) (colsM m)), 0) := by unfold alkV; rw [if_pos hv]
  rw [e1, e2]
  show bestL _ = (1, 1) ↔ 0 < (alkL m _).length
  rw [bestL_one (fun r hr => by
    obtain ⟨x, _, rfl⟩ := List.mem_map.1 hr
    have := likeP_in hv x (hg x)
    exact ⟨this.1, this.2.2.2⟩)]
  have one : ∀ x : PN (colsM m), (likeP m x).1 = (1, 1) ↔ alikeB (colM m x.1.1) (colM m x.1.2) = true := fun x =>
    likeC_one (colM_all hv (Nat.lt_trans x.2.1 x.2.2)) (colM_all hv x.2.2) (by rw [colM_length, colM_length]) (hg x)
  unfold alkL
  rw [List.length_map, List.length_pos_iff_exists_mem]
  simp only [List.mem_map, List.mem_filter]
  constructor
  · rintro ⟨x, hx, e⟩
    exact ⟨x, hx, (one x).1 e⟩
  · rintro ⟨x, hx, e⟩
    exact ⟨x, hx, (one x).2 e⟩
theorem alkV_len (m : List (List Int)) : (alkV m).1.length ≤ 100 := by
  unfold alkV
  split
  · rename_i h
    obtain ⟨_, _, _, h10, _⟩ := validM_of h
    have h1 := alkL_length m (upPN (colsM m) (colsM m))
    have h2 := upPN_length (colsM m) (colsM m)
    have h3 : colsM m * colsM m ≤ 10 * 10 := Nat.mul_le_mul h10 h10
    show (alkL m _).length ≤ 100
    omega
  · simp
end Go.Proofs.Ytknhfliefkkpfab
