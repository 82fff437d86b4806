
/- Reading and reading back are adjoint, and reading is additive: plain mathematics on lists of whole numbers. Speaks of no program. -/
import Derived.Test.YtacbciamehchjaaMDef
import Derived.IntWalk
namespace Go.Proofs.Ytacbciamehchjaa
open Go.RowKit

theorem sumTo_zero : ∀ n, sumTo (fun _ => 0) n = 0
  | 0 => rfl
  | n + 1 => by simp only [sumTo, sumTo_zero n]; rfl
theorem sumTo_swap (f : Nat → Nat → Int) (n : Nat) : ∀ m, sumTo (fun i => sumTo (fun j => f i j) n) m = sumTo (fun j => sumTo (fun i => f i j) m) n
  | 0 => by simp only [sumTo]; exact (sumTo_zero n).symm
  | m + 1 => by
    simp only [sumTo]
    rw [sumTo_swap f n m, sumTo_add (fun j => sumTo (fun i => f i j) m) (fun j => f m j)]
theorem gt_readL {m : List (List Int)} {x : List Int} {i : Nat} (hi : i < m.length) : gt (readL m x) i = dot (m[i]?.getD []) x := by
  unfold gt readL; simp [hi]
theorem gt_backL {m : List (List Int)} {y : List Int} {j : Nat} (hj : j < colsM m) : gt (backL m y) j = dot (colM m j) y := by
  unfold backL; exact gt_map_range _ hj
theorem gt_colM {m : List (List Int)} {i j : Nat} (hi : i < m.length) : gt (colM m j) i = gt (m[i]?.getD []) j := by
  unfold colM; unfold gt; simp [hi, gt]
theorem adjoint {m : List (List Int)} {x y : List Int} (h : validM m = true) (hx : x.length = colsM m) (hy : y.length = m.length) : dot y (readL m x) = dot (backL m y) x := by
  have e1 : dot y (readL m x) = sumTo (fun i => sumTo (fun j => gt (m[i]?.getD []) j * gt y i * gt x j) (colsM m)) m.length := by
    unfold dot
    rw [hy]
    refine sumTo_congr _ fun i hi => ?_
    rw [gt_readL hi]
    have hr : m[i]? = some (m[i]?.getD []) := by simp [hi]
    unfold dot
    rw [(validM_row h hr).1, ← sumTo_mul]
    refine sumTo_congr _ fun j _ => ?_
    rw [Int.mul_comm (gt (m[i]?.getD []) j) (gt y i), Int.mul_assoc]
  have e2 : dot (backL m y) x = sumTo (fun j => sumTo (fun i => gt (m[i]?.getD []) j * gt y i * gt x j) m.length) (colsM m) := by
    unfold dot
    rw [backL_length]
    refine sumTo_congr _ fun j hj => ?_
    rw [gt_backL hj, Int.mul_comm]
    unfold dot
    rw [colM_length, ← sumTo_mul]
    refine sumTo_congr _ fun i hi => ?_
    rw [gt_colM hi, Int.mul_comm]
  rw [e1, e2, sumTo_swap]
/-- The sums of two lists, place by place. -/
def addL (x z : List Int) : List Int := (List.range x.length).map fun j => gt x j + gt z j
theorem addL_length (x z : List Int) : (addL x z).length = x.length := by simp [addL]
theorem gt_addL {x z : List Int} {j : Nat} (hj : j < x.length) : gt (addL x z) j = gt x j + gt z j := by unfold addL; exact gt_map_range _ hj
theorem dot_add {r x z : List Int} (hx : r.length ≤ x.length) : dot r (addL x z) = dot r x + dot r z := by
  unfold dot
  rw [← sumTo_add]
  refine sumTo_congr _ fun j hj => ?_
  rw [gt_addL (by omega), Int.mul_add]
theorem read_add {m : List (List Int)} {x z : List Int} (h : validM m = true) (hx : x.length = colsM m) {i : Nat} (hi : i < m.length) : gt (readL m (addL x z)) i = gt (readL m x) i + gt (readL m z) i := by
  rw [gt_readL hi, gt_readL hi, gt_readL hi]
  have hr : m[i]? = some (m[i]?.getD []) := by simp [hi]
  exact dot_add (by rw [(validM_row h hr).1, hx]; exact Nat.le_refl _)
/-- What is read of a shown picture is within ten times its limit. -/
theorem read_bd {m : List (List Int)} {x : List Int} (h : validM m = true) (hx : x.length = colsM m) (ha : allB 1000000 x = true) {i : Nat} (hi : i < m.length) : -10000000 ≤ gt (readL m x) i ∧ gt (readL m x) i ≤ 10000000 := by
  rw [gt_readL hi]
  have hr : m[i]? = some (m[i]?.getD []) := by simp [hi]
  obtain ⟨h1, h2⟩ := validM_row h hr
  obtain ⟨_, _, _, h10, _⟩ := validM_of h
  have := dots_bd h2 ha (by omega) (Nat.le_refl _)
  unfold dot; omega
theorem back_bd {m : List (List Int)} {y : List Int} (h : validM m = true) (hy : y.length = m.length) (ha : allB 1000000000 y = true) {j : Nat} (hj : j < colsM m) : -10000000000 ≤ gt (backL m y) j ∧ gt (backL m y) j ≤ 10000000000 := by
  rw [gt_backL hj]
  obtain ⟨_, h6, _, h10, _⟩ := validM_of h
  have := dots_bd (colM_all h hj) ha (by rw [colM_length]; omega) (Nat.le_refl _)
  unfold dot; rw [colM_length] at *; omega
theorem allB_gt {xs : List Int} {M : Int} (h : ∀ i, i < xs.length → -M ≤ gt xs i ∧ gt xs i ≤ M) : allB M xs = true := by
  refine allB_yes fun j hj => ?_
  have h1 := h j hj
  unfold gt at h1
  simp [outB]; omega
theorem read_all {m : List (List Int)} {x : List Int} (h : validM m = true) (hx : x.length = colsM m) (ha : allB 1000000 x = true) : allB 10000000 (readL m x) = true :=
  allB_gt fun i hi => read_bd h hx ha (by rw [readL_length] at hi; exact hi)
theorem back_all {m : List (List Int)} {y : List Int} (h : validM m = true) (hy : y.length = m.length) (ha : allB 1000000000 y = true) : allB 10000000000 (backL m y) = true :=
  allB_gt fun i hi => back_bd h hy ha (by rw [backL_length] at hi; exact hi)
/-- The sums of two lists as the machine adds them. -/
def addW (x z : List Int) : List Int := (List.range x.length).map fun j => IntKind.i64.wrap (gt x j + gt z j)
theorem addW_length (x z : List Int) : (addW x z).length = x.length := by simp [addW]
theorem addW_next {x z : List Int} {k : Nat} (hk : k < x.length) : (addW x z).take (k + 1) = (addW x z).take k ++ [IntKind.i64.wrap (gt x k + gt z k)] := by
  rw [List.take_succ_eq_append_getElem (by rw [addW_length]; exact hk)]
  congr 2
  simp [addW]
theorem addW_eq {x z : List Int} (hl : z.length = x.length) (hx : allB 1000000 x = true) (hz : allB 1000000 z = true) : addW x z = addL x z := by
  refine list_ext_gt (by rw [addW_length, addL_length]) fun k hk => ?_
  rw [addW_length] at hk
  rw [gt_addL hk]
  unfold addW
  rw [gt_map_range _ hk]
  have h1 := gt_in hx hk
  have h2 := gt_in hz (k := k) (by omega)
  exact IntWalk.i64_in _ (by omega)
theorem shownM_of {m : List (List Int)} {x : List Int} (h : shownM m x = true) : validM m = true ∧ x.length = colsM m ∧ allB 1000000 x = true ∧ fitsV x (colsM m) 1000000 = 0 := by
  unfold shownM at h
  simp only [Bool.and_eq_true, decide_eq_true_eq] at h
  obtain ⟨h1, h2⟩ := h
  refine ⟨h1, ?_, ?_, h2⟩
  · unfold fitsV at h2; split at h2
    · omega
    · cases h2
  · unfold fitsV at h2; split at h2
    · split at h2
      · assumption
      · cases h2
    · cases h2
end Go.Proofs.Ytacbciamehchjaa
