/- Parts of the proof of LinDenies: plain words, walks and contracts, each under its own heading. -/
import Derived.Test.YteoimibefpidoaaLinDeniesPA
import Derived.IntWalk
import Derived.Test.YteoimibefpidoaaLinDeniesPD
import Derived.Test.YteoimibefpidoaaLinDeniesPC
import Derived.Deep.Fields
import Derived.ChangeSame
/- Reading and reading back are adjoint, and reading is additive: plain mathematics on lists of whole numbers. Speaks of no program. -/
namespace Go.Proofs.Yteoimibefpidoaa
open Go.RowKit

theorem sumTo_zero : ∀ n, sumTo (fun _ => 0) n = 0
  | 0 => rfl
  | n + 1 => by simp only [sumTo, sumTo_zero n]; rfl
theorem sumTo_swap (f : Nat → Nat → Int) (n : Nat) : ∀ m, sumTo (fun i => sumTo (fun j => f i j) n) m = sumTo (fun j => sumTo (fun i => f i j) m) n
  | 0 => by simp only [sumTo]; exact (sumTo_zero n).symm
  | m + 1 => by
    simp only [sumTo]
    rw [sumTo_swap f n m, sumTo_add (fun j => sumTo (fun i => f i j) m) (fun j => f m j)]
theorem gt_readL {m : List (List Int)} {x : List Int} {i : Nat} (hi : i < m.length) : gt (readL m x) i = dot (m[i]?.getD []) x := by
  unfold gt readL; simp [hi]
theorem gt_backL {m : List (List Int)} {y : List Int} {j : Nat} (hj : j < colsM m) : gt (backL m y) j = dot (colM m j) y := by
  unfold backL; exact gt_map_range _ hj
theorem gt_colM {m : List (List Int)} {i j : Nat} (hi : i < m.length) : gt (colM m j) i = gt (m[i]?.getD []) j := by
  unfold colM; unfold gt; simp [hi]
theorem adjoint {m : List (List Int)} {x y : List Int} (h : validM m = true) (_hx : x.length = colsM m) (hy : y.length = m.length) : dot y (readL m x) = dot (backL m y) x := by
  have e1 : dot y (readL m x) = sumTo (fun i => sumTo (fun j => gt (m[i]?.getD []) j * gt y i * gt x j) (colsM m)) m.length := by
    unfold dot
    rw [hy]
    refine sumTo_congr _ fun i hi => ?_
    rw [gt_readL hi]
    have hr : m[i]? = some (m[i]?.getD []) := by simp [hi]
    unfold dot
    rw [(validM_row h hr).1, ← sumTo_mul]
    refine sumTo_congr _ fun j _ => ?_
    rw [Int.mul_comm (gt (m[i]?.getD []) j) (gt y i), Int.mul_assoc]
  have e2 : dot (backL m y) x = sumTo (fun j => sumTo (fun i => gt (m[i]?.getD []) j * gt y i * gt x j) m.length) (colsM m) := by
    unfold dot
    rw [backL_length]
    refine sumTo_congr _ fun j hj => ?_
    rw [gt_backL hj, Int.mul_comm]
    unfold dot
    rw [colM_length, ← sumTo_mul]
    refine sumTo_congr _ fun i hi => ?_
    rw [gt_colM hi, Int.mul_comm]
  rw [e1, e2, sumTo_swap]
/-- The sums of two lists, place by place. -/
def addL (x z : List Int) : List Int := (List.range x.length).map fun j => gt x j + gt z j
theorem addL_length (x z : List Int) : (addL x z).length = x.length := by simp [addL]
theorem gt_addL {x z : List Int} {j : Nat} (hj : j < x.length) : gt (addL x z) j = gt x j + gt z j := by unfold addL; exact gt_map_range _ hj
theorem dot_add {r x z : List Int} (hx : r.length ≤ x.length) : dot r (addL x z) = dot r x + dot r z := by
  unfold dot
  rw [← sumTo_add]
  refine sumTo_congr _ fun j hj => ?_
  rw [gt_addL (by omega), Int.mul_add]
theorem read_add {m : List (List Int)} {x z : List Int} (h : validM m = true) (hx : x.length = colsM m) {i : Nat} (hi : i < m.length) : gt (readL m (addL x z)) i = gt (readL m x) i + gt (readL m z) i := by
  rw [gt_readL hi, gt_readL hi, gt_readL hi]
  have hr : m[i]? = some (m[i]?.getD []) := by simp [hi]
  exact dot_add (by rw [(validM_row h hr).1, hx]; exact Nat.le_refl _)
/-- What is read of a shown picture is within ten times its limit. -/
theorem read_bd {m : List (List Int)} {x : List Int} (h : validM m = true) (hx : x.length = colsM m) (ha : allB 1000000 x = true) {i : Nat} (hi : i < m.length) : -10000000 ≤ gt (readL m x) i ∧ gt (readL m x) i ≤ 10000000 := by
  rw [gt_readL hi]
  have hr : m[i]? = some (m[i]?.getD []) := by simp [hi]
  obtain ⟨h1, h2⟩ := validM_row h hr
  obtain ⟨_, _, _, h10, _⟩ := validM_of h
  have := dots_bd h2 ha (by omega) (Nat.le_refl _)
  unfold dot; omega
theorem back_bd {m : List (List Int)} {y : List Int} (h : validM m = true) (hy : y.length = m.length) (ha : allB 1000000000 y = true) {j : Nat} (hj : j < colsM m) : -10000000000 ≤ gt (backL m y) j ∧ gt (backL m y) j ≤ 10000000000 := by
  rw [gt_backL hj]
  obtain ⟨_, h6, _, h10, _⟩ := validM_of h
  have := dots_bd (colM_all h hj) ha (by rw [colM_length]; omega) (Nat.le_refl _)
  unfold dot; rw [colM_length] at *; omega
theorem allB_gt {xs : List Int} {M : Int} (h : ∀ i, i < xs.length → -M ≤ gt xs i ∧ gt xs i ≤ M) : allB M xs = true := by
  refine allB_yes fun j hj => ?_
  have h1 := h j hj
  unfold gt at h1
  simp [outB]; omega
theorem read_all {m : List (List Int)} {x : List Int} (h : validM m = true) (hx : x.length = colsM m) (ha : allB 1000000 x = true) : allB 10000000 (readL m x) = true :=
  allB_gt fun i hi => read_bd h hx ha (by rw [readL_length] at hi; exact hi)
theorem back_all {m : List (List Int)} {y : List Int} (h : validM m = true) (hy : y.length = m.length) (ha : allB 1000000000 y = true) : allB 10000000000 (backL m y) = true :=
  allB_gt fun i hi => back_bd h hy ha (by rw [backL_length] at hi; exact hi)
/-- The sums of two lists as the machine adds them. -/
def addW (x z : List Int) : List Int := (List.range x.length).map fun j => IntKind.i64.wrap (gt x j + gt z j)
theorem addW_length (x z : List Int) : (addW x z).length = x.length := by simp [addW]
theorem addW_next {x z : List Int} {k : Nat} (hk : k < x.length) : (addW x z).take (k + 1) = (addW x z).take k ++ [IntKind.i64.wrap (gt x k + gt z k)] := by
  rw [List.take_succ_eq_append_getElem (by rw [addW_length]; exact hk)]
  congr 2
  simp [addW]
theorem addW_eq {x z : List Int} (hl : z.length = x.length) (hx : allB 1000000 x = true) (hz : allB 1000000 z = true) : addW x z = addL x z := by
  refine list_ext_gt (by rw [addW_length, addL_length]) fun k hk => ?_
  rw [addW_length] at hk
  rw [gt_addL hk]
  unfold addW
  rw [gt_map_range _ hk]
  have h1 := gt_in hx hk
  have h2 := gt_in hz (k := k) (by omega)
  exact IntWalk.i64_in _ (by omega)
theorem shownM_of {m : List (List Int)} {x : List Int} (h : shownM m x = true) : validM m = true ∧ x.length = colsM m ∧ allB 1000000 x = true ∧ fitsV x (colsM m) 1000000 = 0 := by
  unfold shownM at h
  simp only [Bool.and_eq_true, decide_eq_true_eq] at h
  obtain ⟨h1, h2⟩ := h
  refine ⟨h1, ?_, ?_, h2⟩
  · unfold fitsV at h2; split at h2
    · omega
    · cases h2
  · unfold fitsV at h2; split at h2
    · split at h2
      · assumption
      · cases h2
    · cases h2
end Go.Proofs.Yteoimibefpidoaa
/- The numbers behind a row are a weight. Plain words. Speaks of no program. -/
namespace Go.Proofs.Yteoimibefpidoaa
open Go.RowKit

theorem rd_bd1 {R N cols : Nat} {M : List (List Int)} (h1 : M.length = R) (h2 : ∀ q ∈ M, q.length = N) (hR : R ≤ 6) (hN : cols ≤ N) (hb2 : ∀ i, i < R → ∀ c, c < N → -1 ≤ a0 M i c ∧ a0 M i c ≤ 1) :
    ∀ x, x < R → ∀ c, c < N → -720 ≤ gt (rowL (clearN { cols := cols, rows := M, piv := [], dv := 1 } cols).rows x) c ∧ gt (rowL (clearN { cols := cols, rows := M, piv := [], dv := 1 } cols).rows x) c ≤ 720 := by
  obtain ⟨A, h⟩ := bar_all h1 h2 hR hN (fun i hi c hc => hb2 i hi c (by omega)) (fun i hi c hc => by have := hb2 i hi c hc; omega) cols (Nat.le_refl _)
  obtain ⟨r, hr⟩ : ∃ r, clearN { cols := cols, rows := M, piv := [], dv := 1 } cols = r := ⟨_, rfl⟩
  rw [hr] at h ⊢
  have hpt : ∀ t, t < r.piv.length → pivN r t < cols := fun t ht => by have := h.pz t ht; unfold pivN; omega
  have hA2 : ∀ x, x < R → ∀ c, c < N → -1 ≤ A x c ∧ A x c ≤ 1 := fun x hx c hc => arr_bd h.arr (fun i hi => hb2 i hi c hc) x hx
  intro x hx c hc
  rw [h.val x hx c hc]
  exact mk_bd6 (Y := 1) (by decide) h.pl hR hx (fun i hi t ht => hA2 i hi _ (by have := hpt t ht; omega)) (fun i hi => hA2 i hi c hc)
theorem rowL_pixB {px : List Int} {m : List (List Int)} {bh : Nat → List Int} {i : Nat} (hi : i < m.length) : rowL (pixB px m bh) i = pixR px (rowL m i) ++ bh i := by unfold pixB rowL; simp [hi]
theorem gt_app_lt {xs ys : List Int} {k : Nat} (h : k < xs.length) : gt (xs ++ ys) k = gt xs k := by unfold gt; rw [List.getElem?_append_left h]
theorem gt_app_ge {xs ys : List Int} {k : Nat} : gt (xs ++ ys) (xs.length + k) = gt ys k := by unfold gt; rw [List.getElem?_append_right (by omega)]; congr 2; omega
/-- The first columns of rows with more behind them are the mask's. -/
theorem all_at {m : List (List Int)} {bh : Nat → List Int} {i c : Nat} (hi : i < m.length) (hc : c < colsM m) : a0 (pixB (upTo (colsM m)) m bh) i c = gt (rowL m i) c := by
  unfold a0
  rw [rowL_pixB hi, gt_app_lt (by rw [pixR_len, upTo_len]; exact hc), gt_pixR (by rw [upTo_len]; exact hc), gt_upTo hc, Int.toNat_natCast]
theorem whichB_at {n i k : Nat} (hk : k < n) : gt (whichB n i) k = if k = i then 1 else 0 := by
  unfold whichB gt
  by_cases e : k = i
  · subst e; rw [if_pos rfl, List.getElem?_set_self (by simpa using hk)]; rfl
  · rw [if_neg e, List.getElem?_set_ne (Ne.symm e)]; simp [hk]
theorem which_at {m : List (List Int)} {i k : Nat} (hi : i < m.length) (hk : k < m.length) : a0 (pixB (upTo (colsM m)) m (whichB m.length)) i (colsM m + k) = if k = i then 1 else 0 := by
  unfold a0
  have e : gt (pixR (upTo (colsM m)) (rowL m i) ++ whichB m.length i) ((pixR (upTo (colsM m)) (rowL m i)).length + k) = gt (whichB m.length i) k := gt_app_ge
  rw [pixR_len, upTo_len] at e
  rw [rowL_pixB hi, e, whichB_at hk]
/-- The reduction with the rows' numbers behind them. -/
def redW (m : List (List Int)) : Rd := redB m (upTo (colsM m)) (whichB m.length)
theorem redW_row {m : List (List Int)} : ∀ q ∈ pixB (upTo (colsM m)) m (whichB m.length), q.length = colsM m + m.length := fun q hq => by
  obtain ⟨i, hi, rfl⟩ := List.mem_map.1 hq
  rw [List.length_append, pixR_len, upTo_len, (whichB_ok i (List.mem_range.1 hi)).1]
theorem redW_b1 {m : List (List Int)} (hv : validM m = true) : ∀ i, i < m.length → ∀ c, c < colsM m + m.length → -1 ≤ a0 (pixB (upTo (colsM m)) m (whichB m.length)) i c ∧ a0 (pixB (upTo (colsM m)) m (whichB m.length)) i c ≤ 1 := by
  intro i hi c hc
  by_cases e : c < colsM m
  · rw [all_at hi e]; exact mask_bd hv i hi c e
  · obtain ⟨k, rfl⟩ : ∃ k, c = colsM m + k := ⟨c - colsM m, by omega⟩
    rw [which_at hi (by omega)]
    split <;> decide
theorem redW_fin {m : List (List Int)} (hv : validM m = true) : RFin m.length (colsM m + m.length) (colsM m) (a0 (pixB (upTo (colsM m)) m (whichB m.length))) (redW m) := by
  have h := rd_fin (cols := (upTo (colsM m)).length) (M := pixB (upTo (colsM m)) m (whichB m.length)) (pixB_len _ _ _) redW_row (validM_of hv).2.1 (by rw [upTo_len]; omega) (fun i hi c hc => redW_b1 hv i hi c (by rw [upTo_len] at hc; omega)) (fun i hi c hc => by have := redW_b1 hv i hi c hc; omega)
  rw [upTo_len] at h
  have e : redW m = clearN { cols := colsM m, rows := pixB (upTo (colsM m)) m (whichB m.length), piv := [], dv := 1 } (colsM m) := by unfold redW redB redBM; rw [upTo_len]
  rw [e]; exact h
theorem redW_bd {m : List (List Int)} (hv : validM m = true) : ∀ x, x < m.length → ∀ c, c < colsM m + m.length → -720 ≤ gt (rowL (redW m).rows x) c ∧ gt (rowL (redW m).rows x) c ≤ 720 := by
  have h := rd_bd1 (cols := colsM m) (M := pixB (upTo (colsM m)) m (whichB m.length)) (pixB_len _ _ _) redW_row (validM_of hv).2.1 (Nat.le_add_right _ _) (redW_b1 hv)
  have e : redW m = clearN { cols := colsM m, rows := pixB (upTo (colsM m)) m (whichB m.length), piv := [], dv := 1 } (colsM m) := by unfold redW redB redBM; rw [upTo_len]
  rw [e]; exact h
/-- What stands behind a row. -/
def behW (m : List (List Int)) (x : Nat) : List Int := (rowL (redW m).rows x).drop (colsM m)
theorem behW_len {m : List (List Int)} (hv : validM m = true) {x : Nat} (hx : x < m.length) : (behW m x).length = m.length := by
  have h := redW_fin hv
  unfold behW
  rw [List.length_drop, h.row _ (rowL_mem (by rw [h.len]; exact hx))]; omega
theorem gt_behW {m : List (List Int)} {x k : Nat} : gt (behW m x) k = gt (rowL (redW m).rows x) (colsM m + k) := by unfold behW gt; rw [List.getElem?_drop]
theorem behW_col {m : List (List Int)} (hv : validM m = true) {x c : Nat} (hx : x < m.length) (hc : c < colsM m) : gt (rowL (redW m).rows x) c = dot (colM m c) (behW m x) := by
  have h := (redW_fin hv).behind (n := m.length) rfl rfl (fun i hi k hk => which_at hi hk) hx hc
  rw [h]
  unfold dot
  rw [colM_length]
  refine sumTo_congr _ fun k hk => ?_
  rw [all_at hk hc, gt_behW, gt_colM hk, Int.mul_comm]; rfl
theorem short_dot {a z : List Int} (ha : a.length = z.length) : ((gcdL z : Nat) : Int) * dot a (shortL z) = dot a z := by
  unfold dot
  rw [← sumTo_mul]
  refine sumTo_congr _ fun k hk => ?_
  rw [gt_short (v := z) (c := k) (by omega)]; grind
theorem short_all {z : List Int} {B : Int} (hb : ∀ c, c < z.length → -B ≤ gt z c ∧ gt z c ≤ B) : allB B (shortL z) = true := by
  refine allB_all fun c hc => ?_
  rw [short_len] at hc
  have e : gt (shortL z) c = (gt z c).tdiv (gcdL z : Nat) := by unfold shortL gt; simp [hc]
  have := Int.natAbs_tdiv_le_natAbs (gt z c) ((gcdL z : Nat) : Int)
  have := hb c hc
  rw [e]; omega
theorem gcd_some {z : List Int} {c : Nat} (hc : c < z.length) (h : gt z c ≠ 0) : gcdL z ≠ 0 := fun e => h (gcdTo_zero _ e c hc)
theorem gcd_dot {a z : List Int} (ha : a.length = z.length) (h : dot a z ≠ 0) : gcdL z ≠ 0 := fun e => h (by
  unfold dot
  exact sumZ _ fun k hk => by rw [gcdTo_zero _ e k (by omega), Int.mul_zero])
theorem behW_all {m : List (List Int)} (hv : validM m = true) {x : Nat} (hx : x < m.length) : allB 1000000 (shortL (behW m x)) = true := by
  refine short_all fun c hc => ?_
  rw [behW_len hv hx] at hc
  have := redW_bd hv x hx (colsM m + c) (by omega)
  rw [gt_behW]; omega
theorem back_short {m : List (List Int)} (hv : validM m = true) {x : Nat} (hx : x < m.length) : backV m (shortL (behW m x)) = (backL m (shortL (behW m x)), 0) ∧ ∀ c, c < colsM m → ((gcdL (behW m x) : Nat) : Int) * gt (backL m (shortL (behW m x))) c = gt (rowL (redW m).rows x) c := by
  have hl := behW_len hv hx
  refine ⟨backV_ok hv ?_, fun c hc => ?_⟩
  · unfold fitsV
    rw [if_pos (by rw [short_len, hl]), if_pos (allB_up (behW_all hv hx))]
  · rw [gt_backL hc, short_dot (by rw [colM_length, hl]), behW_col hv hx hc]
/-- Which pixels are known, by the reduction with the rows' numbers. -/
theorem knownW {m : List (List Int)} (hv : validM m = true) {j : Nat} (hj : j < colsM m) : decide (0 ≤ knownV (redW m).rows (redW m).piv (colsM m) (j : Int)) = rknownB m j := by
  rw [← known_same hv hj]
  exact decide_eq_decide.2 (known_alike (redW_fin hv) (basis_fin hv) (validM_of hv).2.1 (Nat.le_add_right _ _) (Nat.le_refl _) (fun i hi c hc => all_at hi hc) hj)
/-- .. by that with the reading. -/
theorem knownO {m : List (List Int)} {y : List Int} (hv : validM m = true) (hy : y.length = m.length) (hb : allB 1000000 y = true) {j : Nat} (hj : j < colsM m) : decide (0 ≤ knownV (redB m (upTo (colsM m)) (oneB y)).rows (redB m (upTo (colsM m)) (oneB y)).piv (colsM m) (j : Int)) = rknownB m j := by
  rw [← known_same hv hj]
  have h := redB_fin (px := upTo (colsM m)) hv (fun j hj => upTo_in hj) hy hb
  rw [upTo_len] at h
  exact decide_eq_decide.2 (known_alike h (basis_fin hv) (validM_of hv).2.1 (Nat.le_succ _) (Nat.le_refl _) (fun i hi c hc => all_at hi hc) hj)
/-- What the numbers behind a known pixel's row tell. -/
theorem weigh_ok {m : List (List Int)} (hv : validM m = true) {j : Nat} (hj : j < colsM m) {x : Nat} (hk : knownV (redW m).rows (redW m).piv (colsM m) (j : Int) = (x : Int)) :
    x < m.length ∧ gcdL (behW m x) ≠ 0 ∧ weighsB m (j : Int) (shortL (behW m x)) = true := by
  have h := redW_fin hv
  obtain ⟨i, hi, hip, _, hrow⟩ := h.known_row (v := (j : Int)) (by omega)
  obtain rfl : i = x := by omega
  have hx : i < m.length := by have := h.pl; omega
  have hpos := h.pos
  have hj1 := behW_col hv hx hj
  have hg : gcdL (behW m i) ≠ 0 := gcd_dot (a := colM m j) (by rw [colM_length, behW_len hv hx]) (by rw [← hj1, hrow j hj, if_pos rfl]; omega)
  obtain ⟨b1, b2⟩ := back_short hv hx
  refine ⟨hx, hg, ?_⟩
  unfold weighsB
  rw [b1]
  have t1 : thereB m (j : Int) = true := by unfold thereB; simp; omega
  have t2 : lone (backL m (shortL (behW m i))) (j : Int) = true := lone_yes fun c hc => by
    rw [backL_length] at hc
    have e := b2 c hc
    rw [hrow c hc] at e
    by_cases ec : (c : Int) = j
    · rw [if_pos ec] at e ⊢
      rw [decide_eq_true_eq]
      have g1 : (0 : Int) < ((gcdL (behW m i) : Nat) : Int) := by omega
      have e2 : 0 < ((gcdL (behW m i) : Nat) : Int) * gt (backL m (shortL (behW m i))) c := by omega
      exact Int.pos_of_mul_pos_right e2 g1
    · rw [if_neg ec] at e ⊢
      rw [decide_eq_true_eq]
      rcases Int.mul_eq_zero.mp e with e | e
      · omega
      · exact e
  rw [behW_all hv hx, t1, t2]; rfl
end Go.Proofs.Yteoimibefpidoaa
/- Read and Any of the answers: contracts. -/
namespace Go.Proofs.Yteoimibefpidoaa
open Go.RowKit

/-- What Any answers. -/
def anyV (m : List (List Int)) (y : List Int) : List (Int × Int) × Int :=
  if readE m y = 0 then (if possB (redB m (upTo (colsM m)) (oneB y)).rows (redB m (upTo (colsM m)) (oneB y)).piv.length (upTo (colsM m)).length = true then (solL (upTo (colsM m)).length (redB m (upTo (colsM m)) (oneB y)).rows (redB m (upTo (colsM m)) (oneB y)).piv (redB m (upTo (colsM m)) (oneB y)).dv (redB m (upTo (colsM m)) (oneB y)).piv.length, 0) else ([], 10)) else ([], readE m y)
set_option maxRecDepth 100000 in
theorem rread3_any (ma : Option Addr) (m : List (List Int)) (mc : Nat) (a : Option Addr) (y : List Int) (cap : Nat) (w : World) (hm : MOk m) (hl : y.length ≤ 9223372036854775807) (hs : Ms w ma m) (hy : Sl w a y) :
    Calls Try.prog 42 #[.slice ma m.length mc, .slice a y.length cap] w fun e w' => e = .returned (.int .i64 (readE m y)) ∧ w = w' := by
  have HVA : Hid (Calls Try.prog 52 #[.slice ma m.length mc] w fun e w' => e = .returned (.bool (validM m)) ∧ w = w') := rvalid_any ma m mc w hm hs
  have HRE := Lib.hid (rreading_any ma m mc a y cap w hm.1 hl hy)
  cases hv : validM m
  case false =>
    rw [hv] at HVA
    have HE : Hid (readE m y = 1) := by show _ = _; simp [readE, hv]
    clear hv hs hy hm
    go_enter Try.func42, Try.ntmps42
    go_wp2_with (go_at_call 52; refine HVA.out.mono ?_; rintro e w1 ⟨rfl, rfl⟩)
    go_ret
    exact ⟨ret_i64 HE.out.symm, rfl⟩
  case true =>
    rw [hv] at HVA
    have HE : Hid (readE m y = fitsV y m.length 1000000) := by show _ = _; simp [readE, hv]
    clear hv hs hy hm
    go_enter Try.func42, Try.ntmps42
    go_wp2_with (first | (go_at_call 52; refine HVA.out.mono ?_; rintro e w1 ⟨rfl, rfl⟩) | (go_at_call 84; refine HRE.out.mono ?_; rintro e w1 ⟨rfl, rfl⟩))
    go_ret
    exact ⟨ret_i64 HE.out.symm, rfl⟩
set_option maxRecDepth 1000000 in
set_option maxHeartbeats 3200000 in
theorem rany_any (ma : Option Addr) (m : List (List Int)) (mc : Nat) (ya : Option Addr) (y : List Int) (yc : Nat) (w : World) (hm : MOk m) (hly : y.length ≤ 9223372036854775807) (hs : Ms w ma m) (hy : Sl w ya y) :
    Calls Try.prog 34 #[.slice ma m.length mc, .slice ya y.length yc] w (RLPost (anyV m y) w) := by
  obtain ⟨rv, hrv⟩ : ∃ rv, readE m y = rv := ⟨_, rfl⟩
  have HRE : Hid (Calls Try.prog 42 #[.slice ma m.length mc, .slice ya y.length yc] w fun e w' => e = .returned (.int .i64 rv) ∧ w = w') := by rw [← hrv]; exact rread3_any ma m mc ya y yc w hm hly hs hy
  by_cases hr0 : rv = 0
  · subst hr0
    obtain ⟨hv, hyl, hyb⟩ := readE_ok hrv
    obtain ⟨hm1, hm6, hc1, hc10, hrows⟩ := validM_of hv
    have h1 : ∀ j ∈ upTo (colsM m), 0 ≤ j ∧ j < (colsM m : Int) := fun j hj => upTo_in hj
    have h2 : (upTo (colsM m)).length ≤ 10 := by rw [upTo_len]; exact hc10
    have HEV := Lib.hid (every_any ma m mc w hv hs)
    have HSVV : Hid (anyV m y = if possB (redB m (upTo (colsM m)) (oneB y)).rows (redB m (upTo (colsM m)) (oneB y)).piv.length (upTo (colsM m)).length = true then (solL (upTo (colsM m)).length (redB m (upTo (colsM m)) (oneB y)).rows (redB m (upTo (colsM m)) (oneB y)).piv (redB m (upTo (colsM m)) (oneB y)).dv (redB m (upTo (colsM m)) (oneB y)).piv.length, 0) else ([], 10)) := by show _ = _; unfold anyV; rw [if_pos hrv]
    obtain ⟨px, hpx⟩ : ∃ px, upTo (colsM m) = px := ⟨_, rfl⟩
    rw [hpx] at h1 h2 HEV HSVV
    obtain ⟨b1, b2⟩ := pixB_bd hv h1 hyl hyb
    have hfin := redB_fin hv h1 hyl hyb
    obtain ⟨s1, s2⟩ := sol_same (pixB_len px m (oneB y)) pixB_row hm6 b1 b2 hfin
    obtain ⟨p1, p2⟩ := red_pre (pixB_len px m (oneB y)) pixB_row hm6 (Nat.le_refl _) b1 b2
    have hsf := sf_of (pixB_len px m (oneB y)) pixB_row hm6 b1 b2
    have HSO : Hid (∀ (W : World) a cap, Below w.heap.size w W → Sl W a px → Calls Try.prog 74 #[.slice ma m.length mc, .slice a px.length cap, .slice ya y.length yc] W fun e w' => Below W.heap.size W w' ∧ if (px.length : Int) ∈ (redR (pixB px m (oneB y)) (px.length + 1)).piv then e = .returned (.tuple #[.slice none 0 0, .int .i64 0, .bool false]) else
        ∃ b c, e = .returned (.tuple #[.slice (some ⟨b, 0, none⟩) px.length c, .int .i64 ((px.length : Int) - ((redR (pixB px m (oneB y)) (px.length + 1)).piv.length : Int)), .bool true]) ∧ OwnR w' W.heap.size (.slice (some ⟨b, 0, none⟩) px.length c) (solRT (redR (pixB px m (oneB y)) (px.length + 1)) px.length (redR (pixB px m (oneB y)) (px.length + 1)).piv.length)) := fun W a cap hb hp => rsolved_any ma m mc a px cap ya y yc W _ hm1 hm6 h2 h1 (fun r hr => (hrows r hr).1) hyl (hs.below hb) hp (hy.below hb) rfl p1 p2 hsf
    cases hz : possB (redB m px (oneB y)).rows (redB m px (oneB y)).piv.length px.length with
    | false =>
      have hin := s1 hz
      simp only [if_pos hin] at HSO
      rw [hz] at HSVV
      rw [HSVV.out]
      clear hv hs hm hrv hy hyl hyb HSVV s1 s2 p1 p2 b1 b2 hfin hsf hin hz h1 hrows hpx
      go_enter Try.func34, Try.ntmps34
      go_wp2_with (first | (go_at_call 42; refine HRE.out.mono ?_; rintro e w1 ⟨rfl, rfl⟩) | (go_at_call 75; refine HEV.out.mono ?_; rintro e w2 ⟨ea, ec, rfl, hes, hb2⟩; have HES := Lib.hid hes; have HB2 := Lib.hid hb2; clear hes hb2) | (go_at_call 74; refine (HSO.out w2 ea ec HB2.out HES.out).mono ?_; rintro e w3 ⟨hb3, rfl⟩; have HB3 : Hid (Below w.heap.size w w3) := HB2.out.trans (hb3.mono HB2.out.size); clear hb3))
      go_ret2
      exact RLPost.err HB3.out
    | true =>
      obtain ⟨t1, t2, t3⟩ := s2 hz
      simp only [if_neg t1] at HSO
      rw [t3, t2] at HSO
      rw [hz] at HSVV
      obtain ⟨kn, hkn⟩ : ∃ kn, (redB m px (oneB y)).piv.length = kn := ⟨_, rfl⟩
      obtain ⟨L, hL⟩ : ∃ L, solL px.length (redB m px (oneB y)).rows (redB m px (oneB y)).piv (redB m px (oneB y)).dv (redB m px (oneB y)).piv.length = L := ⟨_, rfl⟩
      have HLL : Hid (L.length = px.length) := by show _ = _; rw [← hL]; exact solL_len _ _ _ _ _
      rw [hL] at HSO HSVV
      have HSV2 : Hid (anyV m y = (L, 0)) := by show _ = _; rw [HSVV.out, if_pos rfl]
      rw [HSV2.out]
      clear hv hs hm hrv hy hyl hyb s1 s2 p1 p2 b1 b2 hfin hsf hz h1 hrows t1 t2 t3 hL HSVV hpx hkn
      go_enter Try.func34, Try.ntmps34
      go_wp2_with (first | (go_at_call 42; refine HRE.out.mono ?_; rintro e w1 ⟨rfl, rfl⟩) | (go_at_call 75; refine HEV.out.mono ?_; rintro e w2 ⟨ea, ec, rfl, hes, hb2⟩; have HES := Lib.hid hes; have HB2 := Lib.hid hb2; clear hes hb2) | (go_at_call 74; refine (HSO.out w2 ea ec HB2.out HES.out).mono ?_; rintro e w3 ⟨hb3, sb, sc, rfl, ho⟩; have HO := Lib.hid ho; have HB3 : Hid (Below w.heap.size w w3) := HB2.out.trans (hb3.mono HB2.out.size); clear hb3 ho))
      go_ret2
      refine ⟨HB3.out, _, sc, by (rw [HLL.out]; rfl), OwnR.rl (cap := sc) (w := w3) (base := w2.heap.size) ?_⟩
      rw [HLL.out]; exact HO.out
  · have y0 : (rv == 0) = false := by simpa using hr0
    have y1 : (rv != 0) = true := by simpa using hr0
    have HSV : Hid (anyV m y = ([], rv)) := by show _ = _; unfold anyV; rw [hrv, if_neg hr0]
    rw [HSV.out]
    clear hs hm hr0 hrv hy HSV
    go_enter Try.func34, Try.ntmps34
    go_wp2_with (go_at_call 42; refine HRE.out.mono ?_; rintro e w1 ⟨rfl, rfl⟩)
    go_ret2
    exact RLPost.err (Below.refl _ _)
end Go.Proofs.Yteoimibefpidoaa
/- Possible of the answers: a contract. -/
namespace Go.Proofs.Yteoimibefpidoaa
open Go.RowKit

/-- What Possible answers. -/
def possV (m : List (List Int)) (y : List Int) : Bool × Int := if (anyV m y).2 = 10 then (false, 0) else (decide ((anyV m y).2 = 0), (anyV m y).2)
set_option maxRecDepth 100000 in
set_option maxHeartbeats 800000 in
theorem rpossible_any (ma : Option Addr) (m : List (List Int)) (mc : Nat) (ya : Option Addr) (y : List Int) (yc : Nat) (w : World) (hm : MOk m) (hly : y.length ≤ 9223372036854775807) (hs : Ms w ma m) (hy : Sl w ya y) :
    Calls Try.prog 32 #[.slice ma m.length mc, .slice ya y.length yc] w fun e w' => e = .returned (.tuple #[.bool (possV m y).1, .int .i64 (possV m y).2]) ∧ Below w.heap.size w w' := by
  have HA := Lib.hid (rany_any ma m mc ya y yc w hm hly hs hy)
  unfold possV
  obtain ⟨⟨L, v⟩, hv⟩ : ∃ q, anyV m y = q := ⟨_, rfl⟩
  rw [hv] at HA ⊢
  dsimp only
  clear hv hs hy hm
  by_cases h1 : v = 10
  · rw [if_pos h1]
    subst h1
    go_enter Try.func32, Try.ntmps32
    go_wp2_with (go_at_call 34; refine HA.out.mono ?_; rintro e w1 ⟨hb, la, lc, rfl, _⟩)
    go_ret2
    exact ⟨rfl, hb⟩
  · rw [if_neg h1]
    have y0 : (v == 10) = false := by simpa using h1
    obtain ⟨q, hq⟩ : ∃ q, decide (v = 0) = q := ⟨_, rfl⟩
    have y1 : (v == 0) = q := by rw [← hq]; rfl
    rw [hq]
    go_enter Try.func32, Try.ntmps32
    go_wp2_with (go_at_call 34; refine HA.out.mono ?_; rintro e w1 ⟨hb, la, lc, rfl, _⟩)
    go_ret2
    exact ⟨rfl, hb⟩
end Go.Proofs.Yteoimibefpidoaa
/- Possible, conflicts and solutions: what both reductions of a mask tell of a reading. Plain words. Speaks of no program. -/
namespace Go.Proofs.Yteoimibefpidoaa
open Go.RowKit

/-- What Denies answers. -/
def deniesB (m : List (List Int)) (y z : List Int) : Bool := decide (readE m y = 0) && allB 1000000 z && decide ((backV m z).2 = 0) && allZ (backV m z).1 && decide (dot z y ≠ 0)
theorem dot_short {z y : List Int} : ((gcdL z : Nat) : Int) * dot (shortL z) y = dot z y := by
  unfold dot
  rw [← sumTo_mul, short_len]
  refine sumTo_congr _ fun k hk => ?_
  rw [gt_short (v := z) (c := k) hk]; grind
theorem conf_denies {m : List (List Int)} {y : List Int} (hr : readE m y = 0) {x : Nat} (hk : (redW m).piv.length ≤ x) (hx : x < m.length) (hd : dot (behW m x) y ≠ 0) : gcdL (behW m x) ≠ 0 ∧ deniesB m y (shortL (behW m x)) = true := by
  obtain ⟨hv, hyl, hyb⟩ := readE_ok hr
  have h := redW_fin hv
  have hl := behW_len hv hx
  have hg : gcdL (behW m x) ≠ 0 := fun e => hd (by
    unfold dot
    exact sumZ _ fun k hk => by rw [gcdTo_zero _ e k hk, Int.zero_mul])
  obtain ⟨b1, b2⟩ := back_short hv hx
  refine ⟨hg, ?_⟩
  unfold deniesB
  rw [b1, hr, behW_all hv hx]
  have t1 : allZ (backL m (shortL (behW m x))) = true := allZ_all fun c hc => by
    rw [backL_length] at hc
    have e := b2 c hc
    rw [h.low x hk hx c hc] at e
    rcases Int.mul_eq_zero.mp e with e | e
    · omega
    · exact e
  have t2 : dot (shortL (behW m x)) y ≠ 0 := fun e => hd (by rw [← dot_short, e, Int.mul_zero])
  rw [t1, decide_eq_true t2]; rfl
/-- Numbers at the pivots, 0 elsewhere. -/
def pivW (r : Rd) (v : Nat → Int) (c : Nat) : Int := sumTo (fun t => if pivN r t = c then v t else 0) r.piv.length
variable {R N cols : Nat} {A0 : Nat → Nat → Int} {r : Rd}
theorem pivW_at (h : RFin R N cols A0 r) (v : Nat → Int) {t : Nat} (ht : t < r.piv.length) : pivW r v (pivN r t) = v t := by
  unfold pivW
  rw [sumOne (s := t) _ ht fun i hi e => by rw [if_neg fun e2 => e (h.inj hi ht e2)], if_pos rfl]
theorem pivW_free (h : RFin R N cols A0 r) (v : Nat → Int) {c : Nat} (hc : (c : Int) ∉ r.piv) : pivW r v c = 0 := by
  unfold pivW
  exact sumZ _ fun t ht => by rw [if_neg fun e => hc (h.mem.mpr ⟨t, ht, e⟩)]
theorem row_pivW (h : RFin R N cols A0 r) (v : Nat → Int) {t : Nat} (ht : t < r.piv.length) : sumTo (fun c => gt (rowL r.rows t) c * pivW r v c) cols = r.dv * v t := by
  have hs := h.self t t ht ht
  rw [if_pos rfl] at hs
  rw [sumOne (s := pivN r t) cols (h.pivN_lt ht) fun c _ e => ?_, pivW_at h v ht, hs]
  by_cases hm : (c : Int) ∈ r.piv
  · obtain ⟨s, hs2, e2⟩ := h.mem.mp hm
    have h1 := h.self s t hs2 ht
    rw [e2, if_neg (fun e3 => e (by rw [e3]; exact e2.symm))] at h1
    rw [h1, Int.zero_mul]
  · rw [pivW_free h v hm, Int.mul_zero]
/-- The reduction with the reading. -/
def redO (m : List (List Int)) (y : List Int) : Rd := redB m (upTo (colsM m)) (oneB y)
theorem redO_fin {m : List (List Int)} {y : List Int} (hv : validM m = true) (hy : y.length = m.length) (hb : allB 1000000 y = true) : RFin m.length (colsM m + 1) (colsM m) (a0 (pixB (upTo (colsM m)) m (oneB y))) (redO m y) := by
  have h := redB_fin (px := upTo (colsM m)) hv (fun j hj => upTo_in hj) hy hb
  rw [upTo_len] at h
  exact h
theorem one_at {m : List (List Int)} {y : List Int} {i : Nat} (hi : i < m.length) : a0 (pixB (upTo (colsM m)) m (oneB y)) i (colsM m) = gt y i := by
  rw [pixB_at hi, upTo_len, if_neg (Nat.lt_irrefl _), if_pos rfl]
/-- A picture over a number makes the reading, just where its vector is read as 0. -/
theorem one_ker {m : List (List Int)} {y : List Int} (w : Nat → Int) (d : Int) {i : Nat} (hi : i < m.length) : sumTo (fun c => a0 (pixB (upTo (colsM m)) m (oneB y)) i c * (if c < colsM m then w c else -d)) (colsM m + 1) = sumTo (fun c => gt (rowL m i) c * w c) (colsM m) - d * gt y i := by
  rw [show sumTo (fun c => a0 (pixB (upTo (colsM m)) m (oneB y)) i c * (if c < colsM m then w c else -d)) (colsM m + 1) = sumTo (fun c => a0 (pixB (upTo (colsM m)) m (oneB y)) i c * (if c < colsM m then w c else -d)) (colsM m) + a0 (pixB (upTo (colsM m)) m (oneB y)) i (colsM m) * (if colsM m < colsM m then w (colsM m) else -d) from rfl, if_neg (Nat.lt_irrefl _), one_at hi, sumTo_congr (colsM m) fun c hc => by rw [if_pos hc, all_at hi hc]]
  grind
theorem one_row {m : List (List Int)} {y : List Int} (w : Nat → Int) (d : Int) (x : Nat) : sumTo (fun c => gt (rowL (redO m y).rows x) c * (if c < colsM m then w c else -d)) (colsM m + 1) = sumTo (fun c => gt (rowL (redO m y).rows x) c * w c) (colsM m) - d * gt (rowL (redO m y).rows x) (colsM m) := by
  rw [show sumTo (fun c => gt (rowL (redO m y).rows x) c * (if c < colsM m then w c else -d)) (colsM m + 1) = sumTo (fun c => gt (rowL (redO m y).rows x) c * (if c < colsM m then w c else -d)) (colsM m) + gt (rowL (redO m y).rows x) (colsM m) * (if colsM m < colsM m then w (colsM m) else -d) from rfl, if_neg (Nat.lt_irrefl _), sumTo_congr (colsM m) fun c hc => by rw [if_pos hc]]
  grind
theorem possB_iff {m : List (List Int)} {y : List Int} (hv : validM m = true) (hy : y.length = m.length) (hb : allB 1000000 y = true) : possB (redO m y).rows (redO m y).piv.length (colsM m) = true ↔ ∀ x, (redO m y).piv.length ≤ x → x < m.length → gt (rowL (redO m y).rows x) (colsM m) = 0 := by
  have h := redO_fin hv hy hb
  have hz0 : ∀ x, x < m.length → (allZ ((rowL (redO m y).rows x).drop (colsM m)) = true ↔ gt (rowL (redO m y).rows x) (colsM m) = 0) := fun x hx => by
    have hl := h.row _ (rowL_mem (show x < (redO m y).rows.length by rw [h.len]; exact hx))
    have hd : (rowL (redO m y).rows x).drop (colsM m) = [gt (rowL (redO m y).rows x) (colsM m)] := by
      refine list_gt (by rw [List.length_drop, hl]; simp) fun t ht => ?_
      rw [List.length_drop, hl] at ht
      obtain rfl : t = 0 := by omega
      show ((rowL (redO m y).rows x).drop (colsM m))[0]?.getD 0 = _
      rw [List.getElem?_drop, Nat.add_zero]; rfl
    rw [hd]; unfold allZ; simp
  have hlen := h.len
  unfold possB
  rw [List.all_eq_true]
  constructor
  · intro ha x h1 h2
    have := ha x (List.mem_range.2 (by omega))
    rw [Bool.or_eq_true, decide_eq_true_eq] at this
    rcases this with e | e
    · omega
    · exact (hz0 x h2).1 e
  · intro ha x hx
    have hx := List.mem_range.1 hx
    by_cases e : x < (redO m y).piv.length
    · simp [e]
    · rw [(hz0 x (by omega)).2 (ha x (by omega) (by omega)), Bool.or_true]
/-- The picture, over the divisor, that the reduction tells where the reading is possible. -/
def solW (m : List (List Int)) (y : List Int) : Nat → Int := pivW (redO m y) fun t => gt (rowL (redO m y).rows t) (colsM m)
theorem solW_makes {m : List (List Int)} {y : List Int} (hv : validM m = true) (hy : y.length = m.length) (hb : allB 1000000 y = true) (hp : possB (redO m y).rows (redO m y).piv.length (colsM m) = true) : ∀ i, i < m.length → sumTo (fun c => gt (rowL m i) c * solW m y c) (colsM m) = (redO m y).dv * gt y i := by
  have h := redO_fin hv hy hb
  have hp := (possB_iff hv hy hb).1 hp
  intro i hi
  have hk := (h.ker (fun c => if c < colsM m then solW m y c else -(redO m y).dv)).mpr (fun x hx => by
    rw [one_row]
    by_cases e : x < (redO m y).piv.length
    · rw [show sumTo (fun c => gt (rowL (redO m y).rows x) c * solW m y c) (colsM m) = (redO m y).dv * gt (rowL (redO m y).rows x) (colsM m) from row_pivW h _ e]; omega
    · rw [hp x (by omega) hx, sumZ (colsM m) fun c hc => by rw [h.low x (by omega) hx c hc, Int.zero_mul]]; omega) i hi
  rw [one_ker _ _ hi] at hk
  omega
theorem poss_conf {m : List (List Int)} {y : List Int} (hr : readE m y = 0) : possB (redO m y).rows (redO m y).piv.length (colsM m) = true ↔ ∀ x, (redW m).piv.length ≤ x → x < m.length → dot (behW m x) y = 0 := by
  obtain ⟨hv, hyl, hyb⟩ := readE_ok hr
  have h1 := redO_fin hv hyl hyb
  have h2 := redW_fin hv
  have p1 := h1.pos
  have p2 := h2.pos
  constructor
  · intro hp x hk hx
    have hm := solW_makes hv hyl hyb hp
    have hl := behW_len hv hx
    have e1 : sumTo (fun k => gt (behW m x) k * sumTo (fun c => gt (rowL m k) c * solW m y c) (colsM m)) m.length = (redO m y).dv * dot (behW m x) y := by
      unfold dot
      rw [hl, ← sumTo_mul]
      refine sumTo_congr _ fun k hk => ?_
      rw [hm k hk]; grind
    have e2 : sumTo (fun k => gt (behW m x) k * sumTo (fun c => gt (rowL m k) c * solW m y c) (colsM m)) m.length = 0 := by
      rw [sumTo_congr m.length fun k _ => (sumTo_mul (gt (behW m x) k) _ (colsM m)).symm, sumTo_swap]
      refine sumZ _ fun c hc => ?_
      have e3 := behW_col hv hx hc
      rw [h2.low x hk hx c hc] at e3
      have e4 : sumTo (fun k => gt (behW m x) k * (gt (rowL m k) c * solW m y c)) m.length = solW m y c * dot (colM m c) (behW m x) := by
        unfold dot
        rw [colM_length, ← sumTo_mul]
        refine sumTo_congr _ fun k hk => ?_
        rw [gt_colM hk]
        show _ = solW m y c * (gt (rowL m k) c * _)
        grind
      rw [e4, ← e3, Int.mul_zero]
    rw [e2] at e1
    rcases Int.mul_eq_zero.mp e1.symm with e | e
    · omega
    · exact e
  · intro ha
    refine (possB_iff hv hyl hyb).2 fun x hk hx => ?_
    have hbd : ∀ x, x < m.length → sumTo (fun k => gt (rowL (redW m).rows x) (colsM m + k) * (-(redW m).dv * gt y k)) m.length = -(redW m).dv * dot (behW m x) y := fun x hx => by
      unfold dot
      rw [behW_len hv hx, ← sumTo_mul]
      refine sumTo_congr _ fun k _ => ?_
      rw [gt_behW]; grind
    have hk2 : ∀ i, i < m.length → sumTo (fun c => gt (rowL m i) c * pivW (redW m) (fun t => dot (behW m t) y) c) (colsM m) - (redW m).dv * gt y i = 0 := fun i hi => by
      have hk := (h2.ker (fun c => if c < colsM m then pivW (redW m) (fun t => dot (behW m t) y) c else -(redW m).dv * gt y (c - colsM m))).mpr (fun x hx => by
        rw [sumTo_split, sumTo_congr (colsM m) fun c hc => by rw [if_pos hc], sumTo_congr m.length fun k _ => by rw [if_neg (by omega), show colsM m + k - colsM m = k by omega], hbd x hx]
        by_cases e : x < (redW m).piv.length
        · rw [row_pivW h2 _ e]; grind
        · rw [ha x (by omega) hx, sumZ (colsM m) fun c hc => by rw [h2.low x (by omega) hx c hc, Int.zero_mul]]; omega) i hi
      rw [sumTo_split, sumTo_congr (colsM m) fun c hc => by rw [if_pos hc, all_at hi hc], sumOne (s := i) m.length hi fun k hk e => by rw [which_at hi hk, if_neg e, Int.zero_mul], which_at hi hi, if_pos rfl, if_neg (by omega), show colsM m + i - colsM m = i by omega] at hk
      grind
    have hk3 := (h1.ker (fun c => if c < colsM m then pivW (redW m) (fun t => dot (behW m t) y) c else -(redW m).dv)).mp (fun i hi => by rw [one_ker _ _ hi]; exact hk2 i hi) x hx
    rw [one_row, sumZ (colsM m) fun c hc => by rw [h1.low x hk hx c hc, Int.zero_mul]] at hk3
    have e : (redW m).dv * gt (rowL (redO m y).rows x) (colsM m) = 0 := by omega
    rcases Int.mul_eq_zero.mp e with e | e
    · omega
    · exact e
theorem possV_of {m : List (List Int)} {y : List Int} (hr : readE m y = 0) : possV m y = (possB (redO m y).rows (redO m y).piv.length (colsM m), 0) := by
  have e : anyV m y = if possB (redO m y).rows (redO m y).piv.length (upTo (colsM m)).length = true then (solL (upTo (colsM m)).length (redO m y).rows (redO m y).piv (redO m y).dv (redO m y).piv.length, 0) else ([], 10) := by unfold anyV; rw [if_pos hr]; rfl
  unfold possV
  rw [e, upTo_len]
  cases possB (redO m y).rows (redO m y).piv.length (colsM m) <;> rfl
theorem anyV_of {m : List (List Int)} {y : List Int} (hr : readE m y = 0) (hp : possB (redO m y).rows (redO m y).piv.length (colsM m) = true) : anyV m y = (solL (colsM m) (redO m y).rows (redO m y).piv (redO m y).dv (redO m y).piv.length, 0) := by
  unfold anyV
  rw [if_pos hr]
  show (if possB (redO m y).rows (redO m y).piv.length (upTo (colsM m)).length = true then (solL (upTo (colsM m)).length (redO m y).rows (redO m y).piv (redO m y).dv (redO m y).piv.length, 0) else ([], 10)) = _
  rw [upTo_len, if_pos hp]
theorem lowR_val {n d : Int} : (lowR n d).1 * d = n * (lowR n d).2 := by
  unfold lowR
  dsimp only
  have g1 : gcd2 n d ∣ n := Int.ofNat_dvd_left.2 (Nat.gcd_dvd_left _ _)
  have g2 : gcd2 n d ∣ d := Int.ofNat_dvd_left.2 (Nat.gcd_dvd_right _ _)
  have e1 := Int.tdiv_mul_cancel g1
  have e2 := Int.tdiv_mul_cancel g2
  generalize n.tdiv (gcd2 n d) = a at *
  generalize d.tdiv (gcd2 n d) = b at *
  generalize gcd2 n d = g at *
  rw [← e1, ← e2]; grind
/-- A solution's number at a column, over the divisor. -/
theorem sol_val {m : List (List Int)} {y : List Int} (hr : readE m y = 0) {c : Nat} (hc : c < colsM m) : ∃ p, (solL (colsM m) (redO m y).rows (redO m y).piv (redO m y).dv (redO m y).piv.length)[c]? = some p ∧ (p = (0, 1) ∨ ∃ t, t < (redO m y).piv.length ∧ p = lowR (gt (rowL (redO m y).rows t) (colsM m)) (redO m y).dv) ∧ p.1 * (redO m y).dv = solW m y c * p.2 := by
  obtain ⟨hv, hyl, hyb⟩ := readE_ok hr
  have h := redO_fin hv hyl hyb
  by_cases hm : (c : Int) ∈ (redO m y).piv
  · obtain ⟨t, ht, e⟩ := h.mem.mp hm
    have hs := h.sol_at ht
    rw [e] at hs
    refine ⟨_, hs, .inr ⟨t, ht, rfl⟩, ?_⟩
    have e2 : solW m y c = gt (rowL (redO m y).rows t) (colsM m) := by rw [← e]; exact pivW_at h _ ht
    rw [e2]; exact lowR_val
  · refine ⟨(0, 1), ?_, .inl rfl, ?_⟩
    · have key : ∀ k, k ≤ (redO m y).piv.length → (solL (colsM m) (redO m y).rows (redO m y).piv (redO m y).dv k)[c]? = some (0, 1) := by
        intro k
        induction k with
        | zero => intro _; unfold solL; simp [hc]
        | succ k ih =>
          intro hk
          unfold solL
          show ((solL (colsM m) (redO m y).rows (redO m y).piv (redO m y).dv k).set (pivN (redO m y) k) _)[c]? = _
          rw [List.getElem?_set_ne (fun e => hm (h.mem.mpr ⟨k, by omega, e⟩))]
          exact ih (by omega)
      exact key _ (Nat.le_refl _)
    · have e2 : solW m y c = 0 := pivW_free h _ hm
      rw [e2]; show (0 : Int) * _ = 0 * 1; omega
end Go.Proofs.Yteoimibefpidoaa
/- product and Denies of layer 3, Denies of the answers: contracts. -/
namespace Go.Proofs.Yteoimibefpidoaa
open Go.RowKit

set_option maxRecDepth 100000 in
theorem lproduct_any (a : Option Addr) (xs : List Int) (ca : Nat) (b : Option Addr) (ys : List Int) (cb : Nat) (w : World) (hl : xs.length ≤ 10) (hl2 : xs.length ≤ ys.length) (hl3 : ys.length ≤ 9223372036854775807) (hp : PB xs ys) (ha : Sl w a xs) (hb : Sl w b ys) :
    Calls Try.prog 77 #[.slice a xs.length ca, .slice b ys.length cb] w fun e w' => e = .returned (.int .i64 (dot xs ys)) ∧ w = w' := by
  have HA := Lib.hid ha; clear ha
  have HB := Lib.hid hb; clear hb
  have HP := Lib.hid hp; clear hp
  go_enter Try.func77, Try.ntmps77
  go_wp2
  go_loop [5, 10] (fun s i => ∃ k : Nat, k ≤ xs.length ∧ i = .int .i64 k ∧ s = .int .i64 (dotTo xs ys k)) (fun _ i => xs.length - (intOf i).toNat)
  case atStart => exact ⟨0, Nat.zero_le _, rfl, rfl⟩
  case round =>
    obtain ⟨k, hk, rfl, rfl⟩ := hrel
    have SB := Lib.hid (dotTo_bd HP.out hk)
    by_cases hlt : k < xs.length
    · obtain ⟨b1, o1, x, rfl, hcx, HX⟩ := HA.out.at hlt
      obtain ⟨b2, o2, y, rfl, hcy, HY⟩ := HB.out.at (show k < ys.length by omega)
      have hS := Lib.hid (show dotTo xs ys (k + 1) = dotTo xs ys k + x * y by show dotTo xs ys k + gt xs k * gt ys k = _; rw [gt_some' HX.out, gt_some' HY.out])
      have hxy : -100000000000000000 ≤ x * y ∧ x * y ≤ 100000000000000000 := by have := HP.out k hlt; rw [gt_some' HX.out, gt_some' HY.out] at this; exact this
      obtain ⟨p1, p2⟩ := hxy
      obtain ⟨s1, s2⟩ := SB.out
      generalize dotTo xs ys k = S at *
      have s3 : S ≤ 1000000000000000000 := by omega
      have s4 : -1000000000000000000 ≤ S := by omega
      clear s1 s2 SB
      go_wp2
      go_round
      case rel => exact ⟨k + 1, by omega, by go_num, by rw [hS.out]⟩
      case measure => simp [intOf]; omega
    · obtain rfl : k = xs.length := by omega
      go_wp2
      go_ret
      exact ⟨rfl, rfl⟩
set_option maxRecDepth 100000 in
theorem lreading_any (ma : Option Addr) (m : List (List Int)) (mc : Nat) (a : Option Addr) (y : List Int) (cap : Nat) (w : World) (hm : MOk m) (hl : y.length ≤ 9223372036854775807) (hs : Ms w ma m) (hy : Sl w a y) :
    Calls Try.prog 11 #[.slice ma m.length mc, .slice a y.length cap] w fun e w' => e = .returned (.bool (decide (readE m y = 0))) ∧ Below w.heap.size w w' := by
  have HRE := Lib.hid (lread_any ma m mc a y cap w hm hl hs hy)
  obtain ⟨rv, hrv⟩ : ∃ rv, readE m y = rv := ⟨_, rfl⟩
  rw [hrv] at HRE ⊢
  clear hrv hs hy hm
  go_enter Try.func11, Try.ntmps11
  go_wp2_with (go_at_call 41; refine HRE.out.mono ?_; rintro e w1 ⟨rfl, hb1⟩)
  go_ret
  exact ⟨rfl, hb1⟩
set_option maxRecDepth 100000 in
theorem rreading3_any (ma : Option Addr) (m : List (List Int)) (mc : Nat) (a : Option Addr) (y : List Int) (cap : Nat) (w : World) (hm : MOk m) (hl : y.length ≤ 9223372036854775807) (hs : Ms w ma m) (hy : Sl w a y) :
    Calls Try.prog 12 #[.slice ma m.length mc, .slice a y.length cap] w fun e w' => e = .returned (.bool (decide (readE m y = 0))) ∧ w = w' := by
  have HRE := Lib.hid (rread3_any ma m mc a y cap w hm hl hs hy)
  obtain ⟨rv, hrv⟩ : ∃ rv, readE m y = rv := ⟨_, rfl⟩
  rw [hrv] at HRE ⊢
  clear hrv hs hy hm
  go_enter Try.func12, Try.ntmps12
  go_wp2_with (go_at_call 42; refine HRE.out.mono ?_; rintro e w1 ⟨rfl, rfl⟩)
  go_ret
  exact ⟨rfl, rfl⟩
theorem denies_dot {m : List (List Int)} {y z : List Int} (hr : readE m y = 0) (hz : allB 1000000 z = true) (hb : (backV m z).2 = 0) : z.length = m.length ∧ m.length ≤ 6 ∧ y.length = m.length ∧ PB z y := by
  obtain ⟨hv, hyl, hyb⟩ := readE_ok hr
  obtain ⟨_, hzl, _, _⟩ := backV_0 hb
  exact ⟨hzl, (validM_of hv).2.1, hyl, PB_of hz hyb (by omega) (by decide)⟩
set_option maxRecDepth 100000 in
set_option maxHeartbeats 1600000 in
theorem ldenies_any (ma : Option Addr) (m : List (List Int)) (mc : Nat) (a : Option Addr) (y : List Int) (yc : Nat) (b : Option Addr) (z : List Int) (zc : Nat) (w : World) (hm : MOk m) (hl : y.length ≤ 9223372036854775807) (hlz : z.length ≤ 9223372036854775807) (hs : Ms w ma m) (hy : Sl w a y) (hz : Sl w b z) :
    Calls Try.prog 38 #[.slice ma m.length mc, .slice a y.length yc, .slice b z.length zc] w fun e w' => e = .returned (.bool (deniesB m y z)) ∧ Below w.heap.size w w' := by
  have HS := Lib.hid hs
  have HZ := Lib.hid hz
  have HY := Lib.hid hy
  obtain ⟨rv, hrv⟩ : ∃ rv, decide (readE m y = 0) = rv := ⟨_, rfl⟩
  have HRD : Hid (Calls Try.prog 11 #[.slice ma m.length mc, .slice a y.length yc] w fun e w' => e = .returned (.bool rv) ∧ Below w.heap.size w w') := by rw [← hrv]; exact lreading_any ma m mc a y yc w hm hl hs hy
  obtain ⟨zb, hzb⟩ : ∃ zb, allB 1000000 z = zb := ⟨_, rfl⟩
  have HWI : Hid (∀ W, Below w.heap.size w W → Calls Try.prog 72 #[.slice b z.length zc, .int .i64 1000000] W fun e w' => e = .returned (.bool zb) ∧ W = w') := fun W hb => by rw [← hzb]; exact lwithin_any b z zc 1000000 W (by decide) (by decide) hlz (HZ.out.below hb)
  obtain ⟨bv, hbv⟩ : ∃ bv, backV m z = bv := ⟨_, rfl⟩
  obtain ⟨bl, be⟩ := bv
  have HBK : Hid (∀ W, Below w.heap.size w W → Calls Try.prog 71 #[.slice ma m.length mc, .slice b z.length zc] W (LPost (bl, be) W)) := fun W hb => by rw [← hbv]; exact mback_any ma m mc b z zc W hm hlz (HS.out.below hb) (HZ.out.below hb)
  have hbl : bl.length ≤ 10 := by have := backV_len10 m z; rw [hbv] at this; exact this
  have HD0 : Hid (deniesB m y z = (rv && zb && decide (be = 0) && allZ bl && decide (dot z y ≠ 0))) := by show _ = _; unfold deniesB; rw [hrv, hzb, hbv]
  have hdd := fun h1 h2 h3 => denies_dot (m := m) (y := y) (z := z) h1 h2 h3
  rw [hbv, hzb] at hdd
  have hlm : be = 0 → z.length = m.length := fun e => (backV_0 (m := m) (z := z) (by rw [hbv]; exact e)).2.1
  have hr0 : rv = true → readE m y = 0 := fun e => by rw [e] at hrv; exact of_decide_eq_true hrv
  obtain ⟨nz, hnz⟩ : ∃ nz, allZ bl = nz := ⟨_, rfl⟩
  have HNZ : Hid (∀ (W : World) ba bc, Sl W ba bl → Calls Try.prog 80 #[.slice ba bl.length bc, .func (.func 81) #[] #[]] W fun e w' => e = .returned (.bool (!nz)) ∧ W = w') := fun W ba bc h => by rw [← hnz]; exact containsNZ_any ba bl bc W (by omega) h
  obtain ⟨d, hd⟩ : ∃ d, dot z y = d := ⟨_, rfl⟩
  have HDT0 : rv = true → zb = true → be = 0 → Hid (∀ W, Below w.heap.size w W → Calls Try.prog 77 #[.slice b z.length zc, .slice a y.length yc] W fun e w' => e = .returned (.int .i64 d) ∧ W = w') := fun e1 e2 e3 W hb => by
    obtain ⟨q1, q2, q3, q4⟩ := hdd (hr0 e1) e2 e3
    rw [← hd]
    exact lproduct_any b z zc a y yc W (by omega) (by omega) hl q4 (HZ.out.below hb) (HY.out.below hb)
  rw [hnz, hd] at HD0
  clear hdd hr0
  cases rv with
  | false =>
    have HD : Hid (deniesB m y z = false) := by show _ = _; rw [HD0.out]; rfl
    clear hs hy hz hm hrv hzb hbv HD0 hnz hd HDT0 hlm
    go_enter Try.func38, Try.ntmps38
    go_wp2_with (first | (go_at_call 11; refine HRD.out.mono ?_; rintro e w1 ⟨rfl, hb1⟩; have HB1 := Lib.hid hb1; clear hb1) | (go_at_call 72; refine (HWI.out w1 HB1.out).mono ?_; rintro e w2 ⟨rfl, rfl⟩))
    go_ret
    exact ⟨ret_bool HD.out.symm, HB1.out⟩
  | true =>
    cases zb with
    | false =>
      have HD : Hid (deniesB m y z = false) := by show _ = _; rw [HD0.out]; rfl
      clear hs hy hz hm hrv hzb hbv HD0 hnz hd HDT0 hlm
      go_enter Try.func38, Try.ntmps38
      go_wp2_with (first | (go_at_call 11; refine HRD.out.mono ?_; rintro e w1 ⟨rfl, hb1⟩; have HB1 := Lib.hid hb1; clear hb1) | (go_at_call 72; refine (HWI.out w1 HB1.out).mono ?_; rintro e w2 ⟨rfl, rfl⟩))
      go_ret
      exact ⟨ret_bool HD.out.symm, HB1.out⟩
    | true =>
      by_cases hb0 : be = 0
      · subst hb0
        have HDT := HDT0 rfl rfl rfl
        cases nz with
        | false =>
          have HD : Hid (deniesB m y z = false) := by show _ = _; rw [HD0.out]; rfl
          clear hs hy hz hm hrv hzb hbv HD0 hnz hd HDT0 hlm
          go_enter Try.func38, Try.ntmps38
          go_wp2_with (first | (go_at_call 11; refine HRD.out.mono ?_; rintro e w1 ⟨rfl, hb1⟩; have HB1 := Lib.hid hb1; clear hb1) | (go_at_call 72; refine (HWI.out w1 HB1.out).mono ?_; rintro e w2 ⟨rfl, rfl⟩) | (go_at_call 71; refine (HBK.out w1 HB1.out).mono ?_; rintro e w3 ⟨hb3, ba, bc, rfl, hbs⟩; dsimp only at hbs ⊢; have HB3 : Hid (Below w.heap.size w w3) := HB1.out.trans (hb3.mono HB1.out.size); have HBS := Lib.hid hbs; clear hb3 hbs) | (go_at_call 80; refine (HNZ.out w3 ba bc HBS.out).mono ?_; rintro e w4 ⟨rfl, rfl⟩))
          go_ret
          exact ⟨ret_bool HD.out.symm, HB3.out⟩
        | true =>
          obtain ⟨q, hq⟩ : ∃ q, decide (d ≠ 0) = q := ⟨_, rfl⟩
          have HD : Hid (deniesB m y z = q) := by show _ = _; rw [HD0.out, ← hq]; simp
          have y1 : (d != 0) = q := by rw [← hq]; by_cases e : d = 0 <;> simp [e]
          clear hs hy hz hm hrv hzb hbv HD0 hnz hd HDT0 hlm hq
          go_enter Try.func38, Try.ntmps38
          go_wp2_with (first | (go_at_call 11; refine HRD.out.mono ?_; rintro e w1 ⟨rfl, hb1⟩; have HB1 := Lib.hid hb1; clear hb1) | (go_at_call 72; refine (HWI.out w1 HB1.out).mono ?_; rintro e w2 ⟨rfl, rfl⟩) | (go_at_call 71; refine (HBK.out w1 HB1.out).mono ?_; rintro e w3 ⟨hb3, ba, bc, rfl, hbs⟩; dsimp only at hbs ⊢; have HB3 : Hid (Below w.heap.size w w3) := HB1.out.trans (hb3.mono HB1.out.size); have HBS := Lib.hid hbs; clear hb3 hbs) | (go_at_call 80; refine (HNZ.out w3 ba bc HBS.out).mono ?_; rintro e w4 ⟨rfl, rfl⟩) | (go_at_call 77; refine (HDT.out w3 HB3.out).mono ?_; rintro e w5 ⟨rfl, rfl⟩))
          go_ret
          exact ⟨ret_bool HD.out.symm, HB3.out⟩
      · have HD : Hid (deniesB m y z = false) := by show _ = _; rw [HD0.out, decide_eq_false hb0]; rfl
        have y0 : (be == 0) = false := by simpa using hb0
        clear hs hy hz hm hrv hzb hbv HD0 hnz hd HDT0 hlm
        go_enter Try.func38, Try.ntmps38
        go_wp2_with (first | (go_at_call 11; refine HRD.out.mono ?_; rintro e w1 ⟨rfl, hb1⟩; have HB1 := Lib.hid hb1; clear hb1) | (go_at_call 72; refine (HWI.out w1 HB1.out).mono ?_; rintro e w2 ⟨rfl, rfl⟩) | (go_at_call 71; refine (HBK.out w1 HB1.out).mono ?_; rintro e w3 ⟨hb3, ba, bc, rfl, hbs⟩; dsimp only at hbs ⊢; have HB3 : Hid (Below w.heap.size w w3) := HB1.out.trans (hb3.mono HB1.out.size); have HBS := Lib.hid hbs; clear hb3 hbs))
        go_ret
        exact ⟨ret_bool HD.out.symm, HB3.out⟩
set_option maxRecDepth 100000 in
set_option maxHeartbeats 1600000 in
theorem rdenies_any (ma : Option Addr) (m : List (List Int)) (mc : Nat) (a : Option Addr) (y : List Int) (yc : Nat) (b : Option Addr) (z : List Int) (zc : Nat) (w : World) (hm : MOk m) (hl : y.length ≤ 9223372036854775807) (hlz : z.length ≤ 9223372036854775807) (hs : Ms w ma m) (hy : Sl w a y) (hz : Sl w b z) :
    Calls Try.prog 37 #[.slice ma m.length mc, .slice a y.length yc, .slice b z.length zc] w fun e w' => e = .returned (.bool (deniesB m y z)) ∧ Below w.heap.size w w' := by
  have HS := Lib.hid hs
  have HZ := Lib.hid hz
  have HY := Lib.hid hy
  obtain ⟨rv, hrv⟩ : ∃ rv, decide (readE m y = 0) = rv := ⟨_, rfl⟩
  have HRD : Hid (Calls Try.prog 12 #[.slice ma m.length mc, .slice a y.length yc] w fun e w' => e = .returned (.bool rv) ∧ w = w') := by rw [← hrv]; exact rreading3_any ma m mc a y yc w hm hl hs hy
  obtain ⟨zb, hzb⟩ : ∃ zb, allB 1000000 z = zb := ⟨_, rfl⟩
  have HWI : Hid (∀ W, Below w.heap.size w W → Calls Try.prog 69 #[.slice b z.length zc] W fun e w' => e = .returned (.bool zb) ∧ W = w') := fun W hb => by rw [← hzb]; exact million_any b z zc W hlz (HZ.out.below hb)
  obtain ⟨bv, hbv⟩ : ∃ bv, backV m z = bv := ⟨_, rfl⟩
  obtain ⟨bl, be⟩ := bv
  have HBK : Hid (∀ W, Below w.heap.size w W → Calls Try.prog 70 #[.slice ma m.length mc, .slice b z.length zc] W (LPost (bl, be) W)) := fun W hb => by rw [← hbv]; exact rback_any ma m mc b z zc W hm hlz (HS.out.below hb) (HZ.out.below hb)
  have hbl : bl.length ≤ 10 := by have := backV_len10 m z; rw [hbv] at this; exact this
  have HD0 : Hid (deniesB m y z = (rv && zb && decide (be = 0) && allZ bl && decide (dot z y ≠ 0))) := by show _ = _; unfold deniesB; rw [hrv, hzb, hbv]
  have hdd := fun h1 h2 h3 => denies_dot (m := m) (y := y) (z := z) h1 h2 h3
  rw [hbv, hzb] at hdd
  have hlm : be = 0 → z.length = m.length := fun e => (backV_0 (m := m) (z := z) (by rw [hbv]; exact e)).2.1
  have hr0 : rv = true → readE m y = 0 := fun e => by rw [e] at hrv; exact of_decide_eq_true hrv
  obtain ⟨nz, hnz⟩ : ∃ nz, allZ bl = nz := ⟨_, rfl⟩
  have HNZ : Hid (∀ (W : World) ba bc, Sl W ba bl → Calls Try.prog 78 #[.slice ba bl.length bc] W fun e w' => e = .returned (.bool nz) ∧ W = w') := fun W ba bc h => by rw [← hnz]; exact nothing3_any ba bl bc W (by omega) h
  obtain ⟨d, hd⟩ : ∃ d, dot z y = d := ⟨_, rfl⟩
  have HDT0 : rv = true → zb = true → be = 0 → Hid (∀ W, Below w.heap.size w W → Calls Try.prog 79 #[.slice b z.length zc, .slice a y.length yc] W fun e w' => e = .returned (.int .i64 d) ∧ ∃ n, w' = W.drewN n) := fun e1 e2 e3 W hb => by
    obtain ⟨q1, q2, q3, q4⟩ := hdd (hr0 e1) e2 e3
    rw [← hd]
    exact rdot_any b z zc a y yc W (by omega) (by omega) hl q4 (HZ.out.below hb) (HY.out.below hb)
  rw [hnz, hd] at HD0
  clear hdd hr0
  obtain ⟨zl, hzl⟩ : ∃ zl, z.length = zl := ⟨_, rfl⟩
  obtain ⟨n, hn⟩ : ∃ n, m.length = n := ⟨_, rfl⟩
  rw [hzl, hn] at hlm
  rw [hzl] at HWI hlz
  rw [hn] at HRD
  rw [hzl, hn] at HBK
  rw [hzl] at HDT0
  rw [hzl, hn]
  cases rv with
  | false =>
    have HD : Hid (deniesB m y z = false) := by show _ = _; rw [HD0.out]; rfl
    clear hs hy hz hm hrv hzb hbv HD0 hnz hd HDT0 hzl hn hlm
    go_enter Try.func37, Try.ntmps37
    go_wp2_with (first | (go_at_call 12; refine HRD.out.mono ?_; rintro e w1 ⟨rfl, rfl⟩) | (go_at_call 69; refine (HWI.out w (Below.refl _ _)).mono ?_; rintro e w2 ⟨rfl, rfl⟩))
    go_ret
    exact ⟨ret_bool HD.out.symm, Below.refl _ _⟩
  | true =>
    by_cases hlq : zl = n
    case neg =>
      have hb0 : be ≠ 0 := fun e => hlq (hlm e)
      have HD : Hid (deniesB m y z = false) := by show _ = _; rw [HD0.out, decide_eq_false hb0]; simp
      have hq1 : ¬ ((zl : Int) = (n : Int)) := by omega
      have hq2 : ((zl : Int) != (n : Int)) = true := by simpa using hq1
      clear hs hy hz hm hrv hzb hbv HD0 hnz hd HDT0 hzl hn hlm hb0
      go_enter Try.func37, Try.ntmps37
      go_wp2_with (first | (go_at_call 12; refine HRD.out.mono ?_; rintro e w1 ⟨rfl, rfl⟩) | (go_at_call 69; refine (HWI.out w (Below.refl _ _)).mono ?_; rintro e w2 ⟨rfl, rfl⟩))
      go_ret
      exact ⟨ret_bool HD.out.symm, Below.refl _ _⟩
    case pos =>
    subst hlq
    cases zb with
    | false =>
      have HD : Hid (deniesB m y z = false) := by show _ = _; rw [HD0.out]; rfl
      clear hs hy hz hm hrv hzb hbv HD0 hnz hd HDT0 hzl hn hlm
      go_enter Try.func37, Try.ntmps37
      go_wp2_with (first | (go_at_call 12; refine HRD.out.mono ?_; rintro e w1 ⟨rfl, rfl⟩) | (go_at_call 69; refine (HWI.out w (Below.refl _ _)).mono ?_; rintro e w2 ⟨rfl, rfl⟩))
      go_ret
      exact ⟨ret_bool HD.out.symm, Below.refl _ _⟩
    | true =>
      by_cases hb0 : be = 0
      · subst hb0
        have HDT := HDT0 rfl rfl rfl
        cases nz with
        | false =>
          have HD : Hid (deniesB m y z = false) := by show _ = _; rw [HD0.out]; rfl
          clear hs hy hz hm hrv hzb hbv HD0 hnz hd HDT0 hzl hn hlm
          go_enter Try.func37, Try.ntmps37
          go_wp2_with (first | (go_at_call 12; refine HRD.out.mono ?_; rintro e w1 ⟨rfl, rfl⟩) | (go_at_call 69; refine (HWI.out w (Below.refl _ _)).mono ?_; rintro e w2 ⟨rfl, rfl⟩) | (go_at_call 70; refine (HBK.out w (Below.refl _ _)).mono ?_; rintro e w3 ⟨hb3, ba, bc, rfl, hbs⟩; dsimp only at hbs ⊢; have HB3 : Hid (Below w.heap.size w w3) := hb3; have HBS := Lib.hid hbs; clear hb3 hbs) | (go_at_call 78; refine (HNZ.out w3 ba bc HBS.out).mono ?_; rintro e w4 ⟨rfl, rfl⟩))
          go_ret
          exact ⟨ret_bool HD.out.symm, HB3.out⟩
        | true =>
          obtain ⟨q, hq⟩ : ∃ q, decide (d ≠ 0) = q := ⟨_, rfl⟩
          have HD : Hid (deniesB m y z = q) := by show _ = _; rw [HD0.out, ← hq]; simp
          have y1 : (d != 0) = q := by rw [← hq]; by_cases e : d = 0 <;> simp [e]
          clear hs hy hz hm hrv hzb hbv HD0 hnz hd HDT0 hzl hn hlm hq
          go_enter Try.func37, Try.ntmps37
          go_wp2_with (first | (go_at_call 12; refine HRD.out.mono ?_; rintro e w1 ⟨rfl, rfl⟩) | (go_at_call 69; refine (HWI.out w (Below.refl _ _)).mono ?_; rintro e w2 ⟨rfl, rfl⟩) | (go_at_call 70; refine (HBK.out w (Below.refl _ _)).mono ?_; rintro e w3 ⟨hb3, ba, bc, rfl, hbs⟩; dsimp only at hbs ⊢; have HB3 : Hid (Below w.heap.size w w3) := hb3; have HBS := Lib.hid hbs; clear hb3 hbs) | (go_at_call 78; refine (HNZ.out w3 ba bc HBS.out).mono ?_; rintro e w4 ⟨rfl, rfl⟩) | (go_at_call 79; refine (HDT.out w3 HB3.out).mono ?_; rintro e w5 ⟨rfl, nd, rfl⟩))
          go_ret
          exact ⟨ret_bool HD.out.symm, below_drewN HB3.out nd⟩
      · have HD : Hid (deniesB m y z = false) := by show _ = _; rw [HD0.out, decide_eq_false hb0]; rfl
        have y0 : (be == 0) = false := by simpa using hb0
        clear hs hy hz hm hrv hzb hbv HD0 hnz hd HDT0 hzl hn hlm
        go_enter Try.func37, Try.ntmps37
        go_wp2_with (first | (go_at_call 12; refine HRD.out.mono ?_; rintro e w1 ⟨rfl, rfl⟩) | (go_at_call 69; refine (HWI.out w (Below.refl _ _)).mono ?_; rintro e w2 ⟨rfl, rfl⟩) | (go_at_call 70; refine (HBK.out w (Below.refl _ _)).mono ?_; rintro e w3 ⟨hb3, ba, bc, rfl, hbs⟩; dsimp only at hbs ⊢; have HB3 : Hid (Below w.heap.size w w3) := hb3; have HBS := Lib.hid hbs; clear hb3 hbs))
        go_ret
        exact ⟨ret_bool HD.out.symm, HB3.out⟩
end Go.Proofs.Yteoimibefpidoaa
/- Makes of the program: a contract. -/
namespace Go.Proofs.Yteoimibefpidoaa
open Go.RowKit

/-- What Makes answers. -/
def makesB (m : List (List Int)) (ps : List (Int × Int)) (y : List Int) : Bool :=
  decide (readE m y = 0) && decide (ps.length = colsM m) && (ps.all fun p => validR p.1 p.2) && (List.range m.length).all fun i => upB (rowL m i) ps (gt y i)
theorem validR_bd {n d : Int} (h : validR n d = true) : I64' d ∧ -10000000000 ≤ n ∧ n ≤ 10000000000 ∧ 1 ≤ d ∧ d ≤ 400 := by
  unfold validR at h
  simp only [Bool.and_eq_true, decide_eq_true_eq] at h
  unfold I64'; omega
set_option maxRecDepth 1000000 in
set_option maxHeartbeats 3200000 in
theorem lmakes_any (ma : Option Addr) (m : List (List Int)) (mc : Nat) (xa : Option Addr) (ps : List (Int × Int)) (xc : Nat) (ya : Option Addr) (y : List Int) (yc : Nat) (w : World) (hm : MOk m) (hly : y.length ≤ 9223372036854775807) (hlx : ps.length ≤ 9223372036854775807) (hs : Ms w ma m) (hx : Rr w xa ps) (hy : Sl w ya y) :
    Calls Try.prog 13 #[.slice ma m.length mc, .slice xa ps.length xc, .slice ya y.length yc] w fun e w' => e = .returned (.bool (makesB m ps y)) ∧ Below w.heap.size w w' := by
  have HS := Lib.hid hs
  have HX := Lib.hid hx
  have HY := Lib.hid hy
  obtain ⟨rv, hrv⟩ : ∃ rv, decide (readE m y = 0) = rv := ⟨_, rfl⟩
  have HRD : Hid (Calls Try.prog 11 #[.slice ma m.length mc, .slice ya y.length yc] w fun e w' => e = .returned (.bool rv) ∧ Below w.heap.size w w') := by rw [← hrv]; exact lreading_any ma m mc ya y yc w hm hly hs hy
  have HD0 : Hid (makesB m ps y = (rv && decide (ps.length = colsM m) && (ps.all fun p => validR p.1 p.2) && (List.range m.length).all fun i => upB (rowL m i) ps (gt y i))) := by show _ = _; unfold makesB; rw [hrv]
  cases rv with
  | false =>
    have HD : Hid (makesB m ps y = false) := by show _ = _; rw [HD0.out]; rfl
    clear hs hx hy hm hrv HD0
    go_enter Try.func13, Try.ntmps13
    go_wp2_with (go_at_call 11; refine HRD.out.mono ?_; rintro e w1 ⟨rfl, hb1⟩; have HB1 := Lib.hid hb1; clear hb1)
    go_ret
    exact ⟨ret_bool HD.out.symm, HB1.out⟩
  | true =>
    obtain ⟨hv, hyl, hyb⟩ := readE_ok (of_decide_eq_true hrv)
    obtain ⟨hm1, hm6, hc1, hc10, hrows⟩ := validM_of hv
    obtain ⟨bm, om, ai, ci, rfl, hcell, _⟩ := hs 0 hm1
    obtain ⟨c, hc⟩ : ∃ c, colsM m = c := ⟨_, rfl⟩
    have hl0 : (m[0]?.getD []).length = c := by rw [← hc]; rfl
    rw [hl0, Nat.add_zero] at hcell
    have HM0 : Hid (∀ W, Below w.heap.size w W → W.cell? ⟨bm, om, none⟩ = some (.slice ai c ci)) := fun W hW => (hW.cell (p := ⟨bm, om, none⟩) (cell_lt hcell)).trans hcell
    rw [hc] at hc10 hc1 HD0 hrows
    have HROW : Hid (∀ i, i < m.length → (rowL m i).length = c ∧ ∀ k, k < (rowL m i).length → -1 ≤ gt (rowL m i) k ∧ gt (rowL m i) k ≤ 1) := fun i hi => by
      have h := hrows _ (rowL_mem hi)
      exact ⟨h.1, fun k hk => gt_in h.2 hk⟩
    have HYB : Hid (∀ i, i < m.length → I64' (gt y i)) := fun i hi => by
      have := gt_in hyb (k := i) (by omega)
      unfold I64'; omega
    have HMN := Lib.hid (show m.length = y.length from hyl.symm)
    obtain ⟨n, hn⟩ : ∃ n, m.length = n := ⟨_, rfl⟩
    have HNL := Lib.hid hn
    obtain ⟨L, hL⟩ : ∃ L, ps.length = L := ⟨_, rfl⟩
    have HLL := Lib.hid hL
    rw [hn] at HRD hm1 hm6 HD0 HROW HYB HMN ⊢
    rw [hL] at HD0 hlx ⊢
    have hn0 : (0 : Int) < (n : Int) := by omega
    have h100 : n ≤ 100 := by omega
    by_cases hlc : L = c
    case neg =>
      have HD : Hid (makesB m ps y = false) := by show _ = _; rw [HD0.out, decide_eq_false hlc]; rfl
      have q1 : ¬ ((L : Int) = (c : Int)) := by omega
      have q2 : ((L : Int) != (c : Int)) = true := by simpa using q1
      clear hs hx hy hm hrv HD0 hv hyl hyb hrows hcell hl0 hc hlc hn hL
      go_enter Try.func13, Try.ntmps13
      go_wp2_with (go_at_call 11; refine HRD.out.mono ?_; rintro e w1 ⟨rfl, hb1⟩; have HB1 := Lib.hid hb1; have k0 := HM0.out w1 hb1; clear hb1)
      go_ret
      exact ⟨ret_bool HD.out.symm, HB1.out⟩
    case pos =>
      subst hlc
      clear hs hx hy hm hrv hv hyl hyb hrows hcell hl0 hc hn hL
      go_enter Try.func13, Try.ntmps13
      go_wp2_with (go_at_call 11; refine HRD.out.mono ?_; rintro e w1 ⟨rfl, hb1⟩; have HB1 := Lib.hid hb1; have k0 := HM0.out w1 hb1; clear hb1)
      clear k0
      go_loopw [26] (fun i wr => ∃ k : Nat, k ≤ L ∧ i = .int .i64 k ∧ (∀ t p, t < k → ps[t]? = some p → validR p.1 p.2 = true) ∧ Below w.heap.size w wr) (fun i _ => L - (intOf i).toNat)
      case atStart => exact ⟨0, Nat.zero_le _, rfl, fun t p h => by omega, HB1.out⟩
      case round =>
        obtain ⟨k, hk, rfl, hok, hb⟩ := hrel
        have HOK := Lib.hid hok; clear hok
        have HB := Lib.hid hb; clear hb
        by_cases hlt : k < L
        · obtain ⟨⟨p1, p2⟩, hp⟩ : ∃ p, ps[k]? = some p := ⟨ps[k]'(by rw [HLL.out]; exact hlt), by simp [HLL.out, hlt]⟩
          have HPK := Lib.hid hp
          obtain ⟨xb, xo, rfl, x0, x1⟩ := (HX.out.below HB.out) k _ hp
          dsimp only at x0 x1
          obtain ⟨vb, hvb⟩ : ∃ vb, validR p1 p2 = vb := ⟨_, rfl⟩
          have HVR : Hid (∀ W, Calls Try.prog 43 #[.agg #[.int .i64 p1, .int .i64 p2]] W fun e w' => e = .returned (.bool vb) ∧ Below W.heap.size W w') := fun W => by rw [← hvb]; exact validR_any p1 p2 W
          have HVB := Lib.hid hvb
          have hk0 : (k : Int) < (L : Int) := by omega
          clear hp hvb
          cases vb with
          | false =>
            have HD : Hid (makesB m ps y = false) := by
              show _ = _
              rw [HD0.out]
              have e : (ps.all fun p => validR p.1 p.2) = false := by
                rw [List.all_eq_false]
                exact ⟨(p1, p2), List.mem_of_getElem? HPK.out, by rw [HVB.out]; decide⟩
              rw [e, Bool.and_false]; rfl
            go_wp2_with (go_at_call 43; refine (HVR.out _).mono ?_; rintro e w2 ⟨rfl, hb2⟩)
            go_ret
            exact ⟨ret_bool HD.out.symm, (HB.out.alloc HB.out.size _).trans (hb2.mono (by rw [World.size_alloc]; have := HB.out.size; omega))⟩
          | true =>
            go_wp2_with (go_at_call 43; refine (HVR.out _).mono ?_; rintro e w2 ⟨rfl, hb2⟩)
            go_roundw
            case rel => exact ⟨k + 1, by omega, by go_num, fun t p ht hp => by
              by_cases e : t = k
              · subst e
                rw [HPK.out] at hp
                obtain rfl := Option.some.inj hp
                exact HVB.out
              · exact HOK.out t p (by omega) hp, (HB.out.alloc HB.out.size _).trans (hb2.mono (by rw [World.size_alloc]; have := HB.out.size; omega))⟩
            case measure => simp [intOf]; omega
        · obtain rfl : k = L := by omega
          have HALL : Hid ((ps.all fun p => validR p.1 p.2) = true) := by
            show _ = _
            rw [List.all_eq_true]
            intro p hp
            obtain ⟨t, ht, rfl⟩ := List.mem_iff_getElem.1 hp
            exact HOK.out t _ (by rw [HLL.out] at ht; exact ht) (by simp [ht])
          have HBD : Hid (∀ (t : Nat) (p : Int × Int), ps[t]? = some p → I64' p.2 ∧ -10000000000 ≤ p.1 ∧ p.1 ≤ 10000000000) := fun t p hp => by
            have h := HALL.out
            rw [List.all_eq_true] at h
            have := validR_bd (h p (List.mem_of_getElem? hp))
            exact ⟨this.1, this.2.1, this.2.2.1⟩
          have HB0 := HB
          go_wp2
          go_loopw [36] (fun i wr => ∃ j : Nat, j ≤ n ∧ i = .int .i64 j ∧ (∀ t, t < j → upB (rowL m t) ps (gt y t) = true) ∧ Below w.heap.size w wr) (fun i _ => n - (intOf i).toNat)
          case atStart => exact ⟨0, Nat.zero_le _, rfl, fun t h => by omega, HB0.out⟩
          case round =>
            clear HB0 HB
            obtain ⟨j, hj, rfl, hok, hb⟩ := hrel
            have HOJ := Lib.hid hok; clear hok
            have HB := Lib.hid hb; clear hb
            by_cases hlt : j < n
            · obtain ⟨rb, ro, ri, rci, hrb, hcr0, hsr0⟩ := (HS.out.below HB.out) j (by rw [HNL.out]; exact hlt)
              cases hrb
              obtain ⟨h1, h2⟩ := HROW.out j hlt
              have hcr : wr.cell? ⟨bm, om + j, none⟩ = some (.slice ri k rci) := by rw [← h1]; exact hcr0
              have HSR : Hid (Sl wr ri (rowL m j)) := hsr0
              obtain ⟨yb, yo, u, rfl, hcu, hu⟩ := (HY.out.below HB.out).at (k := j) (by rw [← HMN.out]; exact hlt)
              have hgu := gt_some' hu.out
              have hy64 := HYB.out j hlt
              rw [hgu] at hy64
              obtain ⟨ub, hub⟩ : ∃ ub, upB (rowL m j) ps u = ub := ⟨_, rfl⟩
              have HAU : Hid (∀ W, Below wr.heap.size wr W → Calls Try.prog 44 #[.slice ri k rci, .slice xa k xc, .int .i64 u] W fun e w' => e = .returned (.bool ub) ∧ Below W.heap.size W w') := fun W hb => by
                have h := addUp_any ri (rowL m j) rci xa ps xc u W (by rw [h1]; exact HLL.out) (by rw [h1]; omega) (HSR.out.below hb) (HX.out.below (HB.out.trans (hb.mono HB.out.size))) h2 HBD.out hy64
                rw [h1, HLL.out, hub] at h
                exact h
              have HUBE : Hid (upB (rowL m j) ps (gt y j) = ub) := by show _ = _; rw [hgu]; exact hub
              have hj0 : (j : Int) < (n : Int) := by omega
              have hj1 : (j : Int) < (y.length : Int) := by rw [← HMN.out]; exact hj0
              clear hcr0 hsr0 hu hgu hub hy64 h1 h2
              cases ub with
              | false =>
                have HD : Hid (makesB m ps y = false) := by
                  show _ = _
                  rw [HD0.out, Bool.and_eq_false_iff]
                  right
                  rw [List.all_eq_false]
                  exact ⟨j, List.mem_range.2 hlt, by rw [HUBE.out]; decide⟩
                go_wp2_with (go_at_call 44; refine (HAU.out _ (Below.refl _ _)).mono ?_; rintro e w2 ⟨rfl, hb2⟩)
                go_ret
                exact ⟨ret_bool HD.out.symm, HB.out.trans (hb2.mono HB.out.size)⟩
              | true =>
                go_wp2_with (go_at_call 44; refine (HAU.out _ (Below.refl _ _)).mono ?_; rintro e w2 ⟨rfl, hb2⟩)
                go_roundw
                case rel => exact ⟨j + 1, by omega, by go_num, fun t ht => by
                  by_cases e : t = j
                  · rw [e]; exact HUBE.out
                  · exact HOJ.out t (by omega), HB.out.trans (hb2.mono HB.out.size)⟩
                case measure => simp [intOf]; omega
            · obtain rfl : j = n := by omega
              have HD : Hid (makesB m ps y = true) := by
                show _ = _
                rw [HD0.out, HALL.out]
                have e : ((List.range j).all fun i => upB (rowL m i) ps (gt y i)) = true := by
                  rw [List.all_eq_true]
                  intro t ht
                  exact HOJ.out t (List.mem_range.1 ht)
                rw [e]; simp
              go_wp2
              go_ret
              exact ⟨ret_bool HD.out.symm, HB.out⟩
end Go.Proofs.Yteoimibefpidoaa
/- What denies a reading: nothing makes it. Plain words. Speaks of no program. -/
namespace Go.Proofs.Yteoimibefpidoaa
open Go.RowKit

theorem left_zero {m : List (List Int)} {z : List Int} (h0 : ∀ c, c < colsM m → dot (colM m c) z = 0) (w : Nat → Int) : sumTo (fun k => gt z k * sumTo (fun c => gt (rowL m k) c * w c) (colsM m)) m.length = 0 := by
  rw [sumTo_congr m.length fun k _ => (sumTo_mul (gt z k) _ (colsM m)).symm, sumTo_swap]
  refine sumZ _ fun c hc => ?_
  have e4 : sumTo (fun k => gt z k * (gt (rowL m k) c * w c)) m.length = w c * dot (colM m c) z := by
    unfold dot
    rw [colM_length, ← sumTo_mul]
    refine sumTo_congr _ fun k hk => ?_
    rw [gt_colM hk]
    show _ = w c * (gt (rowL m k) c * _)
    grind
  rw [e4, h0 c hc, Int.mul_zero]
def upD (ps : List (Int × Int)) : Nat → Int
  | 0 => 1
  | k + 1 => upD ps k * (ps[k]?.getD (0, 1)).2
theorem upN_snd (row : List Int) (ps : List (Int × Int)) : ∀ k, (upN row ps k).2 = upD ps k
  | 0 => rfl
  | k + 1 => by
    show (upN row ps k).2 * (ps[k]?.getD (0, 1)).2 = upD ps k * (ps[k]?.getD (0, 1)).2
    rw [upN_snd row ps k]
def bN : Nat → Nat
  | 0 => 1
  | k + 1 => bN k * 400
def tN : Nat → Nat
  | 0 => 0
  | k + 1 => tN k * 400 + bN k
theorem bt_all : ∀ k, k < 11 → 10000000000 * tN k < 170141183460469231731687303715884105728 ∧ 1000000 * bN k < 170141183460469231731687303715884105728 := by decide
theorem upD_bd {ps : List (Int × Int)} (hv : ∀ p ∈ ps, validR p.1 p.2 = true) : ∀ k, k ≤ ps.length → 1 ≤ upD ps k ∧ upD ps k ≤ (bN k : Int)
  | 0, _ => by unfold upD bN; omega
  | k + 1, hk => by
    obtain ⟨i1, i2⟩ := upD_bd hv k (by omega)
    obtain ⟨p, hp⟩ : ∃ p, ps[k]? = some p := ⟨ps[k]'(by omega), by simp⟩
    obtain ⟨_, _, _, d1, d2⟩ := validR_bd (hv p (List.mem_of_getElem? hp))
    unfold upD bN
    rw [hp]
    show 1 ≤ upD ps k * p.2 ∧ upD ps k * p.2 ≤ ((bN k * 400 : Nat) : Int)
    have h1 : 1 * 1 ≤ upD ps k * p.2 := Int.mul_le_mul i1 d1 (by omega) (by omega)
    have h2 : upD ps k * p.2 ≤ (bN k : Int) * 400 := Int.mul_le_mul i2 d2 (by omega) (by omega)
    omega
theorem upN_bd {row : List Int} {ps : List (Int × Int)} (hv : ∀ p ∈ ps, validR p.1 p.2 = true) (hr : ∀ k, k < ps.length → -1 ≤ gt row k ∧ gt row k ≤ 1) : ∀ k, k ≤ ps.length → -(10000000000 * (tN k : Int)) ≤ (upN row ps k).1 ∧ (upN row ps k).1 ≤ 10000000000 * (tN k : Int)
  | 0, _ => by show -(10000000000 * ((tN 0 : Nat) : Int)) ≤ 0 ∧ (0 : Int) ≤ 10000000000 * ((tN 0 : Nat) : Int); unfold tN; omega
  | k + 1, hk => by
    have ih := upN_bd hv hr k (by omega)
    obtain ⟨i1, i2⟩ := upD_bd hv k (by omega)
    obtain ⟨p, hp⟩ : ∃ p, ps[k]? = some p := ⟨ps[k]'(by omega), by simp⟩
    obtain ⟨_, n1, n2, d1, d2⟩ := validR_bd (hv p (List.mem_of_getElem? hp))
    have hu := mul_le (hr k (by omega)) (show -10000000000 ≤ p.1 ∧ p.1 ≤ 10000000000 from ⟨n1, n2⟩)
    have h1 := mul_le ih (show -400 ≤ p.2 ∧ p.2 ≤ 400 by omega)
    have h2 := mul_le (show -(bN k : Int) ≤ upD ps k ∧ upD ps k ≤ (bN k : Int) by omega) hu
    have e : (upN row ps (k + 1)).1 = (upN row ps k).1 * p.2 + upD ps k * (gt row k * p.1) := by
      show (upN row ps k).1 * (ps[k]?.getD (0, 1)).2 + (upN row ps k).2 * (gt row k * (ps[k]?.getD (0, 1)).1) = _
      rw [hp, upN_snd]; rfl
    have et : ((tN (k + 1) : Nat) : Int) = (tN k : Int) * 400 + bN k := by show ((tN k * 400 + bN k : Nat) : Int) = _; omega
    rw [e, et]
    omega
theorem wide_inj {a b : Int} (ha : -170141183460469231731687303715884105728 < a ∧ a < 170141183460469231731687303715884105728) (hb : -170141183460469231731687303715884105728 < b ∧ b < 170141183460469231731687303715884105728) (h : wideEq a b = true) : a = b := by
  unfold wideEq at h
  simp only [Bool.and_eq_true, decide_eq_true_eq] at h
  obtain ⟨h1, h2⟩ := h
  unfold hi64 at h1
  unfold lo64 at h2
  omega
/-- What is denied is not possible, and no picture makes it. -/
theorem denies_no {m : List (List Int)} {y z : List Int} (h : deniesB m y z = true) : possV m y = (false, 0) ∧ ∀ ps, makesB m ps y = false := by
  unfold deniesB at h
  simp only [Bool.and_eq_true, decide_eq_true_eq] at h
  obtain ⟨⟨⟨⟨hr, hza⟩, hb0⟩, hbz⟩, hd⟩ := h
  obtain ⟨hv, hyl, hyb⟩ := readE_ok hr
  obtain ⟨hm1, hm6, hc1, hc10, hrows⟩ := validM_of hv
  obtain ⟨_, hzl, _, hbe⟩ := backV_0 hb0
  rw [hbe] at hbz
  have h0 : ∀ c, c < colsM m → dot (colM m c) z = 0 := fun c hc => by
    rw [← gt_backL hc]
    exact allZ_gt hbz (by rw [backL_length]; exact hc)
  constructor
  · rw [possV_of hr]
    cases hp : possB (redO m y).rows (redO m y).piv.length (colsM m) with
    | false => rfl
    | true =>
      exfalso
      have hm := solW_makes hv hyl hyb hp
      have e2 := left_zero h0 (solW m y)
      have e1 : sumTo (fun k => gt z k * sumTo (fun c => gt (rowL m k) c * solW m y c) (colsM m)) m.length = (redO m y).dv * dot z y := by
        unfold dot
        rw [hzl, ← sumTo_mul]
        refine sumTo_congr _ fun k hk => ?_
        rw [hm k hk]; grind
      rw [e2] at e1
      have hpos := (redO_fin hv hyl hyb).pos
      rcases Int.mul_eq_zero.mp e1.symm with e | e
      · omega
      · exact hd e
  · intro ps
    cases hmk : makesB m ps y with
    | false => rfl
    | true =>
      exfalso
      unfold makesB at hmk
      simp only [Bool.and_eq_true, decide_eq_true_eq, List.all_eq_true] at hmk
      obtain ⟨⟨⟨_, hpl⟩, hpv⟩, hup⟩ := hmk
      have hk11 := bt_all ps.length (by omega)
      have hdb := upD_bd hpv ps.length (Nat.le_refl _)
      have heq : ∀ i, i < m.length → (upN (rowL m i) ps ps.length).1 = upD ps ps.length * gt y i := fun i hi => by
        have hu := hup i (List.mem_range.2 hi)
        unfold upB at hu
        rw [upN_snd] at hu
        have hrow := hrows _ (rowL_mem hi)
        have hnb := upN_bd (row := rowL m i) hpv (fun k hk => gt_in hrow.2 (by omega)) ps.length (Nat.le_refl _)
        have hyi := gt_in hyb (k := i) (by omega)
        have hdy := mul_le (show -(bN ps.length : Int) ≤ upD ps ps.length ∧ upD ps ps.length ≤ (bN ps.length : Int) by omega) hyi
        exact wide_inj (by omega) (by omega) hu
      have hS : ∀ k, k ≤ ps.length → sumTo (fun i => gt z i * (upN (rowL m i) ps k).1) m.length = 0 := by
        intro k
        induction k with
        | zero => intro _; exact sumZ _ fun i _ => by show gt z i * 0 = 0; omega
        | succ k ih =>
          intro hk
          have ih := ih (by omega)
          have e : sumTo (fun i => gt z i * (upN (rowL m i) ps (k + 1)).1) m.length = (ps[k]?.getD (0, 1)).2 * sumTo (fun i => gt z i * (upN (rowL m i) ps k).1) m.length + (upD ps k * (ps[k]?.getD (0, 1)).1) * dot (colM m k) z := by
            unfold dot
            rw [colM_length, ← sumTo_mul, ← sumTo_mul, ← sumTo_add]
            refine sumTo_congr _ fun i hi => ?_
            rw [gt_colM hi]
            show gt z i * ((upN (rowL m i) ps k).1 * (ps[k]?.getD (0, 1)).2 + (upN (rowL m i) ps k).2 * (gt (rowL m i) k * (ps[k]?.getD (0, 1)).1)) = _ + _ * (gt (rowL m i) k * gt z i)
            rw [upN_snd]
            generalize (upN (rowL m i) ps k).1 = a
            grind
          rw [e, ih, h0 k (by omega)]; omega
      have hS := hS ps.length (Nat.le_refl _)
      have e1 : sumTo (fun i => gt z i * (upN (rowL m i) ps ps.length).1) m.length = upD ps ps.length * dot z y := by
        unfold dot
        rw [hzl, ← sumTo_mul]
        refine sumTo_congr _ fun k hk => ?_
        rw [heq k hk]; grind
      rw [hS] at e1
      rcases Int.mul_eq_zero.mp e1.symm with e | e
      · omega
      · exact hd e
end Go.Proofs.Yteoimibefpidoaa
/- Any of the program: a contract. -/
namespace Go.Proofs.Yteoimibefpidoaa
open Go.RowKit

set_option maxRecDepth 1000000 in
set_option maxHeartbeats 3200000 in
theorem lany_any (ma : Option Addr) (m : List (List Int)) (mc : Nat) (ya : Option Addr) (y : List Int) (yc : Nat) (w : World) (hm : MOk m) (hly : y.length ≤ 9223372036854775807) (hs : Ms w ma m) (hy : Sl w ya y) :
    Calls Try.prog 33 #[.slice ma m.length mc, .slice ya y.length yc] w (RLPost (anyV m y) w) := by
  obtain ⟨rv, hrv⟩ : ∃ rv, readE m y = rv := ⟨_, rfl⟩
  have HRE : Hid (Calls Try.prog 41 #[.slice ma m.length mc, .slice ya y.length yc] w fun e w' => e = .returned (.int .i64 rv) ∧ Below w.heap.size w w') := by rw [← hrv]; exact lread_any ma m mc ya y yc w hm hly hs hy
  by_cases hr0 : rv = 0
  · subst hr0
    obtain ⟨hv, hyl, hyb⟩ := readE_ok hrv
    obtain ⟨px, hpx⟩ : ∃ px, upTo (colsM m) = px := ⟨_, rfl⟩
    · have h1 : ∀ j ∈ px, 0 ≤ j ∧ j < (colsM m : Int) := fun j hj => by rw [← hpx] at hj; exact upTo_in hj
      have h2 : px.length ≤ 10 := by rw [← hpx, upTo_len]; exact (validM_of hv).2.2.2.1
      obtain ⟨hm1, hm6, hc1, hc10, hrows⟩ := validM_of hv
      have h64 : Hid (All64 m) := fun q hq x hx => by
        obtain ⟨c, hc, rfl⟩ := mem_gt.1 hx
        have := gt_in (hrows q hq).2 hc
        unfold In64; omega
      have hy64 : ∀ x ∈ y, In64 x := fun x hx => by
        obtain ⟨c, hc, rfl⟩ := mem_gt.1 hx
        have := gt_in hyb hc
        unfold In64; omega
      have HF := Lib.hid (redB_fin hv h1 hyl hyb)
      have hco := redB_cols m px (oneB y)
      obtain ⟨rd, hrd⟩ : ∃ rd, redB m px (oneB y) = rd := ⟨_, rfl⟩
      have HRD : Hid (∀ W, Below w.heap.size w W → Calls Try.prog 57 #[.slice ma m.length mc, .func (.func 107) #[] #[.pointer (some ⟨W.heap.size, 0, none⟩)]] (W.alloc (.cells #[.slice ya y.length yc] 25)) (RdPost rd (W.alloc (.cells #[.slice ya y.length yc] 25)))) := fun W hb => by
        have hb2 : Below w.heap.size w (W.alloc (.cells #[.slice ya y.length yc] 25)) := hb.alloc hb.size _
        rw [← hrd, ← hpx]
        exact reduceAll_anyOne (Lib.hid (one_beh (Nat.le_of_eq hyl.symm) (by omega) (alloc_cell _ _ _ _ _ rfl) (hy.below hb2))) ⟨Nat.le_refl _, by decide⟩ (Lib.hid (oneB_ok hy64)) (Lib.hid hm6) (Lib.hid hm1) (Lib.hid ⟨hc1, hc10⟩) (Lib.hid fun r hr => (hrows r hr).1) h64 (Lib.hid (hs.below hb2))
      have HSV : Hid (anyV m y = if possB rd.rows rd.piv.length px.length = true then (solL px.length rd.rows rd.piv rd.dv rd.piv.length, 0) else ([], 10)) := by show _ = _; unfold anyV; rw [if_pos hrv, hpx, hrd]
      rw [hrd] at HF hco
      obtain ⟨pl, hpl⟩ : ∃ pl, px.length = pl := ⟨_, rfl⟩
      rw [hpl] at HF hco HSV h2
      obtain ⟨cols, rows, piv, dv⟩ := rd
      dsimp only at hco HSV
      subst hco
      have hlen := HF.out.len
      have hrow := HF.out.row
      have hplr := HF.out.pl
      dsimp only at hlen hrow hplr
      have hpos := HF.out.pos
      dsimp only at hpos
      have hmid : ∀ t, t < piv.length → Mid (gt (rowL rows t) cols) := fun t ht => by
        have := HF.out.bdN t (by omega) cols (by omega)
        dsimp only at this
        unfold Mid; omega
      have hpz : ∀ t, t < piv.length → 0 ≤ gt piv t ∧ gt piv t < cols := fun t ht => HF.out.pz t ht
      obtain ⟨z, hz⟩ : ∃ z, possB rows piv.length cols = z := ⟨_, rfl⟩
      rw [hz] at HSV
      have HPO : Hid (∀ (g cp : Nat) (ads : List (Nat × Nat)) (pa : Option Addr) (pc base : Nat) (W : World), SI W base g ads rows → Calls Try.prog 63 #[.agg #[.int .i64 (cols : Int), .slice (some ⟨g, 0, none⟩) rows.length cp, .slice pa piv.length pc, .int .i64 dv]] W fun e w' => e = .returned (.bool z) ∧ Below W.heap.size W w') := fun g cp ads pa pc base W h => by rw [← hz]; exact possible_any cols g cp (cols + 1) ads rows pa piv.length pc piv dv base W rfl (by omega) (by omega) hrow (by omega) (by omega) h
      have HSO : Hid (∀ (g cp : Nat) (ads : List (Nat × Nat)) (pa : Option Addr) (pc base : Nat) (W : World), SI W base g ads rows → Sl W pa piv → Calls Try.prog 73 #[.agg #[.int .i64 (cols : Int), .slice (some ⟨g, 0, none⟩) rows.length cp, .slice pa piv.length pc, .int .i64 dv]] W fun e w' => ∃ b c, e = .returned (.slice (some ⟨b, 0, none⟩) cols c) ∧ OwnR w' W.heap.size (.slice (some ⟨b, 0, none⟩) cols c) (solL cols rows piv dv piv.length) ∧ Below W.heap.size W w') := fun g cp ads pa pc base W h h2 => solved_any cols g cp (cols + 1) ads rows pa piv pc dv base W (by omega) (by omega) hrow (by omega) (by omega) h h2 hpz hmid (by unfold Mid; omega) (by omega)
      clear hv hs hm h1 hrd hrows h64 hm1 hm6 hc1 hc10 hrv hyl hyb hy64 hy hpl hpx hlen hrow hplr hpos hmid hpz hz HF
      have HLS := solL_len cols rows piv dv piv.length
      cases z with
      | false =>
        rw [HSV.out]
        clear HSV
        go_enter Try.func33, Try.ntmps33
        go_wp2_with (first | (go_at_call 41; refine HRE.out.mono ?_; rintro e w2 ⟨rfl, hb⟩; have HB2 := Lib.hid hb; clear hb) | (go_at_call 62; refine (oneOf_any ya y.length yc w2).mono ?_; rintro e w9 ⟨rfl, rfl⟩) | (go_at_call 57; refine (HRD.out w2 HB2.out).mono ?_; rintro e w3 ⟨hb3, g, cp, ads, pa2, pc2, rfl, hgg, si, pi⟩; unfold rdV; dsimp only at si pi ⊢; obtain ⟨W4, hW4⟩ : ∃ W4, w3.alloc (.cells #[.int .i64 (cols : Int), .slice (some ⟨g, 0, none⟩) rows.length cp, .slice pa2 piv.length pc2, .int .i64 dv] 76) = W4 := ⟨_, rfl⟩; have HCW : Hid (∀ W, Below W4.heap.size W4 W → W.cell? ⟨w3.heap.size, 0, none⟩ = some (.int .i64 (cols : Int)) ∧ W.cell? ⟨w3.heap.size, 1, none⟩ = some (.slice (some ⟨g, 0, none⟩) rows.length cp) ∧ W.cell? ⟨w3.heap.size, 2, none⟩ = some (.slice pa2 piv.length pc2) ∧ W.cell? ⟨w3.heap.size, 3, none⟩ = some (.int .i64 dv)) := box_cells hW4; obtain ⟨k0, k1, k2, k3⟩ := HCW.out W4 (Below.refl _ _); have HB4 : Hid (Below w3.heap.size w3 W4) := hW4 ▸ (Below.refl _ _).alloc (Nat.le_refl _) _; have HSI := Lib.hid si; have HPI := Lib.hid (OwnI.sl pi); have HB3 := Lib.hid hb3; have HSI4 := Lib.hid (HSI.out.below HB4.out); have HPI4 := Lib.hid (HPI.out.below HB4.out); have HBW4 : Hid (Below w.heap.size w W4) := (HB2.out.alloc HB2.out.size _).trans ((HB3.out.mono (by rw [World.size_alloc]; have := HB2.out.size; omega)).trans (HB4.out.mono (by have h1 := HB3.out.size; rw [World.size_alloc] at h1; have := HB2.out.size; omega))); clear si pi hgg hb3) | (go_at_call 63; refine (HPO.out _ _ _ _ _ _ _ HSI4.out).mono ?_; rintro e w5 ⟨rfl, hb5⟩; have HB5 := Lib.hid hb5; have HB6 := HB5; obtain ⟨j0, j1, j2, j3⟩ := HCW.out w5 hb5; clear hb5) | (go_at_call 73; refine (HSO.out _ _ _ _ _ _ _ (HSI4.out.below HB6.out) (HPI4.out.below HB6.out)).mono ?_; rintro e w7 ⟨sb, sc, rfl, ho7, hb7⟩; have HO7 := Lib.hid ho7; have HB7 : Hid (Below W4.heap.size W4 w7) := HB6.out.trans (hb7.mono HB6.out.size); clear ho7 hb7))
        go_ret2
        exact RLPost.err (HBW4.out.trans (HB5.out.mono HBW4.out.size))
      | true =>
          have HS2 : Hid (anyV m y = (solL cols rows piv dv piv.length, 0)) := by show _ = _; rw [HSV.out, if_pos rfl]
          rw [HS2.out]
          clear HSV
          go_enter Try.func33, Try.ntmps33
          go_wp2_with (first | (go_at_call 41; refine HRE.out.mono ?_; rintro e w2 ⟨rfl, hb⟩; have HB2 := Lib.hid hb; clear hb) | (go_at_call 62; refine (oneOf_any ya y.length yc w2).mono ?_; rintro e w9 ⟨rfl, rfl⟩) | (go_at_call 57; refine (HRD.out w2 HB2.out).mono ?_; rintro e w3 ⟨hb3, g, cp, ads, pa2, pc2, rfl, hgg, si, pi⟩; unfold rdV; dsimp only at si pi ⊢; obtain ⟨W4, hW4⟩ : ∃ W4, w3.alloc (.cells #[.int .i64 (cols : Int), .slice (some ⟨g, 0, none⟩) rows.length cp, .slice pa2 piv.length pc2, .int .i64 dv] 76) = W4 := ⟨_, rfl⟩; have HCW : Hid (∀ W, Below W4.heap.size W4 W → W.cell? ⟨w3.heap.size, 0, none⟩ = some (.int .i64 (cols : Int)) ∧ W.cell? ⟨w3.heap.size, 1, none⟩ = some (.slice (some ⟨g, 0, none⟩) rows.length cp) ∧ W.cell? ⟨w3.heap.size, 2, none⟩ = some (.slice pa2 piv.length pc2) ∧ W.cell? ⟨w3.heap.size, 3, none⟩ = some (.int .i64 dv)) := box_cells hW4; obtain ⟨k0, k1, k2, k3⟩ := HCW.out W4 (Below.refl _ _); have HB4 : Hid (Below w3.heap.size w3 W4) := hW4 ▸ (Below.refl _ _).alloc (Nat.le_refl _) _; have HSI := Lib.hid si; have HPI := Lib.hid (OwnI.sl pi); have HB3 := Lib.hid hb3; have HSI4 := Lib.hid (HSI.out.below HB4.out); have HPI4 := Lib.hid (HPI.out.below HB4.out); have HBW4 : Hid (Below w.heap.size w W4) := (HB2.out.alloc HB2.out.size _).trans ((HB3.out.mono (by rw [World.size_alloc]; have := HB2.out.size; omega)).trans (HB4.out.mono (by have h1 := HB3.out.size; rw [World.size_alloc] at h1; have := HB2.out.size; omega))); clear si pi hgg hb3) | (go_at_call 63; refine (HPO.out _ _ _ _ _ _ _ HSI4.out).mono ?_; rintro e w5 ⟨rfl, hb5⟩; have HB5 := Lib.hid hb5; have HB6 := HB5; obtain ⟨j0, j1, j2, j3⟩ := HCW.out w5 hb5; clear hb5) | (go_at_call 73; refine (HSO.out _ _ _ _ _ _ _ (HSI4.out.below HB6.out) (HPI4.out.below HB6.out)).mono ?_; rintro e w7 ⟨sb, sc, rfl, ho7, hb7⟩; have HO7 := Lib.hid ho7; have HB7 : Hid (Below W4.heap.size W4 w7) := HB6.out.trans (hb7.mono HB6.out.size); clear ho7 hb7))
          go_ret2
          refine ⟨HBW4.out.trans (HB7.out.mono HBW4.out.size), _, sc, by (rw [HLS]; rfl), OwnR.rl (cap := sc) (base := w5.heap.size) ?_⟩
          rw [HLS]; exact HO7.out
  · have y0 : (rv == 0) = false := by simpa using hr0
    have y1 : (rv != 0) = true := by simpa using hr0
    have HSV : Hid (anyV m y = ([], rv)) := by show _ = _; unfold anyV; rw [hrv, if_neg hr0]
    rw [HSV.out]
    clear hs hm hr0 hrv hy HSV
    go_enter Try.func33, Try.ntmps33
    go_wp2_with (go_at_call 41; refine HRE.out.mono ?_; rintro e w2 ⟨rfl, hb⟩; have HB2 := Lib.hid hb; clear hb)
    go_ret2
    exact RLPost.err HB2.out
end Go.Proofs.Yteoimibefpidoaa
/- Possible of the program: a contract. -/
namespace Go.Proofs.Yteoimibefpidoaa
open Go.RowKit

set_option maxRecDepth 1000000 in
set_option maxHeartbeats 3200000 in
theorem lpossible_any (ma : Option Addr) (m : List (List Int)) (mc : Nat) (ya : Option Addr) (y : List Int) (yc : Nat) (w : World) (hm : MOk m) (hly : y.length ≤ 9223372036854775807) (hs : Ms w ma m) (hy : Sl w ya y) :
    Calls Try.prog 31 #[.slice ma m.length mc, .slice ya y.length yc] w fun e w' => e = .returned (.tuple #[.bool (possV m y).1, .int .i64 (possV m y).2]) ∧ Below w.heap.size w w' := by
  obtain ⟨rv, hrv⟩ : ∃ rv, readE m y = rv := ⟨_, rfl⟩
  have HRE : Hid (Calls Try.prog 41 #[.slice ma m.length mc, .slice ya y.length yc] w fun e w' => e = .returned (.int .i64 rv) ∧ Below w.heap.size w w') := by rw [← hrv]; exact lread_any ma m mc ya y yc w hm hly hs hy
  by_cases hr0 : rv = 0
  · subst hr0
    obtain ⟨hv, hyl, hyb⟩ := readE_ok hrv
    obtain ⟨px, hpx⟩ : ∃ px, upTo (colsM m) = px := ⟨_, rfl⟩
    have h1 : ∀ j ∈ px, 0 ≤ j ∧ j < (colsM m : Int) := fun j hj => by rw [← hpx] at hj; exact upTo_in hj
    have h2 : px.length ≤ 10 := by rw [← hpx, upTo_len]; exact (validM_of hv).2.2.2.1
    obtain ⟨hm1, hm6, hc1, hc10, hrows⟩ := validM_of hv
    have h64 : Hid (All64 m) := fun q hq x hx => by
      obtain ⟨c, hc, rfl⟩ := mem_gt.1 hx
      have := gt_in (hrows q hq).2 hc
      unfold In64; omega
    have hy64 : ∀ x ∈ y, In64 x := fun x hx => by
      obtain ⟨c, hc, rfl⟩ := mem_gt.1 hx
      have := gt_in hyb hc
      unfold In64; omega
    have HF := Lib.hid (redB_fin hv h1 hyl hyb)
    have hco := redB_cols m px (oneB y)
    obtain ⟨rd, hrd⟩ : ∃ rd, redB m px (oneB y) = rd := ⟨_, rfl⟩
    have HRD : Hid (∀ W, Below w.heap.size w W → Calls Try.prog 57 #[.slice ma m.length mc, .func (.func 107) #[] #[.pointer (some ⟨W.heap.size, 0, none⟩)]] (W.alloc (.cells #[.slice ya y.length yc] 25)) (RdPost rd (W.alloc (.cells #[.slice ya y.length yc] 25)))) := fun W hb => by
      have hb2 : Below w.heap.size w (W.alloc (.cells #[.slice ya y.length yc] 25)) := hb.alloc hb.size _
      rw [← hrd, ← hpx]
      exact reduceAll_anyOne (Lib.hid (one_beh (Nat.le_of_eq hyl.symm) (by omega) (alloc_cell _ _ _ _ _ rfl) (hy.below hb2))) ⟨Nat.le_refl _, by decide⟩ (Lib.hid (oneB_ok hy64)) (Lib.hid hm6) (Lib.hid hm1) (Lib.hid ⟨hc1, hc10⟩) (Lib.hid fun r hr => (hrows r hr).1) h64 (Lib.hid (hs.below hb2))
    have HSV : Hid (possV m y = (possB rd.rows rd.piv.length px.length, 0)) := by
      show _ = _
      have e : anyV m y = if possB rd.rows rd.piv.length px.length = true then (solL px.length rd.rows rd.piv rd.dv rd.piv.length, 0) else ([], 10) := by unfold anyV; rw [if_pos hrv, hpx, hrd]
      unfold possV
      rw [e]
      cases possB rd.rows rd.piv.length px.length <;> rfl
    rw [HSV.out]
    rw [hrd] at HF hco
    obtain ⟨pl, hpl⟩ : ∃ pl, px.length = pl := ⟨_, rfl⟩
    rw [hpl] at HF hco h2 ⊢
    obtain ⟨cols, rows, piv, dv⟩ := rd
    dsimp only at hco ⊢
    subst hco
    have hlen := HF.out.len
    have hrow := HF.out.row
    have hplr := HF.out.pl
    dsimp only at hlen hrow hplr
    obtain ⟨z, hz⟩ : ∃ z, possB rows piv.length cols = z := ⟨_, rfl⟩
    have HPO : Hid (∀ (g cp : Nat) (ads : List (Nat × Nat)) (pa : Option Addr) (pc base : Nat) (W : World), SI W base g ads rows → Calls Try.prog 63 #[.agg #[.int .i64 (cols : Int), .slice (some ⟨g, 0, none⟩) rows.length cp, .slice pa piv.length pc, .int .i64 dv]] W fun e w' => e = .returned (.bool z) ∧ Below W.heap.size W w') := fun g cp ads pa pc base W h => by rw [← hz]; exact possible_any cols g cp (cols + 1) ads rows pa piv.length pc piv dv base W rfl (by omega) (by omega) hrow (by omega) (by omega) h
    rw [hz]
    clear hv hs hm h1 hrd hrows h64 hm1 hm6 hc1 hc10 hrv hyl hyb hy64 hy hpl hpx hlen hrow hplr hz HF HSV
    go_enter Try.func31, Try.ntmps31
    go_wp2_with (first | (go_at_call 41; refine HRE.out.mono ?_; rintro e w2 ⟨rfl, hb⟩; have HB2 := Lib.hid hb; clear hb) | (go_at_call 62; refine (oneOf_any ya y.length yc w2).mono ?_; rintro e w9 ⟨rfl, rfl⟩) | (go_at_call 57; refine (HRD.out w2 HB2.out).mono ?_; rintro e w3 ⟨hb3, g, cp, ads, pa2, pc2, rfl, hgg, si, pi⟩; unfold rdV; dsimp only at si pi ⊢; have HSI := Lib.hid si; have HB3 := Lib.hid hb3; clear si pi hgg hb3) | (go_at_call 63; refine (HPO.out _ _ _ _ _ _ _ HSI.out).mono ?_; rintro e w5 ⟨rfl, hb5⟩; have HB5 := Lib.hid hb5; clear hb5))
    go_ret2
    exact ⟨rfl, (HB2.out.alloc HB2.out.size _).trans ((HB3.out.mono (by rw [World.size_alloc]; have := HB2.out.size; omega)).trans (HB5.out.mono (by have h1 := HB3.out.size; rw [World.size_alloc] at h1; have := HB2.out.size; omega)))⟩
  · have y0 : (rv == 0) = false := by simpa using hr0
    have y1 : (rv != 0) = true := by simpa using hr0
    have hne : rv ≠ 10 := by
      rw [← hrv]; unfold readE fitsV; split
      · split
        · split <;> decide
        · decide
      · decide
    have HSV : Hid (possV m y = (false, rv)) := by
      show _ = _
      have e : anyV m y = ([], rv) := by unfold anyV; rw [hrv, if_neg hr0]
      unfold possV; rw [e]; dsimp only; rw [if_neg hne, decide_eq_false hr0]
    rw [HSV.out]
    clear hs hm hr0 hrv hy HSV
    go_enter Try.func31, Try.ntmps31
    go_wp2_with (go_at_call 41; refine HRE.out.mono ?_; rintro e w2 ⟨rfl, hb⟩; have HB2 := Lib.hid hb; clear hb)
    go_ret2
    exact ⟨rfl, HB2.out⟩
end Go.Proofs.Yteoimibefpidoaa
/- SameRatios of equal lists, long of two lists: contracts. -/
namespace Go.Proofs.Yteoimibefpidoaa
open Go.RowKit

set_option maxRecDepth 1000000 in
set_option maxHeartbeats 1600000 in
theorem sameRat_any (a : Option Addr) (ps : List (Int × Int)) (ca : Nat) (b : Option Addr) (cb : Nat) (w : World) (hl : ps.length ≤ 1000) (ha : Rl w a ps) (hb : Rl w b ps) :
    Calls Try.prog 35 #[.slice a ps.length ca, .slice b ps.length cb] w fun e w' => e = .returned (.bool true) ∧ ∃ n, w' = w.drewN n := by
  have HA := Lib.hid ha; clear ha
  have HB := Lib.hid hb; clear hb
  obtain ⟨n, hn⟩ : ∃ n, ps.length = n := ⟨_, rfl⟩
  have HN := Lib.hid hn
  rw [hn] at hl ⊢
  clear hn
  go_enter Try.func35, Try.ntmps35
  go_wp2
  go_loopw [13] (fun i wr => ∃ k nd : Nat, k ≤ n ∧ i = .int .i64 k ∧ wr = w.drewN nd) (fun i _ => n - (intOf i).toNat)
  case atStart => exact ⟨0, 0, Nat.zero_le _, rfl, rfl⟩
  case round =>
    obtain ⟨k, nd, hk, rfl, rfl⟩ := hrel
    by_cases hlt : k < n
    · obtain ⟨p, hp⟩ : ∃ p, ps[k]? = some p := ⟨ps[k]'(by rw [HN.out]; exact hlt), by simp [HN.out, hlt]⟩
      obtain ⟨b1, rfl, a1, a2⟩ := HA.out k p hp
      obtain ⟨b2, rfl, c1, c2⟩ := HB.out k p hp
      obtain ⟨p1, p2⟩ := p
      dsimp only at a1 a2 c1 c2
      have hk0 : (k : Int) < (n : Int) := by omega
      clear hp
      go_wp2
      go_quiet (fail)
      all_goals
        go_wp2
        go_roundw
        case rel => exact ⟨k + 1, _, by omega, by go_num, by first | rfl | exact World.drewN_drewN _ _ _⟩
        case measure => simp [intOf]; omega
    · obtain rfl : k = n := by omega
      go_wp2
      go_ret
      exact ⟨rfl, _, rfl⟩
set_option maxRecDepth 100000 in
theorem long2_any (b o : Nat) (a0 : Option Addr) (n0 c0 : Nat) (a1 : Option Addr) (n1 c1 cap : Nat) (w : World) (_h0 : n0 ≤ 9223372036854775807) (_h1 : n1 ≤ 9223372036854775807) (hc0 : w.cell? ⟨b, o, none⟩ = some (.slice a0 n0 c0)) (hc1 : w.cell? ⟨b, o + 1, none⟩ = some (.slice a1 n1 c1)) :
    Calls Try.prog 9 #[.slice (some ⟨b, o, none⟩) 2 cap] w fun e w' => ∃ q, e = .returned (.bool q) ∧ (q = false → n0 ≤ 100 ∧ n1 ≤ 100) ∧ w = w' := by
  go_enter Try.func9, Try.ntmps9
  go_wp2
  go_loopw [7] (fun i wr => ∃ k : Nat, k ≤ 2 ∧ i = .int .i64 k ∧ wr = w ∧ (1 ≤ k → n0 ≤ 100) ∧ (2 ≤ k → n1 ≤ 100)) (fun i _ => 2 - (intOf i).toNat)
  case atStart => exact ⟨0, by omega, rfl, rfl, fun h => by omega, fun h => by omega⟩
  case round =>
    obtain ⟨k, hk, rfl, rfl, q0, q1⟩ := hrel
    by_cases hlt : k < 2
    · have hcell : ∃ ak nk ck, wr.cell? ⟨b, o + k, none⟩ = some (.slice ak nk ck) ∧ (nk ≤ 100 → (1 ≤ k + 1 → n0 ≤ 100) ∧ (2 ≤ k + 1 → n1 ≤ 100)) := by
        match k, hlt with
        | 0, _ => exact ⟨a0, n0, c0, hc0, fun h => ⟨fun _ => h, fun h2 => by omega⟩⟩
        | 1, _ => exact ⟨a1, n1, c1, hc1, fun h => ⟨fun _ => q0 (by omega), fun _ => h⟩⟩
      obtain ⟨ak, nk, ck, hck, hok⟩ := hcell
      have HOK := Lib.hid hok
      clear hok hc0 hc1
      by_cases h : nk > 100
      · have hk2 : (k : Int) < 2 := by omega
        go_wp2
        go_ret
        exact ⟨true, rfl, (fun h => absurd h (by decide)), rfl⟩
      · have hk2 : (k : Int) < 2 := by omega
        go_wp2
        go_roundw
        case rel => exact ⟨k + 1, by omega, by go_num, by first | trivial | rfl, (HOK.out (by omega)).1, (HOK.out (by omega)).2⟩
        case measure => simp [intOf]; omega
    · obtain rfl : k = 2 := by omega
      go_wp2
      go_ret
      exact ⟨_, rfl, fun _ => ⟨q0 (by omega), q1 (by omega)⟩, rfl⟩
end Go.Proofs.Yteoimibefpidoaa
/- How a slice of fractions that came in is opened. Speaks of no function. -/
namespace Go.Proofs.Yteoimibefpidoaa
open Go.ChangeShapes Go.WideShapes Go.ChangeAt Go.RowKit Go.Joins Go.Deep

def InRatios (w : World) (v : Value) (a : Option Addr) (ps : List (Int × Int)) (cap : Nat) : Prop :=
  v = .slice a ps.length cap ∧ Rr w a ps ∧ ps.length ≤ 9223372036854775807
section
variable {H : Type} {enc : TypeId × Value → H} {P : Program} {w : World} {base : Nat} {held : Bool}
theorem in_ratios {t e : TypeId} {f0 f1 : Field} {fuel : Nat} {v : Value} {x : DataW H × List MemPlace} (ht : P.underlying t = some (.slice e)) (he : P.underlying e = some (.struct #[f0, f1])) (hone : oneCellFields P #[f0, f1] = true) (ce : P.cellsOf e = 2)
    (h0 : P.underlying f0.type = some (.int .i64)) (h1 : P.underlying f1.type = some (.int .i64))
    (h : DataW.trod enc P w base (fun _ => true) held fuel t [v] = some x) : ∃ a ps cap, InRatios w v a ps cap := by
  rcases DataW.trod_slice ht h with ⟨hcs, _⟩ | ⟨ad, len, cap, elems, rest, n, _, hcs, _, _, hl, hm, hlen, hel, _, _⟩
  · simp only [List.cons.injEq, and_true] at hcs
    exact ⟨none, [], 0, hcs, fun j p hj => by simp at hj, by simp⟩
  · simp only [List.cons.injEq, and_true] at hcs
    obtain ⟨o0, k0⟩ := hone_of hone 0 f0 rfl
    obtain ⟨o1, k1⟩ := hone_of hone 1 f1 rfl
    have each : ∀ i, i < len → ∃ p : Int × Int, w.cell? ((ad.add (i * 2)).add 0) = some (.int .i64 p.1) ∧ w.cell? ((ad.add (i * 2)).add 1) = some (.int .i64 p.2) := by
      intro i hi
      have hb := hel i hi
      obtain ⟨y, hy⟩ : ∃ y, elems[i]? = some y := ⟨elems[i]'(by omega), by simp [hlen, hi]⟩
      rw [hy, ce, Option.bind_eq_some_iff] at hb
      obtain ⟨cs, hc, ht2⟩ := hb
      obtain ⟨_, hcl, hce⟩ := World.cells?_some hc
      obtain ⟨y0, y1, m, _, _, g0, g1⟩ := trod_struct2 he ht2
      match cs, hcl with
      | [c0, c1], _ =>
        simp [o0, k0] at g0
        simp [o1, k1] at g1
        obtain ⟨p, rfl, _⟩ := in_int h0 g0
        obtain ⟨q, rfl, _⟩ := in_int h1 g1
        exact ⟨(p, q), by simpa using hce 0 (by simp), by simpa using hce 1 (by simp)⟩
    obtain ⟨f, hf⟩ : ∃ f : Nat → Int × Int, ∀ i, i < len → w.cell? ((ad.add (i * 2)).add 0) = some (.int .i64 (f i).1) ∧ w.cell? ((ad.add (i * 2)).add 1) = some (.int .i64 (f i).2) :=
      ⟨fun i => if hi : i < len then Classical.choose (each i hi) else (0, 0), fun i hi => by
        dsimp only
        rw [dif_pos hi]
        exact Classical.choose_spec (each i hi)⟩
    unfold maxLen at hm
    have hlen2 : ((List.range len).map f).length = len := by simp
    refine ⟨some ad, (List.range len).map f, cap, by rw [hlen2]; exact hcs, fun j p hj => ?_, by rw [hlen2]; omega⟩
    have hjl : j < len := by have := (List.getElem?_eq_some_iff.1 hj).1; simpa using this
    have hp : f j = p := by simpa [hjl] using hj
    obtain ⟨b, off, e0⟩ := addr_flat (w := w) (ad := ad) (v := .int .i64 (f 0).1) (by
      have := (hf 0 (by omega)).1
      have e : (ad.add (0 * 2)).add 0 = ad.add 0 := by unfold Addr.add; split <;> simp_all
      rw [e] at this; exact this)
    subst e0
    have h2 := hf j hjl
    rw [hp, flat_add, flat_add, flat_add, Nat.add_zero] at h2
    exact ⟨b, off, rfl, h2⟩
end
end Go.Proofs.Yteoimibefpidoaa
/- LinDenies: the walk. -/
namespace Go.Proofs.Yteoimibefpidoaa.linDenies
open Go.RowKit

set_option maxRecDepth 1000000 in
set_option maxHeartbeats 6400000 in
theorem walk (b0 : Option Addr) (m0 : List (List Int)) (c0 : Nat) (b1 : Option Addr) (xs1 : List Int) (c1 : Nat) (b2 : Option Addr) (xs2 : List Int) (c2 : Nat) (b3 : Option Addr) (ps3 : List (Int × Int)) (c3 : Nat) (w : World) (h0 : Ms w b0 m0) (r0 : MOk m0) (h1 : Sl w b1 xs1) (l1 : xs1.length ≤ 9223372036854775807) (_r1 : ∀ x ∈ xs1, I64 x) (h2 : Sl w b2 xs2) (l2 : xs2.length ≤ 9223372036854775807) (_r2 : ∀ x ∈ xs2, I64 x) (h3 : Rr w b3 ps3) (l3 : ps3.length ≤ 9223372036854775807) :
    Calls Try.prog 7 #[.slice b0 m0.length c0, .slice b1 xs1.length c1, .slice b2 xs2.length c2, .slice b3 ps3.length c3] w fun e w' => e = .returned (.bool true) ∧ Below w.heap.size w w' := by
  have HS := Lib.hid h0
  have HX := Lib.hid h1
  have HZ := Lib.hid h2
  have HP := Lib.hid h3
  have HM := Lib.hid r0
  have hml := r0.1
  have HLN : Hid (Calls Try.prog 9 #[.slice (some ⟨w.heap.size, 0, none⟩) 2 2] (w.alloc (.cells #[.slice b1 xs1.length c1, .slice b2 xs2.length c2] 25)) fun e w' => (∃ b, e = .returned (.bool b)) ∧ (w.alloc (.cells #[.slice b1 xs1.length c1, .slice b2 xs2.length c2] 25)) = w') := (long2_any w.heap.size 0 b1 xs1.length c1 b2 xs2.length c2 2 _ l1 l2 (alloc_cell _ _ _ _ _ rfl) (alloc_cell _ _ _ _ _ rfl)).mono fun e w' h => by
    obtain ⟨q, h1, _, h2⟩ := h
    exact ⟨⟨q, h1⟩, h2⟩
  have HB1 : Hid (Below w.heap.size w (w.alloc (.cells #[.slice b1 xs1.length c1, .slice b2 xs2.length c2] 25))) := (Below.refl _ _).alloc (Nat.le_refl _) _
  have HSM : Hid (∀ V xa xl xc, Below w.heap.size w V → Calls Try.prog 8 #[.slice b0 m0.length c0, .slice xa xl xc] V fun e w' => (∃ b, e = .returned (.bool b)) ∧ V = w') := fun V xa xl xc hb => small_any _ m0 _ _ _ _ V hml (HS.out.below hb)
  obtain ⟨d, hd⟩ : ∃ d, deniesB m0 xs1 xs2 = d := ⟨_, rfl⟩
  have HLD : Hid (∀ V, Below w.heap.size w V → Calls Try.prog 38 #[.slice b0 m0.length c0, .slice b1 xs1.length c1, .slice b2 xs2.length c2] V fun e w' => e = .returned (.bool d) ∧ Below V.heap.size V w') := fun V hb => by rw [← hd]; exact ldenies_any b0 m0 c0 b1 xs1 c1 b2 xs2 c2 V HM.out l1 l2 (HS.out.below hb) (HX.out.below hb) (HZ.out.below hb)
  have HRD : Hid (∀ V, Below w.heap.size w V → Calls Try.prog 37 #[.slice b0 m0.length c0, .slice b1 xs1.length c1, .slice b2 xs2.length c2] V fun e w' => e = .returned (.bool d) ∧ Below V.heap.size V w') := fun V hb => by rw [← hd]; exact rdenies_any b0 m0 c0 b1 xs1 c1 b2 xs2 c2 V HM.out l1 l2 (HS.out.below hb) (HX.out.below hb) (HZ.out.below hb)
  cases d with
  | false =>
    clear h0 h1 h2 h3 r0 hd
    go_enter Try.func7, Try.ntmps7
    go_wp2_with (first | (go_at_call 8; refine (HSM.out _ _ _ _ (Below.refl _ _)).mono ?_; rintro e w1 ⟨⟨bb, rfl⟩, rfl⟩; cases bb) | (go_at_call 9; refine HLN.out.mono ?_; rintro e w1 ⟨⟨bb, rfl⟩, rfl⟩; cases bb) | (go_at_call 10; refine (awake_any _).mono ?_; rintro e w9 ⟨rfl, hb9⟩) | (go_at_call 38; refine (HLD.out _ HB1.out).mono ?_; rintro e w2 ⟨rfl, hb2⟩; have HB2 := Lib.hid (HB1.out.trans (hb2.mono HB1.out.size)); clear hb2) | (go_at_call 37; refine (HRD.out _ HB2.out).mono ?_; rintro e w3 ⟨rfl, hb3⟩; have HB3 := Lib.hid (HB2.out.trans (hb3.mono HB2.out.size)); clear hb3))
    all_goals go_ret
    all_goals first
      | exact ⟨rfl, HB3.out.trans (hb9.mono HB3.out.size)⟩
      | exact ⟨rfl, HB1.out.trans (hb9.mono HB1.out.size)⟩
      | exact ⟨rfl, hb9⟩
  | true =>
    obtain ⟨hpv, hmk⟩ := denies_no hd
    have HLP : Hid (∀ V, Below w.heap.size w V → Calls Try.prog 31 #[.slice b0 m0.length c0, .slice b1 xs1.length c1] V fun e w' => e = .returned (.tuple #[.bool false, .int .i64 0]) ∧ Below V.heap.size V w') := fun V hb => by
      have h := lpossible_any b0 m0 c0 b1 xs1 c1 V HM.out l1 (HS.out.below hb) (HX.out.below hb)
      rw [hpv] at h
      exact h
    have HMK : Hid (∀ V, Below w.heap.size w V → Calls Try.prog 13 #[.slice b0 m0.length c0, .slice b3 ps3.length c3, .slice b1 xs1.length c1] V fun e w' => e = .returned (.bool false) ∧ Below V.heap.size V w') := fun V hb => by
      have h := lmakes_any b0 m0 c0 b3 ps3 c3 b1 xs1 c1 V HM.out l1 l3 (HS.out.below hb) (HP.out.below hb) (HX.out.below hb)
      rw [hmk] at h
      exact h
    clear h0 h1 h2 h3 r0 hd hpv hmk
    go_enter Try.func7, Try.ntmps7
    go_wp2_with (first | (go_at_call 8; refine (HSM.out _ _ _ _ (Below.refl _ _)).mono ?_; rintro e w1 ⟨⟨bb, rfl⟩, rfl⟩; cases bb) | (go_at_call 9; refine HLN.out.mono ?_; rintro e w1 ⟨⟨bb, rfl⟩, rfl⟩; cases bb) | (go_at_call 10; refine (awake_any _).mono ?_; rintro e w9 ⟨rfl, hb9⟩) | (go_at_call 38; refine (HLD.out _ HB1.out).mono ?_; rintro e w2 ⟨rfl, hb2⟩; have HB2 := Lib.hid (HB1.out.trans (hb2.mono HB1.out.size)); clear hb2) | (go_at_call 37; refine (HRD.out _ HB2.out).mono ?_; rintro e w3 ⟨rfl, hb3⟩; have HB3 := Lib.hid (HB2.out.trans (hb3.mono HB2.out.size)); clear hb3) | (go_at_call 31; refine (HLP.out _ HB3.out).mono ?_; rintro e w4 ⟨rfl, hb4⟩; have HB4 := Lib.hid (HB3.out.trans (hb4.mono HB3.out.size)); clear hb4) | (go_at_call 13; refine (HMK.out _ HB4.out).mono ?_; rintro e w5 ⟨rfl, hb5⟩; have HB5 := Lib.hid (HB4.out.trans (hb5.mono HB4.out.size)); clear hb5))
    all_goals go_ret
    all_goals first
      | exact ⟨rfl, HB5.out.trans (hb9.mono HB5.out.size)⟩
      | exact ⟨rfl, HB1.out.trans (hb9.mono HB1.out.size)⟩
      | exact ⟨rfl, hb9⟩
end Go.Proofs.Yteoimibefpidoaa.linDenies
