
/- Sorting a slice of ints of the call's own by a comparison that a closure makes: what stays, and one range swapped: contracts. -/
import Derived.Test.YtacbciamehchjaaOwnW
import Derived.Test.YtacbciamehchjaaOwnB
import Derived.Test.YtacbciamehchjaaPlain
import Derived.Deep.RegionHeld3
import Derived.Deep.RegionLaw
namespace Go.Proofs.Ytacbciamehchjaa
open Go.RowKit

--BEGIN
/-- The slice of n ints in block g. -/
def Dat (g n cap : Nat) : Value := .slice (some ⟨g, 0, none⟩) n cap
/-- The list while two ranges are being swapped: i numbers have been. -/
def swapTo (xs : List Int) (a b i : Nat) : List Int := (List.range xs.length).map fun k => if a ≤ k ∧ k < a + i then gt xs (k + b - a) else if b ≤ k ∧ k < b + i then gt xs (k + a - b) else gt xs k
theorem swapTo_len (xs : List Int) (a b i : Nat) : (swapTo xs a b i).length = xs.length := by simp [swapTo]
theorem swapTo_gt {xs : List Int} {a b i k : Nat} (hk : k < xs.length) : gt (swapTo xs a b i) k = if a ≤ k ∧ k < a + i then gt xs (k + b - a) else if b ≤ k ∧ k < b + i then gt xs (k + a - b) else gt xs k := gt_map_range _ hk
theorem swapTo_zero (xs : List Int) (a b : Nat) : swapTo xs a b 0 = xs := by
  refine list_ext_gt (swapTo_len _ _ _ _) fun k hk => ?_
  rw [swapTo_len] at hk
  rw [swapTo_gt hk, if_neg (by omega), if_neg (by omega)]
theorem swapTo_succ {xs : List Int} {a b i : Nat} (hab : a + i < b) (hb : b + i < xs.length) : ((swapTo xs a b i).set (a + i) (gt xs (b + i))).set (b + i) (gt xs (a + i)) = swapTo xs a b (i + 1) := by
  refine list_ext_gt (by simp [swapTo_len]) fun k hk => ?_
  rw [List.length_set, List.length_set, swapTo_len] at hk
  rw [gt_set (by rw [List.length_set, swapTo_len]; omega), gt_set (by rw [swapTo_len]; omega), swapTo_gt hk, swapTo_gt hk]
  by_cases e1 : k = b + i
  · subst e1
    rw [if_pos rfl, if_neg (by omega), if_pos (by omega)]
    congr 1; omega
  · rw [if_neg e1]
    by_cases e2 : k = a + i
    · subst e2
      rw [if_pos rfl, if_pos (by omega)]
      congr 1; omega
    · rw [if_neg e2]
      by_cases h1 : a ≤ k ∧ k < a + i
      · rw [if_pos h1, if_pos (by omega)]
      · rw [if_neg h1, if_neg (show ¬ (a ≤ k ∧ k < a + (i + 1)) by omega)]
        by_cases h2 : b ≤ k ∧ k < b + i
        · rw [if_pos h2, if_pos (by omega)]
        · rw [if_neg h2, if_neg (by omega)]
theorem swapTo_at {xs : List Int} {a b i : Nat} (hab : a + i < b) (hb : b + i < xs.length) : gt (swapTo xs a b i) (a + i) = gt xs (a + i) ∧ gt (swapTo xs a b i) (b + i) = gt xs (b + i) := by
  refine ⟨?_, ?_⟩
  · rw [swapTo_gt (by omega), if_neg (by omega), if_neg (by omega)]
  · rw [swapTo_gt (by omega), if_neg (by omega), if_neg (by omega)]
/-- What a call leaves that orders the numbers of a block of the call's own. -/
def SPost (g n cap : Nat) (ys : List Int) (w : World) (e : Ending) (w' : World) : Prop := e = .returned (.tuple #[]) ∧ Below g w w' ∧ OwnI w' g (Dat g n cap) ys ∧ ys.length = n
theorem OwnI.at' {w : World} {g n cap : Nat} {xs : List Int} (h : OwnI w g (Dat g n cap) xs) {j : Nat} (hj : j < xs.length) : w.cell? ⟨g, j, none⟩ = some (.int .i64 (gt xs j)) ∧ w.frozen? ⟨g, j, none⟩ = false := h.cell hj
set_option maxRecDepth 100000 in
set_option maxHeartbeats 800000 in
theorem swapRange_any (g cap : Nat) (a b n : Nat) (fv : Value) (xs : List Int) (w : World) (hab : a + n ≤ b) (hb : b + n ≤ xs.length) (hl : xs.length ≤ 100000) (ho : OwnI w g (Dat g xs.length cap) xs) :
    Calls Try.prog 106 #[Dat g xs.length cap, .int .i64 a, .int .i64 b, .int .i64 n, fv] w (SPost g xs.length cap (swapTo xs a b n) w) := by
  have HO := Lib.hid ho; clear ho
  go_enter Try.func106, Try.ntmps106
  go_wp2
  go_loopw [10] (fun i wr => ∃ k : Nat, k ≤ n ∧ i = .int .i64 k ∧ OwnI wr g (Dat g xs.length cap) (swapTo xs a b k) ∧ Below g w wr) (fun i _ => n - (intOf i).toNat)
  case atStart => exact ⟨0, Nat.zero_le _, rfl, by rw [swapTo_zero]; exact HO.out, Below.refl _ _⟩
  case round =>
    obtain ⟨k, hk, rfl, hO, hB⟩ := hrel
    have HOR := Lib.hid hO; clear hO
    have HB := Lib.hid hB; clear hB
    by_cases hlt : k < n
    · have hA : a + k < b := by omega
      have hBk : b + k < xs.length := by omega
      obtain ⟨v1, v2⟩ := swapTo_at hA hBk
      obtain ⟨c1, f1⟩ := HOR.out.at' (j := a + k) (by rw [swapTo_len]; omega)
      obtain ⟨c2, f2⟩ := HOR.out.at' (j := b + k) (by rw [swapTo_len]; omega)
      rw [v1] at c1
      rw [v2] at c2
      obtain ⟨x, hx⟩ : ∃ x, gt xs (a + k) = x := ⟨_, rfl⟩
      obtain ⟨y, hy⟩ : ∃ y, gt xs (b + k) = y := ⟨_, rfl⟩
      have HN : Hid (((swapTo xs a b k).set (a + k) y).set (b + k) x = swapTo xs a b (k + 1)) := by show _ = _; rw [← hx, ← hy]; exact swapTo_succ hA hBk
      rw [hx] at c1
      rw [hy] at c2
      clear v1 v2 hx hy
      have z1 : IntKind.i64.wrap ((a : Int) + k) = (a : Int) + k := IntWalk.i64_in _ (by omega)
      have z2 : IntKind.i64.wrap ((b : Int) + k) = (b : Int) + k := IntWalk.i64_in _ (by omega)
      have g1 : 0 ≤ (b : Int) + k := by omega
      have g2 : (b : Int) + k < (xs.length : Int) := by omega
      have g3 : 0 ≤ (a : Int) + k := by omega
      have g4 : (a : Int) + k < (xs.length : Int) := by omega
      have t1 : ((b : Int) + k).toNat = b + k := by omega
      have t2 : ((a : Int) + k).toNat = a + k := by omega
      have hne : ¬ (a + k = b + k) := by omega
      have hne' : ¬ (b + k = a + k) := by omega
      have HST := Lib.hid ((HOR.out.stored (a + k) y).stored (b + k) x).drew
      have HBW := Lib.hid ((HB.out.setCell (p := ⟨g, a + k, none⟩) (Nat.le_refl _) (.int .i64 y)).setCell (p := ⟨g, b + k, none⟩) (Nat.le_refl _) (.int .i64 x)).drew
      unfold Dat
      go_wp2
      go_region_law (fail)
      all_goals
        go_wp2
        go_roundw
        case rel => exact ⟨k + 1, by omega, by go_num, by rw [← HN.out]; exact HST.out, HBW.out⟩
        case measure => simp [intOf]; omega
    · obtain rfl : k = n := by omega
      go_wp2
      go_end0
      exact ⟨rfl, HB.out, HOR.out, by rw [swapTo_len]⟩
--END
end Go.Proofs.Ytacbciamehchjaa
