
/- Columns that are equal but for their signs: contracts of alike (layer 2). -/
import Derived.Test.YtknhfliefkkpfabCohMath
import Derived.Test.YtknhfliefkkpfabSame
namespace Go.Proofs.Ytknhfliefkkpfab
open Go.RowKit

/-- Two lists, number by number the opposites of each other. -/
def oppB (a b : List Int) : Bool := decide (a.length = b.length) && (List.range a.length).all fun k => decide (gt a k = -gt b k)
def alikeB (a b : List Int) : Bool := decide (a = b) || oppB a b
theorem oppB_no {a b : List Int} {k : Nat} {x y : Int} (hx : a[k]? = some x) (hy : b[k]? = some y) (h : ¬ x = -y) : oppB a b = false := by
  unfold oppB
  have : ((List.range a.length).all fun k => decide (gt a k = -gt b k)) = false := by
    rw [List.all_eq_false]
    exact ⟨k, List.mem_range.2 (List.getElem?_eq_some_iff.1 hx).1, by rw [gt_some' hx, gt_some' hy]; simpa using h⟩
  rw [this, Bool.and_false]
theorem oppB_yes {a b : List Int} (hl : a.length = b.length) (h : ∀ j, j < a.length → gt a j = -gt b j) : oppB a b = true := by
  unfold oppB
  rw [decide_eq_true hl, Bool.true_and, List.all_eq_true]
  intro k hk
  exact decide_eq_true (h k (List.mem_range.1 hk))
theorem oppB_iff {a b : List Int} (hl : a.length = b.length) : oppB a b = true ↔ ∀ j, j < a.length → gt a j = -gt b j := by
  refine ⟨fun h j hj => ?_, oppB_yes hl⟩
  unfold oppB at h
  rw [decide_eq_true hl, Bool.true_and, List.all_eq_true] at h
  simpa using h j (List.mem_range.2 hj)

theorem slEqual_any (a : Option Addr) (xs : List Int) (ca : Nat) (b : Option Addr) (ys : List Int) (cb : Nat) (w : World) (hx : xs.length ≤ 140737488351232) (hl : xs.length = ys.length) (ha : Sl w a xs) (hb : Sl w b ys) :
    Calls Try.prog 98 #[.slice a xs.length ca, .slice b ys.length cb] w fun e w' => e = .returned (.bool (decide (xs = ys))) ∧ ∃ n, w' = w.drewN n := by
  have HA := Lib.hid ha; clear ha
  have HB := Lib.hid hb; clear hb
  have hb : ((xs.length : Int) == (ys.length : Int)) = true := by simp [hl]
  have hb' : ((xs.length : Int) != (ys.length : Int)) = false := by simp [hl]
  have HL := Lib.hid hl; clear hl
  go_enter Try.func98, Try.ntmps98
  go_wp2
  go_loopw [13] (fun i wr => ∃ k nd : Nat, k ≤ xs.length ∧ i = .int .i64 k ∧ wr = w.drewN nd ∧ ∀ j, j < k → xs[j]?.getD 0 = ys[j]?.getD 0) (fun i _ => xs.length - (intOf i).toNat)
  case atStart => exact ⟨0, 0, Nat.zero_le _, rfl, rfl, fun j h => by omega⟩
  case round =>
    obtain ⟨k, nd, hk, rfl, rfl, hno⟩ := hrel
    have HN := Lib.hid hno; clear hno
    by_cases hlt : k < xs.length
    · have hly : k < ys.length := by rw [← HL.out]; exact hlt
      obtain ⟨b1, o1, x, rfl, hc1, HX⟩ := HA.out.at hlt
      obtain ⟨b2, o2, y, rfl, hc2, HY⟩ := HB.out.at hly
      by_cases he : x = y
      · subst he
        go_wp2
        go_quiet (fail)
        go_wp2
        go_roundw
        case rel => exact ⟨k + 1, _, by omega, by go_num, rfl, fun j hj => by
            by_cases hj' : j = k
            · subst hj'; rw [HX.out, HY.out]
            · exact HN.out j (by omega)⟩
        case measure => simp [intOf]; omega
      · have hne : (x == y) = false := by simpa using he
        have hne' : (x != y) = true := by simpa using he
        have HE : Hid (decide (xs = ys) = false) := by
          show decide (xs = ys) = false
          rw [decide_eq_false_iff_not]
          rintro rfl
          have h1 := HX.out
          have h2 := HY.out
          rw [h1] at h2
          exact he (by simpa using h2)
        clear he
        go_wp2
        go_quiet (fail)
        go_wp2
        go_ret
        exact ⟨ret_bool HE.out.symm, _, World.drewN_drewN _ _ _⟩
    · have HE : Hid (decide (xs = ys) = true) := by
        show decide (xs = ys) = true
        rw [decide_eq_true_iff]
        refine List.ext_getElem HL.out (fun j h1 h2 => ?_)
        have := HN.out j (by omega)
        simpa [h1, h2] using this
      go_wp2
      go_ret
      exact ⟨ret_bool HE.out.symm, _, rfl⟩

theorem opp1_any (x y : Int) (hy : -1 ≤ y ∧ y ≤ 1) (w : World) :
    Calls Try.prog 100 #[.int .i64 x, .int .i64 y] w fun e w' => e = .returned (.bool (decide (x = -y))) ∧ w = w' := by
  obtain ⟨h1, h2⟩ := hy
  go_enter Try.func100, Try.ntmps100
  go_wp2
  go_ret
  exact ⟨ret_bool (by rw [Bool.eq_iff_iff]; simp), rfl⟩
theorem eqFunc_any (a : Option Addr) (xs : List Int) (ca : Nat) (b : Option Addr) (ys : List Int) (cb : Nat) (w : World) (hx : xs.length ≤ 140737488351232) (hl : xs.length = ys.length) (hy1 : allB 1 ys = true) (ha : Sl w a xs) (hb : Sl w b ys) :
    Calls Try.prog 99 #[.slice a xs.length ca, .slice b ys.length cb, .func (.func 100) #[] #[]] w fun e w' => e = .returned (.bool (oppB xs ys)) ∧ w = w' := by
  have HA := Lib.hid ha; clear ha
  have HB := Lib.hid hb; clear hb
  have hb : ((xs.length : Int) == (ys.length : Int)) = true := by simp [hl]
  have hb' : ((xs.length : Int) != (ys.length : Int)) = false := by simp [hl]
  have HL := Lib.hid hl; clear hl
  have HY1 := Lib.hid hy1; clear hy1
  go_enter Try.func99, Try.ntmps99
  go_wp2
  go_loop [17] (fun i => ∃ k : Nat, k ≤ xs.length ∧ i = .int .i64 k ∧ ∀ j, j < k → gt xs j = -gt ys j) (fun i => xs.length - (intOf i).toNat)
  case atStart => exact ⟨0, Nat.zero_le _, rfl, fun j h => by omega⟩
  case round =>
    obtain ⟨k, hk, rfl, hno⟩ := hrel
    have HN := Lib.hid hno; clear hno
    by_cases hlt : k < xs.length
    · have hly : k < ys.length := by rw [← HL.out]; exact hlt
      obtain ⟨b1, o1, x, rfl, hc1, HX⟩ := HA.out.at hlt
      obtain ⟨b2, o2, y, rfl, hc2, HY⟩ := HB.out.at hly
      have HYB := Lib.hid (allB_get HY1.out HY.out)
      by_cases he : x = -y
      · have hd : decide (x = -y) = true := decide_eq_true he
        have HE := Lib.hid he; clear he
        go_wp2_with (go_at_call 100; refine (opp1_any _ _ HYB.out _).mono ?_; rintro e w' ⟨rfl, rfl⟩)
        go_round
        case rel => exact ⟨k + 1, by omega, by go_num, fun j hj => by
            by_cases hj' : j = k
            · subst hj'; rw [gt_some' HX.out, gt_some' HY.out]; exact HE.out
            · exact HN.out j (by omega)⟩
        case measure => simp [intOf]; omega
      · have hd : decide (x = -y) = false := decide_eq_false he
        have HE : Hid (oppB xs ys = false) := oppB_no HX.out HY.out he
        clear he
        go_wp2_with (go_at_call 100; refine (opp1_any _ _ HYB.out _).mono ?_; rintro e w' ⟨rfl, rfl⟩)
        go_ret
        exact ⟨ret_bool HE.out.symm, rfl⟩
    · have HE : Hid (oppB xs ys = true) := oppB_yes HL.out (fun j hj => HN.out j (by omega))
      go_wp2
      go_ret
      exact ⟨ret_bool HE.out.symm, rfl⟩
theorem alike_any (a : Option Addr) (xs : List Int) (ca : Nat) (b : Option Addr) (ys : List Int) (cb : Nat) (w : World) (hx : xs.length ≤ 10) (hl : xs.length = ys.length) (hy1 : allB 1 ys = true) (ha : Sl w a xs) (hb : Sl w b ys) :
    Calls Try.prog 63 #[.slice a xs.length ca, .slice b ys.length cb] w fun e w' => e = .returned (.bool (alikeB xs ys)) ∧ ∃ n, w' = w.drewN n := by
  have HA := Lib.hid ha; clear ha
  have HB := Lib.hid hb; clear hb
  have HL := Lib.hid hl; clear hl
  have HY := Lib.hid hy1; clear hy1
  go_enter Try.func63, Try.ntmps63
  go_wp2_with fail
  refine (slEqual_any _ _ _ _ _ _ _ (by omega) HL.out HA.out HB.out).mono ?_
  rintro e w1 ⟨rfl, n, rfl⟩
  cases he : decide (xs = ys)
  · have HE : Hid (alikeB xs ys = oppB xs ys) := by show _ = _; unfold alikeB; rw [he, Bool.false_or]
    clear he
    go_wp2_with fail
    refine (eqFunc_any _ _ _ _ _ _ _ (by omega) HL.out HY.out (show Sl (w.drewN n) _ _ from HA.out) (show Sl (w.drewN n) _ _ from HB.out)).mono ?_
    rintro e w2 ⟨rfl, rfl⟩
    go_wp2
    go_ret
    exact ⟨ret_bool HE.out.symm, _, rfl⟩
  · have HE : Hid (alikeB xs ys = true) := by show _ = _; unfold alikeB; rw [he, Bool.true_or]
    clear he
    go_wp2
    go_ret
    exact ⟨ret_bool HE.out.symm, _, rfl⟩
end Go.Proofs.Ytknhfliefkkpfab
