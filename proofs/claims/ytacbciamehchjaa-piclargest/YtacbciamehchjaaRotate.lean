
/- Two neighbouring ranges that change places: a contract. -/
import Derived.Test.YtacbciamehchjaaSortMath
namespace Go.Proofs.Ytacbciamehchjaa
open Go.RowKit

set_option maxRecDepth 100000 in
set_option maxHeartbeats 800000 in
theorem rotate_any (g cap lo m hi : Nat) (fv : Value) (xs : List Int) (w : World) (h1 : lo < m) (h2 : m < hi) (h3 : hi ≤ xs.length) (hx : xs.length ≤ 256) (ho : OwnI w g (Dat g xs.length cap) xs) :
    Calls Try.prog 98 #[Dat g xs.length cap, .int .i64 lo, .int .i64 m, .int .i64 hi, fv] w (SPost g xs.length cap (rotL xs m (m - lo) (hi - m)) w) := by
  have HO := Lib.hid ho; clear ho
  obtain ⟨I, hI⟩ : ∃ I, m - lo = I := ⟨_, rfl⟩
  obtain ⟨J, hJ⟩ : ∃ J, hi - m = J := ⟨_, rfl⟩
  rw [hI, hJ]
  have d1 : (m : Int) - (lo : Int) = (I : Int) := by omega
  have d2 : (hi : Int) - (m : Int) = (J : Int) := by omega
  have hI1 : 1 ≤ I := by omega
  have hJ1 : 1 ≤ J := by omega
  have hIm : I ≤ m := by omega
  have hJm : m + J ≤ xs.length := by omega
  have hJ6 : J ≤ 256 := by omega
  have hI6 : I ≤ 256 := by omega
  clear hI hJ
  go_enter Try.func98, Try.ntmps98
  go_wp2
  go_loopw [10, 11] (fun i j wr => ∃ (p q : Nat) (ys : List Int), i = .int .i64 p ∧ j = .int .i64 q ∧ 1 ≤ p ∧ 1 ≤ q ∧ p ≤ m ∧ m + q ≤ xs.length ∧ ys.length = xs.length ∧ OwnI wr g (Dat g xs.length cap) ys ∧ Below g w wr ∧ Hid (rotL ys m p q = rotL xs m I J)) (fun i j _ => (intOf i).toNat + (intOf j).toNat)
  case atStart => exact ⟨I, J, xs, rfl, rfl, hI1, hJ1, hIm, hJm, rfl, HO.out, Below.refl _ _, rfl⟩
  case round =>
    obtain ⟨p, q, ys, rfl, rfl, hp1, hq1, hpm, hqm, hyl, hO, hB, HE⟩ := hrel
    have HOR := Lib.hid hO; clear hO HO
    have HB := Lib.hid hB; clear hB
    have HYL := Lib.hid hyl; clear hyl
    obtain ⟨s, hs⟩ : ∃ s, m - p = s := ⟨_, rfl⟩
    have d3 : (m : Int) - (p : Int) = (s : Int) := by omega
    have hO' : OwnI wr g (Dat g ys.length cap) ys := by rw [HYL.out]; exact HOR.out
    have HOY := Lib.hid hO'; clear hO'
    have hy6 : ys.length ≤ 100000 := by have := HYL.out; omega
    by_cases heq : p = q
    · subst heq
      have HR : Hid (swapTo ys s m p = rotL xs m I J) := by show _ = _; rw [← HE.out, ← hs]; exact rot_same hpm
      have HC : Hid (Calls Try.prog 106 #[.slice (some ⟨g, 0, none⟩) xs.length cap, .int .i64 s, .int .i64 m, .int .i64 p, fv] wr (SPost g xs.length cap (rotL xs m I J) wr)) := by
        have h := swapRange_any g cap s m p fv ys wr (by omega) (by have := HYL.out; omega) hy6 HOY.out
        rw [HR.out, HYL.out] at h
        exact h
      clear HOY HOR HE HR hs
      go_wp2_with fail
      refine HC.out.mono ?_
      rintro e w1 ⟨rfl, hb, ho, hl⟩
      have HB1 := Lib.hid (HB.out.trans hb)
      have HO1 := Lib.hid ho
      have HL1 := Lib.hid hl
      clear hb ho hl HC
      go_wp2
      go_end0
      exact ⟨rfl, HB1.out, HO1.out, HL1.out⟩
    · have hne : ((p : Int) == (q : Int)) = false := by simp; omega
      have hne2 : ((p : Int) != (q : Int)) = true := by simp; omega
      by_cases hlt : q < p
      · obtain ⟨u, hu⟩ : ∃ u, p - q = u := ⟨_, rfl⟩
        have d4 : (p : Int) - (q : Int) = (u : Int) := by omega
        have HR : Hid (rotL (swapTo ys s m q) m u q = rotL xs m I J) := by show _ = _; rw [← HE.out, ← hs, ← hu]; exact rot_more hlt hpm (by have := HYL.out; omega)
        have HC : Hid (Calls Try.prog 106 #[.slice (some ⟨g, 0, none⟩) xs.length cap, .int .i64 s, .int .i64 m, .int .i64 q, fv] wr (SPost g xs.length cap (swapTo ys s m q) wr)) := by
          have h := swapRange_any g cap s m q fv ys wr (by omega) (by have := HYL.out; omega) hy6 HOY.out
          rw [HYL.out] at h
          exact h
        have hu1 : 1 ≤ u := by omega
        have hum : u ≤ m := by omega
        clear HOY HOR HE hs
        go_wp2_with fail
        refine HC.out.mono ?_
        rintro e w1 ⟨rfl, hb, ho, hl⟩
        have HB1 := Lib.hid (HB.out.trans hb)
        have HO1 := Lib.hid ho
        have HL1 := Lib.hid hl
        clear hb ho hl HC
        go_wp2
        go_roundw
        case rel => exact ⟨u, q, _, by go_num, rfl, hu1, hq1, hum, hqm, HL1.out, HO1.out, HB1.out, HR⟩
        case measure => simp [intOf]; omega
      · obtain ⟨u, hu⟩ : ∃ u, q - p = u := ⟨_, rfl⟩
        have d4 : (q : Int) - (p : Int) = (u : Int) := by omega
        obtain ⟨t, ht⟩ : ∃ t, m + q - p = t := ⟨_, rfl⟩
        have d5 : (m : Int) + (q : Int) - (p : Int) = (t : Int) := by omega
        have HR : Hid (rotL (swapTo ys s t p) m p u = rotL xs m I J) := by show _ = _; rw [← HE.out, ← hs, ← hu, ← ht]; exact rot_less (by omega) hpm (by have := HYL.out; omega)
        have HC : Hid (Calls Try.prog 106 #[.slice (some ⟨g, 0, none⟩) xs.length cap, .int .i64 s, .int .i64 t, .int .i64 p, fv] wr (SPost g xs.length cap (swapTo ys s t p) wr)) := by
          have h := swapRange_any g cap s t p fv ys wr (by omega) (by have := HYL.out; omega) hy6 HOY.out
          rw [HYL.out] at h
          exact h
        have hu1 : 1 ≤ u := by omega
        have hum : m + u ≤ xs.length := by omega
        have ht6 : t ≤ 256 := by omega
        clear HOY HOR HE hs
        go_wp2_with fail
        refine HC.out.mono ?_
        rintro e w1 ⟨rfl, hb, ho, hl⟩
        have HB1 := Lib.hid (HB.out.trans hb)
        have HO1 := Lib.hid ho
        have HL1 := Lib.hid hl
        clear hb ho hl HC
        go_wp2
        go_roundw
        case rel => exact ⟨p, u, _, rfl, by go_num, hp1, hu1, hpm, hum, HL1.out, HO1.out, HB1.out, HR⟩
        case measure => simp [intOf]; omega
end Go.Proofs.Ytacbciamehchjaa
