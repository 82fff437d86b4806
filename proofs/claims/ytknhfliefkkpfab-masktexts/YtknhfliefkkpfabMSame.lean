
/- Same and Ascending of the answers of layer 2; ascending of layer 2: contracts. -/
import Derived.Test.YtknhfliefkkpfabMCol
namespace Go.Proofs.Ytknhfliefkkpfab
open Go.RowKit

theorem ne_of_get {m m' : List (List Int)} {i : Nat} {r r' : List Int} (h : m[i]? = some r) (h' : m'[i]? = some r') (hne : r ≠ r') : decide (m = m') = false := by
  rw [decide_eq_false_iff_not]; rintro rfl
  rw [h] at h'
  exact hne (by simpa using h')
theorem ne_of_gt {r r' : List Int} {i : Nat} {x y : Int} (h : r[i]? = some x) (h' : r'[i]? = some y) (hne : x ≠ y) : r ≠ r' := by
  rintro rfl
  rw [h] at h'
  exact hne (by simpa using h')
theorem masks_eq {m m' : List (List Int)} (hl : m.length = m'.length) (h : ∀ j, j < m.length → m[j]?.getD [] = m'[j]?.getD []) : m = m' := by
  refine List.ext_getElem hl (fun j h1 h2 => ?_)
  have := h j h1
  simpa [h1, h2] using this
set_option maxRecDepth 100000 in
set_option maxHeartbeats 400000 in
theorem same_any (a : Option Addr) (m : List (List Int)) (ca : Nat) (b : Option Addr) (m' : List (List Int)) (cb : Nat) (w : World) (hm : MOk m) (hm' : MOk m') (ha : Ms w a m) (hb : Ms w b m') :
    Calls Try.prog 39 #[.slice a m.length ca, .slice b m'.length cb] w fun e w' => e = .returned (.bool (decide (m = m'))) ∧ ∃ n, w' = w.drewN n := by
  have HA := Lib.hid ha; clear ha
  have HB := Lib.hid hb; clear hb
  have l1 := hm.1
  have l2 := hm'.1
  have HM := Lib.hid hm; clear hm
  have HM' := Lib.hid hm'; clear hm'
  by_cases hl : m.length = m'.length
  · have hb : ((m.length : Int) == (m'.length : Int)) = true := by simp [hl]
    have hb' : ((m.length : Int) != (m'.length : Int)) = false := by simp [hl]
    have HL := Lib.hid hl; clear hl
    go_enter Try.func39, Try.ntmps39
    go_wp2
    clear hb hb'
    go_loopw [14] (fun i wr => ∃ k nd : Nat, k ≤ m.length ∧ i = .int .i64 k ∧ wr = w.drewN nd ∧ ∀ j, j < k → m[j]?.getD [] = m'[j]?.getD []) (fun i _ => m.length - (intOf i).toNat)
    case atStart => exact ⟨0, 0, Nat.zero_le _, rfl, rfl, fun j h => by omega⟩
    case round =>
      obtain ⟨k, nd, hk, rfl, rfl, hno⟩ := hrel
      have HN := Lib.hid hno; clear hno
      by_cases hlt : k < m.length
      · have hly : k < m'.length := by rw [← HL.out]; exact hlt
        obtain ⟨b1, o1, a1, r1, c1, rfl, hc1, hs1, HX⟩ := HA.out.at hlt
        obtain ⟨b2, o2, a2, r2, c2, rfl, hc2, hs2, HY⟩ := HB.out.at hly
        have HS1 := Lib.hid hs1; clear hs1
        have HS2 := Lib.hid hs2; clear hs2
        have q1 := (HM.out.row HX.out).1
        have q2 := (HM'.out.row HY.out).1
        by_cases he : r1.length = r2.length
        · have e1 : ((r1.length : Int) != (r2.length : Int)) = false := by simp [he]
          have HE := Lib.hid he; clear he
          go_wp2
          go_quiet (fail)
          clear e1
          go_wp2
          go_loopw [33] (fun i wr => ∃ j nd : Nat, j ≤ r1.length ∧ i = .int .i64 j ∧ wr = w.drewN nd ∧ ∀ q, q < j → r1[q]?.getD 0 = r2[q]?.getD 0) (fun i _ => r1.length - (intOf i).toNat)
          case atStart => exact ⟨0, _, Nat.zero_le _, rfl, rfl, fun j h => by omega⟩
          case round =>
            obtain ⟨j, nd2, hj, rfl, rfl, hnj⟩ := hrel
            have HNJ := Lib.hid hnj; clear hnj
            by_cases hjt : j < r1.length
            · have hjy : j < r2.length := by rw [← HE.out]; exact hjt
              obtain ⟨b3, o3, x, rfl, hc3, HX3⟩ := HS1.out.at hjt
              obtain ⟨b4, o4, y, rfl, hc4, HY4⟩ := HS2.out.at hjy
              by_cases hxy : x = y
              · subst hxy
                go_wp2
                go_quiet (fail)
                go_wp2
                go_roundw
                case rel => exact ⟨j + 1, _, by omega, by go_num, rfl, fun q hq => by
                    by_cases hq' : q = j
                    · subst hq'; rw [HX3.out, HY4.out]
                    · exact HNJ.out q (by omega)⟩
                case measure => simp [intOf]; omega
              · have hne : (x == y) = false := by simpa using hxy
                have hne' : (x != y) = true := by simpa using hxy
                have HF : Hid (decide (m = m') = false) := ne_of_get HX.out HY.out (ne_of_gt HX3.out HY4.out hxy)
                clear hxy
                go_wp2
                go_quiet (fail)
                go_wp2
                go_ret
                exact ⟨ret_bool HF.out.symm, _, World.drewN_drewN _ _ _⟩
            · have HR : Hid (r1 = r2) := by
                show r1 = r2
                refine List.ext_getElem HE.out (fun q h1 h2 => ?_)
                have := HNJ.out q (by omega)
                simpa [h1, h2] using this
              go_wp2
              go_roundw
              case rel => exact ⟨k + 1, _, by omega, by go_num, rfl, fun q hq => by
                  by_cases hq' : q = k
                  · subst hq'; rw [HX.out, HY.out]; exact HR.out
                  · exact HN.out q (by omega)⟩
              case measure => simp [intOf]; omega
        · have e1 : ((r1.length : Int) != (r2.length : Int)) = true := by simp; omega
          have HF : Hid (decide (m = m') = false) := ne_of_get HX.out HY.out (fun e => he (by rw [e]))
          clear he
          go_wp2
          go_quiet (fail)
          go_wp2
          go_ret
          exact ⟨ret_bool HF.out.symm, _, World.drewN_drewN _ _ _⟩
      · have HE : Hid (decide (m = m') = true) := by
          show decide (m = m') = true
          rw [decide_eq_true_iff]
          exact masks_eq HL.out (fun j hj => HN.out j (by omega))
        go_wp2
        go_ret
        exact ⟨ret_bool HE.out.symm, _, rfl⟩
  · have hb : ((m.length : Int) == (m'.length : Int)) = false := by simp; omega
    have hb' : ((m.length : Int) != (m'.length : Int)) = true := by simp; omega
    have HX : Hid (decide (m = m') = false) := by
      show decide (m = m') = false
      rw [decide_eq_false_iff_not]; rintro rfl; exact hl rfl
    clear hl
    go_enter Try.func39, Try.ntmps39
    go_wp2
    go_ret
    exact ⟨ret_bool HX.out.symm, 0, rfl⟩
end Go.Proofs.Ytknhfliefkkpfab
