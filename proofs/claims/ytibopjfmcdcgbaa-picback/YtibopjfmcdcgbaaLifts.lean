/- Lift and Unlift of layer 1 and of its answers: contracts. -/
import Derived.Test.YtibopjfmcdcgbaaLiftMath
namespace Go.Proofs.Ytibopjfmcdcgbaa
open Go.RowKit

theorem OwnI.drawN {w : World} {base : Nat} {v : Value} {xs : List Int} (h : OwnI w base v xs) (n : Nat) : OwnI (w.drewN n) base v xs := h
def liftV (xs : List Int) : List Int × Int := if powerB xs = true then (liftTo xs (lg xs.length), 0) else ([], 1)
theorem liftV_len {xs : List Int} {n : Nat} (h : xs.length ≤ n) : (liftV xs).1.length ≤ n := by
  unfold liftV; split
  · rw [liftTo_length]; exact h
  · exact Nat.zero_le _
theorem lift_post (a : Option Addr) (xs : List Int) (cap : Nat) (w : World) (hl : xs.length ≤ 140737488351232) (hs : Sl w a xs) :
    Calls Try.prog 47 #[.slice a xs.length cap] w (LPost (liftV xs) w) := by
  refine (lift_any a xs cap w hl hs).mono ?_
  rintro e w' ⟨hb, ⟨hp, g, c, rfl, ho⟩ | ⟨hp, rfl⟩⟩
  · exact LPost.ok (ys := liftTo xs (lg xs.length)) (by simp [liftV, hp]) hb ho (by rw [liftTo_length])
  · exact LPost.err 1 (by simp [liftV, hp]) hb

set_option maxRecDepth 100000 in
set_option maxHeartbeats 1000000 in
theorem rlift_any (a : Option Addr) (xs : List Int) (cap : Nat) (w : World) (hl : xs.length ≤ 140737488351232) (hs : Sl w a xs) :
    Calls Try.prog 48 #[.slice a xs.length cap] w (LPost (liftV xs) w) := by
  have HS := Lib.hid hs; clear hs
  cases hp : powerB xs
  · go_enter Try.func48, Try.ntmps48
    go_wp2_with (go_at_call 22; refine (rPower_any _ _ _ _ hl HS.out).mono ?_; rintro e w1 ⟨rfl, rfl⟩)
    go_ret2
    exact LPost.err 1 (by simp [liftV, hp]) (Below.refl _ _)
  · have hpw := (powerB_of hp).2
    have hle := powB_le hpw
    have hle2 := hle.2
    have hpos := hle.1
    obtain ⟨b, off, rfl⟩ := some_of HS.out hle.1
    obtain ⟨p, hp8, hxp⟩ := powB_two hpw
    have HP := Lib.hid hpw; clear hpw hle
    have HX := Lib.hid hxp; clear hxp
    go_enter Try.func48, Try.ntmps48
    go_wp2_with (first | (go_at_call 22; refine (rPower_any _ _ _ _ hl HS.out).mono ?_; rintro e w1 ⟨rfl, rfl⟩) | (at_builtin; go_must (refine wpList_copied (.tmp 13) (.tmp 14) w.heap.size w w.heap.size b off xs.length cap xs rfl rfl rfl rfl rfl rfl HS.out (by omega) (Nat.le_refl _) ?_); intro v' w2 ho hb2; obtain ⟨g, cap', rfl, hgb⟩ := ho.shape (by omega); have HO2 := Lib.hid ho; clear ho; have HB2 := Lib.hid hb2; clear hb2))
    go_loopw [5] (fun i wr => ∃ k n : Nat, k ≤ p ∧ n = 2 ^ (p - k) ∧ i = .int .i64 n ∧ OwnI wr w.heap.size (.slice (some ⟨g, 0, none⟩) xs.length cap') (liftTo xs k) ∧ Below w.heap.size w wr) (fun i _ => (intOf i).toNat)
    case atStart => exact ⟨0, xs.length, Nat.zero_le _, HX.out, rfl, HO2.out, HB2.out⟩
    case round =>
      obtain ⟨k, n, hk, hn, rfl, hO, hB⟩ := hrel
      have HN := Lib.hid hn; clear hn
      have HO3 := Lib.hid hO; clear hO
      have HB3 := Lib.hid hB; clear hB
      have hnl : n ≤ xs.length := by rw [HN.out, HX.out]; exact Nat.pow_le_pow_right (by omega) (by omega)
      by_cases hgt : 1 < n
      · have hkp : k < p := by
          rcases Nat.lt_or_ge k p with h | h
          · exact h
          · have h0 : p - k = 0 := by omega
            have h2 := HN.out; rw [h0] at h2; omega
        obtain ⟨m, hm⟩ : ∃ m, n = 2 * m := ⟨2 ^ (p - k - 1), by rw [HN.out, ← Nat.pow_succ', show (p - k - 1).succ = p - k by omega]⟩
        subst hm
        have hm4 : m ≤ 128 := by omega
        have hml : Hid (xs.length / 2 ^ (k + 1) = m) := by
          show xs.length / 2 ^ (k + 1) = m
          have e1 : 2 ^ p = 2 ^ (p - k - 1) * 2 ^ (k + 1) := by rw [← Nat.pow_add]; congr 1; omega
          have e2 : 2 ^ (p - k) = 2 ^ (p - k - 1) * 2 := by rw [← Nat.pow_succ]; congr 1; omega
          have e3 := HN.out
          rw [HX.out, e1, Nat.mul_div_cancel _ (by exact Nat.two_pow_pos _)]
          omega
        have hll : (liftTo xs k).length = xs.length := liftTo_length xs k
        have HLL := Lib.hid hll; clear hll
        generalize hys : liftTo xs k = ys at *
        have HYS := Lib.hid hys; clear hys
        have hBs := HB3.out.size
        have hsl3 := HO3.out.sl
        have HSL3 := Lib.hid hsl3; clear hsl3
        go_wp2_with (at_builtin; go_must (refine wpList_copied (.tmp 22) (.tmp 23) wr.heap.size wr wr.heap.size g 0 xs.length cap' ys rfl rfl rfl rfl rfl HLL.out.symm HSL3.out (by rw [HLL.out]; omega) (Nat.le_refl _) ?_); intro v' w4 ho hb4; obtain ⟨go, capo, rfl, hgo⟩ := ho.shape (by rw [HLL.out]; omega); rw [HLL.out] at ho ⊢; have HOO := Lib.hid ho; clear ho; have HB4 := Lib.hid hb4; clear hb4)
        have hgl := HO3.out.lt
        go_loopw [7] (fun i wq => ∃ (j : Nat) (zs : List Int), j ≤ m ∧ i = .int .i64 j ∧ OwnI wq w.heap.size (.slice (some ⟨g, 0, none⟩) xs.length cap') zs ∧ SpK m ys j zs ∧ OwnI wq wr.heap.size (.slice (some ⟨go, 0, none⟩) xs.length capo) ys ∧ Below w.heap.size w wq) (fun i _ => m - (intOf i).toNat)
        case atStart => exact ⟨0, ys, Nat.zero_le _, rfl, HO3.out.below HB4.out, SpK.start _ _, HOO.out, HB3.out.trans (HB4.out.mono hBs)⟩
        case round =>
          obtain ⟨j, zs, hj, rfl, hq1, hq2, hq3, hq4⟩ := hrel
          have Q1 := Lib.hid hq1; clear hq1
          have Q2 := Lib.hid hq2; clear hq2
          have Q3 := Lib.hid hq3; clear hq3
          have Q4 := Lib.hid hq4; clear hq4
          by_cases hjm : j < m
          · obtain ⟨ca, _⟩ := Q3.out.cell (j := 2 * j) (by rw [HLL.out]; omega)
            obtain ⟨cb, _⟩ := Q3.out.cell (j := 2 * j + 1) (by rw [HLL.out]; omega)
            obtain ⟨cz, fz⟩ := Q1.out.cell (j := j) (by rw [Q2.out.len, HLL.out]; omega)
            obtain ⟨cy, fy⟩ := Q1.out.cell (j := m + j) (by rw [Q2.out.len, HLL.out]; omega)
            have hsx := Lib.hid (Q2.out.next hjm (by rw [HLL.out]; omega) (x := spA ys j) (y := spB ys j) rfl rfl)
            have hA : spA ys j = IntKind.i64.wrap (ys[2 * j]?.getD 0 + ys[2 * j + 1]?.getD 0) / 2 := rfl
            have hB2 : spB ys j = IntKind.i64.wrap (ys[2 * j]?.getD 0 - ys[2 * j + 1]?.getD 0) := rfl
            have HA := Lib.hid hA; clear hA
            have HBB := Lib.hid hB2; clear hB2
            generalize ys[2 * j]?.getD 0 = x at ca HA HBB
            generalize ys[2 * j + 1]?.getD 0 = y at cb HA HBB
            generalize zs[j]?.getD 0 = z1 at cz
            generalize zs[m + j]?.getD 0 = z2 at cy
            have hylen : ys.length = xs.length := HLL.out
            have t1 : (2 * (j : Int)).toNat = 2 * j := by omega
            have t2 : (2 * (j : Int) + 1).toNat = 2 * j + 1 := by omega
            have t3 : ((m : Int) + (j : Int)).toNat = m + j := by omega
            have hgq := Q1.out.lt
            have ne1 : ¬ m + j = j := by omega
            have ne2 : ¬ j = m + j := by omega
            go_wp2
            go_quiet (fail)
            go_wp2_with (go_at_call 72; refine (half_any _ _).mono ?_; rintro e w9 ⟨rfl, rfl⟩)
            go_roundw
            case rel =>
              refine ⟨j + 1, (zs.set j (spA ys j)).set (m + j) (spB ys j), by omega, by go_num, ?_, hsx.out, ?_, ?_⟩
              · rw [HA.out, HBB.out, wrap_is, wrap_is]
                exact ((Q1.out.drawN _).stored j _).stored (m + j) _
              · refine Q3.out.sameBlock ?_
                exact (Below.heap_setCell _ _ _ go (by show go ≠ g; omega)).trans (Below.heap_setCell _ _ _ go (by show go ≠ g; omega))
              · exact ((below_drewN Q4.out _).setCell (p := ⟨g, j, none⟩) hgq.2 _).setCell (p := ⟨g, m + j, none⟩) hgq.2 _
            case measure => simp [intOf]; omega
          · obtain rfl : j = m := by omega
            go_wp2
            go_roundw
            case rel =>
              refine ⟨k + 1, j, by omega, ?_, by go_num, ?_, Q4.out⟩
              · have e2 : 2 ^ (p - k) = 2 ^ (p - (k + 1)) * 2 := by rw [← Nat.pow_succ]; congr 1; omega
                have e3 := HN.out
                omega
              · show OwnI _ _ _ (splitL (xs.length / 2 ^ (k + 1)) (liftTo xs k))
                rw [hml.out, HYS.out, (split_is hm4 (by rw [HLL.out]; omega)).uniq Q2.out]
                exact Q1.out
            case measure => simp [intOf]; omega
      · have hkp : Hid (k = p) := by
          show k = p
          rcases Nat.lt_or_ge k p with h | h
          · have : 2 ^ 1 ≤ 2 ^ (p - k) := Nat.pow_le_pow_right (by omega) (by omega)
            have := HN.out
            omega
          · omega
        go_wp2
        go_ret2
        refine LPost.ok (ys := liftTo xs k) ?_ HB3.out HO3.out (by rw [liftTo_length])
        rw [hkp.out]; simp [liftV, hp, lg_pow HP.out HX.out]
end Go.Proofs.Ytibopjfmcdcgbaa
