
/- Alike of the answers of layer 2: a contract. -/
import Derived.Test.YtknhfliefkkpfabMAlk
import Derived.Test.YtknhfliefkkpfabMPair
import Derived.Test.YtknhfliefkkpfabMPairs
namespace Go.Proofs.Ytknhfliefkkpfab
open Go.RowKit

/-- The pairs among some that are alike. -/
def alkL (m : List (List Int)) {N : Nat} (L : List (PN N)) : List (Int × Int) := (L.filter fun x => alikeB (colM m x.1.1) (colM m x.1.2)).map fun x => ((x.1.1 : Int), (x.1.2 : Int))
def alkV (m : List (List Int)) : List (Int × Int) × Int := if validM m = true then (alkL m (upPN (colsM m) (colsM m)), 0) else ([], 1)
theorem alkL_snoc (m : List (List Int)) {N : Nat} (L : List (PN N)) (x : PN N) : alkL m (L ++ [x]) = alkL m L ++ (if alikeB (colM m x.1.1) (colM m x.1.2) = true then [((x.1.1 : Int), (x.1.2 : Int))] else []) := by
  unfold alkL
  rw [List.filter_append, List.map_append]
  congr 1
  by_cases h : alikeB (colM m x.1.1) (colM m x.1.2) = true
  · rw [if_pos h]; simp [h]
  · rw [if_neg h]; simp [h]
theorem alkL_length (m : List (List Int)) {N : Nat} (L : List (PN N)) : (alkL m L).length ≤ L.length := by
  unfold alkL; rw [List.length_map]; exact List.length_filter_le _ _
/-- The first q rows have the same number at i and j; opposite ones. -/
def sameTo (m : List (List Int)) (i j q : Nat) : Bool := (List.range q).all fun p => decide (gt (rowM m p) i = gt (rowM m p) j)
def oppTo (m : List (List Int)) (i j q : Nat) : Bool := (List.range q).all fun p => decide (gt (rowM m p) i = -gt (rowM m p) j)
theorem sameTo_succ (m : List (List Int)) (i j q : Nat) : sameTo m i j (q + 1) = (sameTo m i j q && decide (gt (rowM m q) i = gt (rowM m q) j)) := by
  unfold sameTo; rw [List.range_succ, List.all_append]; simp
theorem oppTo_succ (m : List (List Int)) (i j q : Nat) : oppTo m i j (q + 1) = (oppTo m i j q && decide (gt (rowM m q) i = -gt (rowM m q) j)) := by
  unfold oppTo; rw [List.range_succ, List.all_append]; simp
theorem gt_colM (m : List (List Int)) (j : Nat) {k : Nat} (hk : k < m.length) : gt (colM m j) k = gt (rowM m k) j := by
  rw [colM_range, gt_map_range _ hk]
theorem sameTo_all (m : List (List Int)) (i j : Nat) : sameTo m i j m.length = decide (colM m i = colM m j) := by
  rw [Bool.eq_iff_iff, decide_eq_true_iff]
  unfold sameTo
  rw [List.all_eq_true]
  constructor
  · intro h
    refine list_ext_gt (by rw [colM_length, colM_length]) fun k hk => ?_
    rw [colM_length] at hk
    rw [gt_colM _ _ hk, gt_colM _ _ hk]
    simpa using h k (List.mem_range.2 hk)
  · intro h k hk
    have hk := List.mem_range.1 hk
    have := congrArg (fun l => gt l k) h
    simp only [gt_colM _ _ hk] at this
    exact decide_eq_true this
theorem oppTo_all (m : List (List Int)) (i j : Nat) : oppTo m i j m.length = oppB (colM m i) (colM m j) := by
  rw [Bool.eq_iff_iff, oppB_iff (by rw [colM_length, colM_length]), colM_length]
  unfold oppTo
  rw [List.all_eq_true]
  constructor
  · intro h k hk
    rw [gt_colM _ _ hk, gt_colM _ _ hk]
    simpa using h k (List.mem_range.2 hk)
  · intro h k hk
    have hk := List.mem_range.1 hk
    have := h k hk
    rw [gt_colM _ _ hk, gt_colM _ _ hk] at this
    exact decide_eq_true this
theorem alike_of (m : List (List Int)) (i j : Nat) : (sameTo m i j m.length || oppTo m i j m.length) = alikeB (colM m i) (colM m j) := by
  rw [sameTo_all, oppTo_all]; rfl

set_option maxRecDepth 100000 in
set_option maxHeartbeats 1000000 in
theorem rAlike_any (a : Option Addr) (m : List (List Int)) (cap : Nat) (w : World) (hm : MOk m) (hs : Ms w a m) :
    Calls Try.prog 34 #[.slice a m.length cap] w (PsPost (alkV m) w) := by
  have HM := Lib.hid hm; clear hm
  have HS := Lib.hid hs; clear hs
  go_enter Try.func34, Try.ntmps34
  go_wp2_with fail
  refine (rvalid_any _ _ _ _ HM.out HS.out).mono ?_
  rintro e w1 ⟨rfl, rfl⟩
  cases hv : validM m
  · have HV := Lib.hid hv; clear hv
    go_wp2
    go_ret2
    exact PsPost.err 1 (by unfold alkV; rw [HV.out]; rfl) (Below.refl _ _)
  · have HV := Lib.hid hv; clear hv
    obtain ⟨hm1, hm6, hc1, hc10, _⟩ := validM_of HV.out
    obtain ⟨b, o, a0, c0, rfl, hcell0⟩ := row0 HS.out hm1
    obtain ⟨N, hN⟩ : ∃ N, colsM m = N := ⟨_, rfl⟩
    have HN := Lib.hid hN
    rw [hN] at hc1 hc10 hcell0
    clear hN
    have hz : (0 : Int) < (m.length : Int) := by omega
    go_wp2
    clear hcell0
    go_loopw [18, 4] (fun i v wr => ∃ k : Nat, k ≤ N ∧ i = .int .i64 k ∧ OwnQ wr w.heap.size v (alkL m (upPN N k)) ∧ Below w.heap.size w wr) (fun i _ _ => N - (intOf i).toNat)
    case atStart => exact ⟨0, Nat.zero_le _, rfl, OwnQ.nil _ _, Below.refl _ _⟩
    case round =>
      obtain ⟨k, hk, rfl, hO, hB⟩ := hrel
      have HO0 := Lib.hid hO; clear hO
      have HB := Lib.hid hB; clear hB
      have hlk : Hid ((upPN N k).length ≤ 100) := by
        show _ ≤ _
        have h1 := upPN_length N k
        have h3 : k * N ≤ 10 * 10 := Nat.mul_le_mul (by omega) hc10
        omega
      by_cases hlt : k < N
      · have HO := Lib.hid HO0.out
        have HE : Hid (alkL m (upPN N k) = alkL m (upPN N k ++ rowPN N k (k + 1))) := by show _ = _; rw [rowPN_start, List.append_nil]
        rw [HE.out] at HO
        clear HO0 HE
        go_wp2
        go_loopw [6, 4] (fun i v wr => ∃ j : Nat, k + 1 ≤ j ∧ j ≤ N ∧ i = .int .i64 j ∧ OwnQ wr w.heap.size v (alkL m (upPN N k ++ rowPN N k j)) ∧ Below w.heap.size w wr) (fun i _ _ => N - (intOf i).toNat)
        case atStart => exact ⟨k + 1, Nat.le_refl _, hlt, by go_num, HO.out, HB.out⟩
        case round =>
          clear HO HB
          obtain ⟨j, hkj, hjN, rfl, hO, hB⟩ := hrel
          have HO := Lib.hid hO; clear hO
          have HB := Lib.hid hB; clear hB
          have HS1 := Lib.hid (HS.out.below HB.out)
          obtain ⟨b1, o1, a1, c1, he, hcell1⟩ := row0 HS1.out hm1
          obtain ⟨rfl, rfl⟩ : b = b1 ∧ o = o1 := by simpa using he
          rw [HN.out] at hcell1
          clear he
          by_cases hlj : j < N
          · have HP : Hid (alkL m (upPN N k ++ rowPN N k (j + 1)) = alkL m (upPN N k ++ rowPN N k j) ++ (if alikeB (colM m k) (colM m j) = true then [((k : Int), (j : Int))] else [])) := by
              show _ = _
              rw [rowPN_succ (by omega) hlj, ← List.append_assoc, alkL_snoc]
            have HLL : Hid ((alkL m (upPN N k ++ rowPN N k j)).length ≤ 1000) := by
              show _ ≤ _
              have h1 := alkL_length m (upPN N k ++ rowPN N k j)
              have h2 := rowPN_length N k j
              have h3 := hlk.out
              rw [List.length_append] at h1
              omega
            go_wp2
            clear hcell1
            go_loopw [7, 8, 33] (fun s p i wr' => ∃ q nd : Nat, q ≤ m.length ∧ i = .int .i64 q ∧ s = .bool (sameTo m k j q) ∧ p = .bool (oppTo m k j q) ∧ wr' = wr.drewN nd) (fun _ _ i _ => m.length - (intOf i).toNat)
            case atStart => exact ⟨0, 0, Nat.zero_le _, rfl, rfl, rfl, rfl⟩
            case round =>
              obtain ⟨q, nd, hq, rfl, rfl, rfl, rfl⟩ := hrel
              by_cases hlq : q < m.length
              · obtain ⟨b2, o2, ai, r, ci, he, hcr, hsl, HX⟩ := HS1.out.at hlq
                obtain ⟨rfl, rfl⟩ : b = b2 ∧ o = o2 := by simpa using he
                clear he
                have hrl := (validM_row HV.out HX.out).1
                have hr1 := (validM_row HV.out HX.out).2
                rw [HN.out] at hrl
                obtain ⟨b3, o3, x, rfl, hcx, HX3⟩ := hsl.at (k := k) (by omega)
                obtain ⟨b4, o4, y, he, hcy, HY4⟩ := hsl.at (k := j) (by omega)
                obtain ⟨rfl, rfl⟩ : b3 = b4 ∧ o3 = o4 := by simpa using he
                have hy1 := allB_get hr1 HY4.out
                have hkr : (k : Int) < (r.length : Int) := by omega
                have hjr : (j : Int) < (r.length : Int) := by omega
                have h0k : (0 : Int) ≤ (k : Int) := by omega
                have h0j : (0 : Int) ≤ (j : Int) := by omega
                have HS2 : Hid (sameTo m k j (q + 1) = (sameTo m k j q && decide (x = y))) := by show _ = _; rw [sameTo_succ, rowM_some HX.out, gt_some' HX3.out, gt_some' HY4.out]
                have HP2 : Hid (oppTo m k j (q + 1) = (oppTo m k j q && decide (x = -y))) := by show _ = _; rw [oppTo_succ, rowM_some HX.out, gt_some' HX3.out, gt_some' HY4.out]
                clear he hsl hrl hr1
                obtain ⟨hy2, hy3⟩ := hy1
                have hny : IntKind.i64.wrap (-y) = -y := IntWalk.i64_in _ (by omega)
                generalize sameTo m k j q = s1 at *
                generalize oppTo m k j q = p1 at *
                obtain ⟨d1, hd1⟩ : ∃ d1, (x == y) = d1 := ⟨_, rfl⟩
                obtain ⟨d2, hd2⟩ : ∃ d2, (x == -y) = d2 := ⟨_, rfl⟩
                have HD1 : Hid (decide (x = y) = d1) := by show _ = _; rw [← hd1]; rfl
                have HD2 : Hid (decide (x = -y) = d2) := by show _ = _; rw [← hd2]; rfl
                cases s1 <;> cases p1 <;> go_wp2
                all_goals
                  go_quiet (fail)
                  go_wp2
                  go_quiet (fail)
                  go_wp2
                  go_roundw
                  case rel => exact ⟨q + 1, _, by omega, by go_num, congrArg Value.bool (by rw [HS2.out, HD1.out]; rfl), congrArg Value.bool (by rw [HP2.out, HD2.out]; rfl), rfl⟩
                  case measure => simp [intOf]; omega
              · obtain rfl : q = m.length := by omega
                have HAL := Lib.hid (alike_of m k j)
                generalize sameTo m k j m.length = s1 at *
                generalize oppTo m k j m.length = p1 at *
                cases hal : (s1 || p1)
                · obtain ⟨rfl, rfl⟩ : s1 = false ∧ p1 = false := by simpa using hal
                  have HPP : Hid (alkL m (upPN N k ++ rowPN N k (j + 1)) = alkL m (upPN N k ++ rowPN N k j)) := by show _ = _; rw [HP.out, ← HAL.out]; simp
                  clear hal HP HAL
                  go_wp2
                  go_roundw
                  case rel => exact ⟨j + 1, by omega, by omega, by go_num, by rw [HPP.out]; exact HO.out, below_drewN HB.out _⟩
                  case measure => simp [intOf]; omega
                · have HPP : Hid (alkL m (upPN N k ++ rowPN N k (j + 1)) = alkL m (upPN N k ++ rowPN N k j) ++ [((k : Int), (j : Int))]) := by show _ = _; rw [HP.out, ← HAL.out, hal]; rfl
                  have hcase : s1 = true ∨ (s1 = false ∧ p1 = true) := by cases s1 <;> simp_all
                  clear hal HP HAL
                  rcases hcase with rfl | ⟨rfl, rfl⟩
                  all_goals
                    go_wp2_with (at_builtin; go_must (refine wpList_pushQ rfl (.tmp 67) (.tmp 71) rfl w.heap.size _ (alkL m (upPN N k ++ rowPN N k j)) k j _ _ _ rfl rfl rfl (HO.out.drewN nd) (by have := HLL.out; omega) HB.out.size ?_); intro v' w9 ho' hz9 hg9)
                    go_roundw
                    case rel => exact ⟨j + 1, by omega, by omega, by go_num, by rw [HPP.out]; exact ho', (below_drewN HB.out nd).trans (pushQ_below (HO.out.drewN nd) HB.out.size hg9)⟩
                    case measure => simp [intOf]; omega
          · obtain rfl : j = N := by omega
            have HU : Hid (alkL m (upPN j (k + 1)) = alkL m (upPN j k ++ rowPN j k j)) := by show _ = _; rw [upPN_succ]
            go_wp2
            go_roundw
            case rel => exact ⟨k + 1, by omega, by go_num, by rw [HU.out]; exact HO.out, HB.out⟩
            case measure => simp [intOf]; omega
      · obtain rfl : k = N := by omega
        have HR : Hid (alkV m = (alkL m (upPN k k), 0)) := by show _ = _; unfold alkV; rw [HV.out, HN.out]; rfl
        go_wp2
        go_ret2
        exact PsPost.own HR.out HB.out HO0.out
end Go.Proofs.Ytknhfliefkkpfab
