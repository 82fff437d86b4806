
/- Support of layer 1 and of its answers, Largest of the answers: contracts. -/
import Derived.Test.YtacbciamehchjaaTopMath
import Derived.Test.YtacbciamehchjaaVal2
import Derived.Test.YtacbciamehchjaaPush
import Derived.Test.YtacbciamehchjaaSize
namespace Go.Proofs.Ytacbciamehchjaa
open Go.RowKit

def supTo (xs : List Int) : Nat → List Int
  | 0 => []
  | i + 1 => if gt xs i ≠ 0 then supTo xs i ++ [(i : Int)] else supTo xs i
theorem supTo_len (xs : List Int) : ∀ i, (supTo xs i).length ≤ i
  | 0 => Nat.le_refl _
  | i + 1 => by
    have := supTo_len xs i
    unfold supTo; split
    · rw [List.length_append, List.length_singleton]; omega
    · omega
def supV (xs : List Int) : List Int × Int := if validListB xs = true then (supTo xs xs.length, 0) else ([], 1)
def largestR (L : List Int) (k : Int) : List Int × Int := if validListB L = true then (if 0 ≤ k ∧ k ≤ L.length then (topTo L k L.length, 0) else ([], 7)) else ([], 1)
set_option maxRecDepth 100000 in
set_option maxHeartbeats 800000 in
theorem support_any (a : Option Addr) (xs : List Int) (cap : Nat) (w : World) (hl : xs.length ≤ 140737488351232) (hs : Sl w a xs) :
    Calls Try.prog 10 #[.slice a xs.length cap] w (LPost (supV xs) w) := by
  have HS := Lib.hid hs; clear hs
  go_enter Try.func10, Try.ntmps10
  go_wp2_with fail
  refine (validList_any _ _ _ _ hl HS.out).mono ?_
  rintro e w1 ⟨rfl, hb⟩
  have HB1 := Lib.hid hb; clear hb
  cases hv : validListB xs
  · have HR : Hid (supV xs = ([], 1)) := by show _ = _; unfold supV; rw [hv]; rfl
    clear hv
    go_wp2
    go_ret2
    exact LPost.err 1 HR.out HB1.out
  · have HR : Hid (supV xs = (supTo xs xs.length, 0)) := by show _ = _; unfold supV; rw [if_pos hv]
    have h256 := (list_256 hv).1
    clear hv
    go_wp2
    go_loopw [4, 12] (fun v i wr => ∃ k : Nat, k ≤ xs.length ∧ i = .int .i64 k ∧ OwnI wr w1.heap.size v (supTo xs k) ∧ Below w1.heap.size w1 wr) (fun _ i _ => xs.length - (intOf i).toNat)
    case atStart => exact ⟨0, Nat.zero_le _, rfl, OwnI.nil _ _, Below.refl _ _⟩
    case round =>
      obtain ⟨k, hk, rfl, hO, hB⟩ := hrel
      have HO := Lib.hid hO; clear hO
      have HB := Lib.hid hB; clear hB
      have HBw : Hid (Below w.heap.size w wr) := HB1.out.trans (HB.out.mono HB1.out.size)
      by_cases hlt : k < xs.length
      · obtain ⟨b, off, x, rfl, hcell, HX⟩ := (HS.out.below HBw.out).at hlt
        have HG := Lib.hid (gt_some' HX.out)
        have HLEN := Lib.hid (supTo_len xs k)
        by_cases hx : x = 0
        · have HT : Hid (supTo xs (k + 1) = supTo xs k) := by show _ = _; conv => lhs; unfold supTo; rw [if_neg (by rw [HG.out]; simpa using hx)]
          have e0 : (x == 0) = true := by simpa using hx
          have e1 : (x != 0) = false := by simpa using hx
          clear hx
          go_wp2
          go_roundw
          case rel => exact ⟨k + 1, by omega, by go_num, by rw [HT.out]; exact HO.out, HB.out⟩
          case measure => simp [intOf]; omega
        · have HT : Hid (supTo xs (k + 1) = supTo xs k ++ [(k : Int)]) := by show _ = _; conv => lhs; unfold supTo; rw [if_pos (by rw [HG.out]; exact hx)]
          have e0 : (x == 0) = false := by simpa using hx
          have e1 : (x != 0) = true := by simpa using hx
          clear hx
          go_wp2_with (at_builtin; go_must (refine wpList_push rfl (.tmp 19) (.tmp 21) rfl w1.heap.size _ (supTo xs k) _ _ _ _ rfl rfl rfl HO.out (by have := HLEN.out; omega) HB.out.size ?_); intro v' w9 ho' hb')
          go_roundw
          case rel => exact ⟨k + 1, by omega, by go_num, by rw [HT.out]; exact ho', HB.out.trans hb'⟩
          case measure => simp [intOf]; omega
      · obtain rfl : k = xs.length := by omega
        go_wp2
        go_ret2
        exact LPost.own HR.out HBw.out HO.out
set_option maxRecDepth 100000 in
set_option maxHeartbeats 800000 in
theorem rsupport_any (a : Option Addr) (xs : List Int) (cap : Nat) (w : World) (hl : xs.length ≤ 140737488351232) (hs : Sl w a xs) :
    Calls Try.prog 11 #[.slice a xs.length cap] w (LPost (supV xs) w) := by
  have HS := Lib.hid hs; clear hs
  go_enter Try.func11, Try.ntmps11
  go_wp2_with fail
  refine (rvalidList_any _ _ _ _ hl HS.out).mono ?_
  rintro e w1 ⟨rfl, rfl⟩
  have HB1 : Hid (Below w.heap.size w w) := Below.refl _ _
  cases hv : validListB xs
  · have HR : Hid (supV xs = ([], 1)) := by show _ = _; unfold supV; rw [hv]; rfl
    clear hv
    go_wp2
    go_ret2
    exact LPost.err 1 HR.out HB1.out
  · have HR : Hid (supV xs = (supTo xs xs.length, 0)) := by show _ = _; unfold supV; rw [if_pos hv]
    have h256 := (list_256 hv).1
    clear hv
    go_wp2
    go_loopw [4, 12] (fun v i wr => ∃ k : Nat, k ≤ xs.length ∧ i = .int .i64 k ∧ OwnI wr w.heap.size v (supTo xs k) ∧ Below w.heap.size w wr) (fun _ i _ => xs.length - (intOf i).toNat)
    case atStart => exact ⟨0, Nat.zero_le _, rfl, OwnI.nil _ _, Below.refl _ _⟩
    case round =>
      obtain ⟨k, hk, rfl, hO, hB⟩ := hrel
      have HO := Lib.hid hO; clear hO
      have HB := Lib.hid hB; clear hB
      have HBw : Hid (Below w.heap.size w wr) := HB1.out.trans (HB.out.mono HB1.out.size)
      by_cases hlt : k < xs.length
      · obtain ⟨b, off, x, rfl, hcell, HX⟩ := (HS.out.below HBw.out).at hlt
        have HG := Lib.hid (gt_some' HX.out)
        have HLEN := Lib.hid (supTo_len xs k)
        by_cases hx : x = 0
        · have HT : Hid (supTo xs (k + 1) = supTo xs k) := by show _ = _; conv => lhs; unfold supTo; rw [if_neg (by rw [HG.out]; simpa using hx)]
          have e0 : (x == 0) = true := by simpa using hx
          have e1 : (x != 0) = false := by simpa using hx
          clear hx
          go_wp2
          go_roundw
          case rel => exact ⟨k + 1, by omega, by go_num, by rw [HT.out]; exact HO.out, HB.out⟩
          case measure => simp [intOf]; omega
        · have HT : Hid (supTo xs (k + 1) = supTo xs k ++ [(k : Int)]) := by show _ = _; conv => lhs; unfold supTo; rw [if_pos (by rw [HG.out]; exact hx)]
          have e0 : (x == 0) = false := by simpa using hx
          have e1 : (x != 0) = true := by simpa using hx
          clear hx
          go_wp2_with (at_builtin; go_must (refine wpList_push rfl (.tmp 19) (.tmp 21) rfl w.heap.size _ (supTo xs k) _ _ _ _ rfl rfl rfl HO.out (by have := HLEN.out; omega) HB.out.size ?_); intro v' w9 ho' hb')
          go_roundw
          case rel => exact ⟨k + 1, by omega, by go_num, by rw [HT.out]; exact ho', HB.out.trans hb'⟩
          case measure => simp [intOf]; omega
      · obtain rfl : k = xs.length := by omega
        go_wp2
        go_ret2
        exact LPost.own HR.out HBw.out HO.out
theorem av_pos {x : Int} (h : -1000000 ≤ x ∧ x ≤ 1000000) : 0 ≤ av x ∧ av x ≤ 1000000 := by unfold av; split <;> omega
set_option maxRecDepth 100000 in
set_option maxHeartbeats 1600000 in
theorem rlargest_any (a : Option Addr) (L : List Int) (cap : Nat) (k : Int) (w : World) (hl : L.length ≤ 140737488351232) (hs : Sl w a L) :
    Calls Try.prog 14 #[.slice a L.length cap, .int .i64 k] w (LPost (largestR L k) w) := by
  have HS := Lib.hid hs; clear hs
  go_enter Try.func14, Try.ntmps14
  go_wp2_with fail
  refine (rvalidList_any _ _ _ _ hl HS.out).mono ?_
  rintro e w1 ⟨rfl, rfl⟩
  have HB1 : Hid (Below w.heap.size w w) := Below.refl _ _
  cases hv : validListB L
  · have HR : Hid (largestR L k = ([], 1)) := by show _ = _; unfold largestR; rw [hv]; rfl
    clear hv
    go_wp2
    go_ret2
    exact LPost.err 1 HR.out HB1.out
  · obtain ⟨h256, hall⟩ := list_256 hv
    have HA := Lib.hid hall; clear hall
    have HV := Lib.hid hv; clear hv
    go_wp2_with fail
    refine (rwithin_any _ _ _ _).mono ?_
    rintro e w2 ⟨rfl, rfl⟩
    by_cases hk : 0 ≤ k ∧ k ≤ L.length
    · have HR : Hid (largestR L k = (topTo L k L.length, 0)) := by show _ = _; unfold largestR; rw [HV.out, if_pos rfl, if_pos hk]
      have hrb : rangeB k 0 (L.length : Int) = true := by simp [rangeB]; omega
      rw [hrb]
      obtain ⟨k0, k1⟩ := hk
      clear hrb
      go_wp2
      go_loopw [6, 22] (fun v i wr => ∃ j : Nat, j ≤ L.length ∧ i = .int .i64 j ∧ OwnI wr w.heap.size v (topTo L k j) ∧ Below w.heap.size w wr) (fun _ i _ => L.length - (intOf i).toNat)
      case atStart => exact ⟨0, Nat.zero_le _, rfl, OwnI.nil _ _, Below.refl _ _⟩
      case round =>
        obtain ⟨i, hi, rfl, hO, hB⟩ := hrel
        have HO := Lib.hid hO; clear hO
        have HB := Lib.hid hB; clear hB
        have HBw : Hid (Below w.heap.size w wr) := HB1.out.trans (HB.out.mono HB1.out.size)
        by_cases hlt : i < L.length
        · obtain ⟨b, off, x, rfl, hcell, HX⟩ := (HS.out.below HBw.out).at hlt
          have HG := Lib.hid (gt_some' HX.out)
          have hxr := allB_get HA.out HX.out
          have hxa := av_pos hxr
          have HXR : Hid (-2000000 ≤ x ∧ x ≤ 2000000) := by show _ ∧ _; omega
          obtain ⟨ax, hax⟩ : ∃ ax, av x = ax := ⟨_, rfl⟩
          have HAX := Lib.hid hax
          rw [hax] at hxa
          clear hax hxr
          go_wp2
          go_loopw [9, 29] (fun s j wq => ∃ q : Nat, q ≤ L.length ∧ j = .int .i64 q ∧ s = .int .i64 (aheadTo L i q) ∧ wr = wq) (fun _ j _ => L.length - (intOf j).toNat)
          case atStart => exact ⟨0, Nat.zero_le _, rfl, rfl, rfl⟩
          case round =>
            obtain ⟨q, hq, rfl, rfl, rfl⟩ := hrel
            have HIN := Lib.hid (aheadTo_in L i q)
            have HNX : Hid (aheadTo L i (q + 1) = aheadTo L i q + aheadI L i q) := rfl
            obtain ⟨S, hS⟩ : ∃ S, aheadTo L i q = S := ⟨_, rfl⟩
            rw [hS] at HIN HNX
            rw [hS]
            have HSS := Lib.hid hS
            clear hS
            by_cases hlq : q < L.length
            · obtain ⟨b', off', y, he, hcy, HY⟩ := (HS.out.below HBw.out).at hlq
              obtain ⟨rfl, rfl⟩ : b = b' ∧ off = off' := by simpa using he
              clear he
              have HGY := Lib.hid (gt_some' HY.out)
              have hyr := allB_get HA.out HY.out
              have hya := av_pos hyr
              have HYR : Hid (-2000000 ≤ y ∧ y ≤ 2000000) := by show _ ∧ _; omega
              obtain ⟨ay, hay⟩ : ∃ ay, av y = ay := ⟨_, rfl⟩
              have HAY := Lib.hid hay
              rw [hay] at hya
              clear hay hyr
              obtain ⟨s1, s2⟩ := HIN.out
              have HAI : Hid (aheadI L i q = if ax < ay ∨ (ay = ax ∧ q < i) then 1 else 0) := by show _ = _; unfold aheadI; rw [HG.out, HGY.out, HAX.out, HAY.out]
              rcases Int.lt_trichotomy ax ay with g | g | g
              · have HT : Hid (aheadTo L i (q + 1) = S + 1) := by show _ = _; rw [HNX.out, HAI.out, if_pos (.inl g)]
                go_wp2_with fail
                refine (abs_any y _ HYR.out.1 HYR.out.2).mono ?_
                rintro e wz ⟨rfl, rfl⟩
                rw [HAY.out]
                go_wp2_with fail
                refine (abs_any x _ HXR.out.1 HXR.out.2).mono ?_
                rintro e wz ⟨rfl, rfl⟩
                rw [HAX.out]
                go_wp2
                go_roundw
                case rel => exact ⟨q + 1, by omega, by go_num, by rw [HT.out], (by first | trivial | rfl)⟩
                case measure => simp [intOf]; omega
              · subst g
                by_cases hqi : q < i
                · have HT : Hid (aheadTo L i (q + 1) = S + 1) := by show _ = _; rw [HNX.out, HAI.out, if_pos (.inr ⟨rfl, hqi⟩)]
                  go_wp2_with fail
                  refine (abs_any y _ HYR.out.1 HYR.out.2).mono ?_
                  rintro e wz ⟨rfl, rfl⟩
                  rw [HAY.out]
                  go_wp2_with fail
                  refine (abs_any x _ HXR.out.1 HXR.out.2).mono ?_
                  rintro e wz ⟨rfl, rfl⟩
                  rw [HAX.out]
                  go_wp2_with fail
                  refine (abs_any y _ HYR.out.1 HYR.out.2).mono ?_
                  rintro e wz ⟨rfl, rfl⟩
                  rw [HAY.out]
                  go_wp2_with fail
                  refine (abs_any x _ HXR.out.1 HXR.out.2).mono ?_
                  rintro e wz ⟨rfl, rfl⟩
                  rw [HAX.out]
                  go_wp2
                  go_roundw
                  case rel => exact ⟨q + 1, by omega, by go_num, by rw [HT.out], (by first | trivial | rfl)⟩
                  case measure => simp [intOf]; omega
                · have HT : Hid (aheadTo L i (q + 1) = S) := by show _ = _; rw [HNX.out, HAI.out, if_neg (by omega), Int.add_zero]
                  go_wp2_with fail
                  refine (abs_any y _ HYR.out.1 HYR.out.2).mono ?_
                  rintro e wz ⟨rfl, rfl⟩
                  rw [HAY.out]
                  go_wp2_with fail
                  refine (abs_any x _ HXR.out.1 HXR.out.2).mono ?_
                  rintro e wz ⟨rfl, rfl⟩
                  rw [HAX.out]
                  go_wp2_with fail
                  refine (abs_any y _ HYR.out.1 HYR.out.2).mono ?_
                  rintro e wz ⟨rfl, rfl⟩
                  rw [HAY.out]
                  go_wp2_with fail
                  refine (abs_any x _ HXR.out.1 HXR.out.2).mono ?_
                  rintro e wz ⟨rfl, rfl⟩
                  rw [HAX.out]
                  go_wp2
                  go_roundw
                  case rel => exact ⟨q + 1, by omega, by go_num, by rw [HT.out], (by first | trivial | rfl)⟩
                  case measure => simp [intOf]; omega
              · have HT : Hid (aheadTo L i (q + 1) = S) := by show _ = _; rw [HNX.out, HAI.out, if_neg (by omega), Int.add_zero]
                have e0 : (ay == ax) = false := by simp; omega
                go_wp2_with fail
                refine (abs_any y _ HYR.out.1 HYR.out.2).mono ?_
                rintro e wz ⟨rfl, rfl⟩
                rw [HAY.out]
                go_wp2_with fail
                refine (abs_any x _ HXR.out.1 HXR.out.2).mono ?_
                rintro e wz ⟨rfl, rfl⟩
                rw [HAX.out]
                go_wp2_with fail
                refine (abs_any y _ HYR.out.1 HYR.out.2).mono ?_
                rintro e wz ⟨rfl, rfl⟩
                rw [HAY.out]
                go_wp2_with fail
                refine (abs_any x _ HXR.out.1 HXR.out.2).mono ?_
                rintro e wz ⟨rfl, rfl⟩
                rw [HAX.out]
                go_wp2
                go_roundw
                case rel => exact ⟨q + 1, by omega, by go_num, by rw [HT.out], (by first | trivial | rfl)⟩
                case measure => simp [intOf]; omega
            · obtain rfl : q = L.length := by omega
              have HTL := Lib.hid (topTo_len L k i)
              by_cases hsk : S < k
              · have HT : Hid (topTo L k (i + 1) = topTo L k i ++ [(i : Int)]) := by show _ = _; conv => lhs; unfold topTo; rw [if_pos (by rw [HSS.out]; exact hsk)]
                go_wp2_with (at_builtin; go_must (refine wpList_push rfl (.tmp 57) (.tmp 59) rfl w.heap.size _ (topTo L k i) _ _ _ _ rfl rfl rfl HO.out (by have := HTL.out; omega) HB.out.size ?_); intro v' w9 ho' hb')
                go_roundw
                case rel => exact ⟨i + 1, by omega, by go_num, by rw [HT.out]; exact ho', HB.out.trans hb'⟩
                case measure => simp [intOf]; omega
              · have HT : Hid (topTo L k (i + 1) = topTo L k i) := by show _ = _; conv => lhs; unfold topTo; rw [if_neg (by rw [HSS.out]; exact hsk)]
                go_wp2
                go_roundw
                case rel => exact ⟨i + 1, by omega, by go_num, by rw [HT.out]; exact HO.out, HB.out⟩
                case measure => simp [intOf]; omega
        · obtain rfl : i = L.length := by omega
          go_wp2
          go_ret2
          exact LPost.own HR.out HBw.out HO.out
    · have HR : Hid (largestR L k = ([], 7)) := by show _ = _; unfold largestR; rw [HV.out, if_pos rfl, if_neg hk]
      have hrb : rangeB k 0 (L.length : Int) = false := by simp [rangeB]; omega
      rw [hrb]
      clear hk hrb
      go_wp2
      go_ret2
      exact LPost.err 7 HR.out HB1.out
end Go.Proofs.Ytacbciamehchjaa
