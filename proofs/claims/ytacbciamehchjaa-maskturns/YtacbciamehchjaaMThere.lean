
/- Lists of pixels: allThere, listed of layer 2: contracts. -/
import Derived.Test.YtacbciamehchjaaMCol2
import Derived.Test.YtacbciamehchjaaMAsc
namespace Go.Proofs.Ytacbciamehchjaa
open Go.RowKit

def allThereB (m : List (List Int)) (ps : List Int) : Bool := ps.all (thereB m)
theorem allThere_no {m : List (List Int)} {ps : List Int} {k : Nat} {x : Int} (h : ps[k]? = some x) (hx : thereB m x = false) : allThereB m ps = false := by
  unfold allThereB; rw [List.all_eq_false]; exact ⟨x, List.mem_of_getElem? h, by rw [hx]; decide⟩
theorem allThere_yes {m : List (List Int)} {ps : List Int} (h : ∀ j, j < ps.length → thereB m (ps[j]?.getD 0) = true) : allThereB m ps = true := by
  unfold allThereB; rw [List.all_eq_true]; intro x hx
  obtain ⟨j, hj, rfl⟩ := List.mem_iff_getElem.1 hx
  have := h j hj
  simpa [hj] using this
theorem there1_any (j : Int) (B : Nat) (a : Option Addr) (m : List (List Int)) (cap : Nat) (w : World) (hv : validM m = true) (hs : Ms w a m) (hc : w.cell? ⟨B, 0, none⟩ = some (.slice a m.length cap)) :
    Calls Try.prog 72 #[.int .i64 j, .pointer (some ⟨B, 0, none⟩)] w fun e w' => e = .returned (.bool (thereB m j)) ∧ w = w' := by
  have HS := Lib.hid hs; clear hs
  have HV := Lib.hid hv; clear hv
  go_enter Try.func72, Try.ntmps72
  go_wp2_with (go_at_call 64; refine (there_any _ _ _ _ _ HV.out HS.out).mono ?_; rintro e w' ⟨rfl, rfl⟩)
  go_ret
  exact ⟨rfl, rfl⟩
theorem allthere1_any (B : Nat) (a : Option Addr) (m : List (List Int)) (ca : Nat) (b : Option Addr) (ps : List Int) (cap : Nat) (w : World) (hv : validM m = true) (hl : ps.length ≤ 9223372036854775807) (ha : Ms w a m) (hc : w.cell? ⟨B, 0, none⟩ = some (.slice a m.length ca)) (hs : Sl w b ps) :
    Calls Try.prog 68 #[.slice b ps.length cap, .func (.func 72) #[] #[.pointer (some ⟨B, 0, none⟩)]] w fun e w' => e = .returned (.bool (allThereB m ps)) ∧ w = w' := by
  have HS := Lib.hid hs; clear hs
  have HA := Lib.hid ha; clear ha
  have HV := Lib.hid hv; clear hv
  have HC := Lib.hid hc; clear hc
  go_enter Try.func68, Try.ntmps68
  go_wp2
  go_loop [9] (fun i => ∃ k : Nat, k ≤ ps.length ∧ i = .int .i64 k ∧ ∀ j, j < k → thereB m (ps[j]?.getD 0) = true) (fun i => ps.length - (intOf i).toNat)
  case atStart => exact ⟨0, Nat.zero_le _, rfl, fun j h => by omega⟩
  case round =>
    obtain ⟨k, hk, rfl, hno⟩ := hrel
    have HN := Lib.hid hno; clear hno
    by_cases hlt : k < ps.length
    · obtain ⟨b, off, x, rfl, hcell, HX⟩ := HS.out.at hlt
      cases ho : thereB m x
      · go_wp2_with (go_at_call 72; refine (there1_any _ _ _ _ _ _ HV.out HA.out HC.out).mono ?_; rintro e w' ⟨rfl, rfl⟩)
        go_ret
        exact ⟨ret_bool (allThere_no HX.out ho).symm, rfl⟩
      · go_wp2_with (go_at_call 72; refine (there1_any _ _ _ _ _ _ HV.out HA.out HC.out).mono ?_; rintro e w' ⟨rfl, rfl⟩)
        go_round
        case rel => exact ⟨k + 1, by omega, by go_num, fun j hj => by
            by_cases hj' : j = k
            · subst hj'; rw [HX.out]; exact ho
            · exact HN.out j (by omega)⟩
        case measure => simp [intOf]; omega
    · go_wp2
      go_ret
      exact ⟨ret_bool (allThere_yes (fun j hj => HN.out j (by omega))).symm, rfl⟩
theorem allThere_any (a : Option Addr) (m : List (List Int)) (ca : Nat) (b : Option Addr) (ps : List Int) (cap : Nat) (w : World) (hv : validM m = true) (hl : ps.length ≤ 9223372036854775807) (ha : Ms w a m) (hs : Sl w b ps) :
    Calls Try.prog 49 #[.slice a m.length ca, .slice b ps.length cap] w fun e w' => e = .returned (.bool (allThereB m ps)) ∧ Below w.heap.size w w' := by
  have HA := Lib.hid (ha.alloc (.cells #[.slice a m.length ca] 39)); clear ha
  have HS := Lib.hid (hs.alloc (.cells #[.slice a m.length ca] 39)); clear hs
  have HV := Lib.hid hv; clear hv
  have HC : Hid ((w.alloc (.cells #[.slice a m.length ca] 39)).cell? ⟨w.heap.size, 0, none⟩ = some (.slice a m.length ca)) := alloc_cell _ _ _ _ _ rfl
  go_enter Try.func49, Try.ntmps49
  go_wp2_with fail
  refine (allthere1_any _ _ _ _ _ _ _ _ HV.out hl HA.out HC.out HS.out).mono ?_
  rintro e w1 ⟨rfl, rfl⟩
  go_wp2
  go_ret
  exact ⟨rfl, (Below.refl _ _).alloc (Nat.le_refl _) _⟩
def listV (m : List (List Int)) (ps : List Int) : Int := if validM m = true then (if allThereB m ps = true then (if ascB (-1) ps = true then 0 else 7) else 5) else 1
theorem listed_any (a : Option Addr) (m : List (List Int)) (ca : Nat) (b : Option Addr) (ps : List Int) (cap : Nat) (w : World) (hm : MOk m) (hl : ps.length ≤ 9223372036854775807) (ha : Ms w a m) (hs : Sl w b ps) :
    Calls Try.prog 52 #[.slice a m.length ca, .slice b ps.length cap] w fun e w' => e = .returned (.int .i64 (listV m ps)) ∧ Below w.heap.size w w' := by
  have HM := Lib.hid hm; clear hm
  have HA := Lib.hid ha; clear ha
  have HS := Lib.hid hs; clear hs
  go_enter Try.func52, Try.ntmps52
  go_wp2_with fail
  refine (mvalid_any _ _ _ _ HM.out HA.out).mono ?_
  rintro e w1 ⟨rfl, hb1⟩
  have HB1 := Lib.hid hb1; clear hb1
  cases hv : validM m
  · have HX : Hid (listV m ps = 1) := by show _ = _; unfold listV; rw [hv]; rfl
    clear hv
    go_wp2
    go_ret
    exact ⟨by rw [HX.out]; rfl, HB1.out⟩
  · have HV := Lib.hid hv; clear hv
    go_wp2_with fail
    refine (allThere_any _ _ _ _ _ _ _ HV.out hl (HA.out.below HB1.out) (HS.out.below HB1.out)).mono ?_
    rintro e w2 ⟨rfl, hb2⟩
    have HB2 : Hid (Below w.heap.size w w2) := Below.next HB1.out hb2 (Nat.le_refl _)
    clear hb2
    cases hal : allThereB m ps
    · have HX : Hid (listV m ps = 5) := by show _ = _; unfold listV; rw [HV.out, hal]; rfl
      clear hal
      go_wp2
      go_ret
      exact ⟨by rw [HX.out]; rfl, HB2.out⟩
    · have HAL := Lib.hid hal; clear hal
      go_wp2_with fail
      refine (asc_any _ _ _ _ hl (HS.out.below HB2.out)).mono ?_
      rintro e w3 ⟨rfl, hb3⟩
      have HB3 : Hid (Below w.heap.size w w3) := Below.next HB2.out hb3 (Nat.le_refl _)
      clear hb3
      cases has : ascB (-1) ps
      · have HX : Hid (listV m ps = 7) := by show _ = _; unfold listV; rw [HV.out, HAL.out, has]; rfl
        clear has
        go_wp2
        go_ret
        exact ⟨by rw [HX.out]; rfl, HB3.out⟩
      · have HX : Hid (listV m ps = 0) := by show _ = _; unfold listV; rw [HV.out, HAL.out, has]; rfl
        clear has
        go_wp2
        go_ret
        exact ⟨by rw [HX.out]; rfl, HB3.out⟩
end Go.Proofs.Ytacbciamehchjaa
