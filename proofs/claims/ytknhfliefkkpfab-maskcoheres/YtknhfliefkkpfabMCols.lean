
/- Column, Product and Likeness of layer 2 and of its answers: contracts. -/
import Derived.Test.YtknhfliefkkpfabMLike
namespace Go.Proofs.Ytknhfliefkkpfab
open Go.RowKit

set_option maxRecDepth 100000 in
theorem named_any (a : Option Addr) (m : List (List Int)) (cap : Nat) (b : Option Addr) (ps : List Int) (cb : Nat) (w : World) (hm : MOk m) (hl : ps.length ≤ 9223372036854775807) (hs : Ms w a m) (hp : Sl w b ps) :
    Calls Try.prog 94 #[.slice a m.length cap, .slice b ps.length cb] w fun e w' => e = .returned (.int .i64 (namedV m ps)) ∧ w = w' := by
  have HM := Lib.hid hm; clear hm
  have HS := Lib.hid hs; clear hs
  have HP := Lib.hid hp; clear hp
  cases hv : validM m
  · have HV : Hid (namedV m ps = 1) := by show namedV m ps = 1; unfold namedV; rw [hv]; rfl
    go_enter Try.func94, Try.ntmps94
    go_wp2_with (go_at_call 40; refine (rvalid_any _ _ _ _ HM.out HS.out).mono ?_; rintro e w' ⟨rfl, rfl⟩)
    go_ret
    exact ⟨ret_i64 HV.out.symm, rfl⟩
  · obtain ⟨hm1, hm6, hc1, hc10, _⟩ := validM_of hv
    have HV : Hid (namedV m ps = if ps.all (thereB m) = true then 0 else 5) := by show namedV m ps = _; unfold namedV; rw [hv]; rfl
    obtain ⟨b0, o0, a0, c0, rfl, hcell⟩ := row0 HS.out hm1
    go_enter Try.func94, Try.ntmps94
    go_wp2_with (go_at_call 40; refine (rvalid_any _ _ _ _ HM.out HS.out).mono ?_; rintro e w' ⟨rfl, rfl⟩)
    clear hv
    go_loop [12] (fun i => ∃ k : Nat, k ≤ ps.length ∧ i = .int .i64 k ∧ ∀ j, j < k → thereB m (ps[j]?.getD 0) = true) (fun i => ps.length - (intOf i).toNat)
    case atStart => exact ⟨0, Nat.zero_le _, rfl, fun j h => by omega⟩
    case round =>
      obtain ⟨k, hk, rfl, hno⟩ := hrel
      have HO := Lib.hid hno; clear hno
      by_cases hlt : k < ps.length
      · obtain ⟨b1, o1, x, rfl, hcx, HX⟩ := HP.out.at hlt
        cases ht : thereB m x
        · have HT := Lib.hid ht; clear ht
          go_wp2_with (go_at_call 70; refine (mwithin_any _ _ _ _).mono ?_; rintro e w' ⟨rfl, rfl⟩; rw [rangeB_there, HT.out])
          go_ret
          refine ⟨ret_i64 ?_, rfl⟩
          rw [HV.out, if_neg]
          rw [List.all_eq_true]; intro h
          have := h x (List.mem_of_getElem? HX.out)
          rw [HT.out] at this; cases this
        · have HT := Lib.hid ht; clear ht
          go_wp2_with (go_at_call 70; refine (mwithin_any _ _ _ _).mono ?_; rintro e w' ⟨rfl, rfl⟩; rw [rangeB_there, HT.out])
          go_round
          case rel => exact ⟨k + 1, by omega, by go_num, fun j hj => by
              by_cases hj' : j = k
              · subst hj'; rw [HX.out]; exact HT.out
              · exact HO.out j (by omega)⟩
          case measure => simp [intOf]; omega
      · go_wp2
        go_ret
        refine ⟨ret_i64 ?_, rfl⟩
        rw [HV.out, if_pos]
        rw [List.all_eq_true]; intro x hx
        obtain ⟨i, hi, rfl⟩ := List.mem_iff_getElem.1 hx
        have := HO.out i (by omega)
        simpa [hi] using this
theorem namedV_no {m : List (List Int)} {ps : List Int} (h : validM m = false) : namedV m ps = 1 := by unfold namedV; rw [h]; rfl

end Go.Proofs.Ytknhfliefkkpfab
