
/- Permuted of layer 2: contract. -/
import Derived.Test.YtacbciamehchjaaMChosen
import Derived.Test.YtacbciamehchjaaMNamed
namespace Go.Proofs.Ytacbciamehchjaa
open Go.RowKit

def permV (m : List (List Int)) (ps : List Int) : List (List Int) × Int :=
  if validM m = true then (if ps.length = colsM m then (if allThereB m ps = true then (if kinds ps = ps.length then (pickM m ps, 0) else ([], 7)) else ([], 5)) else ([], 9)) else ([], 1)
/-- What a function that returns a mask and an error returns. -/
def MPostS (r : List (List Int) × Int) (w : World) (e : Ending) (w' : World) : Prop := Below w.heap.size w w' ∧ ∃ a cap, e = .returned (.tuple #[.slice a r.1.length cap, .int .i64 r.2]) ∧ Ms w' a r.1
theorem MPostS.err {w w' : World} (n : Int) {r : List (List Int) × Int} (hr : r = ([], n)) (hb : Below w.heap.size w w') : MPostS r w (.returned (.tuple #[.slice none 0 0, .int .i64 n])) w' := by
  subst hr; exact ⟨hb, none, 0, rfl, fun k h => absurd h (by simp)⟩
set_option maxRecDepth 100000 in
set_option maxHeartbeats 800000 in
theorem permuted_any (a : Option Addr) (m : List (List Int)) (cap : Nat) (b : Option Addr) (ps : List Int) (cb : Nat) (w : World) (hm : MOk m) (hl : ps.length ≤ 9223372036854775807) (hx : ∀ x ∈ ps, I64 x) (ha : Ms w a m) (hs : Sl w b ps) :
    Calls Try.prog 24 #[.slice a m.length cap, .slice b ps.length cb] w (MPostS (permV m ps) w) := by
  have HM := Lib.hid hm; clear hm
  have HA := Lib.hid ha; clear ha
  have HS := Lib.hid hs; clear hs
  have HX := Lib.hid hx; clear hx
  go_enter Try.func24, Try.ntmps24
  go_wp2_with fail
  refine (mvalid_any _ _ _ _ HM.out HA.out).mono ?_
  rintro e w1 ⟨rfl, hb1⟩
  have HB1 := Lib.hid hb1; clear hb1
  cases hv : validM m
  · have HV : Hid (permV m ps = ([], 1)) := by show _ = _; unfold permV; rw [hv]; rfl
    clear hv
    go_wp2
    go_ret2
    exact MPostS.err 1 HV.out HB1.out
  · have HV := Lib.hid hv
    obtain ⟨hm1, hm6, hc1, hc10, _⟩ := validM_of hv
    have HA1 := Lib.hid (HA.out.below HB1.out)
    obtain ⟨b1, o1, a1, c1, rfl, hcell⟩ := row0 HA1.out hm1
    clear hv
    have hz : (0 : Int) < (m.length : Int) := by omega
    by_cases hlen : ps.length = colsM m
    · have h10 : ps.length ≤ 10 := by omega
      have e1 : ((ps.length : Int) == (colsM m : Int)) = true := by simp [hlen]
      have e2 : ((ps.length : Int) != (colsM m : Int)) = false := by simp [hlen]
      have HLEN := Lib.hid hlen; clear hlen
      go_wp2_with fail
      refine (allThere_any _ _ _ _ _ _ _ HV.out (by omega) HA1.out (HS.out.below HB1.out)).mono ?_
      rintro e w2 ⟨rfl, hb2⟩
      have HB2 : Hid (Below w.heap.size w w2) := Below.next HB1.out hb2 (Nat.le_refl _)
      clear hb2 hcell
      cases hal : allThereB m ps
      · have HR : Hid (permV m ps = ([], 5)) := by show _ = _; unfold permV; rw [HV.out, if_pos rfl, if_pos HLEN.out, hal]; rfl
        clear hal
        go_wp2
        go_ret2
        exact MPostS.err 5 HR.out HB2.out
      · have HAL := Lib.hid hal; clear hal
        go_wp2_with fail
        refine (named_map _ _ _ _ (by omega) HX.out (HS.out.below HB2.out)).mono ?_
        rintro e w3 ⟨rfl, hb3, hom⟩
        have HB3 : Hid (Below w.heap.size w w3) := Below.next HB2.out hb3 (Nat.le_refl _)
        have hlo := fun ty => len_of hom ty
        clear hb3 hom
        by_cases hk : kinds ps = ps.length
        · have HR : Hid (permV m ps = (pickM m ps, 0)) := by show _ = _; unfold permV; rw [HV.out, if_pos rfl, if_pos HLEN.out, HAL.out, if_pos rfl, if_pos hk]
          have k1 : ((kinds ps : Int) == (ps.length : Int)) = true := by simp [hk]
          have k2 : ((kinds ps : Int) != (ps.length : Int)) = false := by simp [hk]
          clear hk
          go_wp2_with fail
          clear hlo
          refine (chosen_any _ m _ _ ps _ _ HV.out HAL.out h10 (HA.out.below HB3.out) (HS.out.below HB3.out)).mono ?_
          rintro e w4 ⟨hb4, a4, c4, rfl, hms⟩
          have HB4 : Hid (Below w.heap.size w w4) := Below.next HB3.out hb4 (Nat.le_refl _)
          have HMS := Lib.hid hms; clear hms hb4
          obtain ⟨M, hM⟩ : ∃ M, pickM m ps = M := ⟨_, rfl⟩
          rw [hM] at HMS HR ⊢
          go_wp2
          go_ret2
          rw [HR.out]
          exact ⟨HB4.out, _, _, rfl, HMS.out⟩
        · have HR : Hid (permV m ps = ([], 7)) := by show _ = _; unfold permV; rw [HV.out, if_pos rfl, if_pos HLEN.out, HAL.out, if_pos rfl, if_neg hk]
          have k1 : ((kinds ps : Int) == (ps.length : Int)) = false := by simp; omega
          have k2 : ((kinds ps : Int) != (ps.length : Int)) = true := by simp; omega
          clear hk
          go_wp2
          go_ret2
          exact MPostS.err 7 HR.out HB3.out
    · have HR : Hid (permV m ps = ([], 9)) := by show _ = _; unfold permV; rw [HV.out, if_pos rfl, if_neg hlen]
      have e1 : ((ps.length : Int) == (colsM m : Int)) = false := by simp; omega
      have e2 : ((ps.length : Int) != (colsM m : Int)) = true := by simp; omega
      clear hlen
      go_wp2
      go_ret2
      exact MPostS.err 9 HR.out HB1.out
end Go.Proofs.Ytacbciamehchjaa
