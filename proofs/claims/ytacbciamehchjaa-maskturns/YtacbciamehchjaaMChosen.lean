
/- chosen of layer 2: the columns that are named: contract. -/
import Derived.Deep.RegionHeld3
import Derived.Deep.RegionLaw
import Derived.Test.YtacbciamehchjaaMThere
import Derived.Test.YtacbciamehchjaaMFill
import Derived.Test.YtacbciamehchjaaMStepM
namespace Go.Proofs.Ytacbciamehchjaa
open Go.RowKit

def pickR (ps : List Int) (r : List Int) : List Int := ps.map fun j => gt r j.toNat
def pickM (m : List (List Int)) (ps : List Int) : List (List Int) := m.map (pickR ps)
theorem pickR_len (ps r : List Int) : (pickR ps r).length = ps.length := by simp [pickR]
theorem pickR_succ {ps r : List Int} {j : Nat} {p : Int} (h : ps[j]? = some p) : (pickR ps r).take (j + 1) = (pickR ps r).take j ++ [gt r p.toNat] := by
  have hk := List.getElem?_eq_some_iff.1 h
  rw [List.take_succ_eq_append_getElem (by rw [pickR_len]; exact hk.1)]
  congr 2
  simp [pickR, hk.2]
theorem pickM_range (m : List (List Int)) (ps : List Int) : (List.range m.length).map (fun k => pickR ps (m[k]?.getD [])) = pickM m ps := by
  refine List.ext_getElem (by simp [pickM]) fun i h1 h2 => ?_
  simp only [pickM, List.length_map] at h2
  simp [pickM, h2]
theorem there_nat' {m : List (List Int)} {j : Int} (h : thereB m j = true) : ∃ n : Nat, j = n ∧ n < colsM m := by
  simp [thereB] at h
  exact ⟨j.toNat, by omega, by omega⟩
set_option maxRecDepth 100000 in
set_option maxHeartbeats 800000 in
theorem chosen_any (a : Option Addr) (m : List (List Int)) (cap : Nat) (b : Option Addr) (ps : List Int) (cb : Nat) (w : World) (hv : validM m = true) (hp : allThereB m ps = true) (hl : ps.length ≤ 10) (ha : Ms w a m) (hs : Sl w b ps) :
    Calls Try.prog 51 #[.slice a m.length cap, .slice b ps.length cb] w fun e w' => Below w.heap.size w w' ∧ ∃ a' c', e = .returned (.slice a' (pickM m ps).length c') ∧ Ms w' a' (pickM m ps) := by
  obtain ⟨hm1, hm6, hc1, hc10, _⟩ := validM_of hv
  have HV := Lib.hid hv; clear hv
  have HP := Lib.hid hp; clear hp
  have HA := Lib.hid ha; clear ha
  have HS := Lib.hid hs; clear hs
  obtain ⟨i0, hi, hz0, hz1, hz2⟩ := info_parts Try.infoRow
  go_enter Try.func51, Try.ntmps51
  go_wp2_with (with_reducible refine wpList_make_full _ rfl (.tmp 11) (.tmp 11) 39 rfl w.heap.size 22 i0 (.slice none 0 0) 1 Try.underlying39 hi hz0 hz1 .i64 .i64 (m.length : Int) (m.length : Int) m.length rfl rfl rfl rfl (by rw [hz2]; omega) (by unfold maxLen; omega) (Nat.le_refl _) ?_)
  rotate_left
  intro w4 hown hgrow
  have HO4 : Hid (OwnM w4 w.heap.size (.slice (some ⟨w.heap.size, 0, none⟩) m.length m.length) (List.replicate m.length (none, [], 0)) (List.replicate m.length ((none, [], 0) : RH)).length) := OwnM.made _ (by rw [Nat.mul_one]; exact hown)
  have HB4 : Hid (Below w.heap.size w w4) := (Below.refl _ _).grown hgrow (Nat.le_refl _) (fun k e => by cases e)
  obtain ⟨g, hg⟩ : ∃ g, w.heap.size = g := ⟨_, rfl⟩
  rw [hg] at HO4 ⊢
  have HG : Hid (w.heap.size ≤ g) := by show _ ≤ g; rw [← hg]; exact Nat.le_refl _
  clear hown hgrow hg
  go_wp2
  go_loopw [15] (fun i wr => ∃ (k : Nat) (hs : List RH), k ≤ m.length ∧ i = .int .i64 k ∧ OwnM wr g (.slice (some ⟨g, 0, none⟩) m.length m.length) hs hs.length ∧ FillM (fun k => pickR ps (m[k]?.getD [])) m.length k hs ∧ Below w.heap.size w wr) (fun i _ => m.length - (intOf i).toNat)
  case atStart => exact ⟨0, _, Nat.zero_le _, rfl, HO4.out, FillM.start _ _, HB4.out⟩
  case round =>
    clear HO4 HB4
    obtain ⟨k, hs, hk, rfl, hO, hF, hB⟩ := hrel
    have HO := Lib.hid hO; clear hO
    have HF := Lib.hid hF; clear hF
    have HB := Lib.hid hB; clear hB
    by_cases hlt : k < m.length
    · obtain ⟨b1, o1, ai, r, ci, rfl, hcell0, hsl, HX⟩ := HA.out.at hlt
      have hrl := (validM_row HV.out HX.out).1
      have HRL := Lib.hid hrl; clear hrl
      have HSL := Lib.hid hsl; clear hsl
      have hcell := (HB.out.cell (p := ⟨b1, o1 + k, none⟩) (cell_lt hcell0)).trans hcell0
      clear hcell0
      obtain ⟨wo, rfl⟩ : ∃ wo : World, wo = wr := ⟨_, rfl⟩
      have hgo := HO.out.lt.1
      have HBo := Lib.hid HB.out
      have HLOW : Hid (RowsLow hs k wo.heap.size) := (HO.out.skip (Nat.le_refl _) k).low
      have HOk : Hid (OwnM wo g (.slice (some ⟨g, 0, none⟩) m.length m.length) (hs.set k (none, (pickR ps r).take 0, 0)) k) := by
        show OwnM _ _ _ _ _
        have e : hs.set k (none, [], 0) = hs := by
          have e1 := HF.out.todo k (Nat.le_refl _) hlt
          have hkl : k < hs.length := (List.getElem?_eq_some_iff.1 e1).1
          have e2 := (List.getElem?_eq_some_iff.1 e1).2
          rw [← e2]; exact List.set_getElem_self hkl
        rw [List.take_zero, e]; exact HO.out.skip (Nat.le_refl _) k
      have HGO := Lib.hid hgo; clear hgo
      go_wp2
      clear hcell
      go_loopw [22] (fun i wr => ∃ (j : Nat) (ar : Option Addr) (cr : Nat), j ≤ ps.length ∧ i = .int .i64 j ∧ OwnM wr g (.slice (some ⟨g, 0, none⟩) m.length m.length) (hs.set k (ar, (pickR ps r).take j, cr)) k ∧ OwnI wr wo.heap.size (.slice ar ((pickR ps r).take j).length cr) ((pickR ps r).take j) ∧ Below w.heap.size w wr ∧ wo.heap.size ≤ wr.heap.size) (fun i _ => ps.length - (intOf i).toNat)
      case atStart => exact ⟨0, none, 0, Nat.zero_le _, rfl, HOk.out, OwnI.nil _ _, HB.out, Nat.le_refl _⟩
      case round =>
        obtain ⟨j, ar, cr, hj, rfl, hOM, hOI, hBj, hsz⟩ := hrel
        have HOM := Lib.hid hOM; clear hOM
        have HOI := Lib.hid hOI; clear hOI
        have HBj := Lib.hid hBj; clear hBj
        have HSZ := Lib.hid hsz; clear hsz
        have hkl : k < hs.length := by rw [HF.out.len]; exact hlt
        by_cases hjt : j < ps.length
        · obtain ⟨b5, o5, p, rfl, hcp, HPX⟩ := (HS.out.below HBj.out).at hjt
          have hpt : thereB m p = true := by
            have h := HP.out
            unfold allThereB at h
            exact List.all_eq_true.1 h p (List.mem_of_getElem? HPX.out)
          obtain ⟨q, rfl, hq⟩ := there_nat' hpt
          have hqr : q < r.length := by rw [HRL.out]; exact hq
          obtain ⟨b3, o3, x, rfl, hcx0, HX3⟩ := HSL.out.at hqr
          have hb3w := cell_lt hcx0
          have hcx := (HBj.out.cell (p := ⟨b3, o3 + q, none⟩) hb3w).trans hcx0
          have hb3 : b3 < wr.heap.size := cell_lt hcx
          have hb3n : b3 ≠ wr.heap.size := by omega
          have HCX := Lib.hid hcx0
          clear hcx0 hpt
          obtain ⟨hcz, hfz⟩ := HOM.out.cell (List.getElem?_set_self hkl)
          dsimp only at hcz
          have HWS : Hid ((pickR ps r).take (j + 1) = (pickR ps r).take j ++ [x]) := by
            show _ = _
            rw [pickR_succ HPX.out, Int.toNat_natCast, gt_some' HX3.out]
          have hlen : ((pickR ps r).take j).length = j := by rw [List.length_take, pickR_len]; omega
          rw [hlen] at hcz
          have HLEN := Lib.hid hlen; clear hlen
          obtain ⟨L, hL⟩ : ∃ L, (pickR ps r).take (j + 1) = L := ⟨_, rfl⟩
          have HWL : Hid ((pickR ps r).take j ++ [x] = L) := by show _ = _; rw [← HWS.out, hL]
          have HLD := Lib.hid hL; clear hL
          have hg2 := HGO.out
          have HG2 := Lib.hid hg2; clear hg2
          have hgs : g < wr.heap.size := Nat.lt_of_lt_of_le HG2.out HSZ.out
          have hgn : g ≠ wr.heap.size := by omega
          have hfa : ∀ o, (wr.alloc o).drew.frozen? ⟨g, k, none⟩ = false := fun o => ((((Below.refl wr.heap.size wr).alloc (Nat.le_refl _) o).drew).frozen (p := ⟨g, k, none⟩) hgs).trans hfz
          have hkr : (q : Int) < (r.length : Int) := by omega
          go_wp2
          go_region_law (refine step_push rfl (.tmp 31) (.tmp 36) rfl wo.heap.size _ ((pickR ps r).take j) _ _ wr.heap.size (by rw [HLEN.out]; rfl) (by rfl) (alloc_cell wr _ _ _ _ rfl) ((HOI.out.below ((Below.refl _ _).alloc (Nat.le_refl _) _)).drew) (by rw [HLEN.out]; omega) (by simp; have := HSZ.out; omega) ?_; intro v' w9 ho' hb'; rw [HWL.out] at ho'; obtain ⟨ar', cr', rfl, sr', ltr'⟩ := ho'.row; have hc9 := (hb'.cell (p := ⟨g, k, none⟩) HG2.out).trans (((((Below.refl wr.heap.size wr).alloc (Nat.le_refl _) _).drew).cell (p := ⟨g, k, none⟩) hgs).trans hcz); have hf9 := (hb'.frozen (p := ⟨g, k, none⟩) HG2.out).trans (hfa _))
          all_goals
            have HO9 := Lib.hid ho'; clear ho'
            have HB9 : Hid (Below wo.heap.size wr w9) := (((Below.refl _ _).alloc HSZ.out _).drew).trans hb'
            have HS9 := Lib.hid sr'; clear sr'
            have HL9 := Lib.hid ltr'; clear ltr'
            have HM9 := Lib.hid (HOM.out.grow HB9.out HGO.out (HLOW.out.set _))
            clear hfa hb'
            go_wp2
            go_roundw
            case rel =>
              have hgne : ∀ ad, ar' = some ad → ad.block < w9.heap.size ∧ ad.block ≠ g := fun ad ha => ⟨(HL9.out ad ha).1, by have := (HL9.out ad ha).2; have := HGO.out; omega⟩
              have hput := HM9.out.put k cr' HS9.out hgne
              rw [List.set_set] at hput
              refine ⟨j + 1, ar', cr', by omega, by go_num, ?_, ?_, ?_, ?_⟩
              · rw [HLD.out]; exact hput
              · rw [HLD.out]; exact HO9.out.setBelow HGO.out _
              · exact (HBj.out.trans (HB9.out.mono HBo.out.size)).setCell HG.out _
              · simp; exact Nat.le_trans HSZ.out HB9.out.size
            case measure => simp [intOf]; omega
        · obtain rfl : j = ps.length := by omega
          have hrow : (pickR ps r).take ps.length = pickR ps r := List.take_of_length_le (by rw [pickR_len]; exact Nat.le_refl _)
          rw [hrow] at HOM HOI
          have hap : ∀ ad, ar = some ad → ad.block < wr.heap.size ∧ ad.block ≠ g := by
            intro ad ha
            obtain ⟨a1, c1, e1, _, h1⟩ := HOI.out.row
            obtain ⟨rfl, _⟩ : ar = a1 ∧ cr = c1 := by simpa using e1
            have := h1 ad ha
            have := HGO.out
            exact ⟨by omega, by omega⟩
          have HFULL : Hid (OwnM wr g (.slice (some ⟨g, 0, none⟩) m.length m.length) (hs.set k (ar, pickR ps r, cr)) (hs.set k (ar, pickR ps r, cr)).length) :=
            HOM.out.fill _ (List.getElem?_set_self hkl) HOI.out.sl (fun ad ha => ⟨(hap ad ha).1, by have := (hap ad ha).2; simp only [Value.ownBlock, Option.some.injEq, ne_eq]; exact fun e => this e.symm⟩)
          have HFN := Lib.hid (HF.out.next hlt (a := ar) (r := pickR ps r) (c := cr) (by rw [HX.out]; rfl))
          clear hap hkl hrow
          go_wp2
          go_roundw
          case rel => exact ⟨k + 1, _, by omega, by go_num, HFULL.out, HFN.out, HBj.out⟩
          case measure => simp [intOf]; omega
    · obtain rfl : k = m.length := by omega
      have HZ := Lib.hid (HF.out.all.trans (pickM_range m ps))
      go_wp2
      go_ret
      refine ⟨HB.out, some ⟨g, 0, none⟩, m.length, ?_, by have h := HO.out.ms (Nat.le_refl _); rw [HZ.out] at h; exact h⟩
      have e : (pickM m ps).length = m.length := by simp [pickM]
      rw [e]; rfl
end Go.Proofs.Ytacbciamehchjaa
