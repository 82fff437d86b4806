
/- Signed of layer 2: contract. -/
import Derived.Test.YtacbciamehchjaaMSigned
namespace Go.Proofs.Ytacbciamehchjaa
open Go.RowKit

def signAt (ps : List Int) (r : List Int) (j : Nat) : Int := if (j : Int) ∈ ps then -gt r j else gt r j
/-- The first q numbers of a row turned where they are named. -/
def signTo (ps r : List Int) (q : Nat) : List Int := (List.range r.length).map fun j => if j < q then signAt ps r j else gt r j
def signR (ps r : List Int) : List Int := (List.range r.length).map (signAt ps r)
def signM (m : List (List Int)) (ps : List Int) : List (List Int) := m.map (signR ps)
/-- The first k rows turned. -/
def signRows (m : List (List Int)) (ps : List Int) (k : Nat) : List (List Int) := (List.range m.length).map fun i => if i < k then signR ps (m[i]?.getD []) else m[i]?.getD []
def signV (m : List (List Int)) (ps : List Int) : List (List Int) × Int := if listV m ps = 0 then (signM m ps, 0) else ([], listV m ps)
theorem signTo_len (ps r : List Int) (q : Nat) : (signTo ps r q).length = r.length := by simp [signTo]
theorem signTo_zero (ps r : List Int) : signTo ps r 0 = r := by
  refine list_ext_gt (by rw [signTo_len]) fun k hk => ?_
  rw [signTo_len] at hk
  unfold signTo; rw [gt_map_range _ hk]; simp
theorem signTo_full (ps r : List Int) : signTo ps r r.length = signR ps r := by
  unfold signTo signR
  refine List.map_congr_left fun j hj => ?_
  rw [if_pos (List.mem_range.1 hj)]
theorem signTo_get (ps r : List Int) {q : Nat} (hq : q < r.length) : (signTo ps r q)[q]? = some (gt r q) := by
  unfold signTo; simp [hq]
theorem signTo_succ_yes {ps r : List Int} {q : Nat} (hq : q < r.length) (h : (q : Int) ∈ ps) : (signTo ps r q).set q (-gt r q) = signTo ps r (q + 1) := by
  refine list_ext_gt (by rw [List.length_set, signTo_len, signTo_len]) fun k hk => ?_
  rw [List.length_set, signTo_len] at hk
  rw [gt_set (by rw [signTo_len]; exact hq)]
  unfold signTo
  rw [gt_map_range _ hk, gt_map_range _ hk]
  by_cases hkq : k = q
  · subst hkq; rw [if_pos rfl, if_pos (by omega)]; unfold signAt; rw [if_pos h]
  · rw [if_neg hkq]
    by_cases h2 : k < q
    · rw [if_pos h2, if_pos (by omega)]
    · rw [if_neg h2, if_neg (by omega)]
theorem signTo_succ_no {ps r : List Int} {q : Nat} (h : ¬ (q : Int) ∈ ps) : signTo ps r (q + 1) = signTo ps r q := by
  unfold signTo
  refine List.map_congr_left fun k hk => ?_
  by_cases hkq : k = q
  · subst hkq; rw [if_pos (by omega), if_neg (by omega)]; unfold signAt; rw [if_neg h]
  · by_cases h2 : k < q
    · rw [if_pos h2, if_pos (by omega)]
    · rw [if_neg h2, if_neg (by omega)]
theorem signRows_len (m : List (List Int)) (ps : List Int) (k : Nat) : (signRows m ps k).length = m.length := by simp [signRows]
theorem signRows_zero (m : List (List Int)) (ps : List Int) : signRows m ps 0 = m := by
  refine List.ext_getElem (by rw [signRows_len]) fun i h1 h2 => ?_
  simp [signRows, h2]
theorem signRows_full (m : List (List Int)) (ps : List Int) : signRows m ps m.length = signM m ps := by
  refine List.ext_getElem (by rw [signRows_len]; simp [signM]) fun i h1 h2 => ?_
  rw [signRows_len] at h1
  simp [signRows, signM, h1]
theorem signRows_at {m : List (List Int)} {ps : List Int} {k : Nat} {r : List Int} (h : m[k]? = some r) : (signRows m ps k)[k]? = some r := by
  have hk := (List.getElem?_eq_some_iff.1 h).1
  unfold signRows
  rw [List.getElem?_map, List.getElem?_range hk]
  simp [h]
theorem signRows_succ {m : List (List Int)} {ps : List Int} {k : Nat} {r : List Int} (h : m[k]? = some r) : (signRows m ps k).set k (signR ps r) = signRows m ps (k + 1) := by
  have hk := (List.getElem?_eq_some_iff.1 h).1
  refine List.ext_getElem (by rw [List.length_set, signRows_len, signRows_len]) fun i h1 h2 => ?_
  rw [signRows_len] at h2
  by_cases hik : i = k
  · subst hik
    simp [signRows, h]
  · simp only [signRows, List.getElem_set, List.getElem_map, List.getElem_range]
    rw [if_neg (Ne.symm hik)]
    by_cases h3 : i < k
    · rw [if_pos h3, if_pos (by omega)]
    · rw [if_neg h3, if_neg (by omega)]
theorem listV_ok {m : List (List Int)} {ps : List Int} (h : listV m ps = 0) : validM m = true ∧ allThereB m ps = true ∧ ascB (-1) ps = true := by
  unfold listV at h
  split at h
  · rename_i h1
    split at h
    · rename_i h2
      split at h
      · rename_i h3; exact ⟨h1, h2, h3⟩
      · cases h
    · cases h
  · cases h
set_option maxRecDepth 100000 in
set_option maxHeartbeats 800000 in
theorem signed_any (a : Option Addr) (m : List (List Int)) (cap : Nat) (b : Option Addr) (ps : List Int) (cb : Nat) (w : World) (hm : MOk m) (hl : ps.length ≤ 100000) (hx : ∀ x ∈ ps, I64 x) (ha : Ms w a m) (hs : Sl w b ps) :
    Calls Try.prog 25 #[.slice a m.length cap, .slice b ps.length cb] w (MPostS (signV m ps) w) := by
  have HM := Lib.hid hm; clear hm
  have HA := Lib.hid ha; clear ha
  have HS := Lib.hid hs; clear hs
  have HX := Lib.hid hx; clear hx
  go_enter Try.func25, Try.ntmps25
  go_wp2_with fail
  refine (listed_any _ _ _ _ _ _ _ HM.out (by omega) HA.out HS.out).mono ?_
  rintro e w1 ⟨rfl, hb1⟩
  have HB1 := Lib.hid hb1; clear hb1
  obtain ⟨q, hq⟩ : ∃ q, listV m ps = q := ⟨_, rfl⟩
  rw [hq]
  by_cases hq0 : q = 0
  · subst hq0
    obtain ⟨hv, hal, _⟩ := listV_ok hq
    have HR : Hid (signV m ps = (signM m ps, 0)) := by show _ = _; unfold signV; rw [if_pos hq]
    have HV := Lib.hid hv
    obtain ⟨hm1, hm6, hc1, hc10, hrows⟩ := validM_of hv
    have HRW := Lib.hid hrows
    clear hv hal hq hrows
    go_wp2_with fail
    refine (mcopiedS_any _ m _ _ hm1 hm6 (fun r hr => by have := HRW.out r hr; omega) (HA.out.below HB1.out)).mono ?_
    rintro e w2 ⟨hb2, rfl, ads, hsi⟩
    obtain ⟨g, hg⟩ : ∃ g, w1.heap.size = g := ⟨_, rfl⟩
    rw [hg] at hsi ⊢
    have HB2 : Hid (Below w.heap.size w w2) := Below.next HB1.out hb2 (Nat.le_refl _)
    have HG : Hid (w.heap.size ≤ g) := by show _ ≤ _; rw [← hg]; exact HB1.out.size
    have HSI := Lib.hid hsi
    clear hb2 hsi hg
    go_wp2_with fail
    refine (named_map _ _ _ _ hl HX.out (HS.out.below HB2.out)).mono ?_
    rintro e w3 ⟨rfl, hb3, hom⟩
    have HB3 : Hid (Below w.heap.size w w3) := Below.next HB2.out hb3 (Nat.le_refl _)
    have HSI3 : Hid (SI w3 g g ads (signRows m ps 0)) := by show SI _ _ _ _ _; rw [signRows_zero]; exact HSI.out.below hb3
    have HL : Hid (∀ (i : Nat) (x : Nat × Nat), ads[i]? = some x → x.1 < w2.heap.size) := fun i x e => by
      have hi : i < m.length := by rw [← HSI.out.len]; exact (List.getElem?_eq_some_iff.1 e).1
      exact (HSI.out.row i x m[i] e (by simp [hi])).2.lt.1
    have HOM := Lib.hid hom
    generalize w2.heap.size = B at *
    clear hb3 hom HSI
    go_wp2
    go_loopw [25] (fun i wr => ∃ k : Nat, k ≤ m.length ∧ i = .int .i64 k ∧ SI wr g g ads (signRows m ps k) ∧ OwnMap wr B ps.length ps ∧ Below w.heap.size w wr) (fun i _ => m.length - (intOf i).toNat)
    case atStart => exact ⟨0, Nat.zero_le _, rfl, HSI3.out, HOM.out, HB3.out⟩
    case round =>
      clear HSI3 HOM HB3
      obtain ⟨k, hk, rfl, hsi, hom, hB⟩ := hrel
      have HSI := Lib.hid hsi
      have HOM := Lib.hid hom
      have HB := Lib.hid hB
      clear hsi hom hB
      by_cases hlt : k < m.length
      · obtain ⟨r, hr⟩ : ∃ r, m[k]? = some r := ⟨m[k], by simp [hlt]⟩
        obtain ⟨x, hx⟩ : ∃ x, ads[k]? = some x := ⟨ads[k]'(by rw [HSI.out.len, signRows_len]; exact hlt), by simp [HSI.out.len, signRows_len, hlt]⟩
        obtain ⟨hrl, hr1⟩ := validM_row HV.out hr
        have HR1 := Lib.hid hr1
        have hr10 : r.length ≤ 10 := by omega
        have hcell := (HSI.out.row k x r hx (signRows_at hr)).1
        have HSI0 : Hid (SI wr g g ads ((signRows m ps k).set k (signTo ps r 0))) := by
          show SI _ _ _ _ _
          rw [signTo_zero]
          have e := signRows_at (ps := ps) hr
          have hkl := (List.getElem?_eq_some_iff.1 e)
          have : (signRows m ps k).set k r = signRows m ps k := by
            conv => lhs; rw [← hkl.2]
            exact List.set_getElem_self hkl.1
          rw [this]; exact HSI.out
        obtain ⟨xg, xc⟩ := x
        have HXA := Lib.hid hx
        have HRE := Lib.hid hr
        clear hx hr hrl hr1 HSI
        dsimp only at hcell
        go_wp2
        clear hcell
        go_loopw [31] (fun i wr => ∃ q : Nat, q ≤ r.length ∧ i = .int .i64 q ∧ SI wr g g ads ((signRows m ps k).set k (signTo ps r q)) ∧ OwnMap wr B ps.length ps ∧ Below w.heap.size w wr) (fun i _ => r.length - (intOf i).toNat)
        case atStart => exact ⟨0, Nat.zero_le _, rfl, HSI0.out, HOM.out, HB.out⟩
        case round =>
          clear HSI0 HOM HB
          obtain ⟨q, hq, rfl, hsi, hom, hB⟩ := hrel
          have HSI := Lib.hid hsi
          have HOM := Lib.hid hom
          have HB := Lib.hid hB
          clear hsi hB
          by_cases hlq : q < r.length
          · have hkl : k < (signRows m ps k).length := by rw [signRows_len]; exact hlt
            have hrow := (HSI.out.row k (xg, xc) _ HXA.out (List.getElem?_set_self hkl)).2
            obtain ⟨hcx, hfx⟩ := hrow.cell (j := q) (by rw [signTo_len]; exact hlq)
            have hgq := signTo_get ps r hlq
            rw [hgq] at hcx
            dsimp only at hcx hfx
            change wr.cell? ⟨xg, q, none⟩ = some (.int .i64 (gt r q)) at hcx
            have hb1 := gt_in HR1.out hlq
            obtain ⟨hb2, hb3⟩ := hb1
            have hlo := lookup_of hom (k := (q : Int)) (by unfold I64; omega)
            have HGQ := Lib.hid hgq
            clear hrow hom hgq
            cases hin : decide ((q : Int) ∈ ps)
            · have HNO : Hid ((signRows m ps k).set k (signTo ps r (q + 1)) = (signRows m ps k).set k (signTo ps r q)) := by show _ = _; rw [signTo_succ_no (by simpa using hin)]
              rw [hin] at hlo
              clear hin
              go_wp2
              go_roundw
              case rel => exact ⟨q + 1, by omega, by go_num, by rw [HNO.out]; exact HSI.out, HOM.out, HB.out⟩
              case measure => simp [intOf]; omega
            · have HYES : Hid (((signRows m ps k).set k (signTo ps r q)).set k ((signTo ps r q).set q (-gt r q)) = (signRows m ps k).set k (signTo ps r (q + 1))) := by show _ = _; rw [List.set_set, signTo_succ_yes hlq (by simpa using hin)]
              rw [hin] at hlo
              clear hin
              have HST := Lib.hid (HSI.out.stored HXA.out (List.getElem?_set_self hkl) q (-gt r q))
              have HXB : Hid (B ≠ xg) := by show B ≠ xg; have := HL.out k _ HXA.out; omega
              have HXW : Hid (w.heap.size ≤ xg) := by show _ ≤ xg; have h1 := (HSI.out.out k _ HXA.out).2; have h2 := HG.out; dsimp only at h1; omega
              go_wp2
              go_roundw
              case rel => exact ⟨q + 1, by omega, by go_num, by rw [← HYES.out]; exact HST.out, World.ownsMap.setCell HOM.out HXB.out _, HB.out.setCell HXW.out _⟩
              case measure => simp [intOf]; omega
          · obtain rfl : q = r.length := by omega
            have HN : Hid ((signRows m ps k).set k (signTo ps r r.length) = signRows m ps (k + 1)) := by show _ = _; rw [signTo_full, signRows_succ HRE.out]
            rw [HN.out] at HSI
            go_wp2
            go_roundw
            case rel => exact ⟨k + 1, by omega, by go_num, HSI.out, HOM.out, HB.out⟩
            case measure => simp [intOf]; omega
      · obtain rfl : k = m.length := by omega
        have HN := Lib.hid (signRows_full m ps)
        rw [HN.out] at HSI
        have HLS : Hid ((signM m ps).length = m.length) := by show _ = _; simp [signM]
        go_wp2
        go_ret2
        rw [HR.out]
        exact ⟨HB.out, some ⟨g, 0, none⟩, m.length, by rw [HLS.out]; rfl, HSI.out.ms⟩
  · have HR : Hid (signV m ps = ([], q)) := by show _ = _; unfold signV; rw [if_neg (by rw [hq]; exact hq0), hq]
    have e0 : (q == 0) = false := by simpa using hq0
    have e1 : (q != 0) = true := by simpa using hq0
    clear hq0 hq
    go_wp2
    go_ret2
    exact MPostS.err q HR.out HB1.out
end Go.Proofs.Ytacbciamehchjaa
