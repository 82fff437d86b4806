/- Seeded of layer 2 and of its answers: contracts. -/
import Derived.Test.YtkakjfijmekdjabMFill
import Derived.Test.YtkakjfijmekdjabMVal2
import Derived.Deep.RegionLaw
namespace Go.Proofs.Ytkakjfijmekdjab
open Go.RowKit

/-- The state of the generator after n steps. -/
def sdN (s : Nat) : Nat → Nat
  | 0 => s
  | n + 1 => sdN s n * 48271 % 2147483647
def sdV (s n : Nat) : Int := ((sdN s n % 3 : Nat) : Int) - 1
def seedRow (s p i : Nat) : List Int := (List.range p).map fun j => sdV s (i * p + j + 1)
def seedM (s r p : Nat) : List (List Int) := (List.range r).map (seedRow s p)
def seedOk (s r p : Int) : Bool := rangeB s 1 2147483646 && (rangeB r 1 6 && rangeB p 1 10)
def seededV (s r p : Int) : List (List Int) × Int := if seedOk s r p = true then (seedM s.toNat r.toNat p.toNat, 0) else ([], 7)
theorem seededV_no {s r p : Int} (h : seedOk s r p = false) : seededV s r p = ([], 7) := by unfold seededV; rw [h]; rfl
theorem seededV_ok {s r p : Nat} (h : seedOk s r p = true) : seededV s r p = (seedM s r p, 0) := by unfold seededV; rw [h]; simp
theorem sdN_lt (s : Nat) (hs : s ≤ 2147483646) : ∀ n, sdN s n ≤ 2147483646
  | 0 => hs
  | n + 1 => by
    have : sdN s n * 48271 % 2147483647 < 2147483647 := Nat.mod_lt _ (by decide)
    show sdN s n * 48271 % 2147483647 ≤ _
    omega
theorem seedRow_len (s p i : Nat) : (seedRow s p i).length = p := by simp [seedRow]
theorem seedRow_next (s p i : Nat) {j : Nat} (hj : j < p) : (seedRow s p i).take (j + 1) = (seedRow s p i).take j ++ [sdV s (i * p + j + 1)] := by
  unfold seedRow
  rw [List.take_succ_eq_append_getElem (by simpa using hj)]
  congr 2
  simp
theorem seedOk_parts {s r p : Int} (h : seedOk s r p = true) : 1 ≤ s ∧ s ≤ 2147483646 ∧ 1 ≤ r ∧ r ≤ 6 ∧ 1 ≤ p ∧ p ≤ 10 := by
  simp [seedOk, rangeB] at h; omega
theorem seedOk_not {s r p : Int} (h : seedOk s r p = false) : ¬ (1 ≤ s ∧ s ≤ 2147483646) ∨ ¬ (1 ≤ r ∧ r ≤ 6) ∨ ¬ (1 ≤ p ∧ p ≤ 10) := by
  rcases Decidable.em ((1 ≤ s ∧ s ≤ 2147483646) ∧ (1 ≤ r ∧ r ≤ 6) ∧ (1 ≤ p ∧ p ≤ 10)) with hh | hh
  · have : seedOk s r p = true := by simp [seedOk, rangeB]; omega
    rw [this] at h; cases h
  · omega

set_option maxRecDepth 100000 in
set_option maxHeartbeats 800000 in
theorem mSeeded_any (s r p : Int) (w : World) :
    Calls Try.prog 43 #[.int .i64 s, .int .i64 r, .int .i64 p] w (MPost (seededV s r p) w) := by
  cases hok : seedOk s r p
  · have HV : Hid (seededV s r p = ([], 7)) := seededV_no hok
    have hnot := seedOk_not hok
    clear hok
    by_cases h1 : s < 1
    · as_aux_lemma =>
        clear hnot
        go_enter Try.func43, Try.ntmps43
        go_wp2
        go_ret2
        exact MPost.err 7 HV.out (Below.refl _ _)
    · by_cases h2 : 2147483647 ≤ s
      · as_aux_lemma =>
          clear hnot
          go_enter Try.func43, Try.ntmps43
          go_wp2
          go_ret2
          exact MPost.err 7 HV.out (Below.refl _ _)
      · have h1' : 1 ≤ s := by omega
        have h2' : s < 2147483647 := by omega
        by_cases h3 : r < 1
        · as_aux_lemma =>
            clear hnot h1 h2
            go_enter Try.func43, Try.ntmps43
            go_wp2
            go_ret2
            exact MPost.err 7 HV.out (Below.refl _ _)
        · by_cases h4 : 6 < r
          · as_aux_lemma =>
              clear hnot h1 h2 h3
              go_enter Try.func43, Try.ntmps43
              go_wp2
              go_ret2
              exact MPost.err 7 HV.out (Below.refl _ _)
          · have h3' : 1 ≤ r := by omega
            have h4' : r ≤ 6 := by omega
            by_cases h5 : p < 1
            · as_aux_lemma =>
                clear hnot h1 h2 h3 h4
                go_enter Try.func43, Try.ntmps43
                go_wp2
                go_ret2
                exact MPost.err 7 HV.out (Below.refl _ _)
            · have h6 : 10 < p := by omega
              as_aux_lemma =>
                clear hnot h1 h2 h3 h4
                go_enter Try.func43, Try.ntmps43
                go_wp2
                go_ret2
                exact MPost.err 7 HV.out (Below.refl _ _)
  · obtain ⟨a1, a2, a3, a4, a5, a6⟩ := seedOk_parts hok
    obtain ⟨s, rfl⟩ : ∃ n : Nat, s = (n : Int) := ⟨s.toNat, by omega⟩
    obtain ⟨r, rfl⟩ : ∃ n : Nat, r = (n : Int) := ⟨r.toNat, by omega⟩
    obtain ⟨p, rfl⟩ : ∃ n : Nat, p = (n : Int) := ⟨p.toNat, by omega⟩
    have HV := Lib.hid (seededV_ok hok); clear hok
    obtain ⟨i0, hi, hz0, hz1, hz2⟩ := info_parts Try.infoRow
    have b1 : 1 ≤ s := by omega
    have b2 : s ≤ 2147483646 := by omega
    have b2' : s < 2147483647 := by omega
    have b3 : 1 ≤ r := by omega
    have b4 : r ≤ 6 := by omega
    have b5 : 1 ≤ p := by omega
    have b6 : p ≤ 10 := by omega
    clear a1 a2 a3 a4 a5 a6
    have HLT := Lib.hid (sdN_lt s b2)
    go_enter Try.func43, Try.ntmps43
    go_wp2_with (with_reducible refine wpList_make_full _ rfl (.tmp 31) (.tmp 31) 23 rfl w.heap.size 26 i0 (.slice none 0 0) 1 Try.underlying23 hi hz0 hz1 .i64 .i64 (r : Int) (r : Int) r rfl rfl rfl rfl (by rw [hz2]; omega) (by unfold maxLen; omega) (Nat.le_refl _) ?_)
    rotate_left
    intro w4 hown hgrow
    obtain ⟨g, hg⟩ : ∃ g, w.heap.size = g := ⟨_, rfl⟩
    have HB4 : Hid (Below w.heap.size w w4) := (Below.refl _ _).grown hgrow (Nat.le_refl _) (fun k e => by cases e)
    rw [hg] at hown ⊢
    have HO4 : Hid (OwnM w4 g (.slice (some ⟨g, 0, none⟩) r r) (List.replicate r (none, [], 0)) (List.replicate r ((none, [], 0) : RH)).length) := OwnM.made _ (by rw [Nat.mul_one]; exact hown)
    have HG : Hid (w.heap.size ≤ g) := by show _ ≤ g; omega
    clear hown hgrow
    rw [← hg]
    have HGW := Lib.hid hg; clear hg
    rw [HGW.out]
    go_wp2
    go_loopw [9, 36] (fun t i wr => ∃ (k : Nat) (hs : List RH), k ≤ r ∧ i = .int .i64 k ∧ t = .int .i64 (sdN s (k * p)) ∧ OwnM wr g (.slice (some ⟨g, 0, none⟩) r r) hs hs.length ∧ FillM (seedRow s p) r k hs ∧ Below w.heap.size w wr) (fun _ i _ => r - (intOf i).toNat)
    case atStart => exact ⟨0, _, Nat.zero_le _, rfl, by rw [Nat.zero_mul]; rfl, HO4.out, FillM.start _ _, HB4.out⟩
    case round =>
      obtain ⟨k, hs, hk, rfl, rfl, hO, hF, hB⟩ := hrel
      have HO := Lib.hid hO; clear hO
      have HF := Lib.hid hF; clear hF
      have HB := Lib.hid hB; clear hB
      by_cases hlt : k < r
      · obtain ⟨wo, rfl⟩ : ∃ wo : World, wo = wr := ⟨_, rfl⟩
        have HGO := Lib.hid HO.out.lt.1
        have HLOW : Hid (RowsLow hs k wo.heap.size) := (HO.out.skip (Nat.le_refl _) k).low
        have HOk : Hid (OwnM wo g (.slice (some ⟨g, 0, none⟩) r r) (hs.set k (none, [], 0)) k) := by
          show OwnM _ _ _ _ _
          have e : hs.set k (none, [], 0) = hs := by
            have e1 := HF.out.todo k (Nat.le_refl _) hlt
            have hkl : k < hs.length := (List.getElem?_eq_some_iff.1 e1).1
            have e2 := (List.getElem?_eq_some_iff.1 e1).2
            rw [← e2]; exact List.set_getElem_self hkl
          rw [e]; exact HO.out.skip (Nat.le_refl _) k
        go_wp2
        go_loopw [9, 40] (fun t i wr => ∃ (j : Nat) (ar : Option Addr) (cr : Nat), j ≤ p ∧ i = .int .i64 j ∧ t = .int .i64 (sdN s (k * p + j)) ∧ OwnM wr g (.slice (some ⟨g, 0, none⟩) r r) (hs.set k (ar, (seedRow s p k).take j, cr)) k ∧ OwnI wr wo.heap.size (.slice ar ((seedRow s p k).take j).length cr) ((seedRow s p k).take j) ∧ Below w.heap.size w wr ∧ wo.heap.size ≤ wr.heap.size) (fun _ i _ => p - (intOf i).toNat)
        case atStart => exact ⟨0, none, 0, Nat.zero_le _, rfl, rfl, HOk.out, OwnI.nil _ _, HB.out, Nat.le_refl _⟩
        case round =>
          obtain ⟨j, ar, cr, hj, rfl, rfl, hOM, hOI, hBj, hsz⟩ := hrel
          have HOM := Lib.hid hOM; clear hOM
          have HBj := Lib.hid hBj; clear hBj
          have HSZ := Lib.hid hsz; clear hsz
          have hkl : k < hs.length := by rw [HF.out.len]; exact hlt
          by_cases hjt : j < p
          · as_aux_lemma =>
              obtain ⟨hcz, hfz⟩ := HOM.out.cell (List.getElem?_set_self hkl)
              dsimp only at hcz
              have hlen : ((seedRow s p k).take j).length = j := by rw [List.length_take, seedRow_len]; omega
              rw [hlen] at hcz hOI
              have HOI := Lib.hid hOI; clear hOI
              have HLEN := Lib.hid hlen; clear hlen
              have hS0 := HLT.out (k * p + j)
              have HS1 : Hid (sdN s (k * p + (j + 1)) = sdN s (k * p + j) * 48271 % 2147483647) := rfl
              obtain ⟨S, hS⟩ : ∃ S, sdN s (k * p + j) = S := ⟨_, rfl⟩
              rw [hS] at hS0 HS1 ⊢
              clear hS
              obtain ⟨S1, hS1⟩ : ∃ S1, S * 48271 % 2147483647 = S1 := ⟨_, rfl⟩
              have hmod : (S : Int) * 48271 % 2147483647 = (S1 : Int) := by rw [← hS1]; simp
              have hS1b : S1 ≤ 2147483646 := by have : S * 48271 % 2147483647 < 2147483647 := Nat.mod_lt _ (by decide); omega
              rw [hS1] at HS1
              obtain ⟨d, hd⟩ : ∃ d : Nat, S1 % 3 = d := ⟨_, rfl⟩
              have hd3 : (S1 : Int) % 3 = (d : Int) := by rw [← hd]; simp
              have hd2 : d ≤ 2 := by omega
              have HNX : Hid ((seedRow s p k).take (j + 1) = (seedRow s p k).take j ++ [(d : Int) - 1]) := by
                show _ = _
                rw [seedRow_next s p k hjt]
                have : sdV s (k * p + j + 1) = (d : Int) - 1 := by
                  unfold sdV
                  have e := HS1.out
                  rw [← Nat.add_assoc] at e
                  rw [e, hd]
                rw [this]
              obtain ⟨L, hL⟩ : ∃ L, (seedRow s p k).take (j + 1) = L := ⟨_, rfl⟩
              have HWL : Hid ((seedRow s p k).take j ++ [(d : Int) - 1] = L) := by show _ = _; rw [← HNX.out, hL]
              have HLD := Lib.hid hL; clear hL
              have HS1b := Lib.hid hS1; clear hS1
              have HD := Lib.hid hd; clear hd
              have hS0' : (S : Int) * 48271 ≤ 103661186000000 := by omega
              go_wp2_with (at_builtin; go_must (refine wpList_push rfl (.tmp 50) (.tmp 54) rfl wo.heap.size _ ((seedRow s p k).take j) _ _ _ _ rfl rfl rfl HOI.out (by rw [HLEN.out]; omega) HSZ.out ?_); intro v' w9 ho' hb'; rw [HWL.out] at ho'; obtain ⟨ar', cr', rfl, sr', ltr'⟩ := ho'.row; have HO9 := Lib.hid ho'; clear ho'; have HB9 := Lib.hid hb'; clear hb'; have HS9 := Lib.hid sr'; clear sr'; have HL9 := Lib.hid ltr'; clear ltr'; have hc9 := (HB9.out.cell (p := ⟨g, k, none⟩) HGO.out).trans hcz; have hf9 := (HB9.out.frozen (p := ⟨g, k, none⟩) HGO.out).trans hfz)
              have HM9 := Lib.hid (HOM.out.grow HB9.out HGO.out (HLOW.out.set _))
              clear hmod hd3
              go_roundw
              case rel =>
                have hgne : ∀ ad, ar' = some ad → ad.block < w9.heap.size ∧ ad.block ≠ g := fun ad ha => ⟨(HL9.out ad ha).1, by have := (HL9.out ad ha).2; have := HGO.out; omega⟩
                have hput := HM9.out.put k cr' HS9.out hgne
                rw [List.set_set] at hput
                refine ⟨j + 1, ar', cr', by omega, by go_num, by rw [HS1.out], ?_, ?_, ?_, ?_⟩
                · rw [HLD.out]; exact hput
                · rw [HLD.out]; exact HO9.out.setBelow HGO.out _
                · exact (HBj.out.trans (HB9.out.mono HB.out.size)).setCell HG.out _
                · simp; exact Nat.le_trans HSZ.out HB9.out.size
              case measure => simp [intOf]; omega
          · as_aux_lemma =>
              have HOI := Lib.hid hOI; clear hOI
              obtain rfl : j = p := by omega
              have hrow : (seedRow s j k).take j = seedRow s j k := List.take_of_length_le (by rw [seedRow_len]; exact Nat.le_refl _)
              rw [hrow] at HOM HOI
              have hap : ∀ ad, ar = some ad → ad.block < wr.heap.size ∧ ad.block ≠ g := by
                intro ad ha
                obtain ⟨a1, c1, e1, _, h1⟩ := HOI.out.row
                obtain ⟨rfl, _⟩ : ar = a1 ∧ cr = c1 := by simpa using e1
                have := h1 ad ha
                have := HGO.out
                exact ⟨by omega, by omega⟩
              have HFULL : Hid (OwnM wr g (.slice (some ⟨g, 0, none⟩) r r) (hs.set k (ar, seedRow s j k, cr)) (hs.set k (ar, seedRow s j k, cr)).length) :=
                HOM.out.fill _ (List.getElem?_set_self hkl) HOI.out.sl (fun ad ha => ⟨(hap ad ha).1, by have := (hap ad ha).2; simp only [Value.ownBlock, Option.some.injEq, ne_eq]; exact fun e => this e.symm⟩)
              have HFN := Lib.hid (HF.out.next hlt (a := ar) (r := seedRow s j k) (c := cr) rfl)
              clear hap hkl hrow
              go_wp2
              go_roundw
              case rel => exact ⟨k + 1, _, by omega, by go_num, by rw [Nat.succ_mul], HFULL.out, HFN.out, HBj.out⟩
              case measure => simp [intOf]; omega
      · as_aux_lemma =>
          obtain rfl : k = r := by omega
          have HZ := Lib.hid HF.out.all
          go_wp2
          go_ret2
          exact MPost.own (by rw [HV.out, HZ.out]; rfl) HB.out HO.out (Nat.le_refl _)
end Go.Proofs.Ytkakjfijmekdjab
