/- Walsh of layer 2: a contract. -/
import Derived.Test.YtkakjfijmekdjabMWalsh
namespace Go.Proofs.Ytkakjfijmekdjab
open Go.RowKit

set_option maxRecDepth 100000 in
set_option maxHeartbeats 800000 in
theorem mWalsh_any (p : Int) (a : Option Addr) (rows : List Int) (cap : Nat) (w : World) (hl : rows.length ≤ 9223372036854775807) (hs : Sl w a rows) :
    Calls Try.prog 41 #[.int .i64 p, .slice a rows.length cap] w (MPost (walshV p rows) w) := by
  have HS := Lib.hid hs; clear hs
  obtain ⟨i0, hi, hz0, hz1, hz2⟩ := info_parts Try.infoRow
  go_enter Try.func41, Try.ntmps41
  go_wp2_with fail
  refine (walshLong_any _ _).mono ?_
  rintro e w1 ⟨rfl, rfl⟩
  cases hlong : longB p
  · have HV : Hid (walshV p rows = ([], 7)) := walshV_no (by rw [hlong]; rfl)
    clear hlong
    go_wp2
    go_ret2
    exact MPost.err 7 HV.out (Below.refl _ _)
  · have hp : 1 ≤ p ∧ p ≤ 8 := by have := longB_of hlong; omega
    obtain ⟨hp1, hp8⟩ := hp
    have HLG := Lib.hid hlong; clear hlong
    go_wp2_with fail
    refine (walshRows_any p hp1 hp8 _ _ _ _ hl HS.out).mono ?_
    rintro e w1 ⟨rfl, hb1⟩
    have HB1 := Lib.hid hb1; clear hb1
    cases hr : wrowsB p rows
    · have HV : Hid (walshV p rows = ([], 7)) := walshV_no (by rw [hr, Bool.and_false])
      clear hr
      go_wp2
      go_ret2
      exact MPost.err 7 HV.out HB1.out
    · have HV : Hid (walshV p rows = (walshM p.toNat rows, 0)) := walshV_ok (by rw [hr, HLG.out]; rfl)
      have hparts : rangeB rows.length 1 6 = true ∧ allR 0 (p - 1) rows = true := by
        unfold wrowsB at hr; simp only [Bool.and_eq_true] at hr; exact ⟨hr.1, hr.2.1⟩
      have h6 : rows.length ≤ 6 := by have := hparts.1; simp [rangeB] at this; omega
      have HR := Lib.hid hparts.2
      clear hparts hr
      obtain ⟨n, rfl⟩ : ∃ n : Nat, p = (n : Int) := ⟨p.toNat, by omega⟩
      rw [Int.toNat_natCast] at HV
      have hn8 : n ≤ 8 := by omega
      clear hp1 hp8
      go_wp2_with (with_reducible refine wpList_make_full _ rfl (.tmp 20) (.tmp 20) 23 rfl w1.heap.size 26 i0 (.slice none 0 0) 1 Try.underlying23 hi hz0 hz1 .i64 .i64 (rows.length : Int) (rows.length : Int) rows.length rfl rfl rfl rfl (by rw [hz2]; omega) (by unfold maxLen; omega) (Nat.le_refl _) ?_)
      rotate_left
      intro w4 hown hgrow
      have HO4 : Hid (OwnM w4 w1.heap.size (.slice (some ⟨w1.heap.size, 0, none⟩) rows.length rows.length) (List.replicate rows.length (none, [], 0)) (List.replicate rows.length ((none, [], 0) : RH)).length) := OwnM.made _ (by rw [Nat.mul_one]; exact hown)
      have HB4 : Hid (Below w.heap.size w w4) := Below.next HB1.out ((Below.refl _ _).grown hgrow (Nat.le_refl _) (fun k e => by cases e)) (Nat.le_refl _)
      obtain ⟨g, hg⟩ : ∃ g, w1.heap.size = g := ⟨_, rfl⟩
      rw [hg] at HO4 ⊢
      have HG : Hid (w.heap.size ≤ g) := by show _ ≤ g; rw [← hg]; exact HB1.out.size
      clear hown hgrow hg
      go_wp2
      go_loopw [24] (fun i wr => ∃ (k : Nat) (hs : List RH), k ≤ rows.length ∧ i = .int .i64 k ∧ OwnM wr g (.slice (some ⟨g, 0, none⟩) rows.length rows.length) hs hs.length ∧ FillM (fun k => walshRow n (gt rows k).toNat) rows.length k hs ∧ Below w.heap.size w wr) (fun i _ => rows.length - (intOf i).toNat)
      case atStart => exact ⟨0, _, Nat.zero_le _, rfl, HO4.out, FillM.start _ _, HB4.out⟩
      case round =>
        obtain ⟨k, hs, hk, rfl, hO, hF, hB⟩ := hrel
        have HO := Lib.hid hO; clear hO
        have HF := Lib.hid hF; clear hF
        have HB := Lib.hid hB; clear hB
        by_cases hlt : k < rows.length
        · obtain ⟨b, off, x, rfl, hcell, HX⟩ := (HS.out.below HB.out).at hlt
          have hx0 := allR_get HR.out hlt
          rw [gt_some' HX.out] at hx0
          obtain ⟨m, rfl⟩ : ∃ m : Nat, x = (m : Int) := ⟨x.toNat, by omega⟩
          have hm8 : m < 8 := by omega
          clear hx0
          obtain ⟨wo, rfl⟩ : ∃ wo : World, wo = wr := ⟨_, rfl⟩
          have hgo := HO.out.lt.1
          have HBo := Lib.hid HB.out
          have HLOW : Hid (RowsLow hs k wo.heap.size) := (HO.out.skip (Nat.le_refl _) k).low
          have HOk : Hid (OwnM wo g (.slice (some ⟨g, 0, none⟩) rows.length rows.length) (hs.set k (none, [], 0)) k) := by
            show OwnM _ _ _ _ _
            have e : hs.set k (none, [], 0) = hs := by
              have e1 := HF.out.todo k (Nat.le_refl _) hlt
              have hkl : k < hs.length := (List.getElem?_eq_some_iff.1 e1).1
              have e2 := (List.getElem?_eq_some_iff.1 e1).2
              rw [← e2]; exact List.set_getElem_self hkl
            rw [e]; exact HO.out.skip (Nat.le_refl _) k
          have HGO := Lib.hid hgo; clear hgo
          go_wp2
          clear hcell
          go_loopw [30] (fun i wr => ∃ (j : Nat) (ar : Option Addr) (cr : Nat), j ≤ n ∧ i = .int .i64 j ∧ OwnM wr g (.slice (some ⟨g, 0, none⟩) rows.length rows.length) (hs.set k (ar, (walshRow n m).take j, cr)) k ∧ OwnI wr wo.heap.size (.slice ar ((walshRow n m).take j).length cr) ((walshRow n m).take j) ∧ Below w.heap.size w wr ∧ wo.heap.size ≤ wr.heap.size) (fun i _ => n - (intOf i).toNat)
          case atStart => exact ⟨0, none, 0, Nat.zero_le _, rfl, HOk.out, OwnI.nil _ _, HB.out, Nat.le_refl _⟩
          case round =>
            obtain ⟨j, ar, cr, hj, rfl, hOM, hOI, hBj, hsz⟩ := hrel
            have HOM := Lib.hid hOM; clear hOM
            have HOI := Lib.hid hOI; clear hOI
            have HBj := Lib.hid hBj; clear hBj
            have HSZ := Lib.hid hsz; clear hsz
            have hkl : k < hs.length := by rw [HF.out.len]; exact hlt
            by_cases hjt : j < n
            · obtain ⟨hcz, hfz⟩ := HOM.out.cell (List.getElem?_set_self hkl)
              dsimp only at hcz
              obtain ⟨c, hc, hc0, hc9, hws⟩ := wsign_some m j
              have HC := Lib.hid hc; clear hc
              have HWS : Hid ((walshRow n m).take (j + 1) = (walshRow n m).take j ++ [1 - 2 * (c % 2)]) := by
                show _ = _
                rw [← hws]; exact take_range_succ' (wsign m) hjt
              have hlen : ((walshRow n m).take j).length = j := by simp [walshRow]; omega
              rw [hlen] at hcz
              clear hws
              have HLEN := Lib.hid hlen; clear hlen
              have hband := i64_and m j (by omega) (by omega)
              have hmn : m &&& j < 257 := Nat.lt_of_le_of_lt Nat.and_le_left (by omega)
              obtain ⟨q, hq⟩ : ∃ q, m &&& j = q := ⟨_, rfl⟩
              rw [hq] at hband hmn HC
              have hmq : (0 : Int) ≤ (q : Int) := by omega
              clear hq
              obtain ⟨d, hd⟩ : ∃ d : Int, c % 2 = d := ⟨_, rfl⟩
              have hd0 : 0 ≤ d := by omega
              have hd1 : d ≤ 1 := by omega
              have t1 : c.tmod 2 = d := by rw [Int.tmod_eq_emod_of_nonneg hc0]; exact hd
              rw [hd] at HWS
              have m0 : IntKind.i64.wrap d = d := IntWalk.i64_in _ (by omega)
              have m1 : IntKind.i64.wrap (2 * d) = 2 * d := IntWalk.i64_in _ (by omega)
              have m2 : IntKind.i64.wrap (1 - 2 * d) = 1 - 2 * d := IntWalk.i64_in _ (by omega)
              have m3 : IntKind.u64.wrap (q : Int) = (q : Int) := by
                show ((q : Int)) % 18446744073709551616 = _
                omega
              clear hd
              obtain ⟨L, hL⟩ : ∃ L, (walshRow n m).take (j + 1) = L := ⟨_, rfl⟩
              have HWL : Hid ((walshRow n m).take j ++ [1 - 2 * d] = L) := by show _ = _; rw [← HWS.out, hL]
              have HLD := Lib.hid hL; clear hL
              have hg2 := HGO.out
              have HG2 := Lib.hid hg2; clear hg2
              have hgs : g < wr.heap.size := Nat.lt_of_lt_of_le HG2.out HSZ.out
              have hgn : g ≠ wr.heap.size := by omega
              have hfa : ∀ o, (wr.alloc o).drew.frozen? ⟨g, k, none⟩ = false := fun o => ((((Below.refl wr.heap.size wr).alloc (Nat.le_refl _) o).drew).frozen (p := ⟨g, k, none⟩) hgs).trans hfz
              go_wp2
              go_region_law (first | (go_simp; go_at_call 79; refine (ones_any q hmn _).mono ?_; rintro e w' ⟨rfl, rfl⟩; rw [HC.out]) | (refine step_push rfl (.tmp 38) (.tmp 47) rfl wo.heap.size _ ((walshRow n m).take j) _ _ wr.heap.size (by rw [HLEN.out]; rfl) (by rfl) (alloc_cell wr _ _ _ _ rfl) ((HOI.out.below ((Below.refl _ _).alloc (Nat.le_refl _) _)).drew) (by rw [HLEN.out]; omega) (by simp; have := HSZ.out; omega) ?_; intro v' w9 ho' hb'; rw [HWL.out] at ho'; obtain ⟨ar', cr', rfl, sr', ltr'⟩ := ho'.row; have hc9 := (hb'.cell (p := ⟨g, k, none⟩) HG2.out).trans (((((Below.refl wr.heap.size wr).alloc (Nat.le_refl _) _).drew).cell (p := ⟨g, k, none⟩) hgs).trans hcz); have hf9 := (hb'.frozen (p := ⟨g, k, none⟩) HG2.out).trans (hfa _)))
              all_goals
                have HO9 := Lib.hid ho'; clear ho'
                have HB9 : Hid (Below wo.heap.size wr w9) := (((Below.refl _ _).alloc HSZ.out _).drew).trans hb'
                have HS9 := Lib.hid sr'; clear sr'
                have HL9 := Lib.hid ltr'; clear ltr'
                have HM9 := Lib.hid (HOM.out.grow HB9.out HGO.out (HLOW.out.set _))
                clear hfa hb'
                go_wp2
                go_roundw
                case rel =>
                  have hgne : ∀ ad, ar' = some ad → ad.block < w9.heap.size ∧ ad.block ≠ g := fun ad ha => ⟨(HL9.out ad ha).1, by have := (HL9.out ad ha).2; have := HGO.out; omega⟩
                  have hput := HM9.out.put k cr' HS9.out hgne
                  rw [List.set_set] at hput
                  refine ⟨j + 1, ar', cr', by omega, by go_num, ?_, ?_, ?_, ?_⟩
                  · rw [HLD.out]; exact hput
                  · rw [HLD.out]; exact HO9.out.setBelow HGO.out _
                  · exact (HBj.out.trans (HB9.out.mono HBo.out.size)).setCell HG.out _
                  · simp; exact Nat.le_trans HSZ.out HB9.out.size
                case measure => simp [intOf]; omega
            · obtain rfl : j = n := by omega
              have hrow : (walshRow j m).take j = walshRow j m := List.take_of_length_le (by simp [walshRow])
              rw [hrow] at HOM HOI
              have hkl : k < hs.length := by rw [HF.out.len]; exact hlt
              have hap : ∀ ad, ar = some ad → ad.block < wr.heap.size ∧ ad.block ≠ g := by
                intro ad ha
                obtain ⟨a1, c1, e1, _, h1⟩ := HOI.out.row
                obtain ⟨rfl, _⟩ : ar = a1 ∧ cr = c1 := by simpa using e1
                have := h1 ad ha
                have := HGO.out
                exact ⟨by omega, by omega⟩
              have HFULL : Hid (OwnM wr g (.slice (some ⟨g, 0, none⟩) rows.length rows.length) (hs.set k (ar, walshRow j m, cr)) (hs.set k (ar, walshRow j m, cr)).length) :=
                HOM.out.fill _ (List.getElem?_set_self hkl) HOI.out.sl (fun ad ha => ⟨(hap ad ha).1, by have := (hap ad ha).2; simp only [Value.ownBlock, Option.some.injEq, ne_eq]; exact fun e => this e.symm⟩)
              have HFN := Lib.hid (HF.out.next hlt (a := ar) (r := walshRow j m) (c := cr) (by rw [gt_some' HX.out, Int.toNat_natCast]))
              clear hap hkl hrow
              go_wp2
              go_roundw
              case rel => exact ⟨k + 1, _, by omega, by go_num, HFULL.out, HFN.out, HBj.out⟩
              case measure => simp [intOf]; omega
        · obtain rfl : k = rows.length := by omega
          have HZ := Lib.hid HF.out.all
          go_wp2
          go_ret2
          exact MPost.own (by rw [HV.out, HZ.out]; rfl) HB.out HO.out (Nat.le_refl _)
end Go.Proofs.Ytkakjfijmekdjab
