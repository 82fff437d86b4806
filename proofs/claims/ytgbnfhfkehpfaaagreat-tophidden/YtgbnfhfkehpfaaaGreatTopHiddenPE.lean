/- Parts of the proof of TopHidden: plain words, walks and contracts, each under its own heading. -/
import Derived.Test.YtgbnfhfkehpfaaaGreatTopHiddenPD
import Derived.Test.YtgbnfhfkehpfaaaGreatTopHiddenPC
import Derived.Test.YtgbnfhfkehpfaaaGreatTopHiddenPB
import Derived.Test.YtgbnfhfkehpfaaaGreatTopHiddenPA
import Derived.IntWalk
import Derived.Deep.RegionLaw
import Derived.Laws.MakeOwn
import Derived.StillTailTactics
import Derived.RegionTactic
import Derived.WalkSmall
import Derived.Laws.ResultCell
/- Walsh of layer 2: a contract. -/
namespace Go.Proofs.YtgbnfhfkehpfaaaGreat
open Go.RowKit

set_option maxRecDepth 100000 in
set_option maxHeartbeats 800000 in
theorem mWalsh_any (p : Int) (a : Option Addr) (rows : List Int) (cap : Nat) (w : World) (hl : rows.length ≤ 9223372036854775807) (hs : Sl w a rows) :
    Calls Tryz.prog 9 #[.int .i64 p, .slice a rows.length cap] w (MPost (walshV p rows) w) := by
  have HS := Lib.hid hs; clear hs
  obtain ⟨i0, hi, hz0, hz1, hz2⟩ := info_parts Tryz.infoRow
  go_enter Tryz.func9, Tryz.ntmps9
  go_wp2_with fail
  refine (walshLong_any _ _).mono ?_
  rintro e w1 ⟨rfl, rfl⟩
  cases hlong : longB p
  · have HV : Hid (walshV p rows = ([], 7)) := walshV_no (by rw [hlong]; rfl)
    clear hlong
    go_wp2
    go_ret2
    exact MPost.err 7 HV.out (Below.refl _ _)
  · have hp : 1 ≤ p ∧ p ≤ 8 := by have := longB_of hlong; omega
    obtain ⟨hp1, hp8⟩ := hp
    have HLG := Lib.hid hlong; clear hlong
    go_wp2_with fail
    refine (walshRows_any p hp1 hp8 _ _ _ _ hl HS.out).mono ?_
    rintro e w1 ⟨rfl, hb1⟩
    have HB1 := Lib.hid hb1; clear hb1
    cases hr : wrowsB p rows
    · have HV : Hid (walshV p rows = ([], 7)) := walshV_no (by rw [hr, Bool.and_false])
      clear hr
      go_wp2
      go_ret2
      exact MPost.err 7 HV.out HB1.out
    · have HV : Hid (walshV p rows = (walshM p.toNat rows, 0)) := walshV_ok (by rw [hr, HLG.out]; rfl)
      have hparts : rangeB rows.length 1 6 = true ∧ allR 0 (p - 1) rows = true := by
        unfold wrowsB at hr; simp only [Bool.and_eq_true] at hr; exact ⟨hr.1, hr.2.1⟩
      have h6 : rows.length ≤ 6 := by have := hparts.1; simp [rangeB] at this; omega
      have HR := Lib.hid hparts.2
      clear hparts hr
      obtain ⟨n, rfl⟩ : ∃ n : Nat, p = (n : Int) := ⟨p.toNat, by omega⟩
      rw [Int.toNat_natCast] at HV
      have hn8 : n ≤ 8 := by omega
      clear hp1 hp8
      go_wp2_with (with_reducible refine wpList_make_full _ rfl (.tmp 20) (.tmp 20) 26 rfl w1.heap.size 22 i0 (.slice none 0 0) 1 Tryz.underlying26 hi hz0 hz1 .i64 .i64 (rows.length : Int) (rows.length : Int) rows.length rfl rfl rfl rfl (by rw [hz2]; omega) (by unfold maxLen; omega) (Nat.le_refl _) ?_)
      rotate_left
      intro w4 hown hgrow
      have HO4 : Hid (OwnM w4 w1.heap.size (.slice (some ⟨w1.heap.size, 0, none⟩) rows.length rows.length) (List.replicate rows.length (none, [], 0)) (List.replicate rows.length ((none, [], 0) : RH)).length) := OwnM.made _ (by rw [Nat.mul_one]; exact hown)
      have HB4 : Hid (Below w.heap.size w w4) := Below.next HB1.out ((Below.refl _ _).grown hgrow (Nat.le_refl _) (fun k e => by cases e)) (Nat.le_refl _)
      obtain ⟨g, hg⟩ : ∃ g, w1.heap.size = g := ⟨_, rfl⟩
      rw [hg] at HO4 ⊢
      have HG : Hid (w.heap.size ≤ g) := by show _ ≤ g; rw [← hg]; exact HB1.out.size
      clear hown hgrow hg
      go_wp2
      go_loopw [24] (fun i wr => ∃ (k : Nat) (hs : List RH), k ≤ rows.length ∧ i = .int .i64 k ∧ OwnM wr g (.slice (some ⟨g, 0, none⟩) rows.length rows.length) hs hs.length ∧ FillM (fun k => walshRow n (gt rows k).toNat) rows.length k hs ∧ Below w.heap.size w wr) (fun i _ => rows.length - (intOf i).toNat)
      case atStart => exact ⟨0, _, Nat.zero_le _, rfl, HO4.out, FillM.start _ _, HB4.out⟩
      case round =>
        obtain ⟨k, hs, hk, rfl, hO, hF, hB⟩ := hrel
        have HO := Lib.hid hO; clear hO
        have HF := Lib.hid hF; clear hF
        have HB := Lib.hid hB; clear hB
        by_cases hlt : k < rows.length
        · obtain ⟨b, off, x, rfl, hcell, HX⟩ := (HS.out.below HB.out).at hlt
          have hx0 := allR_get HR.out hlt
          rw [gt_some' HX.out] at hx0
          obtain ⟨m, rfl⟩ : ∃ m : Nat, x = (m : Int) := ⟨x.toNat, by omega⟩
          have hm8 : m < 8 := by omega
          clear hx0
          obtain ⟨wo, rfl⟩ : ∃ wo : World, wo = wr := ⟨_, rfl⟩
          have hgo := HO.out.lt.1
          have HBo := Lib.hid HB.out
          have HLOW : Hid (RowsLow hs k wo.heap.size) := (HO.out.skip (Nat.le_refl _) k).low
          have HOk : Hid (OwnM wo g (.slice (some ⟨g, 0, none⟩) rows.length rows.length) (hs.set k (none, [], 0)) k) := by
            show OwnM _ _ _ _ _
            have e : hs.set k (none, [], 0) = hs := by
              have e1 := HF.out.todo k (Nat.le_refl _) hlt
              have hkl : k < hs.length := (List.getElem?_eq_some_iff.1 e1).1
              have e2 := (List.getElem?_eq_some_iff.1 e1).2
              rw [← e2]; exact List.set_getElem_self hkl
            rw [e]; exact HO.out.skip (Nat.le_refl _) k
          have HGO := Lib.hid hgo; clear hgo
          go_wp2
          clear hcell
          go_loopw [30] (fun i wr => ∃ (j : Nat) (ar : Option Addr) (cr : Nat), j ≤ n ∧ i = .int .i64 j ∧ OwnM wr g (.slice (some ⟨g, 0, none⟩) rows.length rows.length) (hs.set k (ar, (walshRow n m).take j, cr)) k ∧ OwnI wr wo.heap.size (.slice ar ((walshRow n m).take j).length cr) ((walshRow n m).take j) ∧ Below w.heap.size w wr ∧ wo.heap.size ≤ wr.heap.size) (fun i _ => n - (intOf i).toNat)
          case atStart => exact ⟨0, none, 0, Nat.zero_le _, rfl, HOk.out, OwnI.nil _ _, HB.out, Nat.le_refl _⟩
          case round =>
            obtain ⟨j, ar, cr, hj, rfl, hOM, hOI, hBj, hsz⟩ := hrel
            have HOM := Lib.hid hOM; clear hOM
            have HOI := Lib.hid hOI; clear hOI
            have HBj := Lib.hid hBj; clear hBj
            have HSZ := Lib.hid hsz; clear hsz
            have hkl : k < hs.length := by rw [HF.out.len]; exact hlt
            by_cases hjt : j < n
            · obtain ⟨hcz, hfz⟩ := HOM.out.cell (List.getElem?_set_self hkl)
              dsimp only at hcz
              obtain ⟨c, hc, hc0, hc9, hws⟩ := wsign_some m j
              have HC := Lib.hid hc; clear hc
              have HWS : Hid ((walshRow n m).take (j + 1) = (walshRow n m).take j ++ [1 - 2 * (c % 2)]) := by
                show _ = _
                rw [← hws]; exact take_range_succ' (wsign m) hjt
              have hlen : ((walshRow n m).take j).length = j := by simp [walshRow]; omega
              rw [hlen] at hcz
              clear hws
              have HLEN := Lib.hid hlen; clear hlen
              have hband := i64_and m j (by omega) (by omega)
              have hmn : m &&& j < 257 := Nat.lt_of_le_of_lt Nat.and_le_left (by omega)
              obtain ⟨q, hq⟩ : ∃ q, m &&& j = q := ⟨_, rfl⟩
              rw [hq] at hband hmn HC
              have hmq : (0 : Int) ≤ (q : Int) := by omega
              clear hq
              obtain ⟨d, hd⟩ : ∃ d : Int, c % 2 = d := ⟨_, rfl⟩
              have hd0 : 0 ≤ d := by omega
              have hd1 : d ≤ 1 := by omega
              have t1 : c.tmod 2 = d := by rw [Int.tmod_eq_emod_of_nonneg hc0]; exact hd
              rw [hd] at HWS
              have m0 : IntKind.i64.wrap d = d := IntWalk.i64_in _ (by omega)
              have m1 : IntKind.i64.wrap (2 * d) = 2 * d := IntWalk.i64_in _ (by omega)
              have m2 : IntKind.i64.wrap (1 - 2 * d) = 1 - 2 * d := IntWalk.i64_in _ (by omega)
              have m3 : IntKind.u64.wrap (q : Int) = (q : Int) := by
                show ((q : Int)) % 18446744073709551616 = _
                omega
              clear hd
              obtain ⟨L, hL⟩ : ∃ L, (walshRow n m).take (j + 1) = L := ⟨_, rfl⟩
              have HWL : Hid ((walshRow n m).take j ++ [1 - 2 * d] = L) := by show _ = _; rw [← HWS.out, hL]
              have HLD := Lib.hid hL; clear hL
              have hg2 := HGO.out
              have HG2 := Lib.hid hg2; clear hg2
              have hgs : g < wr.heap.size := Nat.lt_of_lt_of_le HG2.out HSZ.out
              have hgn : g ≠ wr.heap.size := by omega
              have hfa : ∀ o, (wr.alloc o).drew.frozen? ⟨g, k, none⟩ = false := fun o => ((((Below.refl wr.heap.size wr).alloc (Nat.le_refl _) o).drew).frozen (p := ⟨g, k, none⟩) hgs).trans hfz
              go_wp2
              go_region_law (first | (go_simp; go_at_call 29; refine (ones_any q hmn _).mono ?_; rintro e w' ⟨rfl, rfl⟩; rw [HC.out]) | (refine step_push rfl (.tmp 38) (.tmp 47) rfl wo.heap.size _ ((walshRow n m).take j) _ _ wr.heap.size (by rw [HLEN.out]; rfl) (by rfl) (alloc_cell wr _ _ _ _ rfl) ((HOI.out.below ((Below.refl _ _).alloc (Nat.le_refl _) _)).drew) (by rw [HLEN.out]; omega) (by simp; have := HSZ.out; omega) ?_; intro v' w9 ho' hb'; rw [HWL.out] at ho'; obtain ⟨ar', cr', rfl, sr', ltr'⟩ := ho'.row; have hc9 := (hb'.cell (p := ⟨g, k, none⟩) HG2.out).trans (((((Below.refl wr.heap.size wr).alloc (Nat.le_refl _) _).drew).cell (p := ⟨g, k, none⟩) hgs).trans hcz); have hf9 := (hb'.frozen (p := ⟨g, k, none⟩) HG2.out).trans (hfa _)))
              all_goals
                have HO9 := Lib.hid ho'; clear ho'
                have HB9 : Hid (Below wo.heap.size wr w9) := (((Below.refl _ _).alloc HSZ.out _).drew).trans hb'
                have HS9 := Lib.hid sr'; clear sr'
                have HL9 := Lib.hid ltr'; clear ltr'
                have HM9 := Lib.hid (HOM.out.grow HB9.out HGO.out (HLOW.out.set _))
                clear hfa hb'
                go_wp2
                go_roundw
                case rel =>
                  have hgne : ∀ ad, ar' = some ad → ad.block < w9.heap.size ∧ ad.block ≠ g := fun ad ha => ⟨(HL9.out ad ha).1, by have := (HL9.out ad ha).2; have := HGO.out; omega⟩
                  have hput := HM9.out.put k cr' HS9.out hgne
                  rw [List.set_set] at hput
                  refine ⟨j + 1, ar', cr', by omega, by go_num, ?_, ?_, ?_, ?_⟩
                  · rw [HLD.out]; exact hput
                  · rw [HLD.out]; exact HO9.out.setBelow HGO.out _
                  · exact (HBj.out.trans (HB9.out.mono HBo.out.size)).setCell HG.out _
                  · simp; exact Nat.le_trans HSZ.out HB9.out.size
                case measure => simp [intOf]; omega
            · obtain rfl : j = n := by omega
              have hrow : (walshRow j m).take j = walshRow j m := List.take_of_length_le (by simp [walshRow])
              rw [hrow] at HOM HOI
              have hkl : k < hs.length := by rw [HF.out.len]; exact hlt
              have hap : ∀ ad, ar = some ad → ad.block < wr.heap.size ∧ ad.block ≠ g := by
                intro ad ha
                obtain ⟨a1, c1, e1, _, h1⟩ := HOI.out.row
                obtain ⟨rfl, _⟩ : ar = a1 ∧ cr = c1 := by simpa using e1
                have := h1 ad ha
                have := HGO.out
                exact ⟨by omega, by omega⟩
              have HFULL : Hid (OwnM wr g (.slice (some ⟨g, 0, none⟩) rows.length rows.length) (hs.set k (ar, walshRow j m, cr)) (hs.set k (ar, walshRow j m, cr)).length) :=
                HOM.out.fill _ (List.getElem?_set_self hkl) HOI.out.sl (fun ad ha => ⟨(hap ad ha).1, by have := (hap ad ha).2; simp only [Value.ownBlock, Option.some.injEq, ne_eq]; exact fun e => this e.symm⟩)
              have HFN := Lib.hid (HF.out.next hlt (a := ar) (r := walshRow j m) (c := cr) (by rw [gt_some' HX.out, Int.toNat_natCast]))
              clear hap hkl hrow
              go_wp2
              go_roundw
              case rel => exact ⟨k + 1, _, by omega, by go_num, HFULL.out, HFN.out, HBj.out⟩
              case measure => simp [intOf]; omega
        · obtain rfl : k = rows.length := by omega
          have HZ := Lib.hid HF.out.all
          go_wp2
          go_ret2
          exact MPost.own (by rw [HV.out, HZ.out]; rfl) HB.out HO.out (Nat.le_refl _)
end Go.Proofs.YtgbnfhfkehpfaaaGreat
/- The sanity check of the statements of the whole: a contract. -/
namespace Go.Proofs.YtgbnfhfkehpfaaaGreat
open Go.RowKit Go.Shelf

def wM : List (List Int) := [[1, 1], [1, -1]]
theorem wM_walsh : walshV 2 [0, 1] = (wM, 0) := by decide +kernel
theorem wM_valid : validM wM = true := by decide
theorem wM_known : knownLV wM = ([0, 1], 0) := by decide +kernel
theorem wM_read : readE wM [3, 1] = 0 := by decide
theorem wM_fits : fitsKV wM [3, 1] 10 = ([([0, 1], [(2, 1), (1, 1)])], 0) := by decide +kernel
theorem wM_value (a : Option Addr) (mc : Nat) (ya : Option Addr) (yc : Nat) (w : World) (hs : Ms w a wM) (hy : Sl w ya [3, 1]) :
    Calls Tryz.prog 26 #[.slice a 2 mc, .slice ya 2 yc] w fun e w' => Below w.heap.size w w' ∧ e = .returned (.tuple #[.agg #[.int .i64 3, .int .i64 1], .int .i64 0]) := by
  have h := dvalue1_any (fun _ => (3, 1)) a wM mc ya [3, 1] yc w (mok_of wM_valid) (by decide) hs hy wM_read (by rw [wM_fits]; decide) (by rw [wM_fits]; intro p hp; unfold I64'; dsimp only; omega) (by rw [wM_fits]; decide +kernel) (by
    rw [wM_fits]
    intro p hp W va vc hr
    obtain rfl : p = ([0, 1], [(2, 1), (1, 1)]) := by simpa using hp
    refine dnorm_any va [(2, 1), (1, 1)] vc 3 1 true W (by decide) hr.rr (fun k p hk => ?_) (fun V => dlowest1_any 3 V (by omega))
    match k, hk with
    | 0, hk => simp at hk; subst hk; unfold I64'; dsimp only; omega
    | 1, hk => simp at hk; subst hk; unfold I64'; dsimp only; omega
    | k + 2, hk => simp at hk)
  rw [wM_fits] at h
  exact h
set_option maxRecDepth 1000000 in
set_option maxHeartbeats 3200000 in
theorem awake5_any (w : World) : Calls Tryz.prog 8 #[] w fun e w' => e = .returned (.bool true) ∧ Below w.heap.size w w' := by
  have HW : Hid (∀ W : World, Calls Tryz.prog 9 #[.int .i64 2, .slice (some ⟨W.heap.size, 0, none⟩) 2 2] (W.alloc (.cells #[.int .i64 0, .int .i64 1] 3)) (MPost (wM, 0) (W.alloc (.cells #[.int .i64 0, .int .i64 1] 3)))) := fun W => by
    have h := mWalsh_any 2 (some ⟨W.heap.size, 0, none⟩) [0, 1] 2 (W.alloc (.cells #[.int .i64 0, .int .i64 1] 3)) (by decide) (sl_new W [0, 1] _)
    rw [wM_walsh] at h
    exact h
  have HK : Hid (∀ (W : World) a c, Ms W a wM → Calls Tryz.prog 17 #[.slice a 2 c] W (LPost ([0, 1], 0) W)) := fun W a c hs => by
    have h := lknowns_any a wM c W (mok_of wM_valid) hs
    rw [wM_known] at h
    exact h
  have HV : Hid (∀ (W : World) a c, Ms W a wM → Calls Tryz.prog 26 #[.slice a 2 c, .slice (some ⟨W.heap.size, 0, none⟩) 2 2] (W.alloc (.cells #[.int .i64 3, .int .i64 1] 3)) fun e w' => Below (W.alloc (.cells #[.int .i64 3, .int .i64 1] 3)).heap.size (W.alloc (.cells #[.int .i64 3, .int .i64 1] 3)) w' ∧ e = .returned (.tuple #[.agg #[.int .i64 3, .int .i64 1], .int .i64 0])) := fun W a c hs =>
    wM_value a c _ 2 _ (hs.below ((Below.refl _ _).alloc (Nat.le_refl _) _)) (sl_new W [3, 1] _)
  have HSI : Hid (∀ (W : World) a c, Sl W a [0, 1] → Calls Tryz.prog 18 #[.slice a 2 c, .slice (some ⟨W.heap.size, 0, none⟩) 2 2] (W.alloc (.cells #[.int .i64 0, .int .i64 1] 3)) fun e w' => e = .returned (.bool true) ∧ Below W.heap.size W w') := fun W a c hs =>
    (sameInts_any a [0, 1] c _ [0, 1] 2 _ (by decide) (by decide) (hs.below ((Below.refl _ _).alloc (Nat.le_refl _) _)) (sl_new W [0, 1] _)).mono fun e w' ⟨h1, n, h2⟩ => ⟨h1, by rw [h2]; exact below_drewN ((Below.refl _ _).alloc (Nat.le_refl _) _) n⟩
  go_enter Tryz.func8, Tryz.ntmps8
  go_wp2_with (first
    | (go_at_call 9; refine (HW.out _).mono ?_; rintro e w1 ⟨hb1, ma, mc, _, rfl, hm1⟩
       have HB1 : Hid (Below w.heap.size w w1) := ((Below.refl _ _).alloc (Nat.le_refl _) _).trans (hb1.mono (by rw [World.size_alloc]; omega))
       have HM1 : Hid (Ms w1 ma wM) := hm1
       clear hb1 hm1)
    | (go_at_call 17; refine (HK.out _ _ _ HM1.out).mono ?_; rintro e w2 ⟨hb2, la, lc, rfl, hl2⟩
       have HB2 : Hid (Below w.heap.size w w2) := HB1.out.trans (hb2.mono HB1.out.size)
       have HM2 : Hid (Ms w2 ma wM) := HM1.out.below hb2
       have HL2 : Hid (Sl w2 la [0, 1]) := hl2
       clear hb2 hl2)
    | (go_at_call 26; refine (HV.out _ _ _ HM2.out).mono ?_; rintro e w3 ⟨hb3, rfl⟩
       have hb23 : Below w2.heap.size w2 w3 := ((Below.refl _ _).alloc (Nat.le_refl _) _).trans (hb3.mono (by rw [World.size_alloc]; omega))
       have HB3 : Hid (Below w.heap.size w w3) := HB2.out.trans (hb23.mono HB2.out.size)
       have HL3 : Hid (Sl w3 la [0, 1]) := HL2.out.below hb23
       clear hb3 hb23)
    | (go_at_call 18
       obtain ⟨V3, hV3⟩ : ∃ V3, w3.alloc (.cells #[.int .i64 3, .int .i64 1] 38) = V3 := ⟨_, rfl⟩
       have s3 : V3.heap.size = w3.heap.size + 1 := by rw [← hV3]; exact World.size_alloc _ _
       have b3 : Below w3.heap.size w3 V3 := by rw [← hV3]; exact (Below.refl _ _).alloc (Nat.le_refl _) _
       have x3 : Bx V3 w3.heap.size (.int .i64 3) (.int .i64 1) := by rw [← hV3]; exact Bx.new _ _ _ _
       have h3 := HSI.out V3 la lc (HL3.out.below b3)
       rw [s3] at h3
       rw [hV3]
       refine h3.mono ?_
       rintro e w4 ⟨rfl, hb4⟩
       obtain ⟨_, c0, c1, _, _⟩ := x3.next (s3.symm ▸ hb4)
       have HB4 : Hid (Below w.heap.size w w4) := HB3.out.trans ((b3.trans ((s3.symm ▸ hb4).mono (by omega))).mono HB3.out.size)
       clear hb4 h3 b3 s3 x3))
  go_ret
  exact ⟨rfl, HB4.out⟩
end Go.Proofs.YtgbnfhfkehpfaaaGreat
/- Determinants of order six with the entries -1, 0 and 1 are at most 320: by the minors of three rows. Plain words. Speaks of no program. -/
namespace Go.Proofs.YtgbnfhfkehpfaaaGreat
open Go.RowKit

def d3 (u v w : Nat → Int) : Int := u 0 * (v 1 * w 2 - v 2 * w 1) - v 0 * (u 1 * w 2 - u 2 * w 1) + w 0 * (u 1 * v 2 - u 2 * v 1)
def d4 (u v w x : Nat → Int) : Int := x 3 * d3 u v w - (u 3 * d3 x v w + v 3 * d3 u x w + w 3 * d3 u v x)
def d5 (u v w x y : Nat → Int) : Int := y 4 * d4 u v w x - (u 4 * d4 y v w x + v 4 * d4 u y w x + w 4 * d4 u v y x + x 4 * d4 u v w y)
def d6 (u v w x y z : Nat → Int) : Int := z 5 * d5 u v w x y - (u 5 * d5 z v w x y + v 5 * d5 u z w x y + w 5 * d5 u v z x y + x 5 * d5 u v w z y + y 5 * d5 u v w x z)
def e3 (u v w : Nat → Int) : Int := d3 (fun i => u (i + 3)) (fun i => v (i + 3)) (fun i => w (i + 3))
end Go.Proofs.YtgbnfhfkehpfaaaGreat
/- whichOf: contracts. -/
namespace Go.Proofs.YtgbnfhfkehpfaaaGreat
open Go.RowKit

end Go.Proofs.YtgbnfhfkehpfaaaGreat
/- Read and Back of the answers of layer 2: contracts (as in the text of layer 2's statements, on their own). -/
namespace Go.Proofs.YtgbnfhfkehpfaaaGreat
open Go.RowKit

end Go.Proofs.YtgbnfhfkehpfaaaGreat
/- Weighs of layer 3 and of its answers: contracts. -/
namespace Go.Proofs.YtgbnfhfkehpfaaaGreat
open Go.RowKit

end Go.Proofs.YtgbnfhfkehpfaaaGreat
/- Reading and reading back are adjoint, and reading is additive: plain mathematics on lists of whole numbers. Speaks of no program. -/
namespace Go.Proofs.YtgbnfhfkehpfaaaGreat
open Go.RowKit

end Go.Proofs.YtgbnfhfkehpfaaaGreat
/- The numbers behind a row are a weight. Plain words. Speaks of no program. -/
namespace Go.Proofs.YtgbnfhfkehpfaaaGreat
open Go.RowKit

end Go.Proofs.YtgbnfhfkehpfaaaGreat
/- Possible, conflicts and solutions: what both reductions of a mask tell of a reading. Plain words. Speaks of no program. -/
namespace Go.Proofs.YtgbnfhfkehpfaaaGreat
open Go.RowKit

variable {R N cols : Nat} {A0 : Nat → Nat → Int} {r : Rd}
end Go.Proofs.YtgbnfhfkehpfaaaGreat
/- validFraction: a contract. -/
namespace Go.Proofs.YtgbnfhfkehpfaaaGreat
open Go.RowKit

end Go.Proofs.YtgbnfhfkehpfaaaGreat
/- product and Denies of layer 3, Denies of the answers: contracts. -/
namespace Go.Proofs.YtgbnfhfkehpfaaaGreat
open Go.RowKit

end Go.Proofs.YtgbnfhfkehpfaaaGreat
/- Makes of the program: a contract. -/
namespace Go.Proofs.YtgbnfhfkehpfaaaGreat
open Go.RowKit

end Go.Proofs.YtgbnfhfkehpfaaaGreat
/- Determinants of order 3 of numbers from -1 to 1. Plain mathematics. Speaks of no program. -/
namespace Go.Proofs.YtgbnfhfkehpfaaaGreat
open Go.RowKit

end Go.Proofs.YtgbnfhfkehpfaaaGreat
/- Determinants of masks are at most 320, so that what Any answers are valid fractions that make the reading. Plain words. Speaks of no program. -/
namespace Go.Proofs.YtgbnfhfkehpfaaaGreat
open Go.RowKit

end Go.Proofs.YtgbnfhfkehpfaaaGreat
/- lit and some (how many pixels are not 0), slices.Equal of any two lists of numbers: contracts. Written by mk_split.py. -/
namespace Go.Proofs.YtgbnfhfkehpfaaaGreat
open Go.RowKit

end Go.Proofs.YtgbnfhfkehpfaaaGreat
/- A determinant of order 6 whose numbers are from -1 to 1 is at most 160. Plain mathematics. Speaks of no program. Written by mk_det160.py. -/
namespace Go.Proofs.YtgbnfhfkehpfaaaGreat
open Go.RowKit

def dl (i : Nat) : Nat → Int := fun j => if j = i then 1 else 0
def lw (u : Nat → Int) : Nat → Int := fun i => if i < 3 then u (i + 3) else 1
end Go.Proofs.YtgbnfhfkehpfaaaGreat
/- The numbers of a circuit are at most 160. Plain mathematics. Speaks of no program. -/
namespace Go.Proofs.YtgbnfhfkehpfaaaGreat
open Go.RowKit

end Go.Proofs.YtgbnfhfkehpfaaaGreat
/- Twins of layer 4: a contract. -/
namespace Go.Proofs.YtgbnfhfkehpfaaaGreat
open Go.RowKit

theorem ext_gt {a b : List Int} (hl : a.length = b.length) (h : ∀ j, j < a.length → gt a j = gt b j) : a = b := by
  refine List.ext_getElem hl fun j h1 h2 => ?_
  have := h j h1
  unfold gt at this
  simpa [h1, h2] using this
def TWPost (r : (List Int × List Int) × Int) (w : World) (e : Ending) (w' : World) : Prop :=
  Below w.heap.size w w' ∧ ∃ a ca b cb, e = .returned (.tuple #[.slice a r.1.1.length ca, .slice b r.1.2.length cb, .int .i64 r.2]) ∧ Sl w' a r.1.1 ∧ Sl w' b r.1.2
theorem TWPost.err {w w' : World} (n : Int) (hb : Below w.heap.size w w') : TWPost (([], []), n) w (.returned (.tuple #[.slice none 0 0, .slice none 0 0, .int .i64 n])) w' := ⟨hb, none, 0, none, 0, rfl, Sl.none _, Sl.none _⟩
end Go.Proofs.YtgbnfhfkehpfaaaGreat
/- IsTwins of layer 4, both sides: contracts. Written by mk_sptwinb.py. -/
namespace Go.Proofs.YtgbnfhfkehpfaaaGreat
open Go.RowKit

end Go.Proofs.YtgbnfhfkehpfaaaGreat
/- Circuit and Spark of the answers: contracts. -/
namespace Go.Proofs.YtgbnfhfkehpfaaaGreat
open Go.RowKit

end Go.Proofs.YtgbnfhfkehpfaaaGreat
/- Fractions in lowest terms, and the likeness of two columns of layer 2: contracts. -/
namespace Go.Proofs.YtgbnfhfkehpfaaaGreat
open Go.RowKit

end Go.Proofs.YtgbnfhfkehpfaaaGreat
/- Likeness of layer 2: words and a contract. -/
namespace Go.Proofs.YtgbnfhfkehpfaaaGreat
open Go.RowKit

structure RC (B : Nat) (w : World) : Prop where
  c0 : w.cell? ⟨B, 0, none⟩ = some (.int .i64 0)
  c1 : w.cell? ⟨B, 1, none⟩ = some (.int .i64 0)
  f0 : w.frozen? ⟨B, 0, none⟩ = false
  f1 : w.frozen? ⟨B, 1, none⟩ = false
  lt : B < w.heap.size
theorem RC.next {B : Nat} {w w' : World} (h : RC B w) (hb : Below w.heap.size w w') : RC B w' :=
  ⟨(hb.cell (p := ⟨B, 0, none⟩) h.lt).trans h.c0, (hb.cell (p := ⟨B, 1, none⟩) h.lt).trans h.c1, (hb.frozen (p := ⟨B, 0, none⟩) h.lt).trans h.f0, (hb.frozen (p := ⟨B, 1, none⟩) h.lt).trans h.f1, Nat.lt_of_lt_of_le h.lt hb.size⟩
end Go.Proofs.YtgbnfhfkehpfaaaGreat
/- Pixels of layer 2: a contract (of MRead2). -/
namespace Go.Proofs.YtgbnfhfkehpfaaaGreat
open Go.RowKit

end Go.Proofs.YtgbnfhfkehpfaaaGreat
/- Sure of layer 4: a contract (a part of SpSure, on its own: never import both). -/
namespace Go.Proofs.YtgbnfhfkehpfaaaGreat
open Go.RowKit Go.Shelf

end Go.Proofs.YtgbnfhfkehpfaaaGreat
/- Twins: what the two parts of a circuit are, and how small twins are. Plain mathematics. Speaks of no program. -/
namespace Go.Proofs.YtgbnfhfkehpfaaaGreat
open Go.RowKit

theorem read_row {m : List (List Int)} (hv : validM m = true) (x : List Int) {i : Nat} (hi : i < m.length) : gt (readL m x) i = sumTo (fun c => a0 m i c * gt x c) (colsM m) := by
  have e : gt (readL m x) i = dot (rowL m i) x := by unfold readL gt rowL; simp [hi]
  rw [e]
  unfold dot
  rw [((validM_of hv).2.2.2.2 _ (rowL_mem hi)).1]
  rfl
theorem sum_sub (f g : Nat → Int) : ∀ n, sumTo (fun c => f c - g c) n = sumTo f n - sumTo g n
  | 0 => rfl
  | n + 1 => by
    show sumTo (fun c => f c - g c) n + (f n - g n) = sumTo f n + f n - (sumTo g n + g n)
    rw [sum_sub f g n]; omega
theorem read_same {m : List (List Int)} (hv : validM m = true) (x y : List Int) : readL m x = readL m y ↔ KerF m fun j => gt x j - gt y j := by
  have hs : ∀ i, i < m.length → sumTo (fun c => a0 m i c * (gt x c - gt y c)) (colsM m) = gt (readL m x) i - gt (readL m y) i := fun i hi => by
    rw [read_row hv x hi, read_row hv y hi, ← sum_sub]
    exact sumTo_congr _ fun c _ => by rw [Int.mul_sub]
  constructor
  · intro e i hi
    rw [hs i hi, e]; omega
  · intro h
    refine ext_gt (by simp [readL]) fun i hi => ?_
    have hi : i < m.length := by simpa [readL] using hi
    have := h i hi
    rw [hs i hi] at this
    omega
end Go.Proofs.YtgbnfhfkehpfaaaGreat
/- Plain facts for the statements of the whole: what a mask reads of a picture it can make; a known pixel's value is the picture's; each pixel is known or hidden. -/
namespace Go.Proofs.YtgbnfhfkehpfaaaGreat
open Go.RowKit

end Go.Proofs.YtgbnfhfkehpfaaaGreat
/- Each pixel is known or hidden, not both; a kernel vector more changes no reading: plain facts. -/
namespace Go.Proofs.YtgbnfhfkehpfaaaGreat
open Go.RowKit

def hidT (L : List (List Int)) (n k j : Nat) : List Bool := (List.range n).map fun i => (L.take k).any (fun h => gt h i != 0) || (decide (i < j) && gt (L[k]?.getD []) i != 0)
def markT (L : List (List Int)) (K : List Int) (n t : Nat) : List Bool := (List.range n).map fun i => L.any (fun h => gt h i != 0) || decide ((i : Int) ∈ K.take t)
theorem hidT_len (L : List (List Int)) (n k j : Nat) : (hidT L n k j).length = n := by simp [hidT]
theorem markT_len (L : List (List Int)) (K : List Int) (n t : Nat) : (markT L K n t).length = n := by simp [markT]
theorem bool_ext {a b : List Bool} (hl : a.length = b.length) (h : ∀ i, i < a.length → a[i]? = b[i]?) : a = b := by
  apply List.ext_getElem? 
  intro i
  by_cases hi : i < a.length
  · exact h i hi
  · rw [List.getElem?_eq_none (by omega), List.getElem?_eq_none (by omega)]
theorem hidT_at {L : List (List Int)} {n k j i : Nat} (hi : i < n) : (hidT L n k j)[i]? = some ((L.take k).any (fun h => gt h i != 0) || (decide (i < j) && gt (L[k]?.getD []) i != 0)) := by simp [hidT, hi]
theorem markT_at {L : List (List Int)} {K : List Int} {n t i : Nat} (hi : i < n) : (markT L K n t)[i]? = some (L.any (fun h => gt h i != 0) || decide ((i : Int) ∈ K.take t)) := by simp [markT, hi]
theorem hidT_zero (L : List (List Int)) (n : Nat) : hidT L n 0 0 = List.replicate n false := by
  refine bool_ext (by simp [hidT_len]) fun i hi => ?_
  rw [hidT_len] at hi
  rw [hidT_at hi]; simp [hi]
theorem hidT_step {L : List (List Int)} {n k j : Nat} {h : List Int} (hj : j < n) (hk : L[k]? = some h) : (hidT L n k j).set j (((hidT L n k j)[j]?.getD false) || gt h j != 0) = hidT L n k (j + 1) := by
  refine bool_ext (by simp [hidT_len]) fun i hi => ?_
  rw [List.length_set, hidT_len] at hi
  rw [hidT_at hi, List.getElem?_set, hidT_at hj, hk]
  by_cases e : j = i
  · subst e
    rw [if_pos rfl, if_pos (by rw [hidT_len]; exact hj)]
    simp
  · rw [if_neg e, hidT_at hi, hk]
    have : decide (i < j + 1) = decide (i < j) := by simp; omega
    rw [this]
theorem hidT_row {L : List (List Int)} {n k : Nat} {h : List Int} (hk : L[k]? = some h) : hidT L n k n = hidT L n (k + 1) 0 := by
  refine bool_ext (by simp [hidT_len]) fun i hi => ?_
  rw [hidT_len] at hi
  rw [hidT_at hi, hidT_at hi, List.take_add_one, hk]
  simp [hi]
theorem hid_mark (L : List (List Int)) (K : List Int) (n : Nat) : hidT L n L.length 0 = markT L K n 0 := by
  refine bool_ext (by simp [hidT_len, markT_len]) fun i hi => ?_
  rw [hidT_len] at hi
  rw [hidT_at hi, markT_at hi]; simp
theorem markT_step {L : List (List Int)} {K : List Int} {n t v : Nat} (hv : v < n) (ht : K[t]? = some (v : Int)) : (markT L K n t).set v true = markT L K n (t + 1) := by
  refine bool_ext (by simp [markT_len]) fun i hi => ?_
  rw [List.length_set, markT_len] at hi
  rw [markT_at hi, List.getElem?_set, List.take_add_one, ht]
  by_cases e : v = i
  · subst e
    rw [if_pos rfl, if_pos (by rw [markT_len]; exact hv)]
    simp
  · rw [if_neg e, markT_at hi]
    have : (i : Int) ≠ (v : Int) := by omega
    simp [this]
theorem knTo_is (m : List (List Int)) (v : Int) : ∀ k, v ∈ knTo m k ↔ ∃ j : Nat, j < k ∧ v = (j : Int) ∧ rknownB m j = true
  | 0 => by simp [knTo]
  | k + 1 => by
    unfold knTo
    have ih := knTo_is m v k
    by_cases h : rknownB m k = true
    · rw [if_pos h, List.mem_append, ih]
      constructor
      · rintro (⟨j, h1, h2, h3⟩ | h1)
        · exact ⟨j, by omega, h2, h3⟩
        · exact ⟨k, by omega, by simpa using h1, h⟩
      · rintro ⟨j, h1, h2, h3⟩
        by_cases e : j = k
        · subst e; exact .inr (by simpa using h2)
        · exact .inl ⟨j, by omega, h2, h3⟩
    · rw [if_neg h, ih]
      constructor
      · rintro ⟨j, h1, h2, h3⟩; exact ⟨j, by omega, h2, h3⟩
      · rintro ⟨j, h1, h2, h3⟩
        by_cases e : j = k
        · subst e; exact absurd h3 h
        · exact ⟨j, by omega, h2, h3⟩
theorem knTo_nodup (m : List (List Int)) : ∀ k, (knTo m k).Nodup
  | 0 => by simp [knTo]
  | k + 1 => by
    unfold knTo
    split
    · rw [List.nodup_append]
      refine ⟨knTo_nodup m k, by simp, fun a ha b hb => ?_⟩
      obtain rfl : b = (k : Int) := by simpa using hb
      obtain ⟨j, h1, rfl, _⟩ := (knTo_is m a k).1 ha
      omega
    · exact knTo_nodup m k
theorem known_hid (m : List (List Int)) (j : Nat) : (basisM m).any (fun h => gt h j != 0) = !rknownB m j := by
  unfold rknownB
  rw [Bool.eq_iff_iff]
  simp
theorem mark_free {m : List (List Int)} {t : Nat} {v : Int} (ht : (knTo m (colsM m))[t]? = some v) : ∃ j : Nat, v = (j : Int) ∧ j < colsM m ∧ (markT (basisM m) (knTo m (colsM m)) (colsM m) t)[j]?.getD false = false := by
  obtain ⟨j, h1, rfl, h3⟩ := (knTo_is m v _).1 (List.mem_of_getElem? ht)
  refine ⟨j, rfl, h1, ?_⟩
  rw [markT_at h1, known_hid, h3]
  have hn := knTo_nodup m (colsM m)
  have : (j : Int) ∉ (knTo m (colsM m)).take t := fun hm => by
    obtain ⟨i, hi, e⟩ := List.mem_iff_getElem.1 hm
    rw [List.length_take] at hi
    rw [List.getElem_take] at e
    obtain ⟨hlt, e2⟩ := List.getElem?_eq_some_iff.1 ht
    exact (List.pairwise_iff_getElem.1 hn) i t (by omega) hlt (by omega) (e.trans e2.symm)
  simp [this]
theorem mark_all {m : List (List Int)} {j : Nat} (hj : j < colsM m) : (markT (basisM m) (knTo m (colsM m)) (colsM m) (knTo m (colsM m)).length)[j]?.getD false = true := by
  rw [markT_at hj, known_hid, List.take_length]
  cases h : rknownB m j
  · rfl
  · have : (j : Int) ∈ knTo m (colsM m) := (knTo_is m _ _).2 ⟨j, hj, rfl, h⟩
    simp [this]
def addTo (x h : List Int) (k : Nat) : List Int := (List.range k).map fun j => gt x j + gt h j
theorem addTo_succ (x h : List Int) (k : Nat) : addTo x h (k + 1) = addTo x h k ++ [gt x k + gt h k] := by simp [addTo, List.range_succ]
theorem addTo_len (x h : List Int) (k : Nat) : (addTo x h k).length = k := by simp [addTo]
theorem gt_addTo {x h : List Int} {k j : Nat} (hj : j < k) : gt (addTo x h k) j = gt x j + gt h j := by unfold addTo; rw [gt_map_range _ hj]
theorem kernel_more {m : List (List Int)} {x h : List Int} (hv : validM m = true) (hh : h ∈ basisM m) : readL m x = readL m (addTo x h (colsM m)) := by
  obtain ⟨h1, h2⟩ := basis_ker hv h hh
  have hk := ((kerB_iff hv).1 h2).2.2
  refine ((read_same hv _ _).2 fun i hi => ?_).symm
  have := hk i hi
  rw [← this]
  refine sumTo_congr _ fun c hc => ?_
  show _ * (gt (addTo x h (colsM m)) c - gt x c) = _
  rw [gt_addTo hc]
  have : gt x c + gt h c - gt x c = gt h c := by omega
  rw [this]
end Go.Proofs.YtgbnfhfkehpfaaaGreat
/- A slice of truths of the call's own, written in place. -/
namespace Go.Proofs.YtgbnfhfkehpfaaaGreat
open Go.RowKit

def OwnT (w : World) (base g n : Nat) (bs : List Bool) : Prop := w.ownsRow base 4 1 (.slice (some ⟨g, 0, none⟩) n n) n (bs.map Value.bool)
theorem OwnT.lt {w : World} {base g n : Nat} {bs : List Bool} (h : OwnT w base g n bs) : g < w.heap.size ∧ base ≤ g := by
  obtain ⟨_, ⟨e, _⟩ | ⟨g', _, _, e, hg, hh, _⟩⟩ := h
  · cases e
  · obtain ⟨rfl, _⟩ : g = g' ∧ _ := by simpa using e
    exact ⟨(Array.getElem?_eq_some_iff.1 hh).1, hg⟩
theorem OwnT.cell {w : World} {base g n : Nat} {bs : List Bool} (h : OwnT w base g n bs) (hl : bs.length = n) {j : Nat} (hj : j < n) : w.cell? ⟨g, j, none⟩ = some (.bool (bs[j]?.getD false)) ∧ w.frozen? ⟨g, j, none⟩ = false := by
  have h2 := World.ownsRow.cellAt h j (by omega)
  refine ⟨?_, World.ownsRow.frozenAt h j⟩
  rw [h2]; simp [show j < bs.length by omega]
theorem OwnT.stored {w : World} {base g n : Nat} {bs : List Bool} (h : OwnT w base g n bs) (j : Nat) (x : Bool) : OwnT (w.setCell ⟨g, j, none⟩ (.bool x)) base g n (bs.set j x) := by
  unfold OwnT at *
  rw [List.map_set]
  exact (World.ownsRow.stored h j _).1
theorem OwnT.drewN {w : World} {base g n : Nat} {bs : List Bool} (h : OwnT w base g n bs) (m : Nat) : OwnT (w.drewN m) base g n bs := h
theorem Tryz.infoBool : (Tryz.prog.info? 4).map (fun i => (i.zero, i.size, i.bytes)) = some (some (.bool false), 1, 1) := by kernel_rfl
theorem falses_are (n : Nat) : (madeCells (Value.bool false).cells (n * 1)).toList = (List.replicate n false).map Value.bool := by
  rw [Nat.mul_one]
  show (madeCells #[Value.bool false] n).toList = _
  rw [toList_madeCells_one]; simp
theorem OwnT.below {w w' : World} {base g n : Nat} {bs : List Bool} (h : OwnT w base g n bs) (hb : Below w.heap.size w w') : OwnT w' base g n bs := row_below h hb
end Go.Proofs.YtgbnfhfkehpfaaaGreat
/- TopHidden: the walk. -/
namespace Go.Proofs.YtgbnfhfkehpfaaaGreat.topHidden
open Go.RowKit Go.Shelf
theorem shown_len {m : List (List Int)} {x : List Int} (h : shownM m x = true) : validM m = true ∧ x.length = colsM m ∧ allB 1000000 x = true ∧ readV m x = (readL m x, 0) := by
  unfold shownM at h
  rw [Bool.and_eq_true] at h
  have hf : fitsV x (colsM m) 1000000 = 0 := by simpa using h.2
  obtain ⟨h1, h2⟩ := fitsV_0 hf
  exact ⟨h.1, by omega, h2, readV_ok h.1 hf⟩
set_option maxRecDepth 1000000 in
set_option maxHeartbeats 6400000 in
theorem walk (b0 : Option Addr) (m0 : List (List Int)) (c0 : Nat) (b1 : Option Addr) (xs1 : List Int) (c1 : Nat) (m2 : Int) (w : World) (h0 : Ms w b0 m0) (r0 : MOk m0) (h1 : Sl w b1 xs1) (l1 : xs1.length ≤ 9223372036854775807) (_r1 : ∀ x ∈ xs1, I64 x) (_r2 : I64 m2) :
    Calls Tryz.prog 5 #[.slice b0 m0.length c0, .slice b1 xs1.length c1, .int .i64 m2] w fun e w' => e = .returned (.bool true) ∧ Below w.heap.size w w' := by
  have HAW : Hid (∀ V, Calls Tryz.prog 8 #[] V fun e w' => e = .returned (.bool true) ∧ Below V.heap.size V w') := fun V => awake5_any V
  have HSH : Hid (Calls Tryz.prog 12 #[.slice b0 m0.length c0, .slice b1 xs1.length c1] w fun e w' => e = .returned (.bool (shownM m0 xs1)) ∧ w = w') := rshown_any b0 m0 c0 b1 xs1 c1 w r0 l1 h0 h1
  by_cases hsh : shownM m0 xs1 = false
  · rw [hsh] at HSH
    obtain ⟨ml, hml⟩ : ∃ ml, m0.length = ml := ⟨_, rfl⟩
    obtain ⟨xl, hxl⟩ : ∃ xl, xs1.length = xl := ⟨_, rfl⟩
    rw [hml, hxl] at HSH ⊢
    clear h0 r0 h1 l1 hsh hml hxl
    go_enter Tryz.func5, Tryz.ntmps5
    go_wp2_with (first
      | (go_at_call 12; refine HSH.out.mono ?_; rintro e w1 ⟨rfl, rfl⟩)
      | (go_at_call 8; refine (HAW.out _).mono ?_; rintro e w1 ⟨rfl, hb1⟩))
    go_ret
    exact ⟨rfl, hb1⟩
  have hst : shownM m0 xs1 = true := by simpa using hsh
  rw [hst] at HSH
  obtain ⟨hv, hxc, hxb, hrd⟩ := shown_len hst
  have hx10 : xs1.length ≤ 10 := by have := (validM_of hv).2.2.2.1; omega
  have HKE : Hid (Calls Tryz.prog 16 #[.slice b0 m0.length c0] w (LLPost (basisM m0, 0) w)) := by
    have h := kernel_all b0 m0 c0 w r0 h0
    unfold kernelV at h
    rw [if_pos hv] at h
    exact h
  have HKN : Hid (∀ W, Below w.heap.size w W → Calls Tryz.prog 17 #[.slice b0 m0.length c0] W (LPost (knTo m0 xs1.length, 0) W)) := fun W hb => by
    have h := lknowns_any b0 m0 c0 W r0 (h0.below hb)
    unfold knownLV at h
    rw [if_pos hv, ← hxc] at h
    exact h
  have hbl : ∀ h ∈ basisM m0, h.length = xs1.length ∧ allB 1000000 h = true := fun h hh => by
    obtain ⟨h1, h2⟩ := basis_ker hv h hh
    have := ((kerB_iff hv).1 h2).1
    exact ⟨by omega, this.2⟩
  have hfree := fun {t v} => mark_free (m := m0) (t := t) (v := v)
  have hall := fun {j} => mark_all (m := m0) (j := j)
  have hmore := fun {h} (hh : h ∈ basisM m0) => kernel_more (x := xs1) hv hh
  rw [← hxc] at hfree hall hmore
  have hll : (basisM m0).length ≤ 10 := by have := basis_len hv; have := (validM_of hv).2.2.2.1; omega
  have hkl : (knTo m0 xs1.length).length ≤ 10 := Nat.le_trans (knTo_len _ _) hx10
  have HRD : Hid (∀ W, Below w.heap.size w W → Calls Tryz.prog 11 #[.slice b0 m0.length c0, .slice b1 xs1.length c1] W (LPost (readL m0 xs1, 0) W)) := fun W hb => by
    have h := mread_any b0 m0 c0 b1 xs1 c1 W r0 l1 (h0.below hb) (h1.below hb)
    rw [hrd] at h
    exact h
  have HSO2 : Hid (∀ W a c (o : List Int), Below w.heap.size w W → o.length = xs1.length → Sl W a o → Calls Tryz.prog 12 #[.slice b0 m0.length c0, .slice a xs1.length c] W fun e w' => e = .returned (.bool (shownM m0 o)) ∧ W = w') := fun W a c o hb ho hs => by rw [← ho]; exact rshown_any b0 m0 c0 a o c W r0 (by omega) (h0.below hb) hs
  have HRO : Hid (∀ W a c (o : List Int), Below w.heap.size w W → o.length = xs1.length → Sl W a o → shownM m0 o = true → Calls Tryz.prog 11 #[.slice b0 m0.length c0, .slice a xs1.length c] W (LPost (readL m0 o, 0) W)) := fun W a c o hb ho hs hsh => by
    have h := mread_any b0 m0 c0 a o c W r0 (by omega) (h0.below hb) hs
    rw [(shown_len hsh).2.2.2, ho] at h
    exact h
  have HSI : Hid (∀ (W : World) a c b d (xs : List Int), xs.length ≤ 1000 → Sl W a xs → Sl W b xs → Calls Tryz.prog 18 #[.slice a xs.length c, .slice b xs.length d] W fun e w' => e = .returned (.bool true) ∧ Below W.heap.size W w') := fun W a c b d xs hl h1 h2 =>
    (sameInts_any a xs c b xs d W (by omega) (by omega) h1 h2).mono fun e w' ⟨h1, n, h2⟩ => ⟨by rw [h1]; simp, by rw [h2]; exact below_drewN (Below.refl _ _) n⟩
  have hyl : (readL m0 xs1).length ≤ 1000 := by simp [readL]; have := (validM_of hv).2.1; omega
  have H1 := Lib.hid h1
  have HBL := Lib.hid hbl
  have HFREE : Hid (∀ {t v}, (knTo m0 xs1.length)[t]? = some v → ∃ j : Nat, v = (j : Int) ∧ j < xs1.length ∧ (markT (basisM m0) (knTo m0 xs1.length) xs1.length t)[j]?.getD false = false) := fun h => hfree h
  have HALL : Hid (∀ {j}, j < xs1.length → (markT (basisM m0) (knTo m0 xs1.length) xs1.length (knTo m0 xs1.length).length)[j]?.getD false = true) := fun h => hall h
  have HMORE : Hid (∀ {h}, h ∈ basisM m0 → readL m0 xs1 = readL m0 (addTo xs1 h xs1.length)) := fun hh => hmore hh
  have HXB := Lib.hid hxb
  obtain ⟨L, hL⟩ : ∃ L, basisM m0 = L := ⟨_, rfl⟩
  obtain ⟨xl, hxl⟩ : ∃ xl, xs1.length = xl := ⟨_, rfl⟩
  rw [hxl] at HKN HFREE HALL HMORE hkl HBL HSH HRD HSO2 HRO hx10 l1 ⊢
  obtain ⟨K, hK⟩ : ∃ K, knTo m0 xl = K := ⟨_, rfl⟩
  rw [hK] at HKN HFREE HALL hkl
  rw [hL] at HKE HFREE HALL HMORE HBL hll
  obtain ⟨ml, hml⟩ : ∃ ml, m0.length = ml := ⟨_, rfl⟩
  rw [hml] at HSH HKE HKN HRD HSO2 HRO ⊢
  obtain ⟨ll, hll2⟩ : ∃ ll, L.length = ll := ⟨_, rfl⟩
  obtain ⟨kl, hkl2⟩ : ∃ kl, K.length = kl := ⟨_, rfl⟩
  have HXL := Lib.hid hxl
  have HLL := Lib.hid hll2
  have HKL := Lib.hid hkl2
  rw [hll2] at hll
  rw [hkl2] at hkl HALL
  clear h0 r0 h1 hsh hst hv hxc hxb hrd hbl hfree hall hmore hL hxl hK hml hll2 hkl2
  obtain ⟨i0, hi, hz0, hz1, hz2⟩ := info_parts Tryz.infoBool
  go_enter Tryz.func5, Tryz.ntmps5
  go_wp2_with (first
    | (go_at_call 12; refine HSH.out.mono ?_; rintro e w1 ⟨rfl, rfl⟩)
    | (go_at_call 16; refine HKE.out.mono ?_; rintro e w2 ⟨hb2, la, lc, rfl, hl2⟩; dsimp only at hl2 ⊢; rw [HLL.out]; have HB2 := Lib.hid hb2; have HL2 := Lib.hid hl2; clear hb2 hl2)
    | (go_at_call 17; refine (HKN.out _ HB2.out).mono ?_; rintro e w3 ⟨hb3, ka, kc, rfl, hk3⟩; dsimp only at hk3 ⊢; rw [HKL.out]; have HB3 : Hid (Below w.heap.size w w3) := HB2.out.trans (hb3.mono HB2.out.size); have HL3 := Lib.hid (HL2.out.below hb3); have HK3 := Lib.hid hk3; clear hb3 hk3)
    | (with_reducible refine wpList_make_full _ rfl (.tmp 48) (.tmp 48) 45 rfl w3.heap.size 4 i0 (.bool false) 1 Tryz.underlying45 hi hz0 hz1 .i64 .i64 (xl : Int) (xl : Int) xl rfl rfl rfl rfl (by rw [hz2]; omega) (by unfold maxLen; omega) (Nat.le_refl _) ?_))
  intro w4 hown hgrow
  have hb4 : Below w3.heap.size w3 w4 := (Below.refl _ _).grown hgrow (Nat.le_refl _) (fun k e => by cases e)
  have HO4 : Hid (OwnT w4 w3.heap.size w3.heap.size xl (hidT L xl 0 0)) := by
    have z := falses_are xl
    rw [Nat.mul_one] at z
    show w4.ownsRow _ _ _ _ _ _
    rw [hidT_zero, ← z]; exact hown
  have HB4 := Lib.hid hb4
  have HW3 : Hid (w.heap.size ≤ w3.heap.size) := HB3.out.size
  clear hown hgrow hb4 HB2
  obtain ⟨g, hg⟩ : ∃ g, w3.heap.size = g := ⟨_, rfl⟩
  have HG := Lib.hid hg
  rw [hg] at HO4 HB4 HW3
  rw [hg]
  clear hg
  go_wp2
  go_loopw [52] (fun i wr => ∃ k : Nat, k ≤ ll ∧ i = .int .i64 k ∧ OwnT wr g g xl (hidT L xl k 0) ∧ Below g w3 wr) (fun i _ => ll - (intOf i).toNat)
  case atStart => exact ⟨0, Nat.zero_le _, rfl, HO4.out, HB4.out⟩
  case round =>
    clear HO4 HB4
    obtain ⟨k, hk, rfl, hO, hB⟩ := hrel
    have HO := Lib.hid hO; clear hO
    have HB := Lib.hid hB; clear hB
    have HBG : Hid (Below w3.heap.size w3 wr) := by rw [HG.out]; exact HB.out
    by_cases hlt : k < ll
    · obtain ⟨lb, lo, ra, r, rc, rfl, hcr3, hsr, HX⟩ := HL3.out.at (i := k) (by rw [HLL.out]; exact hlt)
      have hcr := (HBG.out.cell (p := ⟨lb, lo + k, none⟩) (cell_lt hcr3)).trans hcr3
      have hr2 := HBL.out r (List.mem_of_getElem? HX.out)
      have HRL := Lib.hid hr2.1
      have HSR := Lib.hid hsr
      have hk0 : (k : Int) < (ll : Int) := by omega
      rw [hr2.1] at hcr
      clear hr2 hsr hcr3
      go_wp2
      go_loopw [63] (fun i wr => ∃ j : Nat, j ≤ xl ∧ i = .int .i64 j ∧ OwnT wr g g xl (hidT L xl k j) ∧ Below g w3 wr) (fun i _ => xl - (intOf i).toNat)
      case atStart => exact ⟨0, Nat.zero_le _, rfl, HO.out, HB.out⟩
      case round =>
        clear HO hcr HB HBG
        obtain ⟨j, hj, rfl, hO, hB⟩ := hrel
        have HO := Lib.hid hO; clear hO
        have HB := Lib.hid hB; clear hB
        have HBG : Hid (Below w3.heap.size w3 wr) := by rw [HG.out]; exact HB.out
        by_cases hlj : j < xl
        · obtain ⟨vb, vo, v, rfl, hcv, hvx⟩ := (HSR.out.below HBG.out).at (k := j) (by rw [HRL.out]; exact hlj)
          have hgv := gt_some' hvx.out
          obtain ⟨hct, hft⟩ := HO.out.cell (hidT_len L xl k j) hlj
          have HST := Lib.hid (hidT_step (n := xl) hlj HX.out)
          have hj0 : (j : Int) < (xl : Int) := by omega
          rw [hgv] at HST
          obtain ⟨q, hq⟩ : ∃ q, (hidT L xl k j)[j]?.getD false = q := ⟨_, rfl⟩
          rw [hq] at hct HST
          have HGL : Hid (g ≤ g) := Nat.le_refl _
          clear hvx hgv hq
          cases q with
          | true =>
            rw [Bool.true_or] at HST
            go_wp2
            go_roundw
            case rel => exact ⟨j + 1, by omega, by go_num, by rw [← HST.out]; exact HO.out.stored j true, HB.out.setCell (p := ⟨g, j, none⟩) (Nat.le_refl _) _⟩
            case measure => simp [intOf]; omega
          | false =>
            rw [Bool.false_or] at HST
            go_wp2
            go_roundw
            case rel => exact ⟨j + 1, by omega, by go_num, by rw [← HST.out]; exact HO.out.stored j (v != 0), HB.out.setCell (p := ⟨g, j, none⟩) (Nat.le_refl _) _⟩
            case measure => simp [intOf]; omega
        · obtain rfl : j = xl := by omega
          go_wp2
          go_roundw
          case rel => exact ⟨k + 1, by omega, by go_num, by rw [← hidT_row HX.out]; exact HO.out, HB.out⟩
          case measure => simp [intOf]; omega
    · obtain rfl : k = ll := by omega
      have HO5 : Hid (OwnT wr g g xl (markT L K xl 0)) := by
        have h := HO.out
        rw [← HLL.out, hid_mark L K] at h
        exact h
      have HB5 := Lib.hid HB.out
      clear HO HB HBG
      go_wp2
      go_loopw [83] (fun i wr => ∃ t : Nat, t ≤ kl ∧ i = .int .i64 t ∧ OwnT wr g g xl (markT L K xl t) ∧ Below g w3 wr) (fun i _ => kl - (intOf i).toNat)
      case atStart => exact ⟨0, Nat.zero_le _, rfl, HO5.out, HB5.out⟩
      case round =>
        clear HO5 HB5
        obtain ⟨t, ht, rfl, hO, hB⟩ := hrel
        have HO := Lib.hid hO; clear hO
        have HB := Lib.hid hB; clear hB
        have HBG : Hid (Below w3.heap.size w3 wr) := by rw [HG.out]; exact HB.out
        by_cases hlt2 : t < kl
        · obtain ⟨vb, vo, v, rfl, hcv, hvx⟩ := (HK3.out.below HBG.out).at (k := t) (by rw [HKL.out]; exact hlt2)
          obtain ⟨jn, rfl, hjn, hfr⟩ := HFREE.out hvx.out
          obtain ⟨hct, hft⟩ := HO.out.cell (markT_len L K xl t) hjn
          rw [hfr] at hct
          have HST := Lib.hid (markT_step (L := L) hjn hvx.out)
          have ht0 : (t : Int) < (kl : Int) := by omega
          have z1 : decide ((jn : Int) < 0) = false := by simp
          have z2 : decide ((xl : Int) ≤ (jn : Int)) = false := by simp; omega
          have z3 : decide (xl ≤ jn) = false := by simp; omega
          have hj0 : (jn : Int) < (xl : Int) := by omega
          clear hvx hfr
          go_wp2
          go_roundw
          case rel => exact ⟨t + 1, by omega, by go_num, by rw [← HST.out]; exact HO.out.stored jn true, HB.out.setCell (p := ⟨g, jn, none⟩) (Nat.le_refl _) _⟩
          case measure => simp [intOf]; omega
        · obtain rfl : t = kl := by omega
          have HO5 := Lib.hid HO.out
          have HB5 := Lib.hid HB.out
          clear HO HB HBG
          go_wp2
          go_loopw [107] (fun i wr => ∃ j : Nat, j ≤ xl ∧ i = .int .i64 j ∧ OwnT wr g g xl (markT L K xl t) ∧ Below g w3 wr) (fun i _ => xl - (intOf i).toNat)
          case atStart => exact ⟨0, Nat.zero_le _, rfl, HO5.out, HB5.out⟩
          case round =>
            clear HO5 HB5
            obtain ⟨j, hj, rfl, hO, hB⟩ := hrel
            have HO := Lib.hid hO; clear hO
            have HB := Lib.hid hB; clear hB
            have HBG : Hid (Below w3.heap.size w3 wr) := by rw [HG.out]; exact HB.out
            by_cases hlj : j < xl
            · obtain ⟨hct, hft⟩ := HO.out.cell (markT_len L K xl t) hlj
              rw [HALL.out hlj] at hct
              have hj0 : (j : Int) < (xl : Int) := by omega
              go_wp2
              go_roundw
              case rel => exact ⟨j + 1, by omega, by go_num, HO.out, HB.out⟩
              case measure => simp [intOf]; omega
            · obtain rfl : j = xl := by omega
              have HBW : Hid (Below w.heap.size w wr) := HB3.out.trans (HBG.out.mono HB3.out.size)
              clear HO HB
              by_cases hneg : m2 < 0
              · have z1 : decide (m2 < 0) = true := by simp [hneg]
                clear hneg
                go_wp2_with (go_at_call 8; refine (HAW.out _).mono ?_; rintro e w7 ⟨rfl, hb7⟩)
                go_ret
                exact ⟨rfl, HBW.out.trans (hb7.mono HBW.out.size)⟩
              by_cases hbig : (k : Int) ≤ m2
              · have z1 : decide (m2 < 0) = false := by simp; omega
                have z2 : decide ((k : Int) ≤ m2) = true := by simp [hbig]
                clear hneg hbig
                go_wp2_with (go_at_call 8; refine (HAW.out _).mono ?_; rintro e w7 ⟨rfl, hb7⟩)
                go_ret
                exact ⟨rfl, HBW.out.trans (hb7.mono HBW.out.size)⟩
              obtain ⟨q, rfl⟩ := Int.eq_ofNat_of_zero_le (show 0 ≤ m2 by omega)
              have hq : q < k := by omega
              have z1 : decide ((q : Int) < 0) = false := by simp
              have z2 : decide ((k : Int) ≤ (q : Int)) = false := by simp; omega
              have z3 : decide (k ≤ q) = false := by simp; omega
              obtain ⟨lb, lo, ra, h, rc, rfl, hcr3, hsr, HX⟩ := HL3.out.at (i := q) (by rw [HLL.out]; exact hq)
              have hmem := List.mem_of_getElem? HX.out
              have hr2 := HBL.out h hmem
              have HRL := Lib.hid hr2.1
              have HRB := Lib.hid hr2.2
              have HSR := Lib.hid hsr
              have HCR := Lib.hid hcr3
              have HSAME := Lib.hid (HMORE.out hmem)
              have hq0 : (q : Int) < (k : Int) := by omega
              have hW3 : w3.heap.size ≤ wr.heap.size := by have := HBG.out.size; exact this
              have HN0 : Hid (OwnI wr g (.slice none 0 0) (addTo xs1 h 0)) := OwnI.nil _ _
              have HB0 : Hid (Below w3.heap.size w3 wr) := HBG.out
              clear hneg hbig hmem hr2 hsr hcr3 HBW hW3 HBG
              go_wp2
              go_loopw [20, 125] (fun o i wr => ∃ i' : Nat, i' ≤ j ∧ i = .int .i64 i' ∧ OwnI wr g o (addTo xs1 h i') ∧ Below w3.heap.size w3 wr) (fun _ i _ => j - (intOf i).toNat)
              case atStart => exact ⟨0, Nat.zero_le _, rfl, HN0.out, HB0.out⟩
              case round =>
                clear HN0 HB0
                obtain ⟨i', hi', rfl, hO, hB⟩ := hrel
                obtain ⟨oa, oc, rfl, hso, hao⟩ := hO.row
                rw [addTo_len] at hO ⊢
                have HO := Lib.hid hO; clear hO
                have HSO := Lib.hid hso
                have HB := Lib.hid hB; clear hB hso hao
                have HBW : Hid (Below w.heap.size w wr) := HB3.out.trans (HB.out.mono HB3.out.size)
                by_cases hlt4 : i' < j
                · obtain ⟨xb, xo, v1, rfl, hc1, hv1⟩ := (H1.out.below HBW.out).at (k := i') (by rw [HXL.out]; exact hlt4)
                  obtain ⟨hb', ho', v2, rfl, hc2, hv2⟩ := (HSR.out.below HB.out).at (k := i') (by rw [HRL.out]; exact hlt4)
                  have hc3 := (HB.out.cell (p := ⟨lb, lo + q, none⟩) (cell_lt HCR.out)).trans HCR.out
                  rw [HRL.out] at hc3
                  have e1 := gt_in HXB.out (k := i') (by rw [HXL.out]; exact hlt4)
                  have e2 := gt_in HRB.out (k := i') (by rw [HRL.out]; exact hlt4)
                  have g1 := gt_some' hv1.out
                  have g2 := gt_some' hv2.out
                  rw [g1] at e1
                  rw [g2] at e2
                  have HSC : Hid (addTo xs1 h (i' + 1) = addTo xs1 h i' ++ [v1 + v2]) := by show _ = _; rw [addTo_succ, g1, g2]
                  have wsum' : IntKind.i64.wrap (v1 + v2) = v1 + v2 := IntWalk.i64_in _ (by omega)
                  have hi0 : (i' : Int) < (j : Int) := by omega
                  have hgs : g ≤ wr.heap.size := by have := HB.out.size; have := HG.out; omega
                  have HAL : Hid ((addTo xs1 h i').length = i') := addTo_len _ _ _
                  clear hv1 hv2 g1 g2 e1 e2
                  go_wp2
                  go_region_law (refine step_push rfl (.tmp 128) (.tmp 141) rfl g _ (addTo xs1 h i') (v1 + v2) _ wr.heap.size (by rfl) (by rfl) (alloc_cell wr _ _ _ _ rfl) ((HO.out.below ((Below.refl _ _).alloc (Nat.le_refl _) _)).drew) (by rw [HAL.out]; omega) (by simp; omega) ?_; intro v' w9 hown' hbel')
                  all_goals
                    go_wp2
                    go_roundw
                    case rel => exact ⟨i' + 1, by omega, by go_num, by rw [HSC.out]; exact hown', (HB.out.alloc HB.out.size _).drew.trans (by rw [HG.out]; exact hbel')⟩
                    case measure => simp [intOf]; omega
                · obtain rfl : i' = j := by omega
                  obtain ⟨o, ho⟩ : ∃ o, addTo xs1 h i' = o := ⟨_, rfl⟩
                  have hol : o.length = i' := by rw [← ho]; exact addTo_len _ _ _
                  have HOL := Lib.hid hol
                  have HSM : Hid (readL m0 xs1 = readL m0 o) := by show _ = _; rw [← ho]; exact HSAME.out
                  rw [ho] at HSO
                  obtain ⟨sh, hsh2⟩ : ∃ sh, shownM m0 o = sh := ⟨_, rfl⟩
                  have HSH2 : Hid (Calls Tryz.prog 12 #[.slice b0 ml c0, .slice oa i' oc] wr fun e w' => e = .returned (.bool sh) ∧ wr = w') := by rw [← hsh2]; exact HSO2.out wr oa oc o HBW.out hol HSO.out
                  have HRO2 : sh = true → Hid (∀ W, Below w.heap.size w W → Below wr.heap.size wr W → Calls Tryz.prog 11 #[.slice b0 ml c0, .slice oa i' oc] W (LPost (readL m0 xs1, 0) W)) := fun e W hb hb2 => by
                    rw [HSM.out]; exact HRO.out W oa oc o hb hol (HSO.out.below hb2) (hsh2.trans e)
                  obtain ⟨yy, hyy⟩ : ∃ yy, readL m0 xs1 = yy := ⟨_, rfl⟩
                  rw [hyy] at HRO2 HRD hyl
                  obtain ⟨yl, hyl2⟩ : ∃ yl, yy.length = yl := ⟨_, rfl⟩
                  have HYL := Lib.hid hyl2
                  have hyl3 := Lib.hid hyl
                  have HSI2 : Hid (∀ (W : World) a c b d, Sl W a yy → Sl W b yy → Calls Tryz.prog 18 #[.slice a yl c, .slice b yl d] W fun e w' => e = .returned (.bool true) ∧ Below W.heap.size W w') := fun W a c b d h1 h2 => by rw [← hyl2]; exact HSI.out W a c b d yy hyl3.out h1 h2
                  clear hol hsh2 hyy hyl2 hyl HSO HO HSM ho HB
                  cases sh with
                  | false =>
                    go_wp2_with (first
                      | (go_at_call 12; refine HSH2.out.mono ?_; rintro e w5 ⟨rfl, rfl⟩)
                      | (go_at_call 8; refine (HAW.out _).mono ?_; rintro e w7 ⟨rfl, hb7⟩))
                    go_ret
                    exact ⟨rfl, HBW.out.trans (hb7.mono HBW.out.size)⟩
                  | true =>
                    have HRO3 := HRO2 rfl
                    clear HRO2
                    go_wp2_with (first
                      | (go_at_call 12; refine HSH2.out.mono ?_; rintro e w5 ⟨rfl, rfl⟩)
                      | (go_at_call 11; (with_reducible refine (HRD.out _ HBW.out).mono ?_); rintro e w6 ⟨hb6, ya, yc, rfl, hy6⟩; dsimp only at hy6 ⊢; rw [HYL.out]; have HB6 := Lib.hid hb6; have HBW6 : Hid (Below w.heap.size w w6) := HBW.out.trans (hb6.mono HBW.out.size); have HY6 := Lib.hid hy6; clear hb6 hy6)
                      | (go_at_call 11; (with_reducible refine (HRO3.out _ HBW6.out HB6.out).mono ?_); rintro e w8 ⟨hb8, za, zc, rfl, hz8⟩; dsimp only at hz8 ⊢; rw [HYL.out]; have HBW8 : Hid (Below w.heap.size w w8) := HBW6.out.trans (hb8.mono HBW6.out.size); have HY8 := Lib.hid (HY6.out.below hb8); have HZ8 := Lib.hid hz8; clear hb8 hz8)
                      | (go_at_call 18; refine (HSI2.out _ _ _ _ _ HY8.out HZ8.out).mono ?_; rintro e w9 ⟨rfl, hb9⟩; have HBW9 : Hid (Below w.heap.size w w9) := HBW8.out.trans (hb9.mono HBW8.out.size); clear hb9)
                      | (go_at_call 8; refine (HAW.out _).mono ?_; rintro e w7 ⟨rfl, hb7⟩))
                    go_ret
                    exact ⟨rfl, HBW9.out.trans (hb7.mono HBW9.out.size)⟩
end Go.Proofs.YtgbnfhfkehpfaaaGreat.topHidden
