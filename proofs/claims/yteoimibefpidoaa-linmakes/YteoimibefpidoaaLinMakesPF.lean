/- Parts of the proof of LinMakes: plain words, walks and contracts, each under its own heading. -/
import Derived.Test.YteoimibefpidoaaLinMakesPE
import Derived.Test.YteoimibefpidoaaLinMakesPD
import Derived.Test.YteoimibefpidoaaLinMakesPC
import Derived.Test.YteoimibefpidoaaLinMakesPA
import Derived.Deep.Fields
import Derived.ChangeSame
/- product and Denies of layer 3, Denies of the answers: contracts. -/
namespace Go.Proofs.Yteoimibefpidoaa
open Go.RowKit

set_option maxRecDepth 100000 in
theorem lproduct_any (a : Option Addr) (xs : List Int) (ca : Nat) (b : Option Addr) (ys : List Int) (cb : Nat) (w : World) (hl : xs.length ≤ 10) (hl2 : xs.length ≤ ys.length) (hl3 : ys.length ≤ 9223372036854775807) (hp : PB xs ys) (ha : Sl w a xs) (hb : Sl w b ys) :
    Calls Try.prog 77 #[.slice a xs.length ca, .slice b ys.length cb] w fun e w' => e = .returned (.int .i64 (dot xs ys)) ∧ w = w' := by
  have HA := Lib.hid ha; clear ha
  have HB := Lib.hid hb; clear hb
  have HP := Lib.hid hp; clear hp
  go_enter Try.func77, Try.ntmps77
  go_wp2
  go_loop [5, 10] (fun s i => ∃ k : Nat, k ≤ xs.length ∧ i = .int .i64 k ∧ s = .int .i64 (dotTo xs ys k)) (fun _ i => xs.length - (intOf i).toNat)
  case atStart => exact ⟨0, Nat.zero_le _, rfl, rfl⟩
  case round =>
    obtain ⟨k, hk, rfl, rfl⟩ := hrel
    have SB := Lib.hid (dotTo_bd HP.out hk)
    by_cases hlt : k < xs.length
    · obtain ⟨b1, o1, x, rfl, hcx, HX⟩ := HA.out.at hlt
      obtain ⟨b2, o2, y, rfl, hcy, HY⟩ := HB.out.at (show k < ys.length by omega)
      have hS := Lib.hid (show dotTo xs ys (k + 1) = dotTo xs ys k + x * y by show dotTo xs ys k + gt xs k * gt ys k = _; rw [gt_some' HX.out, gt_some' HY.out])
      have hxy : -100000000000000000 ≤ x * y ∧ x * y ≤ 100000000000000000 := by have := HP.out k hlt; rw [gt_some' HX.out, gt_some' HY.out] at this; exact this
      obtain ⟨p1, p2⟩ := hxy
      obtain ⟨s1, s2⟩ := SB.out
      generalize dotTo xs ys k = S at *
      have s3 : S ≤ 1000000000000000000 := by omega
      have s4 : -1000000000000000000 ≤ S := by omega
      clear s1 s2 SB
      go_wp2
      go_round
      case rel => exact ⟨k + 1, by omega, by go_num, by rw [hS.out]⟩
      case measure => simp [intOf]; omega
    · obtain rfl : k = xs.length := by omega
      go_wp2
      go_ret
      exact ⟨rfl, rfl⟩
set_option maxRecDepth 100000 in
theorem lreading_any (ma : Option Addr) (m : List (List Int)) (mc : Nat) (a : Option Addr) (y : List Int) (cap : Nat) (w : World) (hm : MOk m) (hl : y.length ≤ 9223372036854775807) (hs : Ms w ma m) (hy : Sl w a y) :
    Calls Try.prog 11 #[.slice ma m.length mc, .slice a y.length cap] w fun e w' => e = .returned (.bool (decide (readE m y = 0))) ∧ Below w.heap.size w w' := by
  have HRE := Lib.hid (lread_any ma m mc a y cap w hm hl hs hy)
  obtain ⟨rv, hrv⟩ : ∃ rv, readE m y = rv := ⟨_, rfl⟩
  rw [hrv] at HRE ⊢
  clear hrv hs hy hm
  go_enter Try.func11, Try.ntmps11
  go_wp2_with (go_at_call 41; refine HRE.out.mono ?_; rintro e w1 ⟨rfl, hb1⟩)
  go_ret
  exact ⟨rfl, hb1⟩
set_option maxRecDepth 100000 in
theorem rreading3_any (ma : Option Addr) (m : List (List Int)) (mc : Nat) (a : Option Addr) (y : List Int) (cap : Nat) (w : World) (hm : MOk m) (hl : y.length ≤ 9223372036854775807) (hs : Ms w ma m) (hy : Sl w a y) :
    Calls Try.prog 12 #[.slice ma m.length mc, .slice a y.length cap] w fun e w' => e = .returned (.bool (decide (readE m y = 0))) ∧ w = w' := by
  have HRE := Lib.hid (rread3_any ma m mc a y cap w hm hl hs hy)
  obtain ⟨rv, hrv⟩ : ∃ rv, readE m y = rv := ⟨_, rfl⟩
  rw [hrv] at HRE ⊢
  clear hrv hs hy hm
  go_enter Try.func12, Try.ntmps12
  go_wp2_with (go_at_call 42; refine HRE.out.mono ?_; rintro e w1 ⟨rfl, rfl⟩)
  go_ret
  exact ⟨rfl, rfl⟩
theorem denies_dot {m : List (List Int)} {y z : List Int} (hr : readE m y = 0) (hz : allB 1000000 z = true) (hb : (backV m z).2 = 0) : z.length = m.length ∧ m.length ≤ 6 ∧ y.length = m.length ∧ PB z y := by
  obtain ⟨hv, hyl, hyb⟩ := readE_ok hr
  obtain ⟨_, hzl, _, _⟩ := backV_0 hb
  exact ⟨hzl, (validM_of hv).2.1, hyl, PB_of hz hyb (by omega) (by decide)⟩
set_option maxRecDepth 100000 in
set_option maxHeartbeats 1600000 in
theorem ldenies_any (ma : Option Addr) (m : List (List Int)) (mc : Nat) (a : Option Addr) (y : List Int) (yc : Nat) (b : Option Addr) (z : List Int) (zc : Nat) (w : World) (hm : MOk m) (hl : y.length ≤ 9223372036854775807) (hlz : z.length ≤ 9223372036854775807) (hs : Ms w ma m) (hy : Sl w a y) (hz : Sl w b z) :
    Calls Try.prog 38 #[.slice ma m.length mc, .slice a y.length yc, .slice b z.length zc] w fun e w' => e = .returned (.bool (deniesB m y z)) ∧ Below w.heap.size w w' := by
  have HS := Lib.hid hs
  have HZ := Lib.hid hz
  have HY := Lib.hid hy
  obtain ⟨rv, hrv⟩ : ∃ rv, decide (readE m y = 0) = rv := ⟨_, rfl⟩
  have HRD : Hid (Calls Try.prog 11 #[.slice ma m.length mc, .slice a y.length yc] w fun e w' => e = .returned (.bool rv) ∧ Below w.heap.size w w') := by rw [← hrv]; exact lreading_any ma m mc a y yc w hm hl hs hy
  obtain ⟨zb, hzb⟩ : ∃ zb, allB 1000000 z = zb := ⟨_, rfl⟩
  have HWI : Hid (∀ W, Below w.heap.size w W → Calls Try.prog 72 #[.slice b z.length zc, .int .i64 1000000] W fun e w' => e = .returned (.bool zb) ∧ W = w') := fun W hb => by rw [← hzb]; exact lwithin_any b z zc 1000000 W (by decide) (by decide) hlz (HZ.out.below hb)
  obtain ⟨bv, hbv⟩ : ∃ bv, backV m z = bv := ⟨_, rfl⟩
  obtain ⟨bl, be⟩ := bv
  have HBK : Hid (∀ W, Below w.heap.size w W → Calls Try.prog 71 #[.slice ma m.length mc, .slice b z.length zc] W (LPost (bl, be) W)) := fun W hb => by rw [← hbv]; exact mback_any ma m mc b z zc W hm hlz (HS.out.below hb) (HZ.out.below hb)
  have hbl : bl.length ≤ 10 := by have := backV_len10 m z; rw [hbv] at this; exact this
  have HD0 : Hid (deniesB m y z = (rv && zb && decide (be = 0) && allZ bl && decide (dot z y ≠ 0))) := by show _ = _; unfold deniesB; rw [hrv, hzb, hbv]
  have hdd := fun h1 h2 h3 => denies_dot (m := m) (y := y) (z := z) h1 h2 h3
  rw [hbv, hzb] at hdd
  have hlm : be = 0 → z.length = m.length := fun e => (backV_0 (m := m) (z := z) (by rw [hbv]; exact e)).2.1
  have hr0 : rv = true → readE m y = 0 := fun e => by rw [e] at hrv; exact of_decide_eq_true hrv
  obtain ⟨nz, hnz⟩ : ∃ nz, allZ bl = nz := ⟨_, rfl⟩
  have HNZ : Hid (∀ (W : World) ba bc, Sl W ba bl → Calls Try.prog 80 #[.slice ba bl.length bc, .func (.func 81) #[] #[]] W fun e w' => e = .returned (.bool (!nz)) ∧ W = w') := fun W ba bc h => by rw [← hnz]; exact containsNZ_any ba bl bc W (by omega) h
  obtain ⟨d, hd⟩ : ∃ d, dot z y = d := ⟨_, rfl⟩
  have HDT0 : rv = true → zb = true → be = 0 → Hid (∀ W, Below w.heap.size w W → Calls Try.prog 77 #[.slice b z.length zc, .slice a y.length yc] W fun e w' => e = .returned (.int .i64 d) ∧ W = w') := fun e1 e2 e3 W hb => by
    obtain ⟨q1, q2, q3, q4⟩ := hdd (hr0 e1) e2 e3
    rw [← hd]
    exact lproduct_any b z zc a y yc W (by omega) (by omega) hl q4 (HZ.out.below hb) (HY.out.below hb)
  rw [hnz, hd] at HD0
  clear hdd hr0
  cases rv with
  | false =>
    have HD : Hid (deniesB m y z = false) := by show _ = _; rw [HD0.out]; rfl
    clear hs hy hz hm hrv hzb hbv HD0 hnz hd HDT0 hlm
    go_enter Try.func38, Try.ntmps38
    go_wp2_with (first | (go_at_call 11; refine HRD.out.mono ?_; rintro e w1 ⟨rfl, hb1⟩; have HB1 := Lib.hid hb1; clear hb1) | (go_at_call 72; refine (HWI.out w1 HB1.out).mono ?_; rintro e w2 ⟨rfl, rfl⟩))
    go_ret
    exact ⟨ret_bool HD.out.symm, HB1.out⟩
  | true =>
    cases zb with
    | false =>
      have HD : Hid (deniesB m y z = false) := by show _ = _; rw [HD0.out]; rfl
      clear hs hy hz hm hrv hzb hbv HD0 hnz hd HDT0 hlm
      go_enter Try.func38, Try.ntmps38
      go_wp2_with (first | (go_at_call 11; refine HRD.out.mono ?_; rintro e w1 ⟨rfl, hb1⟩; have HB1 := Lib.hid hb1; clear hb1) | (go_at_call 72; refine (HWI.out w1 HB1.out).mono ?_; rintro e w2 ⟨rfl, rfl⟩))
      go_ret
      exact ⟨ret_bool HD.out.symm, HB1.out⟩
    | true =>
      by_cases hb0 : be = 0
      · subst hb0
        have HDT := HDT0 rfl rfl rfl
        cases nz with
        | false =>
          have HD : Hid (deniesB m y z = false) := by show _ = _; rw [HD0.out]; rfl
          clear hs hy hz hm hrv hzb hbv HD0 hnz hd HDT0 hlm
          go_enter Try.func38, Try.ntmps38
          go_wp2_with (first | (go_at_call 11; refine HRD.out.mono ?_; rintro e w1 ⟨rfl, hb1⟩; have HB1 := Lib.hid hb1; clear hb1) | (go_at_call 72; refine (HWI.out w1 HB1.out).mono ?_; rintro e w2 ⟨rfl, rfl⟩) | (go_at_call 71; refine (HBK.out w1 HB1.out).mono ?_; rintro e w3 ⟨hb3, ba, bc, rfl, hbs⟩; dsimp only at hbs ⊢; have HB3 : Hid (Below w.heap.size w w3) := HB1.out.trans (hb3.mono HB1.out.size); have HBS := Lib.hid hbs; clear hb3 hbs) | (go_at_call 80; refine (HNZ.out w3 ba bc HBS.out).mono ?_; rintro e w4 ⟨rfl, rfl⟩))
          go_ret
          exact ⟨ret_bool HD.out.symm, HB3.out⟩
        | true =>
          obtain ⟨q, hq⟩ : ∃ q, decide (d ≠ 0) = q := ⟨_, rfl⟩
          have HD : Hid (deniesB m y z = q) := by show _ = _; rw [HD0.out, ← hq]; simp
          have y1 : (d != 0) = q := by rw [← hq]; by_cases e : d = 0 <;> simp [e]
          clear hs hy hz hm hrv hzb hbv HD0 hnz hd HDT0 hlm hq
          go_enter Try.func38, Try.ntmps38
          go_wp2_with (first | (go_at_call 11; refine HRD.out.mono ?_; rintro e w1 ⟨rfl, hb1⟩; have HB1 := Lib.hid hb1; clear hb1) | (go_at_call 72; refine (HWI.out w1 HB1.out).mono ?_; rintro e w2 ⟨rfl, rfl⟩) | (go_at_call 71; refine (HBK.out w1 HB1.out).mono ?_; rintro e w3 ⟨hb3, ba, bc, rfl, hbs⟩; dsimp only at hbs ⊢; have HB3 : Hid (Below w.heap.size w w3) := HB1.out.trans (hb3.mono HB1.out.size); have HBS := Lib.hid hbs; clear hb3 hbs) | (go_at_call 80; refine (HNZ.out w3 ba bc HBS.out).mono ?_; rintro e w4 ⟨rfl, rfl⟩) | (go_at_call 77; refine (HDT.out w3 HB3.out).mono ?_; rintro e w5 ⟨rfl, rfl⟩))
          go_ret
          exact ⟨ret_bool HD.out.symm, HB3.out⟩
      · have HD : Hid (deniesB m y z = false) := by show _ = _; rw [HD0.out, decide_eq_false hb0]; rfl
        have y0 : (be == 0) = false := by simpa using hb0
        clear hs hy hz hm hrv hzb hbv HD0 hnz hd HDT0 hlm
        go_enter Try.func38, Try.ntmps38
        go_wp2_with (first | (go_at_call 11; refine HRD.out.mono ?_; rintro e w1 ⟨rfl, hb1⟩; have HB1 := Lib.hid hb1; clear hb1) | (go_at_call 72; refine (HWI.out w1 HB1.out).mono ?_; rintro e w2 ⟨rfl, rfl⟩) | (go_at_call 71; refine (HBK.out w1 HB1.out).mono ?_; rintro e w3 ⟨hb3, ba, bc, rfl, hbs⟩; dsimp only at hbs ⊢; have HB3 : Hid (Below w.heap.size w w3) := HB1.out.trans (hb3.mono HB1.out.size); have HBS := Lib.hid hbs; clear hb3 hbs))
        go_ret
        exact ⟨ret_bool HD.out.symm, HB3.out⟩
set_option maxRecDepth 100000 in
set_option maxHeartbeats 1600000 in
theorem rdenies_any (ma : Option Addr) (m : List (List Int)) (mc : Nat) (a : Option Addr) (y : List Int) (yc : Nat) (b : Option Addr) (z : List Int) (zc : Nat) (w : World) (hm : MOk m) (hl : y.length ≤ 9223372036854775807) (hlz : z.length ≤ 9223372036854775807) (hs : Ms w ma m) (hy : Sl w a y) (hz : Sl w b z) :
    Calls Try.prog 37 #[.slice ma m.length mc, .slice a y.length yc, .slice b z.length zc] w fun e w' => e = .returned (.bool (deniesB m y z)) ∧ Below w.heap.size w w' := by
  have HS := Lib.hid hs
  have HZ := Lib.hid hz
  have HY := Lib.hid hy
  obtain ⟨rv, hrv⟩ : ∃ rv, decide (readE m y = 0) = rv := ⟨_, rfl⟩
  have HRD : Hid (Calls Try.prog 12 #[.slice ma m.length mc, .slice a y.length yc] w fun e w' => e = .returned (.bool rv) ∧ w = w') := by rw [← hrv]; exact rreading3_any ma m mc a y yc w hm hl hs hy
  obtain ⟨zb, hzb⟩ : ∃ zb, allB 1000000 z = zb := ⟨_, rfl⟩
  have HWI : Hid (∀ W, Below w.heap.size w W → Calls Try.prog 69 #[.slice b z.length zc] W fun e w' => e = .returned (.bool zb) ∧ W = w') := fun W hb => by rw [← hzb]; exact million_any b z zc W hlz (HZ.out.below hb)
  obtain ⟨bv, hbv⟩ : ∃ bv, backV m z = bv := ⟨_, rfl⟩
  obtain ⟨bl, be⟩ := bv
  have HBK : Hid (∀ W, Below w.heap.size w W → Calls Try.prog 70 #[.slice ma m.length mc, .slice b z.length zc] W (LPost (bl, be) W)) := fun W hb => by rw [← hbv]; exact rback_any ma m mc b z zc W hm hlz (HS.out.below hb) (HZ.out.below hb)
  have hbl : bl.length ≤ 10 := by have := backV_len10 m z; rw [hbv] at this; exact this
  have HD0 : Hid (deniesB m y z = (rv && zb && decide (be = 0) && allZ bl && decide (dot z y ≠ 0))) := by show _ = _; unfold deniesB; rw [hrv, hzb, hbv]
  have hdd := fun h1 h2 h3 => denies_dot (m := m) (y := y) (z := z) h1 h2 h3
  rw [hbv, hzb] at hdd
  have hlm : be = 0 → z.length = m.length := fun e => (backV_0 (m := m) (z := z) (by rw [hbv]; exact e)).2.1
  have hr0 : rv = true → readE m y = 0 := fun e => by rw [e] at hrv; exact of_decide_eq_true hrv
  obtain ⟨nz, hnz⟩ : ∃ nz, allZ bl = nz := ⟨_, rfl⟩
  have HNZ : Hid (∀ (W : World) ba bc, Sl W ba bl → Calls Try.prog 78 #[.slice ba bl.length bc] W fun e w' => e = .returned (.bool nz) ∧ W = w') := fun W ba bc h => by rw [← hnz]; exact nothing3_any ba bl bc W (by omega) h
  obtain ⟨d, hd⟩ : ∃ d, dot z y = d := ⟨_, rfl⟩
  have HDT0 : rv = true → zb = true → be = 0 → Hid (∀ W, Below w.heap.size w W → Calls Try.prog 79 #[.slice b z.length zc, .slice a y.length yc] W fun e w' => e = .returned (.int .i64 d) ∧ ∃ n, w' = W.drewN n) := fun e1 e2 e3 W hb => by
    obtain ⟨q1, q2, q3, q4⟩ := hdd (hr0 e1) e2 e3
    rw [← hd]
    exact rdot_any b z zc a y yc W (by omega) (by omega) hl q4 (HZ.out.below hb) (HY.out.below hb)
  rw [hnz, hd] at HD0
  clear hdd hr0
  obtain ⟨zl, hzl⟩ : ∃ zl, z.length = zl := ⟨_, rfl⟩
  obtain ⟨n, hn⟩ : ∃ n, m.length = n := ⟨_, rfl⟩
  rw [hzl, hn] at hlm
  rw [hzl] at HWI hlz
  rw [hn] at HRD
  rw [hzl, hn] at HBK
  rw [hzl] at HDT0
  rw [hzl, hn]
  cases rv with
  | false =>
    have HD : Hid (deniesB m y z = false) := by show _ = _; rw [HD0.out]; rfl
    clear hs hy hz hm hrv hzb hbv HD0 hnz hd HDT0 hzl hn hlm
    go_enter Try.func37, Try.ntmps37
    go_wp2_with (first | (go_at_call 12; refine HRD.out.mono ?_; rintro e w1 ⟨rfl, rfl⟩) | (go_at_call 69; refine (HWI.out w (Below.refl _ _)).mono ?_; rintro e w2 ⟨rfl, rfl⟩))
    go_ret
    exact ⟨ret_bool HD.out.symm, Below.refl _ _⟩
  | true =>
    by_cases hlq : zl = n
    case neg =>
      have hb0 : be ≠ 0 := fun e => hlq (hlm e)
      have HD : Hid (deniesB m y z = false) := by show _ = _; rw [HD0.out, decide_eq_false hb0]; simp
      have hq1 : ¬ ((zl : Int) = (n : Int)) := by omega
      have hq2 : ((zl : Int) != (n : Int)) = true := by simpa using hq1
      clear hs hy hz hm hrv hzb hbv HD0 hnz hd HDT0 hzl hn hlm hb0
      go_enter Try.func37, Try.ntmps37
      go_wp2_with (first | (go_at_call 12; refine HRD.out.mono ?_; rintro e w1 ⟨rfl, rfl⟩) | (go_at_call 69; refine (HWI.out w (Below.refl _ _)).mono ?_; rintro e w2 ⟨rfl, rfl⟩))
      go_ret
      exact ⟨ret_bool HD.out.symm, Below.refl _ _⟩
    case pos =>
    subst hlq
    cases zb with
    | false =>
      have HD : Hid (deniesB m y z = false) := by show _ = _; rw [HD0.out]; rfl
      clear hs hy hz hm hrv hzb hbv HD0 hnz hd HDT0 hzl hn hlm
      go_enter Try.func37, Try.ntmps37
      go_wp2_with (first | (go_at_call 12; refine HRD.out.mono ?_; rintro e w1 ⟨rfl, rfl⟩) | (go_at_call 69; refine (HWI.out w (Below.refl _ _)).mono ?_; rintro e w2 ⟨rfl, rfl⟩))
      go_ret
      exact ⟨ret_bool HD.out.symm, Below.refl _ _⟩
    | true =>
      by_cases hb0 : be = 0
      · subst hb0
        have HDT := HDT0 rfl rfl rfl
        cases nz with
        | false =>
          have HD : Hid (deniesB m y z = false) := by show _ = _; rw [HD0.out]; rfl
          clear hs hy hz hm hrv hzb hbv HD0 hnz hd HDT0 hzl hn hlm
          go_enter Try.func37, Try.ntmps37
          go_wp2_with (first | (go_at_call 12; refine HRD.out.mono ?_; rintro e w1 ⟨rfl, rfl⟩) | (go_at_call 69; refine (HWI.out w (Below.refl _ _)).mono ?_; rintro e w2 ⟨rfl, rfl⟩) | (go_at_call 70; refine (HBK.out w (Below.refl _ _)).mono ?_; rintro e w3 ⟨hb3, ba, bc, rfl, hbs⟩; dsimp only at hbs ⊢; have HB3 : Hid (Below w.heap.size w w3) := hb3; have HBS := Lib.hid hbs; clear hb3 hbs) | (go_at_call 78; refine (HNZ.out w3 ba bc HBS.out).mono ?_; rintro e w4 ⟨rfl, rfl⟩))
          go_ret
          exact ⟨ret_bool HD.out.symm, HB3.out⟩
        | true =>
          obtain ⟨q, hq⟩ : ∃ q, decide (d ≠ 0) = q := ⟨_, rfl⟩
          have HD : Hid (deniesB m y z = q) := by show _ = _; rw [HD0.out, ← hq]; simp
          have y1 : (d != 0) = q := by rw [← hq]; by_cases e : d = 0 <;> simp [e]
          clear hs hy hz hm hrv hzb hbv HD0 hnz hd HDT0 hzl hn hlm hq
          go_enter Try.func37, Try.ntmps37
          go_wp2_with (first | (go_at_call 12; refine HRD.out.mono ?_; rintro e w1 ⟨rfl, rfl⟩) | (go_at_call 69; refine (HWI.out w (Below.refl _ _)).mono ?_; rintro e w2 ⟨rfl, rfl⟩) | (go_at_call 70; refine (HBK.out w (Below.refl _ _)).mono ?_; rintro e w3 ⟨hb3, ba, bc, rfl, hbs⟩; dsimp only at hbs ⊢; have HB3 : Hid (Below w.heap.size w w3) := hb3; have HBS := Lib.hid hbs; clear hb3 hbs) | (go_at_call 78; refine (HNZ.out w3 ba bc HBS.out).mono ?_; rintro e w4 ⟨rfl, rfl⟩) | (go_at_call 79; refine (HDT.out w3 HB3.out).mono ?_; rintro e w5 ⟨rfl, nd, rfl⟩))
          go_ret
          exact ⟨ret_bool HD.out.symm, below_drewN HB3.out nd⟩
      · have HD : Hid (deniesB m y z = false) := by show _ = _; rw [HD0.out, decide_eq_false hb0]; rfl
        have y0 : (be == 0) = false := by simpa using hb0
        clear hs hy hz hm hrv hzb hbv HD0 hnz hd HDT0 hzl hn hlm
        go_enter Try.func37, Try.ntmps37
        go_wp2_with (first | (go_at_call 12; refine HRD.out.mono ?_; rintro e w1 ⟨rfl, rfl⟩) | (go_at_call 69; refine (HWI.out w (Below.refl _ _)).mono ?_; rintro e w2 ⟨rfl, rfl⟩) | (go_at_call 70; refine (HBK.out w (Below.refl _ _)).mono ?_; rintro e w3 ⟨hb3, ba, bc, rfl, hbs⟩; dsimp only at hbs ⊢; have HB3 : Hid (Below w.heap.size w w3) := hb3; have HBS := Lib.hid hbs; clear hb3 hbs))
        go_ret
        exact ⟨ret_bool HD.out.symm, HB3.out⟩
end Go.Proofs.Yteoimibefpidoaa
/- Makes of the program: a contract. -/
namespace Go.Proofs.Yteoimibefpidoaa
open Go.RowKit

/-- What Makes answers. -/
def makesB (m : List (List Int)) (ps : List (Int × Int)) (y : List Int) : Bool :=
  decide (readE m y = 0) && decide (ps.length = colsM m) && (ps.all fun p => validR p.1 p.2) && (List.range m.length).all fun i => upB (rowL m i) ps (gt y i)
theorem validR_bd {n d : Int} (h : validR n d = true) : I64' d ∧ -10000000000 ≤ n ∧ n ≤ 10000000000 ∧ 1 ≤ d ∧ d ≤ 400 := by
  unfold validR at h
  simp only [Bool.and_eq_true, decide_eq_true_eq] at h
  unfold I64'; omega
set_option maxRecDepth 1000000 in
set_option maxHeartbeats 3200000 in
theorem lmakes_any (ma : Option Addr) (m : List (List Int)) (mc : Nat) (xa : Option Addr) (ps : List (Int × Int)) (xc : Nat) (ya : Option Addr) (y : List Int) (yc : Nat) (w : World) (hm : MOk m) (hly : y.length ≤ 9223372036854775807) (hlx : ps.length ≤ 9223372036854775807) (hs : Ms w ma m) (hx : Rr w xa ps) (hy : Sl w ya y) :
    Calls Try.prog 13 #[.slice ma m.length mc, .slice xa ps.length xc, .slice ya y.length yc] w fun e w' => e = .returned (.bool (makesB m ps y)) ∧ Below w.heap.size w w' := by
  have HS := Lib.hid hs
  have HX := Lib.hid hx
  have HY := Lib.hid hy
  obtain ⟨rv, hrv⟩ : ∃ rv, decide (readE m y = 0) = rv := ⟨_, rfl⟩
  have HRD : Hid (Calls Try.prog 11 #[.slice ma m.length mc, .slice ya y.length yc] w fun e w' => e = .returned (.bool rv) ∧ Below w.heap.size w w') := by rw [← hrv]; exact lreading_any ma m mc ya y yc w hm hly hs hy
  have HD0 : Hid (makesB m ps y = (rv && decide (ps.length = colsM m) && (ps.all fun p => validR p.1 p.2) && (List.range m.length).all fun i => upB (rowL m i) ps (gt y i))) := by show _ = _; unfold makesB; rw [hrv]
  cases rv with
  | false =>
    have HD : Hid (makesB m ps y = false) := by show _ = _; rw [HD0.out]; rfl
    clear hs hx hy hm hrv HD0
    go_enter Try.func13, Try.ntmps13
    go_wp2_with (go_at_call 11; refine HRD.out.mono ?_; rintro e w1 ⟨rfl, hb1⟩; have HB1 := Lib.hid hb1; clear hb1)
    go_ret
    exact ⟨ret_bool HD.out.symm, HB1.out⟩
  | true =>
    obtain ⟨hv, hyl, hyb⟩ := readE_ok (of_decide_eq_true hrv)
    obtain ⟨hm1, hm6, hc1, hc10, hrows⟩ := validM_of hv
    obtain ⟨bm, om, ai, ci, rfl, hcell, _⟩ := hs 0 hm1
    obtain ⟨c, hc⟩ : ∃ c, colsM m = c := ⟨_, rfl⟩
    have hl0 : (m[0]?.getD []).length = c := by rw [← hc]; rfl
    rw [hl0, Nat.add_zero] at hcell
    have HM0 : Hid (∀ W, Below w.heap.size w W → W.cell? ⟨bm, om, none⟩ = some (.slice ai c ci)) := fun W hW => (hW.cell (p := ⟨bm, om, none⟩) (cell_lt hcell)).trans hcell
    rw [hc] at hc10 hc1 HD0 hrows
    have HROW : Hid (∀ i, i < m.length → (rowL m i).length = c ∧ ∀ k, k < (rowL m i).length → -1 ≤ gt (rowL m i) k ∧ gt (rowL m i) k ≤ 1) := fun i hi => by
      have h := hrows _ (rowL_mem hi)
      exact ⟨h.1, fun k hk => gt_in h.2 hk⟩
    have HYB : Hid (∀ i, i < m.length → I64' (gt y i)) := fun i hi => by
      have := gt_in hyb (k := i) (by omega)
      unfold I64'; omega
    have HMN := Lib.hid (show m.length = y.length from hyl.symm)
    obtain ⟨n, hn⟩ : ∃ n, m.length = n := ⟨_, rfl⟩
    have HNL := Lib.hid hn
    obtain ⟨L, hL⟩ : ∃ L, ps.length = L := ⟨_, rfl⟩
    have HLL := Lib.hid hL
    rw [hn] at HRD hm1 hm6 HD0 HROW HYB HMN ⊢
    rw [hL] at HD0 hlx ⊢
    have hn0 : (0 : Int) < (n : Int) := by omega
    have h100 : n ≤ 100 := by omega
    by_cases hlc : L = c
    case neg =>
      have HD : Hid (makesB m ps y = false) := by show _ = _; rw [HD0.out, decide_eq_false hlc]; rfl
      have q1 : ¬ ((L : Int) = (c : Int)) := by omega
      have q2 : ((L : Int) != (c : Int)) = true := by simpa using q1
      clear hs hx hy hm hrv HD0 hv hyl hyb hrows hcell hl0 hc hlc hn hL
      go_enter Try.func13, Try.ntmps13
      go_wp2_with (go_at_call 11; refine HRD.out.mono ?_; rintro e w1 ⟨rfl, hb1⟩; have HB1 := Lib.hid hb1; have k0 := HM0.out w1 hb1; clear hb1)
      go_ret
      exact ⟨ret_bool HD.out.symm, HB1.out⟩
    case pos =>
      subst hlc
      clear hs hx hy hm hrv hv hyl hyb hrows hcell hl0 hc hn hL
      go_enter Try.func13, Try.ntmps13
      go_wp2_with (go_at_call 11; refine HRD.out.mono ?_; rintro e w1 ⟨rfl, hb1⟩; have HB1 := Lib.hid hb1; have k0 := HM0.out w1 hb1; clear hb1)
      clear k0
      go_loopw [26] (fun i wr => ∃ k : Nat, k ≤ L ∧ i = .int .i64 k ∧ (∀ t p, t < k → ps[t]? = some p → validR p.1 p.2 = true) ∧ Below w.heap.size w wr) (fun i _ => L - (intOf i).toNat)
      case atStart => exact ⟨0, Nat.zero_le _, rfl, fun t p h => by omega, HB1.out⟩
      case round =>
        obtain ⟨k, hk, rfl, hok, hb⟩ := hrel
        have HOK := Lib.hid hok; clear hok
        have HB := Lib.hid hb; clear hb
        by_cases hlt : k < L
        · obtain ⟨⟨p1, p2⟩, hp⟩ : ∃ p, ps[k]? = some p := ⟨ps[k]'(by rw [HLL.out]; exact hlt), by simp [HLL.out, hlt]⟩
          have HPK := Lib.hid hp
          obtain ⟨xb, xo, rfl, x0, x1⟩ := (HX.out.below HB.out) k _ hp
          dsimp only at x0 x1
          obtain ⟨vb, hvb⟩ : ∃ vb, validR p1 p2 = vb := ⟨_, rfl⟩
          have HVR : Hid (∀ W, Calls Try.prog 43 #[.agg #[.int .i64 p1, .int .i64 p2]] W fun e w' => e = .returned (.bool vb) ∧ Below W.heap.size W w') := fun W => by rw [← hvb]; exact validR_any p1 p2 W
          have HVB := Lib.hid hvb
          have hk0 : (k : Int) < (L : Int) := by omega
          clear hp hvb
          cases vb with
          | false =>
            have HD : Hid (makesB m ps y = false) := by
              show _ = _
              rw [HD0.out]
              have e : (ps.all fun p => validR p.1 p.2) = false := by
                rw [List.all_eq_false]
                exact ⟨(p1, p2), List.mem_of_getElem? HPK.out, by rw [HVB.out]; decide⟩
              rw [e, Bool.and_false]; rfl
            go_wp2_with (go_at_call 43; refine (HVR.out _).mono ?_; rintro e w2 ⟨rfl, hb2⟩)
            go_ret
            exact ⟨ret_bool HD.out.symm, (HB.out.alloc HB.out.size _).trans (hb2.mono (by rw [World.size_alloc]; have := HB.out.size; omega))⟩
          | true =>
            go_wp2_with (go_at_call 43; refine (HVR.out _).mono ?_; rintro e w2 ⟨rfl, hb2⟩)
            go_roundw
            case rel => exact ⟨k + 1, by omega, by go_num, fun t p ht hp => by
              by_cases e : t = k
              · subst e
                rw [HPK.out] at hp
                obtain rfl := Option.some.inj hp
                exact HVB.out
              · exact HOK.out t p (by omega) hp, (HB.out.alloc HB.out.size _).trans (hb2.mono (by rw [World.size_alloc]; have := HB.out.size; omega))⟩
            case measure => simp [intOf]; omega
        · obtain rfl : k = L := by omega
          have HALL : Hid ((ps.all fun p => validR p.1 p.2) = true) := by
            show _ = _
            rw [List.all_eq_true]
            intro p hp
            obtain ⟨t, ht, rfl⟩ := List.mem_iff_getElem.1 hp
            exact HOK.out t _ (by rw [HLL.out] at ht; exact ht) (by simp [ht])
          have HBD : Hid (∀ (t : Nat) (p : Int × Int), ps[t]? = some p → I64' p.2 ∧ -10000000000 ≤ p.1 ∧ p.1 ≤ 10000000000) := fun t p hp => by
            have h := HALL.out
            rw [List.all_eq_true] at h
            have := validR_bd (h p (List.mem_of_getElem? hp))
            exact ⟨this.1, this.2.1, this.2.2.1⟩
          have HB0 := HB
          go_wp2
          go_loopw [36] (fun i wr => ∃ j : Nat, j ≤ n ∧ i = .int .i64 j ∧ (∀ t, t < j → upB (rowL m t) ps (gt y t) = true) ∧ Below w.heap.size w wr) (fun i _ => n - (intOf i).toNat)
          case atStart => exact ⟨0, Nat.zero_le _, rfl, fun t h => by omega, HB0.out⟩
          case round =>
            clear HB0 HB
            obtain ⟨j, hj, rfl, hok, hb⟩ := hrel
            have HOJ := Lib.hid hok; clear hok
            have HB := Lib.hid hb; clear hb
            by_cases hlt : j < n
            · obtain ⟨rb, ro, ri, rci, hrb, hcr0, hsr0⟩ := (HS.out.below HB.out) j (by rw [HNL.out]; exact hlt)
              cases hrb
              obtain ⟨h1, h2⟩ := HROW.out j hlt
              have hcr : wr.cell? ⟨bm, om + j, none⟩ = some (.slice ri k rci) := by rw [← h1]; exact hcr0
              have HSR : Hid (Sl wr ri (rowL m j)) := hsr0
              obtain ⟨yb, yo, u, rfl, hcu, hu⟩ := (HY.out.below HB.out).at (k := j) (by rw [← HMN.out]; exact hlt)
              have hgu := gt_some' hu.out
              have hy64 := HYB.out j hlt
              rw [hgu] at hy64
              obtain ⟨ub, hub⟩ : ∃ ub, upB (rowL m j) ps u = ub := ⟨_, rfl⟩
              have HAU : Hid (∀ W, Below wr.heap.size wr W → Calls Try.prog 44 #[.slice ri k rci, .slice xa k xc, .int .i64 u] W fun e w' => e = .returned (.bool ub) ∧ Below W.heap.size W w') := fun W hb => by
                have h := addUp_any ri (rowL m j) rci xa ps xc u W (by rw [h1]; exact HLL.out) (by rw [h1]; omega) (HSR.out.below hb) (HX.out.below (HB.out.trans (hb.mono HB.out.size))) h2 HBD.out hy64
                rw [h1, HLL.out, hub] at h
                exact h
              have HUBE : Hid (upB (rowL m j) ps (gt y j) = ub) := by show _ = _; rw [hgu]; exact hub
              have hj0 : (j : Int) < (n : Int) := by omega
              have hj1 : (j : Int) < (y.length : Int) := by rw [← HMN.out]; exact hj0
              clear hcr0 hsr0 hu hgu hub hy64 h1 h2
              cases ub with
              | false =>
                have HD : Hid (makesB m ps y = false) := by
                  show _ = _
                  rw [HD0.out, Bool.and_eq_false_iff]
                  right
                  rw [List.all_eq_false]
                  exact ⟨j, List.mem_range.2 hlt, by rw [HUBE.out]; decide⟩
                go_wp2_with (go_at_call 44; refine (HAU.out _ (Below.refl _ _)).mono ?_; rintro e w2 ⟨rfl, hb2⟩)
                go_ret
                exact ⟨ret_bool HD.out.symm, HB.out.trans (hb2.mono HB.out.size)⟩
              | true =>
                go_wp2_with (go_at_call 44; refine (HAU.out _ (Below.refl _ _)).mono ?_; rintro e w2 ⟨rfl, hb2⟩)
                go_roundw
                case rel => exact ⟨j + 1, by omega, by go_num, fun t ht => by
                  by_cases e : t = j
                  · rw [e]; exact HUBE.out
                  · exact HOJ.out t (by omega), HB.out.trans (hb2.mono HB.out.size)⟩
                case measure => simp [intOf]; omega
            · obtain rfl : j = n := by omega
              have HD : Hid (makesB m ps y = true) := by
                show _ = _
                rw [HD0.out, HALL.out]
                have e : ((List.range j).all fun i => upB (rowL m i) ps (gt y i)) = true := by
                  rw [List.all_eq_true]
                  intro t ht
                  exact HOJ.out t (List.mem_range.1 ht)
                rw [e]; simp
              go_wp2
              go_ret
              exact ⟨ret_bool HD.out.symm, HB.out⟩
end Go.Proofs.Yteoimibefpidoaa
/- What denies a reading: nothing makes it. Plain words. Speaks of no program. -/
namespace Go.Proofs.Yteoimibefpidoaa
open Go.RowKit

theorem left_zero {m : List (List Int)} {z : List Int} (h0 : ∀ c, c < colsM m → dot (colM m c) z = 0) (w : Nat → Int) : sumTo (fun k => gt z k * sumTo (fun c => gt (rowL m k) c * w c) (colsM m)) m.length = 0 := by
  rw [sumTo_congr m.length fun k _ => (sumTo_mul (gt z k) _ (colsM m)).symm, sumTo_swap]
  refine sumZ _ fun c hc => ?_
  have e4 : sumTo (fun k => gt z k * (gt (rowL m k) c * w c)) m.length = w c * dot (colM m c) z := by
    unfold dot
    rw [colM_length, ← sumTo_mul]
    refine sumTo_congr _ fun k hk => ?_
    rw [gt_colM hk]
    show _ = w c * (gt (rowL m k) c * _)
    grind
  rw [e4, h0 c hc, Int.mul_zero]
def upD (ps : List (Int × Int)) : Nat → Int
  | 0 => 1
  | k + 1 => upD ps k * (ps[k]?.getD (0, 1)).2
theorem upN_snd (row : List Int) (ps : List (Int × Int)) : ∀ k, (upN row ps k).2 = upD ps k
  | 0 => rfl
  | k + 1 => by
    show (upN row ps k).2 * (ps[k]?.getD (0, 1)).2 = upD ps k * (ps[k]?.getD (0, 1)).2
    rw [upN_snd row ps k]
def bN : Nat → Nat
  | 0 => 1
  | k + 1 => bN k * 400
def tN : Nat → Nat
  | 0 => 0
  | k + 1 => tN k * 400 + bN k
theorem bt_all : ∀ k, k < 11 → 10000000000 * tN k < 170141183460469231731687303715884105728 ∧ 1000000 * bN k < 170141183460469231731687303715884105728 := by decide
theorem upD_bd {ps : List (Int × Int)} (hv : ∀ p ∈ ps, validR p.1 p.2 = true) : ∀ k, k ≤ ps.length → 1 ≤ upD ps k ∧ upD ps k ≤ (bN k : Int)
  | 0, _ => by unfold upD bN; omega
  | k + 1, hk => by
    obtain ⟨i1, i2⟩ := upD_bd hv k (by omega)
    obtain ⟨p, hp⟩ : ∃ p, ps[k]? = some p := ⟨ps[k]'(by omega), by simp⟩
    obtain ⟨_, _, _, d1, d2⟩ := validR_bd (hv p (List.mem_of_getElem? hp))
    unfold upD bN
    rw [hp]
    show 1 ≤ upD ps k * p.2 ∧ upD ps k * p.2 ≤ ((bN k * 400 : Nat) : Int)
    have h1 : 1 * 1 ≤ upD ps k * p.2 := Int.mul_le_mul i1 d1 (by omega) (by omega)
    have h2 : upD ps k * p.2 ≤ (bN k : Int) * 400 := Int.mul_le_mul i2 d2 (by omega) (by omega)
    omega
theorem upN_bd {row : List Int} {ps : List (Int × Int)} (hv : ∀ p ∈ ps, validR p.1 p.2 = true) (hr : ∀ k, k < ps.length → -1 ≤ gt row k ∧ gt row k ≤ 1) : ∀ k, k ≤ ps.length → -(10000000000 * (tN k : Int)) ≤ (upN row ps k).1 ∧ (upN row ps k).1 ≤ 10000000000 * (tN k : Int)
  | 0, _ => by show -(10000000000 * ((tN 0 : Nat) : Int)) ≤ 0 ∧ (0 : Int) ≤ 10000000000 * ((tN 0 : Nat) : Int); unfold tN; omega
  | k + 1, hk => by
    have ih := upN_bd hv hr k (by omega)
    obtain ⟨i1, i2⟩ := upD_bd hv k (by omega)
    obtain ⟨p, hp⟩ : ∃ p, ps[k]? = some p := ⟨ps[k]'(by omega), by simp⟩
    obtain ⟨_, n1, n2, d1, d2⟩ := validR_bd (hv p (List.mem_of_getElem? hp))
    have hu := mul_le (hr k (by omega)) (show -10000000000 ≤ p.1 ∧ p.1 ≤ 10000000000 from ⟨n1, n2⟩)
    have h1 := mul_le ih (show -400 ≤ p.2 ∧ p.2 ≤ 400 by omega)
    have h2 := mul_le (show -(bN k : Int) ≤ upD ps k ∧ upD ps k ≤ (bN k : Int) by omega) hu
    have e : (upN row ps (k + 1)).1 = (upN row ps k).1 * p.2 + upD ps k * (gt row k * p.1) := by
      show (upN row ps k).1 * (ps[k]?.getD (0, 1)).2 + (upN row ps k).2 * (gt row k * (ps[k]?.getD (0, 1)).1) = _
      rw [hp, upN_snd]; rfl
    have et : ((tN (k + 1) : Nat) : Int) = (tN k : Int) * 400 + bN k := by show ((tN k * 400 + bN k : Nat) : Int) = _; omega
    rw [e, et]
    omega
theorem wide_inj {a b : Int} (ha : -170141183460469231731687303715884105728 < a ∧ a < 170141183460469231731687303715884105728) (hb : -170141183460469231731687303715884105728 < b ∧ b < 170141183460469231731687303715884105728) (h : wideEq a b = true) : a = b := by
  unfold wideEq at h
  simp only [Bool.and_eq_true, decide_eq_true_eq] at h
  obtain ⟨h1, h2⟩ := h
  unfold hi64 at h1
  unfold lo64 at h2
  omega
/-- What is denied is not possible, and no picture makes it. -/
theorem denies_no {m : List (List Int)} {y z : List Int} (h : deniesB m y z = true) : possV m y = (false, 0) ∧ ∀ ps, makesB m ps y = false := by
  unfold deniesB at h
  simp only [Bool.and_eq_true, decide_eq_true_eq] at h
  obtain ⟨⟨⟨⟨hr, hza⟩, hb0⟩, hbz⟩, hd⟩ := h
  obtain ⟨hv, hyl, hyb⟩ := readE_ok hr
  obtain ⟨hm1, hm6, hc1, hc10, hrows⟩ := validM_of hv
  obtain ⟨_, hzl, _, hbe⟩ := backV_0 hb0
  rw [hbe] at hbz
  have h0 : ∀ c, c < colsM m → dot (colM m c) z = 0 := fun c hc => by
    rw [← gt_backL hc]
    exact allZ_gt hbz (by rw [backL_length]; exact hc)
  constructor
  · rw [possV_of hr]
    cases hp : possB (redO m y).rows (redO m y).piv.length (colsM m) with
    | false => rfl
    | true =>
      exfalso
      have hm := solW_makes hv hyl hyb hp
      have e2 := left_zero h0 (solW m y)
      have e1 : sumTo (fun k => gt z k * sumTo (fun c => gt (rowL m k) c * solW m y c) (colsM m)) m.length = (redO m y).dv * dot z y := by
        unfold dot
        rw [hzl, ← sumTo_mul]
        refine sumTo_congr _ fun k hk => ?_
        rw [hm k hk]; grind
      rw [e2] at e1
      have hpos := (redO_fin hv hyl hyb).pos
      rcases Int.mul_eq_zero.mp e1.symm with e | e
      · omega
      · exact hd e
  · intro ps
    cases hmk : makesB m ps y with
    | false => rfl
    | true =>
      exfalso
      unfold makesB at hmk
      simp only [Bool.and_eq_true, decide_eq_true_eq, List.all_eq_true] at hmk
      obtain ⟨⟨⟨_, hpl⟩, hpv⟩, hup⟩ := hmk
      have hk11 := bt_all ps.length (by omega)
      have hdb := upD_bd hpv ps.length (Nat.le_refl _)
      have heq : ∀ i, i < m.length → (upN (rowL m i) ps ps.length).1 = upD ps ps.length * gt y i := fun i hi => by
        have hu := hup i (List.mem_range.2 hi)
        unfold upB at hu
        rw [upN_snd] at hu
        have hrow := hrows _ (rowL_mem hi)
        have hnb := upN_bd (row := rowL m i) hpv (fun k hk => gt_in hrow.2 (by omega)) ps.length (Nat.le_refl _)
        have hyi := gt_in hyb (k := i) (by omega)
        have hdy := mul_le (show -(bN ps.length : Int) ≤ upD ps ps.length ∧ upD ps ps.length ≤ (bN ps.length : Int) by omega) hyi
        exact wide_inj (by omega) (by omega) hu
      have hS : ∀ k, k ≤ ps.length → sumTo (fun i => gt z i * (upN (rowL m i) ps k).1) m.length = 0 := by
        intro k
        induction k with
        | zero => intro _; exact sumZ _ fun i _ => by show gt z i * 0 = 0; omega
        | succ k ih =>
          intro hk
          have ih := ih (by omega)
          have e : sumTo (fun i => gt z i * (upN (rowL m i) ps (k + 1)).1) m.length = (ps[k]?.getD (0, 1)).2 * sumTo (fun i => gt z i * (upN (rowL m i) ps k).1) m.length + (upD ps k * (ps[k]?.getD (0, 1)).1) * dot (colM m k) z := by
            unfold dot
            rw [colM_length, ← sumTo_mul, ← sumTo_mul, ← sumTo_add]
            refine sumTo_congr _ fun i hi => ?_
            rw [gt_colM hi]
            show gt z i * ((upN (rowL m i) ps k).1 * (ps[k]?.getD (0, 1)).2 + (upN (rowL m i) ps k).2 * (gt (rowL m i) k * (ps[k]?.getD (0, 1)).1)) = _ + _ * (gt (rowL m i) k * gt z i)
            rw [upN_snd]
            generalize (upN (rowL m i) ps k).1 = a
            grind
          rw [e, ih, h0 k (by omega)]; omega
      have hS := hS ps.length (Nat.le_refl _)
      have e1 : sumTo (fun i => gt z i * (upN (rowL m i) ps ps.length).1) m.length = upD ps ps.length * dot z y := by
        unfold dot
        rw [hzl, ← sumTo_mul]
        refine sumTo_congr _ fun k hk => ?_
        rw [heq k hk]; grind
      rw [hS] at e1
      rcases Int.mul_eq_zero.mp e1.symm with e | e
      · omega
      · exact hd e
end Go.Proofs.Yteoimibefpidoaa
/- Sees of the answers: a contract. -/
namespace Go.Proofs.Yteoimibefpidoaa
open Go.RowKit

/-- What Sees answers, of the first k fractions. -/
def seesN (row : List Int) (ps : List (Int × Int)) : Nat → Bool × Nat × Nat
  | 0 => (false, 0, 1)
  | k + 1 => if gt row k = 0 then seesN row ps k else ((plusR (seesN row ps k).1 (seesN row ps k).2.1 (seesN row ps k).2.2 (decide ((ps[k]?.getD (0, 1)).1 < 0) != decide (gt row k < 0)) ((gt row k).natAbs * (ps[k]?.getD (0, 1)).1.natAbs) (ps[k]?.getD (0, 1)).2.toNat).1, (plusR (seesN row ps k).1 (seesN row ps k).2.1 (seesN row ps k).2.2 (decide ((ps[k]?.getD (0, 1)).1 < 0) != decide (gt row k < 0)) ((gt row k).natAbs * (ps[k]?.getD (0, 1)).1.natAbs) (ps[k]?.getD (0, 1)).2.toNat).2, (seesN row ps k).2.2 * (ps[k]?.getD (0, 1)).2.toNat)
theorem plusR_le (s : Bool) (N D : Nat) (s2 : Bool) (N2 D2 : Nat) : (plusR s N D s2 N2 D2).2 ≤ N * D2 + N2 * D := by
  unfold plusR
  split
  · exact Nat.le_refl _
  · split
    · show N * D2 - N2 * D ≤ _; omega
    · show N2 * D - N * D2 ≤ _; omega
theorem small_ten {k : Nat} (hk : k ≤ 10) : 10000000000 * tN k < 1000000000 ^ 100 ∧ bN k < 1000000000 ^ 100 := by
  have h := bt_all k (by omega)
  have e : 170141183460469231731687303715884105728 < 1000000000 ^ 100 := by decide
  omega
theorem sees_bd {row : List Int} {ps : List (Int × Int)} (hv : ∀ p ∈ ps, validR p.1 p.2 = true) (hr : ∀ k, k < ps.length → -1 ≤ gt row k ∧ gt row k ≤ 1) : ∀ k, k ≤ ps.length → (seesN row ps k).2.1 ≤ 10000000000 * tN k ∧ 1 ≤ (seesN row ps k).2.2 ∧ (seesN row ps k).2.2 ≤ bN k
  | 0, _ => by unfold seesN tN bN; exact ⟨Nat.zero_le _, Nat.le_refl _, Nat.le_refl _⟩
  | k + 1, hk => by
    obtain ⟨i1, i2, i3⟩ := sees_bd hv hr k (by omega)
    obtain ⟨p, hp⟩ : ∃ p, ps[k]? = some p := ⟨ps[k]'(by omega), by simp⟩
    obtain ⟨_, n1, n2, d1, d2⟩ := validR_bd (hv p (List.mem_of_getElem? hp))
    have hrk := hr k (by omega)
    have et : tN (k + 1) = tN k * 400 + bN k := rfl
    have eb : bN (k + 1) = bN k * 400 := rfl
    by_cases hu : gt row k = 0
    · have es : seesN row ps (k + 1) = seesN row ps k := by rw [show seesN row ps (k + 1) = if gt row k = 0 then seesN row ps k else _ from rfl, if_pos hu]
      rw [es, et, eb]
      exact ⟨by omega, i2, by omega⟩
    · have es : seesN row ps (k + 1) = ((plusR (seesN row ps k).1 (seesN row ps k).2.1 (seesN row ps k).2.2 (decide (p.1 < 0) != decide (gt row k < 0)) ((gt row k).natAbs * p.1.natAbs) p.2.toNat).1, (plusR (seesN row ps k).1 (seesN row ps k).2.1 (seesN row ps k).2.2 (decide (p.1 < 0) != decide (gt row k < 0)) ((gt row k).natAbs * p.1.natAbs) p.2.toNat).2, (seesN row ps k).2.2 * p.2.toNat) := by rw [show seesN row ps (k + 1) = if gt row k = 0 then seesN row ps k else _ from rfl, if_neg hu, hp]; rfl
      have hle := plusR_le (seesN row ps k).1 (seesN row ps k).2.1 (seesN row ps k).2.2 (decide (p.1 < 0) != decide (gt row k < 0)) ((gt row k).natAbs * p.1.natAbs) p.2.toNat
      have a1 : (seesN row ps k).2.1 * p.2.toNat ≤ (10000000000 * tN k) * 400 := Nat.mul_le_mul i1 (by omega)
      have a2 : (gt row k).natAbs * p.1.natAbs ≤ 1 * 10000000000 := Nat.mul_le_mul (by omega) (by omega)
      have a3 : (gt row k).natAbs * p.1.natAbs * (seesN row ps k).2.2 ≤ 10000000000 * bN k := Nat.mul_le_mul (by omega) i3
      have a4 : (seesN row ps k).2.2 * p.2.toNat ≤ bN k * 400 := Nat.mul_le_mul i3 (by omega)
      have a5 : 1 * 1 ≤ (seesN row ps k).2.2 * p.2.toNat := Nat.mul_le_mul i2 (by omega)
      rw [es, et, eb]
      refine ⟨Nat.le_trans hle ?_, a5, a4⟩
      have := Nat.add_le_add a1 a3
      omega
set_option maxRecDepth 1000000 in
set_option maxHeartbeats 6400000 in
theorem sees_any (ra : Option Addr) (row : List Int) (rc : Nat) (xa : Option Addr) (ps : List (Int × Int)) (xc : Nat) (w : World) (hl : ps.length = row.length) (hl2 : row.length ≤ 10) (hr : Sl w ra row) (hx : Rr w xa ps)
    (hb : ∀ k, k < ps.length → -1 ≤ gt row k ∧ gt row k ≤ 1) (hv : ∀ p ∈ ps, validR p.1 p.2 = true) :
    Calls Try.prog 47 #[.slice ra row.length rc, .slice xa ps.length xc] w (RatPost (seesN row ps ps.length).1 (seesN row ps ps.length).2.1 (seesN row ps ps.length).2.2 w) := by
  have HR := Lib.hid hr
  have HX := Lib.hid hx
  have HBD := Lib.hid hb
  have HVV := Lib.hid hv
  have HSB := Lib.hid (fun k hk => sees_bd (row := row) hv hb k hk)
  have HW0 : Hid (∀ V, Calls Try.prog 48 #[.int .i64 0] V (RatPost false 0 1 V)) := fun V => whole_any 0 V ⟨by decide, by decide⟩
  obtain ⟨L, hL⟩ : ∃ L, ps.length = L := ⟨_, rfl⟩
  have HLL := Lib.hid hL
  have HRL : Hid (row.length = L) := by show _ = _; rw [← hl, hL]
  have hL10 : L ≤ 10 := by omega
  rw [← hl, hL]
  rw [hL] at HSB HBD
  clear hr hx hb hv hl hl2 hL
  obtain ⟨V, hV⟩ : ∃ V, w.alloc (.cells #[.bool false, .slice none 0 0, .slice none 0 0] 64) = V := ⟨_, rfl⟩
  have HBV : Hid (Below w.heap.size w V) := hV ▸ (Below.refl _ _).alloc (Nat.le_refl _) _
  have HR4 : Hid (Bx3 V w.heap.size (.bool false) (.slice none 0 0) (.slice none 0 0)) := hV ▸ Bx3.new w _ _ _ _
  go_enter Try.func47, Try.ntmps47
  go_wp2_with (go_at_call 48; refine (HW0.out V).mono ?_; rintro e w2 ⟨hb2, oa, oc, za, zc, rfl, hs1, hs2⟩; have HB2 := Lib.hid hb2; have HS1 := Lib.hid hs1; have HS2 := Lib.hid hs2; clear hb2 hs1 hs2)
  clear hV
  obtain ⟨W0, hW0⟩ : ∃ W0, w2.alloc (.cells #[.bool false, .slice oa (digs 0).length oc, .slice za (digs 1).length zc] 64) = W0 := ⟨_, rfl⟩
  have H50 : Hid (Bx3 W0 w2.heap.size (.bool false) (.slice oa (digs 0).length oc) (.slice za (digs 1).length zc)) := hW0 ▸ Bx3.new w2 _ _ _ _
  have HBW0 : Hid (Below w2.heap.size w2 W0) := hW0 ▸ (Below.refl _ _).alloc (Nat.le_refl _) _
  have H40 : Hid (Bx3 W0 w.heap.size (.bool false) (.slice none 0 0) (.slice none 0 0)) := (HR4.out.next HB2.out).next HBW0.out
  have HS10 := Lib.hid (HS1.out.below HBW0.out)
  have HS20 := Lib.hid (HS2.out.below HBW0.out)
  have HWW0 : Hid (Below w.heap.size w W0) := (HBV.out.trans (HB2.out.mono HBV.out.size)).trans (HBW0.out.mono (Nat.le_trans HBV.out.size HB2.out.size))
  have hne : w.heap.size < w2.heap.size := Nat.lt_of_lt_of_le (by have := HR4.out.lt; exact this) HB2.out.size
  rw [hW0]
  clear hW0 HBW0 HR4 HB2 HS1 HS2 HBV
  generalize w2.heap.size = b5 at *
  go_loopw [11] (fun i wr => ∃ (k : Nat) (sa : Option Addr) (sc : Nat) (ta : Option Addr) (tc : Nat), k ≤ L ∧ i = .int .i64 k ∧ Bx3 wr b5 (.bool (seesN row ps k).1) (.slice sa (digs (seesN row ps k).2.1).length sc) (.slice ta (digs (seesN row ps k).2.2).length tc) ∧ Sl wr sa (digs (seesN row ps k).2.1) ∧ Sl wr ta (digs (seesN row ps k).2.2) ∧ Bx3 wr w.heap.size (.bool false) (.slice none 0 0) (.slice none 0 0) ∧ Below w.heap.size w wr) (fun i _ => L - (intOf i).toNat)
  case atStart => exact ⟨0, oa, oc, za, zc, Nat.zero_le _, rfl, H50.out, HS10.out, HS20.out, H40.out, HWW0.out⟩
  case round =>
    clear H50 HS10 HS20 H40 HWW0
    obtain ⟨k, sa, sc, ta, tc, hk, rfl, h5, hsa, hta, h4, hbw⟩ := hrel
    have H5 := Lib.hid h5; clear h5
    have HSA := Lib.hid hsa; clear hsa
    have HTA := Lib.hid hta; clear hta
    have H4 := Lib.hid h4; clear h4
    have HBW := Lib.hid hbw; clear hbw
    by_cases hlt : k < L
    · obtain ⟨rb, ro, u, rfl, hcu, hu⟩ := (HR.out.below HBW.out).at (k := k) (by rw [HRL.out]; exact hlt)
      have hgu := gt_some' hu.out
      have HGU := Lib.hid hgu
      obtain ⟨⟨p1, p2⟩, hp⟩ : ∃ p, ps[k]? = some p := ⟨ps[k]'(by rw [HLL.out]; exact hlt), by simp [HLL.out, hlt]⟩
      have HPK := Lib.hid hp
      obtain ⟨xb, xo, rfl, x0, x1⟩ := (HX.out.below HBW.out) k _ hp
      dsimp only at x0 x1
      obtain ⟨_, n1, n2, d1, d2⟩ := validR_bd (HVV.out _ (List.mem_of_getElem? hp))
      dsimp only at n1 n2 d1 d2
      have hub := HBD.out k hlt
      rw [hgu] at hub
      have hk0 : (k : Int) < (L : Int) := by omega
      clear hu hgu hp
      by_cases hu0 : u = 0
      · have HN : Hid (seesN row ps (k + 1) = seesN row ps k) := by show _ = _; rw [show seesN row ps (k + 1) = if gt row k = 0 then seesN row ps k else _ from rfl, HGU.out, if_pos hu0]
        have y0 : (u == 0) = true := by simp [hu0]
        have y1 : (u != 0) = false := by simp [hu0]
        clear hub n1 n2 d1 d2 hu0
        go_wp2
        go_roundw
        case rel => exact ⟨k + 1, sa, sc, ta, tc, by omega, by go_num, by rw [HN.out]; exact H5.out, by rw [HN.out]; exact HSA.out, by rw [HN.out]; exact HTA.out, H4.out, HBW.out⟩
        case measure => simp [intOf]; omega
      · have y0 : (u == 0) = false := by simpa using hu0
        have y1 : (u != 0) = true := by simpa using hu0
        obtain ⟨b1, b2, b3⟩ := HSB.out k (by omega)
        have hten := small_ten (k := k) (by omega)
        have hpu : u.natAbs * p1.natAbs ≤ 1 * 10000000000 := Nat.mul_le_mul (by omega) (by omega)
        have big : 10000000000 < 1000000000 ^ 100 := by decide
        have HN : Hid (seesN row ps (k + 1) = ((plusR (seesN row ps k).1 (seesN row ps k).2.1 (seesN row ps k).2.2 (decide (p1 < 0) != decide (u < 0)) (u.natAbs * p1.natAbs) p2.toNat).1, (plusR (seesN row ps k).1 (seesN row ps k).2.1 (seesN row ps k).2.2 (decide (p1 < 0) != decide (u < 0)) (u.natAbs * p1.natAbs) p2.toNat).2, (seesN row ps k).2.2 * p2.toNat)) := by show _ = _; rw [show seesN row ps (k + 1) = if gt row k = 0 then seesN row ps k else _ from rfl, HGU.out, if_neg hu0, HPK.out]; rfl
        have HEX : Hid (∀ W, Calls Try.prog 92 #[.agg #[.int .i64 p1, .int .i64 p2]] W (RatPost (decide (p1 < 0)) p1.natAbs p2.toNat W)) := fun W => exact_any p1 p2 W (by omega) (by omega)
        have hpl : (digs p1.natAbs).length ≤ 1000 := Nat.le_trans (digs_len_le (k := 100) (Nat.lt_of_le_of_lt (show p1.natAbs ≤ 10000000000 by omega) big)) (by decide)
        have HTM : Hid (∀ (W : World) (ea : Option Addr) (ec : Nat) (fa : Option Addr) (fc : Nat), Sl W ea (digs p1.natAbs) → Sl W fa (digs p2.toNat) → Calls Try.prog 91 #[.int .i64 u, .agg #[.bool (decide (p1 < 0)), .slice ea (digs p1.natAbs).length ec, .slice fa (digs p2.toNat).length fc]] W (RatPost (decide (p1 < 0) != decide (u < 0)) (u.natAbs * p1.natAbs) p2.toNat W)) := fun W ea ec fa fc a b => timesR_any u (decide (p1 < 0)) p1.natAbs p2.toNat ea ec fa fc W (by omega) hpl a b
        obtain ⟨S, hS0⟩ : ∃ S, seesN row ps k = S := ⟨_, rfl⟩
        obtain ⟨s, N, D⟩ := S
        rw [hS0] at H5 HSA HTA HN b1 b2 b3
        dsimp only at H5 HSA HTA HN b1 b2 b3
        obtain ⟨s2, hs2⟩ : ∃ s2, (decide (p1 < 0) != decide (u < 0)) = s2 := ⟨_, rfl⟩
        obtain ⟨s1, hs1⟩ : ∃ s1, decide (p1 < 0) = s1 := ⟨_, rfl⟩
        obtain ⟨N2, hN2⟩ : ∃ N2, u.natAbs * p1.natAbs = N2 := ⟨_, rfl⟩
        obtain ⟨N1, hN1⟩ : ∃ N1, p1.natAbs = N1 := ⟨_, rfl⟩
        obtain ⟨D2, hD2⟩ : ∃ D2, p2.toNat = D2 := ⟨_, rfl⟩
        rw [hs2, hN2, hD2] at HN HTM
        rw [hs1, hN1] at HTM HEX
        rw [hD2] at HEX
        have c1 : Sm N := Nat.lt_of_le_of_lt b1 hten.1
        have c2 : Sm D := Nat.lt_of_le_of_lt b3 hten.2
        have c3 : Sm N2 := by unfold Sm; omega
        have c4 : Sm D2 := by unfold Sm; omega
        have HPS : Hid (∀ (W : World) (ga : Option Addr) (gc : Nat) (ha : Option Addr) (hc : Nat), Below wr.heap.size wr W → Sl W ga (digs N2) → Sl W ha (digs D2) → Calls Try.prog 90 #[.agg #[.bool s, .slice sa (digs N).length sc, .slice ta (digs D).length tc], .agg #[.bool s2, .slice ga (digs N2).length gc, .slice ha (digs D2).length hc]] W (RatPost (plusR s N D s2 N2 D2).1 (plusR s N D s2 N2 D2).2 (D * D2) W)) := fun W ga gc ha hc h a b => plusR_any s N D sa sc ta tc s2 N2 D2 ga gc ha hc W c1 c2 c3 c4 (HSA.out.below h) (HTA.out.below h) a b
        obtain ⟨⟨sp, NP⟩, hPR⟩ : ∃ q, plusR s N D s2 N2 D2 = q := ⟨_, rfl⟩
        obtain ⟨DP, hDP⟩ : ∃ DP, D * D2 = DP := ⟨_, rfl⟩
        rw [hPR, hDP] at HN HPS
        dsimp only at HN HPS
        have HVW : Hid (∀ W, Below wr.heap.size wr W → (W.cell? ⟨b5, 0, none⟩ = some (.bool s) ∧ W.cell? ⟨b5, 1, none⟩ = some (.slice sa (digs N).length sc) ∧ W.cell? ⟨b5, 2, none⟩ = some (.slice ta (digs D).length tc) ∧ W.frozen? ⟨b5, 0, none⟩ = false ∧ W.frozen? ⟨b5, 1, none⟩ = false ∧ W.frozen? ⟨b5, 2, none⟩ = false) ∧ W.cell? ⟨xb, xo + k * 2, none⟩ = some (.int .i64 p1) ∧ W.cell? ⟨xb, xo + k * 2 + 1, none⟩ = some (.int .i64 p2)) := fun W h => by
          have a := H5.out.next h
          exact ⟨⟨a.c0, a.c1, a.c2, a.f0, a.f1, a.f2⟩, (h.cell (p := ⟨xb, xo + k * 2, none⟩) (cell_lt x0)).trans x0, (h.cell (p := ⟨xb, xo + k * 2 + 1, none⟩) (cell_lt x1)).trans x1⟩
        clear hub n1 n2 d1 d2 hu0 b1 b2 b3 hten hpu big hpl hS0 hs2 hs1 hN2 hN1 hD2 c1 c2 c3 c4 hPR hDP x0 x1
        go_wp2
        rename_i aK
        have HKO := Lib.hid aK
        clear aK
        refine wp_region_G (S := untilS 9 (fun _ => True) (fun W => Below wr.heap.size wr W)) (by kernel_rfl) (untilS_all ⟨trivial, (Below.refl _ _).drew⟩ _) ?_
        intro hc hS
        refine wpAnyG_take (i := 0) (oi := ?oiz0) (v := ?vz0) ?hiz0 (by kernel_rfl) (by kernel_rfl) (by kernel_rfl) ?hQz0 (untilS_set (by decide)) hc ?hyz0 hS ?restz0
        case hiz0 => (simp only [List.getElem?_toArray, List.getElem?_cons_zero]; exact rfl)
        case hQz0 => exact fun _ _ _ h => h
        case hyz0 => (refine Or.inl ⟨rfl, ?_⟩; (rintro w ⟨L, hsd, hL, _, hB⟩; replace hB := hB (hsd.not (i := 0) (by kernel_rfl) hL); obtain ⟨⟨_, _, _, _, _, _⟩, _, _⟩ := HVW.out w hB; clear hsd hL hB; go_simp; (try with_reducible rfl)))
        clear hc hS; intro hc hS
        simp only [Act.put, List.setIfInBounds_toArray, List.set_cons_zero, List.set_cons_succ]
        refine wpAnyG_take (i := 1) (oi := ?oiz1) (v := ?vz1) ?hiz1 (by kernel_rfl) (by kernel_rfl) (by kernel_rfl) ?hQz1 (untilS_set (by decide)) hc ?hyz1 hS ?restz1
        case hiz1 => (simp only [List.getElem?_toArray, List.getElem?_cons_succ, List.getElem?_cons_zero]; exact rfl)
        case hQz1 => exact fun _ _ _ h => h
        case hyz1 => (refine Or.inl ⟨rfl, ?_⟩; (intro w _; go_simp; (try with_reducible rfl)))
        clear hc hS; intro hc hS
        simp only [Act.put, List.setIfInBounds_toArray, List.set_cons_zero, List.set_cons_succ]
        refine wpAnyG_take (i := 2) (oi := ?oiz2) (v := ?vz2) ?hiz2 (by kernel_rfl) (by kernel_rfl) (by kernel_rfl) ?hQz2 (untilS_set (by decide)) hc ?hyz2 hS ?restz2
        case hiz2 => (simp only [List.getElem?_toArray, List.getElem?_cons_succ, List.getElem?_cons_zero]; exact rfl)
        case hQz2 => exact fun _ _ _ h => h
        case hyz2 => (refine Or.inl ⟨rfl, ?_⟩; (intro w _; go_simp; (try with_reducible rfl)))
        clear hc hS; intro hc hS
        simp only [Act.put, List.setIfInBounds_toArray, List.set_cons_zero, List.set_cons_succ]
        refine wpAnyG_take (i := 3) (oi := ?oiz3) (v := ?vz3) ?hiz3 (by kernel_rfl) (by kernel_rfl) (by kernel_rfl) ?hQz3 (untilS_set (by decide)) hc ?hyz3 hS ?restz3
        case hiz3 => (simp only [List.getElem?_toArray, List.getElem?_cons_succ, List.getElem?_cons_zero]; exact rfl)
        case hQz3 => exact fun _ _ _ h => h
        case hyz3 => (refine Or.inl ⟨rfl, ?_⟩; (intro w _; go_simp; (try with_reducible rfl)))
        clear hc hS; intro hc hS
        simp only [Act.put, List.setIfInBounds_toArray, List.set_cons_zero, List.set_cons_succ]
        refine wpAnyG_take (i := 4) (oi := ?oiz4) (v := ?vz4) ?hiz4 (by kernel_rfl) (by kernel_rfl) (by kernel_rfl) ?hQz4 (untilS_set (by decide)) hc ?hyz4 hS ?restz4
        case hiz4 => (simp only [List.getElem?_toArray, List.getElem?_cons_succ, List.getElem?_cons_zero]; exact rfl)
        case hQz4 => exact fun _ _ _ h => h
        case hyz4 => (refine Or.inl ⟨rfl, ?_⟩; (intro w _; go_simp; (try with_reducible rfl)))
        clear hc hS; intro hc hS
        simp only [Act.put, List.setIfInBounds_toArray, List.set_cons_zero, List.set_cons_succ]
        refine wpAnyG_take (i := 5) (oi := ?oiz5) (v := ?vz5) ?hiz5 (by kernel_rfl) (by kernel_rfl) (by kernel_rfl) ?hQz5 (untilS_set (by decide)) hc ?hyz5 hS ?restz5
        case hiz5 => (simp only [List.getElem?_toArray, List.getElem?_cons_succ, List.getElem?_cons_zero]; exact rfl)
        case hQz5 => exact fun _ _ _ h => h
        case hyz5 => (refine Or.inl ⟨rfl, ?_⟩; (rintro w ⟨L, hsd, hL, _, hB⟩; replace hB := hB (hsd.not (i := 5) (by kernel_rfl) hL); obtain ⟨⟨_, _, _, _, _, _⟩, _, _⟩ := HVW.out w hB; clear hsd hL hB; go_simp; (try with_reducible rfl)))
        clear hc hS; intro hc hS
        simp only [Act.put, List.setIfInBounds_toArray, List.set_cons_zero, List.set_cons_succ]
        refine wpAnyG_only (i := 6) (o := ?oiz6) (by kernel_rfl) ?hiz6 hc ?restz6
        case hiz6 => (simp only [List.getElem?_toArray, List.getElem?_cons_succ, List.getElem?_cons_zero]; exact rfl)
        clear hc; intro hc K hK; have HK := Lib.hid hK; clear hK
        go_simp
        go_at_call 92
        refine (HEX.out _).mono ?_
        rintro e w5 ⟨hb5, ea, ec, fa, fc, rfl, hs5, hs6⟩
        have HB5 : Hid (Below wr.heap.size wr w5) := (Below.refl wr.heap.size wr).drew.trans (hb5.mono (Below.refl wr.heap.size wr).drew.size)
        have HS5 := Lib.hid hs5; have HS6 := Lib.hid hs6
        clear hb5
        refine HK.out _ _ (untilS_all ⟨trivial, HB5.out⟩ _) ?_
        clear HK K hS; intro hS
        refine wpAnyG_only (i := 7) (o := ?oiz7) (by kernel_rfl) ?hiz7 hc ?restz7
        case hiz7 => (simp only [List.getElem?_toArray, List.getElem?_cons_succ, List.getElem?_cons_zero]; exact rfl)
        clear hc; intro hc K hK; have HK := Lib.hid hK; clear hK
        go_simp
        go_at_call 91
        refine (HTM.out _ ea ec fa fc HS5.out HS6.out).mono ?_
        rintro e w6 ⟨hb6, ga, gc, ha, hc2, rfl, hs7, hs8⟩
        have HB6 : Hid (Below wr.heap.size wr w6) := HB5.out.trans (hb6.mono HB5.out.size)
        have HS7 := Lib.hid hs7; have HS8 := Lib.hid hs8
        clear hb6
        refine HK.out _ _ (untilS_all ⟨trivial, HB6.out⟩ _) ?_
        clear HK K hS; intro hS
        refine wpAnyG_only (i := 8) (o := ?oiz8) (by kernel_rfl) ?hiz8 hc ?restz8
        case hiz8 => (simp only [List.getElem?_toArray, List.getElem?_cons_succ, List.getElem?_cons_zero]; exact rfl)
        clear hc; intro hc K hK; have HK := Lib.hid hK; clear hK
        go_simp
        go_at_call 90
        refine (HPS.out _ ga gc ha hc2 HB6.out HS7.out HS8.out).mono ?_
        rintro e w7 ⟨hb7, pa, pc, qa, qc, rfl, hs9, hs10⟩
        have HB7 : Hid (Below wr.heap.size wr w7) := HB6.out.trans (hb7.mono HB6.out.size)
        have HS9 := Lib.hid hs9; have HS10 := Lib.hid hs10
        clear hb7
        refine HK.out _ _ (untilS_all ⟨trivial, HB7.out⟩ _) ?_
        clear HK K hS; intro hS
        obtain ⟨⟨_, _, _, _, _, _⟩, _, _⟩ := HVW.out w7 HB7.out
        refine wpAnyG_only (i := 9) (o := ?oiz9) (by kernel_rfl) ?hiz9 hc ?restz9
        case hiz9 => (simp only [List.getElem?_toArray, List.getElem?_cons_succ, List.getElem?_cons_zero]; exact rfl)
        clear hc; intro hc K hK; have HK := Lib.hid hK; clear hK
        go_simp
        refine HK.out _ _ (untilS_past trivial (by first | rfl | decide)) ?_
        clear HK K hS; intro hS
        refine wpAnyG_done (by kernel_rfl) ?_ _
        refine HKO.out _ _ ?_
        clear HKO hS hc
        have HX5 := Lib.hid (H5.out.next HB7.out)
        have HFX := Lib.hid (HX5.out.stored (.bool sp) (.slice pa (digs NP).length pc) (.slice qa (digs DP).length qc))
        have HSN := Lib.hid (sl_box3 HS9.out HX5.out (.bool sp) (.slice pa (digs NP).length pc) (.slice qa (digs DP).length qc))
        have HSD := Lib.hid (sl_box3 HS10.out HX5.out (.bool sp) (.slice pa (digs NP).length pc) (.slice qa (digs DP).length qc))
        have HF4 := Lib.hid ((H4.out.next HB7.out).other (show w.heap.size ≠ b5 by omega) (.bool sp) (.slice pa (digs NP).length pc) (.slice qa (digs DP).length qc))
        have HFB := Lib.hid (below_box3 (HBW.out.trans (HB7.out.mono HBW.out.size)) (Nat.le_of_lt hne) (.bool sp) (.slice pa (digs NP).length pc) (.slice qa (digs DP).length qc))
        go_wp2
        go_roundw
        case rel => exact ⟨k + 1, pa, pc, qa, qc, by omega, by go_num, by rw [HN.out]; exact HFX.out, by rw [HN.out]; exact HSN.out, by rw [HN.out]; exact HSD.out, HF4.out, HFB.out⟩
        case measure => simp [intOf]; omega
    · obtain rfl : k = L := by omega
      obtain ⟨S, hS0⟩ : ∃ S, seesN row ps k = S := ⟨_, rfl⟩
      obtain ⟨s, N, D⟩ := S
      rw [hS0] at H5 HSA HTA
      dsimp only at H5 HSA HTA
      have HSS := Lib.hid hS0
      clear hS0
      obtain ⟨_, _, _, _, _, _, _⟩ := H5.out
      obtain ⟨_, _, _, _, _, _, _⟩ := H4.out
      have hi0 : ¬ (k : Int) < (k : Int) := by omega
      have HFX := Lib.hid (H4.out.stored (.bool s) (.slice sa (digs N).length sc) (.slice ta (digs D).length tc))
      have HSN := Lib.hid (sl_box3 HSA.out H4.out (.bool s) (.slice sa (digs N).length sc) (.slice ta (digs D).length tc))
      have HSD := Lib.hid (sl_box3 HTA.out H4.out (.bool s) (.slice sa (digs N).length sc) (.slice ta (digs D).length tc))
      have HFB := Lib.hid (below_box3 HBW.out (Nat.le_refl _) (.bool s) (.slice sa (digs N).length sc) (.slice ta (digs D).length tc))
      go_wp2
      generalize (((wr.setCell ⟨w.heap.size, 0, none⟩ (.bool s)).setCell ⟨w.heap.size, 1, none⟩ (.slice sa (digs N).length sc)).setCell ⟨w.heap.size, 2, none⟩ (.slice ta (digs D).length tc)) = WF at *
      obtain ⟨_, q0, q1, q2, _, _, _⟩ := HFX.out
      refine bodyPost_ret_by (v := .agg #[.bool s, .slice sa (digs N).length sc, .slice ta (digs D).length tc]) ?_ rfl ⟨HFB.out, sa, sc, ta, tc, by rw [HSS.out], by rw [HSS.out]; exact HSN.out, by rw [HSS.out]; exact HSD.out⟩
      rw [results_cell_one' rfl]
      go_simp
end Go.Proofs.Yteoimibefpidoaa
/- Both sides' exact sums agree. Plain words. Speaks of no program. -/
namespace Go.Proofs.Yteoimibefpidoaa
open Go.RowKit

/-- A whole number with a sign. -/
def sg (s : Bool) (N : Nat) : Int := if s = true then -(N : Int) else (N : Int)
theorem sg_zero {s : Bool} {N : Nat} : sg s N = 0 ↔ N = 0 := by unfold sg; split <;> omega
theorem sg_plus (s : Bool) (N D : Nat) (s2 : Bool) (N2 D2 : Nat) : sg (plusR s N D s2 N2 D2).1 (plusR s N D s2 N2 D2).2 = sg s N * D2 + sg s2 N2 * D := by
  have e1 : ((N * D2 : Nat) : Int) = (N : Int) * D2 := Int.natCast_mul _ _
  have e2 : ((N2 * D : Nat) : Int) = (N2 : Int) * D := Int.natCast_mul _ _
  unfold plusR
  generalize hX : N * D2 = X at *
  generalize hY : N2 * D = Y at *
  cases s <;> cases s2 <;> simp only [sg, if_false, Bool.false_eq_true, if_pos, Bool.true_eq_false]
  · rw [← e1, ← e2]; push_cast; omega
  · split
    · rw [Int.neg_mul, ← e1, ← e2]; simp only [Bool.false_eq_true, if_false]; omega
    · rw [Int.neg_mul, ← e1, ← e2]; simp only [if_true]; omega
  · split
    · rw [Int.neg_mul, ← e1, ← e2]; simp only [if_true]; omega
    · rw [Int.neg_mul, ← e1, ← e2]; simp only [Bool.false_eq_true, if_false]; omega
  · rw [Int.neg_mul, Int.neg_mul, ← e1, ← e2]; push_cast; omega
theorem sg_mul (u p : Int) : sg (decide (p < 0) != decide (u < 0)) (u.natAbs * p.natAbs) = u * p := by
  have e : ((u.natAbs * p.natAbs : Nat) : Int) = (u.natAbs : Int) * (p.natAbs : Int) := Int.natCast_mul _ _
  unfold sg
  rw [e]
  by_cases hu : u < 0
  · have eu : (u.natAbs : Int) = -u := by omega
    by_cases hp : p < 0
    · have ep : (p.natAbs : Int) = -p := by omega
      rw [eu, ep, decide_eq_true hu, decide_eq_true hp, if_neg (by decide)]; grind
    · have ep : (p.natAbs : Int) = p := by omega
      rw [eu, ep, decide_eq_true hu, decide_eq_false hp, if_pos (by decide)]; grind
  · have eu : (u.natAbs : Int) = u := by omega
    by_cases hp : p < 0
    · have ep : (p.natAbs : Int) = -p := by omega
      rw [eu, ep, decide_eq_false hu, decide_eq_true hp, if_pos (by decide)]; grind
    · have ep : (p.natAbs : Int) = p := by omega
      rw [eu, ep, decide_eq_false hu, decide_eq_false hp, if_neg (by decide)]
theorem sees_rel {row : List Int} {ps : List (Int × Int)} (hv : ∀ p ∈ ps, validR p.1 p.2 = true) : ∀ k, k ≤ ps.length → sg (seesN row ps k).1 (seesN row ps k).2.1 * upD ps k = (upN row ps k).1 * ((seesN row ps k).2.2 : Int)
  | 0, _ => by show sg false 0 * 1 = 0 * ((1 : Nat) : Int); rfl
  | k + 1, hk => by
    have ih := sees_rel (row := row) hv k (by omega)
    obtain ⟨p, hp⟩ : ∃ p, ps[k]? = some p := ⟨ps[k]'(by omega), by simp⟩
    obtain ⟨_, n1, n2, d1, d2⟩ := validR_bd (hv p (List.mem_of_getElem? hp))
    have eD : upD ps (k + 1) = upD ps k * p.2 := by show upD ps k * (ps[k]?.getD (0, 1)).2 = _; rw [hp]; rfl
    have eN : (upN row ps (k + 1)).1 = (upN row ps k).1 * p.2 + upD ps k * (gt row k * p.1) := by
      show (upN row ps k).1 * (ps[k]?.getD (0, 1)).2 + (upN row ps k).2 * (gt row k * (ps[k]?.getD (0, 1)).1) = _
      rw [hp, upN_snd]; rfl
    rw [eD, eN]
    by_cases hu : gt row k = 0
    · have es : seesN row ps (k + 1) = seesN row ps k := by rw [show seesN row ps (k + 1) = if gt row k = 0 then seesN row ps k else _ from rfl, if_pos hu]
      rw [es, hu]
      generalize sg (seesN row ps k).1 (seesN row ps k).2.1 = a at *
      generalize (upN row ps k).1 = n at *
      generalize ((seesN row ps k).2.2 : Int) = sd at *
      generalize upD ps k = d at *
      grind
    · have es : seesN row ps (k + 1) = ((plusR (seesN row ps k).1 (seesN row ps k).2.1 (seesN row ps k).2.2 (decide (p.1 < 0) != decide (gt row k < 0)) ((gt row k).natAbs * p.1.natAbs) p.2.toNat).1, (plusR (seesN row ps k).1 (seesN row ps k).2.1 (seesN row ps k).2.2 (decide (p.1 < 0) != decide (gt row k < 0)) ((gt row k).natAbs * p.1.natAbs) p.2.toNat).2, (seesN row ps k).2.2 * p.2.toNat) := by rw [show seesN row ps (k + 1) = if gt row k = 0 then seesN row ps k else _ from rfl, if_neg hu, hp]; rfl
      rw [es]
      dsimp only
      have e2 : ((p.2.toNat : Nat) : Int) = p.2 := by omega
      rw [sg_plus, sg_mul, Int.natCast_mul, e2]
      generalize sg (seesN row ps k).1 (seesN row ps k).2.1 = a at *
      generalize (upN row ps k).1 = n at *
      generalize ((seesN row ps k).2.2 : Int) = sd at *
      generalize upD ps k = d at *
      generalize gt row k = u at *
      grind
theorem sg_not (s : Bool) (N : Nat) : sg (s != true) N = -sg s N := by unfold sg; cases s <;> simp
theorem order_zero (s : Bool) (N D : Nat) (s2 : Bool) (N2 D2 : Nat) : orderR s N D s2 N2 D2 = 0 ↔ sg s N * D2 = sg s2 N2 * D := by
  have h := sg_plus s N D (s2 != true) N2 D2
  rw [sg_not] at h
  have h2 : orderR s N D s2 N2 D2 = 0 ↔ (plusR s N D (s2 != true) N2 D2).2 = 0 := by
    unfold orderR
    split
    · rename_i e; exact ⟨fun _ => e, fun _ => rfl⟩
    · rename_i e
      constructor
      · intro h; split at h <;> cases h
      · intro h; exact absurd h e
  rw [h2, ← sg_zero (s := (plusR s N D (s2 != true) N2 D2).1), h, Int.neg_mul]
  omega
theorem sg_whole (y : Int) : sg (decide (y < 0)) y.natAbs = y := by
  unfold sg
  by_cases h : y < 0
  · rw [decide_eq_true h, if_pos rfl]; omega
  · rw [decide_eq_false h, if_neg (by decide)]; omega
/-- Both sides tell of one row the same. -/
theorem row_eq {row : List Int} {ps : List (Int × Int)} {y : Int} (hv : ∀ p ∈ ps, validR p.1 p.2 = true) (hr : ∀ k, k < ps.length → -1 ≤ gt row k ∧ gt row k ≤ 1) (hl : ps.length ≤ 10) (hy : -1000000 ≤ y ∧ y ≤ 1000000) :
    decide (orderR (seesN row ps ps.length).1 (seesN row ps ps.length).2.1 (seesN row ps ps.length).2.2 (decide (y < 0)) y.natAbs 1 = 0) = upB row ps y := by
  have h1 := order_zero (seesN row ps ps.length).1 (seesN row ps ps.length).2.1 (seesN row ps ps.length).2.2 (decide (y < 0)) y.natAbs 1
  rw [sg_whole] at h1
  have h2 := sees_rel (row := row) hv ps.length (Nat.le_refl _)
  obtain ⟨_, i2, _⟩ := sees_bd (row := row) hv hr ps.length (Nat.le_refl _)
  obtain ⟨j1, j2⟩ := upD_bd hv ps.length (Nat.le_refl _)
  have hnb := upN_bd (row := row) hv hr ps.length (Nat.le_refl _)
  have hk11 := bt_all ps.length (by omega)
  have hdy := mul_le (show -(bN ps.length : Int) ≤ upD ps ps.length ∧ upD ps ps.length ≤ (bN ps.length : Int) by omega) hy
  have h3 : upB row ps y = true ↔ (upN row ps ps.length).1 = upD ps ps.length * y := by
    unfold upB
    rw [upN_snd]
    constructor
    · intro h
      exact wide_inj (by omega) (by omega) h
    · intro h
      rw [h]; unfold wideEq; simp
  rw [Bool.eq_iff_iff, decide_eq_true_eq, h1, h3]
  generalize sg (seesN row ps ps.length).1 (seesN row ps ps.length).2.1 = a at *
  generalize (upN row ps ps.length).1 = n at *
  generalize hsd : ((seesN row ps ps.length).2.2 : Int) = sd at *
  generalize upD ps ps.length = d at *
  have hsd1 : 1 ≤ sd := by omega
  have e1 : ((1 : Nat) : Int) = 1 := rfl
  rw [e1, Int.mul_one]
  constructor
  · intro e
    have e3 : sd * n = sd * (d * y) := by rw [e] at h2; grind
    exact Int.eq_of_mul_eq_mul_left (by omega) e3
  · intro e
    have e3 : d * a = d * (y * sd) := by rw [e] at h2; grind
    exact Int.eq_of_mul_eq_mul_left (by omega) e3
end Go.Proofs.Yteoimibefpidoaa
/- ValidRatio and ValidRatios of the answers: contracts. -/
namespace Go.Proofs.Yteoimibefpidoaa
open Go.RowKit

set_option maxRecDepth 1000000 in
set_option maxHeartbeats 1600000 in
theorem rvalidR_any (n d : Int) (w : World) : Calls Try.prog 89 #[.agg #[.int .i64 n, .int .i64 d]] w fun e w' => e = .returned (.bool (validR n d)) ∧ Below w.heap.size w w' := by
  obtain ⟨V, hV⟩ : ∃ V, w.alloc (.cells #[.int .i64 n, .int .i64 d] 42) = V := ⟨_, rfl⟩
  have HBV : Hid (Below w.heap.size w V) := by rw [← hV]; exact (Below.refl _ _).alloc (Nat.le_refl _) _
  have c0 : V.cell? ⟨w.heap.size, 0, none⟩ = some (.int .i64 n) := by rw [← hV]; exact alloc_cell _ _ _ _ _ rfl
  have c1 : V.cell? ⟨w.heap.size, 1, none⟩ = some (.int .i64 d) := by rw [← hV]; exact alloc_cell _ _ _ _ _ rfl
  have HE : Hid (validR n d = (rangeB d 1 400 && rangeB n (-10000000000) 10000000000 && decide (gcd2 n d = 1))) := by
    show _ = _
    unfold validR rangeB
    rw [Bool.and_assoc (decide (1 ≤ d) && decide (d ≤ 400))]
  obtain ⟨q1, h1⟩ : ∃ q, rangeB d 1 400 = q := ⟨_, rfl⟩
  obtain ⟨q2, h2⟩ : ∃ q, rangeB n (-10000000000) 10000000000 = q := ⟨_, rfl⟩
  rw [h1, h2] at HE
  have HW1 : Hid (∀ W, Calls Try.prog 65 #[.int .i64 d, .int .i64 1, .int .i64 400] W fun e w' => e = .returned (.bool q1) ∧ W = w') := fun W => by rw [← h1]; exact rwithin3_any _ _ _ W
  have HW2 : Hid (∀ W, Calls Try.prog 65 #[.int .i64 n, .int .i64 (-10000000000), .int .i64 10000000000] W fun e w' => e = .returned (.bool q2) ∧ W = w') := fun W => by rw [← h2]; exact rwithin3_any _ _ _ W
  cases q1
  · have HV : Hid (validR n d = false) := by show _ = _; rw [HE.out]; rfl
    clear h1 h2
    go_enter Try.func89, Try.ntmps89
    go_wp2_with (first | (go_at_call 65; with_reducible refine (HW1.out _).mono ?_; rintro e w1 ⟨rfl, rfl⟩))
    go_ret
    exact ⟨ret_bool HV.out.symm, HBV.out⟩
  cases q2
  · have HV : Hid (validR n d = false) := by show _ = _; rw [HE.out]; rfl
    clear h1 h2
    go_enter Try.func89, Try.ntmps89
    go_wp2_with (first | (go_at_call 65; with_reducible refine (HW1.out _).mono ?_; rintro e w1 ⟨rfl, rfl⟩) | (go_at_call 65; with_reducible refine (HW2.out _).mono ?_; rintro e w1 ⟨rfl, rfl⟩))
    go_ret
    exact ⟨ret_bool HV.out.symm, HBV.out⟩
  unfold rangeB at h1 h2
  simp only [Bool.and_eq_true, decide_eq_true_eq] at h1 h2
  have HDV : Hid (∀ W, Calls Try.prog 103 #[.int .i64 n, .int .i64 d] W fun e w' => e = .returned (.int .i64 (gcd2 n d)) ∧ ∃ nd, w' = W.drewN nd) := fun W => rdivisor_any n d W (by unfold Mid; omega) (by unfold Mid; omega)
  obtain ⟨G, hG⟩ : ∃ G, gcd2 n d = G := ⟨_, rfl⟩
  rw [hG] at HDV HE
  obtain ⟨q, hq⟩ : ∃ q, decide (G = 1) = q := ⟨_, rfl⟩
  have HV : Hid (validR n d = q) := by show _ = _; rw [HE.out, hq]; rfl
  have y0 : (G == 1) = q := by rw [← hq]; rfl
  clear h1 h2 hG hq HE
  go_enter Try.func89, Try.ntmps89
  go_wp2_with (first | (go_at_call 65; with_reducible refine (HW1.out _).mono ?_; rintro e w1 ⟨rfl, rfl⟩) | (go_at_call 65; with_reducible refine (HW2.out _).mono ?_; rintro e w1 ⟨rfl, rfl⟩) | (go_at_call 103; refine (HDV.out _).mono ?_; rintro e w2 ⟨rfl, nd, rfl⟩))
  go_ret
  exact ⟨ret_bool HV.out.symm, below_drewN HBV.out nd⟩
set_option maxRecDepth 1000000 in
set_option maxHeartbeats 1600000 in
theorem rvalidRs_any (xa : Option Addr) (ps : List (Int × Int)) (xc : Nat) (w : World) (hlx : ps.length ≤ 9223372036854775807) (hx : Rr w xa ps) : Calls Try.prog 45 #[.slice xa ps.length xc] w fun e w' => e = .returned (.bool (ps.all fun p => validR p.1 p.2)) ∧ Below w.heap.size w w' := by
  have HX := Lib.hid hx
  obtain ⟨L, hL⟩ : ∃ L, ps.length = L := ⟨_, rfl⟩
  have HLL := Lib.hid hL
  rw [hL] at hlx ⊢
  clear hx hL
  go_enter Try.func45, Try.ntmps45
  go_wp2
  go_loopw [7] (fun i wr => ∃ k : Nat, k ≤ L ∧ i = .int .i64 k ∧ (∀ t p, t < k → ps[t]? = some p → validR p.1 p.2 = true) ∧ Below w.heap.size w wr) (fun i _ => L - (intOf i).toNat)
  case atStart => exact ⟨0, Nat.zero_le _, rfl, fun t p h => by omega, Below.refl _ _⟩
  case round =>
    obtain ⟨k, hk, rfl, hok, hb⟩ := hrel
    have HOK := Lib.hid hok; clear hok
    have HB := Lib.hid hb; clear hb
    by_cases hlt : k < L
    · obtain ⟨⟨p1, p2⟩, hp⟩ : ∃ p, ps[k]? = some p := ⟨ps[k]'(by rw [HLL.out]; exact hlt), by simp [HLL.out, hlt]⟩
      have HPK := Lib.hid hp
      obtain ⟨xb, xo, rfl, x0, x1⟩ := (HX.out.below HB.out) k _ hp
      dsimp only at x0 x1
      obtain ⟨vb, hvb⟩ : ∃ vb, validR p1 p2 = vb := ⟨_, rfl⟩
      have HVR : Hid (∀ W, Calls Try.prog 89 #[.agg #[.int .i64 p1, .int .i64 p2]] W fun e w' => e = .returned (.bool vb) ∧ Below W.heap.size W w') := fun W => by rw [← hvb]; exact rvalidR_any p1 p2 W
      have HVB := Lib.hid hvb
      have hk0 : (k : Int) < (L : Int) := by omega
      clear hp hvb
      cases vb with
      | false =>
        have HD : Hid ((ps.all fun p => validR p.1 p.2) = false) := by
          show _ = _
          rw [List.all_eq_false]
          exact ⟨(p1, p2), List.mem_of_getElem? HPK.out, by rw [HVB.out]; decide⟩
        go_wp2_with (go_at_call 89; refine (HVR.out _).mono ?_; rintro e w2 ⟨rfl, hb2⟩)
        go_ret
        exact ⟨ret_bool HD.out.symm, (HB.out.alloc HB.out.size _).trans (hb2.mono (by rw [World.size_alloc]; have := HB.out.size; omega))⟩
      | true =>
        go_wp2_with (go_at_call 89; refine (HVR.out _).mono ?_; rintro e w2 ⟨rfl, hb2⟩)
        go_roundw
        case rel => exact ⟨k + 1, by omega, by go_num, fun t p ht hp => by
          by_cases e : t = k
          · subst e
            rw [HPK.out] at hp
            obtain rfl := Option.some.inj hp
            exact HVB.out
          · exact HOK.out t p (by omega) hp, (HB.out.alloc HB.out.size _).trans (hb2.mono (by rw [World.size_alloc]; have := HB.out.size; omega))⟩
        case measure => simp [intOf]; omega
    · obtain rfl : k = L := by omega
      have HALL : Hid ((ps.all fun p => validR p.1 p.2) = true) := by
        show _ = _
        rw [List.all_eq_true]
        intro p hp
        obtain ⟨t, ht, rfl⟩ := List.mem_iff_getElem.1 hp
        exact HOK.out t _ (by rw [HLL.out] at ht; exact ht) (by simp [ht])
      go_wp2
      go_ret
      exact ⟨ret_bool HALL.out.symm, HB.out⟩
end Go.Proofs.Yteoimibefpidoaa
/- Makes of the answers: a contract. -/
namespace Go.Proofs.Yteoimibefpidoaa
open Go.RowKit

set_option maxRecDepth 1000000 in
set_option maxHeartbeats 3200000 in
theorem rmakes_any (ma : Option Addr) (m : List (List Int)) (mc : Nat) (xa : Option Addr) (ps : List (Int × Int)) (xc : Nat) (ya : Option Addr) (y : List Int) (yc : Nat) (w : World) (hm : MOk m) (hly : y.length ≤ 9223372036854775807) (hlx : ps.length ≤ 9223372036854775807) (hs : Ms w ma m) (hx : Rr w xa ps) (hy : Sl w ya y) :
    Calls Try.prog 14 #[.slice ma m.length mc, .slice xa ps.length xc, .slice ya y.length yc] w fun e w' => e = .returned (.bool (makesB m ps y)) ∧ Below w.heap.size w w' := by
  have HS := Lib.hid hs
  have HX := Lib.hid hx
  have HY := Lib.hid hy
  obtain ⟨rv, hrv⟩ : ∃ rv, decide (readE m y = 0) = rv := ⟨_, rfl⟩
  have HRD : Hid (Calls Try.prog 12 #[.slice ma m.length mc, .slice ya y.length yc] w fun e w' => e = .returned (.bool rv) ∧ w = w') := by rw [← hrv]; exact rreading3_any ma m mc ya y yc w hm hly hs hy
  have HD0 : Hid (makesB m ps y = (rv && decide (ps.length = colsM m) && (ps.all fun p => validR p.1 p.2) && (List.range m.length).all fun i => upB (rowL m i) ps (gt y i))) := by show _ = _; unfold makesB; rw [hrv]
  have HVS0 : Hid (∀ W, Below w.heap.size w W → Calls Try.prog 45 #[.slice xa ps.length xc] W fun e w' => e = .returned (.bool (ps.all fun p => validR p.1 p.2)) ∧ Below W.heap.size W w') := fun W h => rvalidRs_any xa ps xc W hlx (HX.out.below h)
  obtain ⟨vb, hvb⟩ : ∃ vb, (ps.all fun p => validR p.1 p.2) = vb := ⟨_, rfl⟩
  rw [hvb] at HD0 HVS0
  cases rv with
  | false =>
    have HD : Hid (makesB m ps y = false) := by show _ = _; rw [HD0.out]; rfl
    clear hs hx hy hm hrv HD0 hvb
    go_enter Try.func14, Try.ntmps14
    go_wp2_with (go_at_call 12; refine HRD.out.mono ?_; rintro e w1 ⟨rfl, rfl⟩)
    go_ret
    exact ⟨ret_bool HD.out.symm, Below.refl _ _⟩
  | true =>
    obtain ⟨hv, hyl, hyb⟩ := readE_ok (of_decide_eq_true hrv)
    obtain ⟨hm1, hm6, hc1, hc10, hrows⟩ := validM_of hv
    obtain ⟨bm, om, ai, ci, rfl, hcell, _⟩ := hs 0 hm1
    obtain ⟨c, hc⟩ : ∃ c, colsM m = c := ⟨_, rfl⟩
    have hl0 : (m[0]?.getD []).length = c := by rw [← hc]; rfl
    rw [hl0, Nat.add_zero] at hcell
    rw [hc] at hc10 hc1 HD0 hrows
    have HROW : Hid (∀ i, i < m.length → (rowL m i).length = c ∧ ∀ k, k < (rowL m i).length → -1 ≤ gt (rowL m i) k ∧ gt (rowL m i) k ≤ 1) := fun i hi => by
      have h := hrows _ (rowL_mem hi)
      exact ⟨h.1, fun k hk => gt_in h.2 hk⟩
    have HYB : Hid (∀ i, i < m.length → -1000000 ≤ gt y i ∧ gt y i ≤ 1000000) := fun i hi => gt_in hyb (k := i) (by omega)
    have HMN := Lib.hid (show m.length = y.length from hyl.symm)
    obtain ⟨n, hn⟩ : ∃ n, m.length = n := ⟨_, rfl⟩
    have HNL := Lib.hid hn
    obtain ⟨L, hL⟩ : ∃ L, ps.length = L := ⟨_, rfl⟩
    have HLL := Lib.hid hL
    rw [hn] at HRD hm1 hm6 HD0 HROW HYB HMN ⊢
    rw [hL] at HD0 hlx HVS0 ⊢
    have hn0 : (0 : Int) < (n : Int) := by omega
    have h100 : n ≤ 100 := by omega
    by_cases hlc : L = c
    case neg =>
      have HD : Hid (makesB m ps y = false) := by show _ = _; rw [HD0.out, decide_eq_false hlc]; rfl
      have q1 : ¬ ((L : Int) = (c : Int)) := by omega
      have q2 : ((L : Int) != (c : Int)) = true := by simpa using q1
      clear hs hx hy hm hrv HD0 hv hyl hyb hrows hl0 hc hlc hn hL hvb
      go_enter Try.func14, Try.ntmps14
      go_wp2_with (go_at_call 12; refine HRD.out.mono ?_; rintro e w1 ⟨rfl, rfl⟩)
      go_ret
      exact ⟨ret_bool HD.out.symm, Below.refl _ _⟩
    case pos =>
    subst hlc
    have HVS := HVS0
    cases vb with
    | false =>
      have HD : Hid (makesB m ps y = false) := by show _ = _; rw [HD0.out, Bool.and_false]; rfl
      clear hs hx hy hm hrv HD0 hv hyl hyb hrows hl0 hc hn hL hvb
      go_enter Try.func14, Try.ntmps14
      go_wp2_with (first | (go_at_call 12; refine HRD.out.mono ?_; rintro e w1 ⟨rfl, rfl⟩) | (go_at_call 45; refine (HVS.out _ (Below.refl _ _)).mono ?_; rintro e w2 ⟨rfl, hb2⟩; have HB2 := Lib.hid hb2; clear hb2))
      go_ret
      exact ⟨ret_bool HD.out.symm, HB2.out⟩
    | true =>
      have HALL : Hid (∀ p ∈ ps, validR p.1 p.2 = true) := List.all_eq_true.1 hvb
      clear hs hx hy hm hrv hv hyl hyb hrows hl0 hc hn hL hvb
      go_enter Try.func14, Try.ntmps14
      go_wp2_with (first | (go_at_call 12; refine HRD.out.mono ?_; rintro e w1 ⟨rfl, rfl⟩) | (go_at_call 45; refine (HVS.out _ (Below.refl _ _)).mono ?_; rintro e w2 ⟨rfl, hb2⟩; have HB2 := Lib.hid hb2; clear hb2))
      clear hcell
      go_loopw [29] (fun i wr => ∃ j : Nat, j ≤ n ∧ i = .int .i64 j ∧ (∀ t, t < j → upB (rowL m t) ps (gt y t) = true) ∧ Below w.heap.size w wr) (fun i _ => n - (intOf i).toNat)
      case atStart => exact ⟨0, Nat.zero_le _, rfl, fun t h => by omega, HB2.out⟩
      case round =>
        clear HB2
        obtain ⟨j, hj, rfl, hok, hb⟩ := hrel
        have HOJ := Lib.hid hok; clear hok
        have HB := Lib.hid hb; clear hb
        by_cases hlt : j < n
        · obtain ⟨rb, ro, ri, rci, hrb, hcr0, hsr0⟩ := (HS.out.below HB.out) j (by rw [HNL.out]; exact hlt)
          cases hrb
          obtain ⟨h1, h2⟩ := HROW.out j hlt
          have hcr : wr.cell? ⟨bm, om + j, none⟩ = some (.slice ri L rci) := by rw [← h1]; exact hcr0
          have HSR : Hid (Sl wr ri (rowL m j)) := hsr0
          obtain ⟨yb, yo, u, rfl, hcu, hu⟩ := (HY.out.below HB.out).at (k := j) (by rw [← HMN.out]; exact hlt)
          have hgu := gt_some' hu.out
          have hy64 := HYB.out j hlt
          rw [hgu] at hy64
          have hrb2 : ∀ k, k < ps.length → -1 ≤ gt (rowL m j) k ∧ gt (rowL m j) k ≤ 1 := fun k hk => h2 k (by rw [h1, ← HLL.out]; exact hk)
          have hre := row_eq (row := rowL m j) (ps := ps) (y := u) HALL.out hrb2 (by rw [HLL.out]; exact hc10) hy64
          have HSE : Hid (∀ W, Below wr.heap.size wr W → Calls Try.prog 47 #[.slice ri L rci, .slice xa L xc] W (RatPost (seesN (rowL m j) ps ps.length).1 (seesN (rowL m j) ps ps.length).2.1 (seesN (rowL m j) ps ps.length).2.2 W)) := fun W h => by
            have k := sees_any ri (rowL m j) rci xa ps xc W (by rw [h1]; exact HLL.out) (by rw [h1]; exact hc10) (HSR.out.below h) (HX.out.below (HB.out.trans (h.mono HB.out.size))) hrb2 HALL.out
            rw [h1, HLL.out] at k
            rw [HLL.out]
            exact k
          have hsb := sees_bd (row := rowL m j) HALL.out hrb2 ps.length (Nat.le_refl _)
          have hten := small_ten (k := ps.length) (by rw [HLL.out]; exact hc10)
          have HWH : Hid (∀ W, Calls Try.prog 48 #[.int .i64 u] W (RatPost (decide (u < 0)) u.natAbs 1 W)) := fun W => whole_any u W (by omega)
          obtain ⟨S, hS0⟩ : ∃ S, seesN (rowL m j) ps ps.length = S := ⟨_, rfl⟩
          obtain ⟨s, N, D⟩ := S
          rw [hS0] at hre HSE hsb
          dsimp only at hre HSE hsb
          obtain ⟨s2, hs2⟩ : ∃ s2, decide (u < 0) = s2 := ⟨_, rfl⟩
          obtain ⟨N2, hN2⟩ : ∃ N2, u.natAbs = N2 := ⟨_, rfl⟩
          rw [hs2, hN2] at hre HWH
          have c1 : Sm N := Nat.lt_of_le_of_lt hsb.1 hten.1
          have c2 : Sm D := Nat.lt_of_le_of_lt hsb.2.2 hten.2
          have big : 1000000 < 1000000000 ^ 100 := by decide
          have c3 : Sm N2 := by unfold Sm; omega
          have c4 : Sm 1 := by unfold Sm; omega
          have HOR : Hid (∀ (W : World) (ea : Option Addr) (ec : Nat) (fa : Option Addr) (fc : Nat) (ga : Option Addr) (gc : Nat) (ha : Option Addr) (hc2 : Nat), Sl W ea (digs N) → Sl W fa (digs D) → Sl W ga (digs N2) → Sl W ha (digs 1) → Calls Try.prog 46 #[.agg #[.bool s, .slice ea (digs N).length ec, .slice fa (digs D).length fc], .agg #[.bool s2, .slice ga (digs N2).length gc, .slice ha (digs 1).length hc2]] W fun e w' => e = .returned (.int .i64 (orderR s N D s2 N2 1)) ∧ Below W.heap.size W w') := fun W ea ec fa fc ga gc ha hc2 a b d e => orderR_any s N D ea ec fa fc s2 N2 1 ga gc ha hc2 W c1 c2 c3 c4 a b d e
          obtain ⟨od, hod⟩ : ∃ od, orderR s N D s2 N2 1 = od := ⟨_, rfl⟩
          rw [hod] at HOR hre
          have HUBE : Hid (upB (rowL m j) ps (gt y j) = decide (od = 0)) := by show _ = _; rw [hgu]; exact hre.symm
          have HVW : Hid (∀ W, Below wr.heap.size wr W → W.cell? ⟨yb, yo + j, none⟩ = some (.int .i64 u)) := fun W h => (h.cell (p := ⟨yb, yo + j, none⟩) (cell_lt hcu)).trans hcu
          have hj0 : (j : Int) < (n : Int) := by omega
          have hj1 : (j : Int) < (y.length : Int) := by rw [← HMN.out]; exact hj0
          clear hcr0 hsr0 hu hgu hy64 h1 h2 hrb2 hre hsb hten hS0 hs2 hN2 c1 c2 big c3 c4 hod
          by_cases h0 : od = 0
          · subst h0
            have HT : Hid (upB (rowL m j) ps (gt y j) = true) := by show _ = _; rw [HUBE.out]; rfl
            go_wp2
            rename_i aK
            have HKO := Lib.hid aK
            clear aK
            refine wp_region_G (S := fun _ W => Below wr.heap.size wr W) (by kernel_rfl) ((Below.refl _ _).drew) ?_
            intro hc hS
            refine wpAnyG_take (i := 0) (oi := ?oiy0) (v := ?vy0) ?hiy0 (by kernel_rfl) (by kernel_rfl) (by kernel_rfl) ?hQy0 (fun _ _ => Iff.rfl) hc ?hyy0 hS ?resty0
            case hiy0 => (simp only [List.getElem?_toArray, List.getElem?_cons_zero]; exact rfl)
            case hQy0 => exact fun _ _ _ h => h
            case hyy0 => (refine Or.inl ⟨rfl, ?_⟩; (intro w _; go_simp; (try with_reducible rfl)))
            clear hc hS; intro hc hS
            simp only [Act.put, List.setIfInBounds_toArray, List.set_cons_zero, List.set_cons_succ]
            refine wpAnyG_take (i := 1) (oi := ?oiy1) (v := ?vy1) ?hiy1 (by kernel_rfl) (by kernel_rfl) (by kernel_rfl) ?hQy1 (fun _ _ => Iff.rfl) hc ?hyy1 hS ?resty1
            case hiy1 => (simp only [List.getElem?_toArray, List.getElem?_cons_succ, List.getElem?_cons_zero]; exact rfl)
            case hQy1 => exact fun _ _ _ h => h
            case hyy1 => (refine Or.inl ⟨rfl, ?_⟩; (intro w _; go_simp; (try with_reducible rfl)))
            clear hc hS; intro hc hS
            simp only [Act.put, List.setIfInBounds_toArray, List.set_cons_zero, List.set_cons_succ]
            refine wpAnyG_take (i := 3) (oi := ?oiy3) (v := ?vy3) ?hiy3 (by kernel_rfl) (by kernel_rfl) (by kernel_rfl) ?hQy3 (fun _ _ => Iff.rfl) hc ?hyy3 hS ?resty3
            case hiy3 => (simp only [List.getElem?_toArray, List.getElem?_cons_succ, List.getElem?_cons_zero]; exact rfl)
            case hQy3 => exact fun _ _ _ h => h
            case hyy3 => (refine Or.inl ⟨rfl, ?_⟩; (intro w _; go_simp; (try with_reducible rfl)))
            clear hc hS; intro hc hS
            simp only [Act.put, List.setIfInBounds_toArray, List.set_cons_zero, List.set_cons_succ]
            refine wpAnyG_take (i := 4) (oi := ?oiy4) (v := ?vy4) ?hiy4 (by kernel_rfl) (by kernel_rfl) (by kernel_rfl) ?hQy4 (fun _ _ => Iff.rfl) hc ?hyy4 hS ?resty4
            case hiy4 => (simp only [List.getElem?_toArray, List.getElem?_cons_succ, List.getElem?_cons_zero]; exact rfl)
            case hQy4 => exact fun _ _ _ h => h
            case hyy4 => (refine Or.inl ⟨rfl, ?_⟩; (intro w _; go_simp; (try with_reducible rfl)))
            clear hc hS; intro hc hS
            simp only [Act.put, List.setIfInBounds_toArray, List.set_cons_zero, List.set_cons_succ]
            refine wpAnyG_take (i := 5) (oi := ?oiy5) (v := ?vy5) ?hiy5 (by kernel_rfl) (by kernel_rfl) (by kernel_rfl) ?hQy5 (fun _ _ => Iff.rfl) hc ?hyy5 hS ?resty5
            case hiy5 => (simp only [List.getElem?_toArray, List.getElem?_cons_succ, List.getElem?_cons_zero]; exact rfl)
            case hQy5 => exact fun _ _ _ h => h
            case hyy5 => (refine Or.inl ⟨rfl, ?_⟩; (intro w _; go_simp; (try with_reducible rfl)))
            clear hc hS; intro hc hS
            simp only [Act.put, List.setIfInBounds_toArray, List.set_cons_zero, List.set_cons_succ]
            refine wpAnyG_take (i := 6) (oi := ?oiy6) (v := ?vy6) ?hiy6 (by kernel_rfl) (by kernel_rfl) (by kernel_rfl) ?hQy6 (fun _ _ => Iff.rfl) hc ?hyy6 hS ?resty6
            case hiy6 => (simp only [List.getElem?_toArray, List.getElem?_cons_succ, List.getElem?_cons_zero]; exact rfl)
            case hQy6 => exact fun _ _ _ h => h
            case hyy6 => (refine Or.inl ⟨rfl, ?_⟩; (rintro w ⟨L, hsd, hL, hB⟩; obtain hcy := HVW.out w hB; clear hsd hL hB; go_simp; (try with_reducible rfl)))
            clear hc hS; intro hc hS
            simp only [Act.put, List.setIfInBounds_toArray, List.set_cons_zero, List.set_cons_succ]
            refine wpAnyG_only (i := 2) (o := ?oiy2) (by kernel_rfl) ?hiy2 hc ?resty2
            case hiy2 => (simp only [List.getElem?_toArray, List.getElem?_cons_succ, List.getElem?_cons_zero]; exact rfl)
            clear hc; intro hc K hK; have HK := Lib.hid hK; clear hK
            go_simp
            go_at_call 47
            refine (HSE.out _ (Below.refl wr.heap.size wr).drew).mono ?_
            rintro e w5 ⟨hb5, ea, ec, fa, fc, rfl, hs5, hs6⟩
            have HB5 : Hid (Below wr.heap.size wr w5) := (Below.refl wr.heap.size wr).drew.trans (hb5.mono (Below.refl wr.heap.size wr).drew.size)
            have HS5 := Lib.hid hs5; have HS6 := Lib.hid hs6
            clear hb5
            refine HK.out _ _ HB5.out ?_
            clear HK K hS; intro hS
            refine wpAnyG_only (i := 7) (o := ?oiy7) (by kernel_rfl) ?hiy7 hc ?resty7
            case hiy7 => (simp only [List.getElem?_toArray, List.getElem?_cons_succ, List.getElem?_cons_zero]; exact rfl)
            clear hc; intro hc K hK; have HK := Lib.hid hK; clear hK
            go_simp
            go_at_call 48
            refine (HWH.out _).mono ?_
            rintro e w6 ⟨hb6, ga, gc, ha, hc2, rfl, hs7, hs8⟩
            have HB6 : Hid (Below wr.heap.size wr w6) := HB5.out.trans (hb6.mono HB5.out.size)
            have HS7 := Lib.hid hs7; have HS8 := Lib.hid hs8; have HS56 := Lib.hid (HS5.out.below hb6); have HS66 := Lib.hid (HS6.out.below hb6)
            clear hb6
            refine HK.out _ _ HB6.out ?_
            clear HK K hS; intro hS
            refine wpAnyG_only (i := 8) (o := ?oiy8) (by kernel_rfl) ?hiy8 hc ?resty8
            case hiy8 => (simp only [List.getElem?_toArray, List.getElem?_cons_succ, List.getElem?_cons_zero]; exact rfl)
            clear hc; intro hc K hK; have HK := Lib.hid hK; clear hK
            go_simp
            go_at_call 46
            refine (HOR.out _ ea ec fa fc ga gc ha hc2 HS56.out HS66.out HS7.out HS8.out).mono ?_
            rintro e w7 ⟨rfl, hb7⟩
            have HB7 : Hid (Below wr.heap.size wr w7) := HB6.out.trans (hb7.mono HB6.out.size)
            skip
            clear hb7
            refine HK.out _ _ HB7.out ?_
            clear HK K hS; intro hS
            refine wpAnyG_take (i := 9) (oi := ?oiy9) (v := ?vy9) ?hiy9 (by kernel_rfl) (by kernel_rfl) (by kernel_rfl) ?hQy9 (fun _ _ => Iff.rfl) hc ?hyy9 hS ?resty9
            case hiy9 => (simp only [List.getElem?_toArray, List.getElem?_cons_succ, List.getElem?_cons_zero]; exact rfl)
            case hQy9 => exact fun _ _ _ h => h
            case hyy9 => (refine Or.inl ⟨rfl, ?_⟩; (intro w _; go_simp; (try with_reducible rfl)))
            clear hc hS; intro hc hS
            simp only [Act.put, List.setIfInBounds_toArray, List.set_cons_zero, List.set_cons_succ]
            refine wpAnyG_done (by kernel_rfl) ?_ _
            refine HKO.out _ _ ?_
            clear HKO hS hc
            go_wp2
            go_roundw
            case rel => exact ⟨j + 1, by omega, by go_num, fun t ht => by
              by_cases e : t = j
              · rw [e]; exact HT.out
              · exact HOJ.out t (by omega), HB.out.trans (HB7.out.mono HB.out.size)⟩
            case measure => simp [intOf]; omega
          · have z0 : (od == 0) = false := by simpa using h0
            have z1 : (od != 0) = true := by simpa using h0
            have HD : Hid (makesB m ps y = false) := by
              show _ = _
              rw [HD0.out, Bool.and_eq_false_iff]
              right
              rw [List.all_eq_false]
              exact ⟨j, List.mem_range.2 hlt, by rw [HUBE.out, decide_eq_false h0]; decide⟩
            clear h0
            go_wp2
            rename_i aK
            have HKO := Lib.hid aK
            clear aK
            refine wp_region_G (S := fun _ W => Below wr.heap.size wr W) (by kernel_rfl) ((Below.refl _ _).drew) ?_
            intro hc hS
            refine wpAnyG_take (i := 0) (oi := ?oiv0) (v := ?vv0) ?hiv0 (by kernel_rfl) (by kernel_rfl) (by kernel_rfl) ?hQv0 (fun _ _ => Iff.rfl) hc ?hyv0 hS ?restv0
            case hiv0 => (simp only [List.getElem?_toArray, List.getElem?_cons_zero]; exact rfl)
            case hQv0 => exact fun _ _ _ h => h
            case hyv0 => (refine Or.inl ⟨rfl, ?_⟩; (intro w _; go_simp; (try with_reducible rfl)))
            clear hc hS; intro hc hS
            simp only [Act.put, List.setIfInBounds_toArray, List.set_cons_zero, List.set_cons_succ]
            refine wpAnyG_take (i := 1) (oi := ?oiv1) (v := ?vv1) ?hiv1 (by kernel_rfl) (by kernel_rfl) (by kernel_rfl) ?hQv1 (fun _ _ => Iff.rfl) hc ?hyv1 hS ?restv1
            case hiv1 => (simp only [List.getElem?_toArray, List.getElem?_cons_succ, List.getElem?_cons_zero]; exact rfl)
            case hQv1 => exact fun _ _ _ h => h
            case hyv1 => (refine Or.inl ⟨rfl, ?_⟩; (intro w _; go_simp; (try with_reducible rfl)))
            clear hc hS; intro hc hS
            simp only [Act.put, List.setIfInBounds_toArray, List.set_cons_zero, List.set_cons_succ]
            refine wpAnyG_take (i := 3) (oi := ?oiv3) (v := ?vv3) ?hiv3 (by kernel_rfl) (by kernel_rfl) (by kernel_rfl) ?hQv3 (fun _ _ => Iff.rfl) hc ?hyv3 hS ?restv3
            case hiv3 => (simp only [List.getElem?_toArray, List.getElem?_cons_succ, List.getElem?_cons_zero]; exact rfl)
            case hQv3 => exact fun _ _ _ h => h
            case hyv3 => (refine Or.inl ⟨rfl, ?_⟩; (intro w _; go_simp; (try with_reducible rfl)))
            clear hc hS; intro hc hS
            simp only [Act.put, List.setIfInBounds_toArray, List.set_cons_zero, List.set_cons_succ]
            refine wpAnyG_take (i := 4) (oi := ?oiv4) (v := ?vv4) ?hiv4 (by kernel_rfl) (by kernel_rfl) (by kernel_rfl) ?hQv4 (fun _ _ => Iff.rfl) hc ?hyv4 hS ?restv4
            case hiv4 => (simp only [List.getElem?_toArray, List.getElem?_cons_succ, List.getElem?_cons_zero]; exact rfl)
            case hQv4 => exact fun _ _ _ h => h
            case hyv4 => (refine Or.inl ⟨rfl, ?_⟩; (intro w _; go_simp; (try with_reducible rfl)))
            clear hc hS; intro hc hS
            simp only [Act.put, List.setIfInBounds_toArray, List.set_cons_zero, List.set_cons_succ]
            refine wpAnyG_take (i := 5) (oi := ?oiv5) (v := ?vv5) ?hiv5 (by kernel_rfl) (by kernel_rfl) (by kernel_rfl) ?hQv5 (fun _ _ => Iff.rfl) hc ?hyv5 hS ?restv5
            case hiv5 => (simp only [List.getElem?_toArray, List.getElem?_cons_succ, List.getElem?_cons_zero]; exact rfl)
            case hQv5 => exact fun _ _ _ h => h
            case hyv5 => (refine Or.inl ⟨rfl, ?_⟩; (intro w _; go_simp; (try with_reducible rfl)))
            clear hc hS; intro hc hS
            simp only [Act.put, List.setIfInBounds_toArray, List.set_cons_zero, List.set_cons_succ]
            refine wpAnyG_take (i := 6) (oi := ?oiv6) (v := ?vv6) ?hiv6 (by kernel_rfl) (by kernel_rfl) (by kernel_rfl) ?hQv6 (fun _ _ => Iff.rfl) hc ?hyv6 hS ?restv6
            case hiv6 => (simp only [List.getElem?_toArray, List.getElem?_cons_succ, List.getElem?_cons_zero]; exact rfl)
            case hQv6 => exact fun _ _ _ h => h
            case hyv6 => (refine Or.inl ⟨rfl, ?_⟩; (rintro w ⟨L, hsd, hL, hB⟩; obtain hcy := HVW.out w hB; clear hsd hL hB; go_simp; (try with_reducible rfl)))
            clear hc hS; intro hc hS
            simp only [Act.put, List.setIfInBounds_toArray, List.set_cons_zero, List.set_cons_succ]
            refine wpAnyG_only (i := 2) (o := ?oiv2) (by kernel_rfl) ?hiv2 hc ?restv2
            case hiv2 => (simp only [List.getElem?_toArray, List.getElem?_cons_succ, List.getElem?_cons_zero]; exact rfl)
            clear hc; intro hc K hK; have HK := Lib.hid hK; clear hK
            go_simp
            go_at_call 47
            refine (HSE.out _ (Below.refl wr.heap.size wr).drew).mono ?_
            rintro e w5 ⟨hb5, ea, ec, fa, fc, rfl, hs5, hs6⟩
            have HB5 : Hid (Below wr.heap.size wr w5) := (Below.refl wr.heap.size wr).drew.trans (hb5.mono (Below.refl wr.heap.size wr).drew.size)
            have HS5 := Lib.hid hs5; have HS6 := Lib.hid hs6
            clear hb5
            refine HK.out _ _ HB5.out ?_
            clear HK K hS; intro hS
            refine wpAnyG_only (i := 7) (o := ?oiv7) (by kernel_rfl) ?hiv7 hc ?restv7
            case hiv7 => (simp only [List.getElem?_toArray, List.getElem?_cons_succ, List.getElem?_cons_zero]; exact rfl)
            clear hc; intro hc K hK; have HK := Lib.hid hK; clear hK
            go_simp
            go_at_call 48
            refine (HWH.out _).mono ?_
            rintro e w6 ⟨hb6, ga, gc, ha, hc2, rfl, hs7, hs8⟩
            have HB6 : Hid (Below wr.heap.size wr w6) := HB5.out.trans (hb6.mono HB5.out.size)
            have HS7 := Lib.hid hs7; have HS8 := Lib.hid hs8; have HS56 := Lib.hid (HS5.out.below hb6); have HS66 := Lib.hid (HS6.out.below hb6)
            clear hb6
            refine HK.out _ _ HB6.out ?_
            clear HK K hS; intro hS
            refine wpAnyG_only (i := 8) (o := ?oiv8) (by kernel_rfl) ?hiv8 hc ?restv8
            case hiv8 => (simp only [List.getElem?_toArray, List.getElem?_cons_succ, List.getElem?_cons_zero]; exact rfl)
            clear hc; intro hc K hK; have HK := Lib.hid hK; clear hK
            go_simp
            go_at_call 46
            refine (HOR.out _ ea ec fa fc ga gc ha hc2 HS56.out HS66.out HS7.out HS8.out).mono ?_
            rintro e w7 ⟨rfl, hb7⟩
            have HB7 : Hid (Below wr.heap.size wr w7) := HB6.out.trans (hb7.mono HB6.out.size)
            skip
            clear hb7
            refine HK.out _ _ HB7.out ?_
            clear HK K hS; intro hS
            refine wpAnyG_take (i := 9) (oi := ?oiv9) (v := ?vv9) ?hiv9 (by kernel_rfl) (by kernel_rfl) (by kernel_rfl) ?hQv9 (fun _ _ => Iff.rfl) hc ?hyv9 hS ?restv9
            case hiv9 => (simp only [List.getElem?_toArray, List.getElem?_cons_succ, List.getElem?_cons_zero]; exact rfl)
            case hQv9 => exact fun _ _ _ h => h
            case hyv9 => (refine Or.inl ⟨rfl, ?_⟩; (intro w _; go_simp; (try with_reducible rfl)))
            clear hc hS; intro hc hS
            simp only [Act.put, List.setIfInBounds_toArray, List.set_cons_zero, List.set_cons_succ]
            refine wpAnyG_done (by kernel_rfl) ?_ _
            refine HKO.out _ _ ?_
            clear HKO hS hc
            go_wp2
            go_ret
            exact ⟨ret_bool HD.out.symm, HB.out.trans (HB7.out.mono HB.out.size)⟩
        · obtain rfl : j = n := by omega
          have HD : Hid (makesB m ps y = true) := by
            show _ = _
            rw [HD0.out]
            have e : ((List.range j).all fun i => upB (rowL m i) ps (gt y i)) = true := by
              rw [List.all_eq_true]
              intro t ht
              exact HOJ.out t (List.mem_range.1 ht)
            rw [e]; simp
          go_wp2
          go_ret
          exact ⟨ret_bool HD.out.symm, HB.out⟩
end Go.Proofs.Yteoimibefpidoaa
/- How a slice of fractions that came in is opened. Speaks of no function. -/
namespace Go.Proofs.Yteoimibefpidoaa
open Go.ChangeShapes Go.WideShapes Go.ChangeAt Go.RowKit Go.Joins Go.Deep

def InRatios (w : World) (v : Value) (a : Option Addr) (ps : List (Int × Int)) (cap : Nat) : Prop :=
  v = .slice a ps.length cap ∧ Rr w a ps ∧ ps.length ≤ 9223372036854775807
section
variable {H : Type} {enc : TypeId × Value → H} {P : Program} {w : World} {base : Nat} {held : Bool}
theorem in_ratios {t e : TypeId} {f0 f1 : Field} {fuel : Nat} {v : Value} {x : DataW H × List MemPlace} (ht : P.underlying t = some (.slice e)) (he : P.underlying e = some (.struct #[f0, f1])) (hone : oneCellFields P #[f0, f1] = true) (ce : P.cellsOf e = 2)
    (h0 : P.underlying f0.type = some (.int .i64)) (h1 : P.underlying f1.type = some (.int .i64))
    (h : DataW.trod enc P w base (fun _ => true) held fuel t [v] = some x) : ∃ a ps cap, InRatios w v a ps cap := by
  rcases DataW.trod_slice ht h with ⟨hcs, _⟩ | ⟨ad, len, cap, elems, rest, n, _, hcs, _, _, hl, hm, hlen, hel, _, _⟩
  · simp only [List.cons.injEq, and_true] at hcs
    exact ⟨none, [], 0, hcs, fun j p hj => by simp at hj, by simp⟩
  · simp only [List.cons.injEq, and_true] at hcs
    obtain ⟨o0, k0⟩ := hone_of hone 0 f0 rfl
    obtain ⟨o1, k1⟩ := hone_of hone 1 f1 rfl
    have each : ∀ i, i < len → ∃ p : Int × Int, w.cell? ((ad.add (i * 2)).add 0) = some (.int .i64 p.1) ∧ w.cell? ((ad.add (i * 2)).add 1) = some (.int .i64 p.2) := by
      intro i hi
      have hb := hel i hi
      obtain ⟨y, hy⟩ : ∃ y, elems[i]? = some y := ⟨elems[i]'(by omega), by simp [hlen, hi]⟩
      rw [hy, ce, Option.bind_eq_some_iff] at hb
      obtain ⟨cs, hc, ht2⟩ := hb
      obtain ⟨_, hcl, hce⟩ := World.cells?_some hc
      obtain ⟨y0, y1, m, _, _, g0, g1⟩ := trod_struct2 he ht2
      match cs, hcl with
      | [c0, c1], _ =>
        simp [o0, k0] at g0
        simp [o1, k1] at g1
        obtain ⟨p, rfl, _⟩ := in_int h0 g0
        obtain ⟨q, rfl, _⟩ := in_int h1 g1
        exact ⟨(p, q), by simpa using hce 0 (by simp), by simpa using hce 1 (by simp)⟩
    obtain ⟨f, hf⟩ : ∃ f : Nat → Int × Int, ∀ i, i < len → w.cell? ((ad.add (i * 2)).add 0) = some (.int .i64 (f i).1) ∧ w.cell? ((ad.add (i * 2)).add 1) = some (.int .i64 (f i).2) :=
      ⟨fun i => if hi : i < len then Classical.choose (each i hi) else (0, 0), fun i hi => by
        dsimp only
        rw [dif_pos hi]
        exact Classical.choose_spec (each i hi)⟩
    unfold maxLen at hm
    have hlen2 : ((List.range len).map f).length = len := by simp
    refine ⟨some ad, (List.range len).map f, cap, by rw [hlen2]; exact hcs, fun j p hj => ?_, by rw [hlen2]; omega⟩
    have hjl : j < len := by have := (List.getElem?_eq_some_iff.1 hj).1; simpa using this
    have hp : f j = p := by simpa [hjl] using hj
    obtain ⟨b, off, e0⟩ := addr_flat (w := w) (ad := ad) (v := .int .i64 (f 0).1) (by
      have := (hf 0 (by omega)).1
      have e : (ad.add (0 * 2)).add 0 = ad.add 0 := by unfold Addr.add; split <;> simp_all
      rw [e] at this; exact this)
    subst e0
    have h2 := hf j hjl
    rw [hp, flat_add, flat_add, flat_add, Nat.add_zero] at h2
    exact ⟨b, off, rfl, h2⟩
end
end Go.Proofs.Yteoimibefpidoaa
/- LinMakes: the walk. -/
namespace Go.Proofs.Yteoimibefpidoaa.linMakes
open Go.RowKit

set_option maxRecDepth 1000000 in
set_option maxHeartbeats 3200000 in
theorem walk (b0 : Option Addr) (m0 : List (List Int)) (c0 : Nat) (b1 : Option Addr) (ps1 : List (Int × Int)) (c1 : Nat) (b2 : Option Addr) (xs2 : List Int) (c2 : Nat) (w : World) (h0 : Ms w b0 m0) (r0 : MOk m0) (h1 : Rr w b1 ps1) (l1 : ps1.length ≤ 9223372036854775807) (h2 : Sl w b2 xs2) (l2 : xs2.length ≤ 9223372036854775807) (_r2 : ∀ x ∈ xs2, I64 x) :
    Calls Try.prog 3 #[.slice b0 m0.length c0, .slice b1 ps1.length c1, .slice b2 xs2.length c2] w fun e w' => e = .returned (.bool true) ∧ Below w.heap.size w w' := by
  have HS := Lib.hid h0
  have HP := Lib.hid h1
  have HX := Lib.hid h2
  have HM := Lib.hid r0
  have hml := r0.1
  obtain ⟨lb, hlb⟩ : ∃ lb, decide (100 < xs2.length) = lb := ⟨_, rfl⟩
  have HLN : Hid (Calls Try.prog 9 #[.slice (some ⟨w.heap.size, 0, none⟩) 1 1] (w.alloc (.cells #[.slice b2 xs2.length c2] 25)) fun e w' => e = .returned (.bool lb) ∧ (w.alloc (.cells #[.slice b2 xs2.length c2] 25)) = w') := by
    rw [← hlb]
    exact long1_any w.heap.size 0 b2 xs2.length c2 1 _ l2 (alloc_cell _ _ _ _ _ rfl)
  have HB1 : Hid (Below w.heap.size w (w.alloc (.cells #[.slice b2 xs2.length c2] 25))) := (Below.refl _ _).alloc (Nat.le_refl _) _
  have HSM : Hid (∀ V xa xl xc, Below w.heap.size w V → Calls Try.prog 8 #[.slice b0 m0.length c0, .slice xa xl xc] V fun e w' => (∃ b, e = .returned (.bool b)) ∧ V = w') := fun V xa xl xc hb => small_any _ m0 _ _ _ _ V hml (HS.out.below hb)
  obtain ⟨rv, hrv⟩ : ∃ rv, decide (readE m0 xs2 = 0) = rv := ⟨_, rfl⟩
  have HLR : Hid (∀ V, Below w.heap.size w V → Calls Try.prog 11 #[.slice b0 m0.length c0, .slice b2 xs2.length c2] V fun e w' => e = .returned (.bool rv) ∧ Below V.heap.size V w') := fun V hb => by rw [← hrv]; exact lreading_any b0 m0 c0 b2 xs2 c2 V HM.out l2 (HS.out.below hb) (HX.out.below hb)
  have HRR : Hid (∀ V, Below w.heap.size w V → Calls Try.prog 12 #[.slice b0 m0.length c0, .slice b2 xs2.length c2] V fun e w' => e = .returned (.bool rv) ∧ V = w') := fun V hb => by rw [← hrv]; exact rreading3_any b0 m0 c0 b2 xs2 c2 V HM.out l2 (HS.out.below hb) (HX.out.below hb)
  obtain ⟨mb, hmb⟩ : ∃ mb, makesB m0 ps1 xs2 = mb := ⟨_, rfl⟩
  have HLM : Hid (∀ V, Below w.heap.size w V → Calls Try.prog 13 #[.slice b0 m0.length c0, .slice b1 ps1.length c1, .slice b2 xs2.length c2] V fun e w' => e = .returned (.bool mb) ∧ Below V.heap.size V w') := fun V hb => by rw [← hmb]; exact lmakes_any b0 m0 c0 b1 ps1 c1 b2 xs2 c2 V HM.out l2 l1 (HS.out.below hb) (HP.out.below hb) (HX.out.below hb)
  have HRM : Hid (∀ V, Below w.heap.size w V → Calls Try.prog 14 #[.slice b0 m0.length c0, .slice b1 ps1.length c1, .slice b2 xs2.length c2] V fun e w' => e = .returned (.bool mb) ∧ Below V.heap.size V w') := fun V hb => by rw [← hmb]; exact rmakes_any b0 m0 c0 b1 ps1 c1 b2 xs2 c2 V HM.out l2 l1 (HS.out.below hb) (HP.out.below hb) (HX.out.below hb)
  have y0 : (rv == rv) = true := by cases rv <;> rfl
  have y1 : (mb == mb) = true := by cases mb <;> rfl
  clear h0 h1 h2 r0 hlb hrv hmb
  cases lb with
  | true =>
    go_enter Try.func3, Try.ntmps3
    go_wp2_with (first | (go_at_call 8; refine (HSM.out _ _ _ _ (Below.refl _ _)).mono ?_; rintro e w1 ⟨⟨bb, rfl⟩, rfl⟩; cases bb) | (go_at_call 9; refine HLN.out.mono ?_; rintro e w1 ⟨rfl, rfl⟩) | (go_at_call 10; refine (awake_any _).mono ?_; rintro e w9 ⟨rfl, hb9⟩))
    all_goals go_ret
    all_goals first
      | exact ⟨rfl, HB1.out.trans (hb9.mono HB1.out.size)⟩
      | exact ⟨rfl, hb9⟩
  | false =>
    go_enter Try.func3, Try.ntmps3
    go_wp2_with (first | (go_at_call 8; refine (HSM.out _ _ _ _ (Below.refl _ _)).mono ?_; rintro e w1 ⟨⟨bb, rfl⟩, rfl⟩; cases bb) | (go_at_call 9; refine HLN.out.mono ?_; rintro e w1 ⟨rfl, rfl⟩) | (go_at_call 10; refine (awake_any _).mono ?_; rintro e w9 ⟨rfl, hb9⟩) | (go_at_call 11; refine (HLR.out _ HB1.out).mono ?_; rintro e w2 ⟨rfl, hb2⟩; have HB2 := Lib.hid (HB1.out.trans (hb2.mono HB1.out.size)); clear hb2) | (go_at_call 12; refine (HRR.out _ HB2.out).mono ?_; rintro e w3 ⟨rfl, rfl⟩) | (go_at_call 13; refine (HLM.out _ HB2.out).mono ?_; rintro e w4 ⟨rfl, hb4⟩; have HB4 := Lib.hid (HB2.out.trans (hb4.mono HB2.out.size)); clear hb4) | (go_at_call 14; refine (HRM.out _ HB4.out).mono ?_; rintro e w5 ⟨rfl, hb5⟩; have HB5 := Lib.hid (HB4.out.trans (hb5.mono HB4.out.size)); clear hb5))
    all_goals go_ret
    all_goals first
      | exact ⟨rfl, HB5.out.trans (hb9.mono HB5.out.size)⟩
      | exact ⟨rfl, hb9⟩
end Go.Proofs.Yteoimibefpidoaa.linMakes
