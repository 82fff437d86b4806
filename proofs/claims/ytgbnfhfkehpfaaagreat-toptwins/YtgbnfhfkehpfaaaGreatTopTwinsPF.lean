/- Parts of the proof of TopTwins: plain words, walks and contracts, each under its own heading. -/
import Derived.Test.YtgbnfhfkehpfaaaGreatTopTwinsPE
import Derived.Test.YtgbnfhfkehpfaaaGreatTopTwinsPD
import Derived.Test.YtgbnfhfkehpfaaaGreatTopTwinsPC
/- Light of the statements, whatever it says; Circuits of the answers, whole. -/
namespace Go.Proofs.YtgbnfhfkehpfaaaGreat
open Go.RowKit

set_option maxRecDepth 100000 in
set_option maxHeartbeats 800000 in
theorem light_any (a : Option Addr) (m : List (List Int)) (cap : Nat) (w : World) (hl : m.length ≤ 9223372036854775807) (hs : Ms w a m) :
    Calls Tryz.prog 19 #[.slice a m.length cap] w fun e w' => (∃ b, e = .returned (.bool b)) ∧ w = w' := by
  have HS := Lib.hid hs; clear hs
  go_enter Tryz.func19, Tryz.ntmps19
  go_wp2
  go_loopw [3, 8] (fun v i wr => ∃ k : Nat, k ≤ m.length ∧ i = .int .i64 k ∧ (∃ n, v = .int .i64 n) ∧ wr = w) (fun _ i _ => m.length - (intOf i).toNat)
  case atStart => exact ⟨0, Nat.zero_le _, rfl, ⟨_, rfl⟩, rfl⟩
  case round =>
    obtain ⟨k, hk, rfl, ⟨n, rfl⟩, rfl⟩ := hrel
    by_cases hlt : k < m.length
    · obtain ⟨b, o, ai, r, ci, rfl, hc, _, hr⟩ := HS.out.at hlt
      clear hr
      obtain ⟨rl, hrl⟩ : ∃ rl, r.length = rl := ⟨_, rfl⟩
      rw [hrl] at hc
      clear hrl
      by_cases h7 : (7 : Int) < rl
      · by_cases h10 : (rl : Int) ≤ 10
        · go_wp2
          go_ret
          exact ⟨⟨_, rfl⟩, rfl⟩
        · go_wp2
          go_roundw
          case rel => exact ⟨k + 1, by omega, by go_num, ⟨_, rfl⟩, by first | trivial | rfl⟩
          case measure => simp [intOf]; omega
      · go_wp2
        go_roundw
        case rel => exact ⟨k + 1, by omega, by go_num, ⟨_, rfl⟩, by first | trivial | rfl⟩
        case measure => simp [intOf]; omega
    · obtain rfl : k = m.length := by omega
      go_wp2
      go_ret
      exact ⟨⟨_, rfl⟩, rfl⟩
end Go.Proofs.YtgbnfhfkehpfaaaGreat
/- TopTwins: the walk. Written by mk_toptwins.py. -/
namespace Go.Proofs.YtgbnfhfkehpfaaaGreat.topTwins
open Go.RowKit Go.Shelf
set_option maxRecDepth 1000000 in
set_option maxHeartbeats 8000000 in
theorem walk (b0 : Option Addr) (m0 : List (List Int)) (c0 : Nat) (m1 : Int) (m2 : Int) (w : World) (h0 : Ms w b0 m0) (r0 : MOk m0) (_r1 : I64 m1) (_r2 : I64 m2) :
    Calls Tryz.prog 6 #[.slice b0 m0.length c0, .int .i64 m1, .int .i64 m2] w fun e w' => e = .returned (.bool true) ∧ Below w.heap.size w w' := by
  have HAW : Hid (∀ V, Calls Tryz.prog 8 #[] V fun e w' => e = .returned (.bool true) ∧ Below V.heap.size V w') := fun V => awake5_any V
  have HLI : Hid (Calls Tryz.prog 19 #[.slice b0 m0.length c0] w fun e w' => (∃ b, e = .returned (.bool b)) ∧ w = w') := light_any b0 m0 c0 w r0.1 h0
  have HTW : Hid (Calls Tryz.prog 20 #[.slice b0 m0.length c0, .int .i64 m1] w (TWPost (twinsV m0 m1) w)) := stwinsX_any b0 m0 c0 m1 w r0 h0
  have HCI : Hid (∀ V, Below w.heap.size w V → Calls Tryz.prog 22 #[.slice b0 m0.length c0] V (CCPost (circuitV m0) V)) := fun V hb => circuit_cap b0 m0 c0 V r0 (h0.below hb)
  have HIK : Hid (∀ V a c (h : List Int), Below w.heap.size w V → h.length ≤ 10 → Sl V a h → Calls Tryz.prog 21 #[.slice b0 m0.length c0, .slice a h.length c] V fun e w' => e = .returned (.bool (kerB m0 h)) ∧ Below V.heap.size V w') := fun V a c h hb hl hs => liskernel_any b0 m0 c0 a h c V r0 (by omega) (h0.below hb) hs
  have HIT : Hid (∀ V a ac b bc k (x y : List Int) n, Below w.heap.size w V → x.length = n → y.length = n → n ≤ 10 → Sl V a x → Sl V b y → twinB m0 k x y = true → Calls Tryz.prog 23 #[.slice b0 m0.length c0, .int .i64 k, .slice a n ac, .slice b n bc] V fun e w' => e = .returned (.bool true) ∧ Below V.heap.size V w') := fun V a ac b bc k x y n hb hx hy hn h1 h2 ht => by
    have h := stwins_any b0 m0 c0 a x ac b y bc k V r0 (by omega) (by omega) (h0.below hb) h1 h2
    rw [ht, hx, hy] at h
    exact h
  have hno := circuit_none (m := m0) m1
  have hker := twins_ker (m := m0) (k := m1)
  have hcut := fun {n p} => cut_twins (m := m0) m2 (n := n) (p := p)
  have hc160 := circuit_160 (m := m0)
  have hcl10 := circuitV_len (m := m0)
  obtain ⟨⟨⟨A, B⟩, e0⟩, htv⟩ : ∃ r, twinsV m0 m1 = r := ⟨_, rfl⟩
  obtain ⟨⟨C, ce⟩, hcv⟩ : ∃ r, circuitV m0 = r := ⟨_, rfl⟩
  rw [htv] at HTW hno hker
  rw [hcv] at HCI hno hcut hc160 hcl10
  dsimp only at hno hker hcut hc160 hcl10
  obtain ⟨ml, hml⟩ : ∃ ml, m0.length = ml := ⟨_, rfl⟩
  rw [hml] at HLI HTW HCI HIK HIT ⊢
  have HNO := Lib.hid hno
  have HKER := Lib.hid hker
  have HCUT : Hid (∀ {n p}, ce = 0 → nzTo (cutA C m2 C.length) C.length = n → nzTo (cutB C m2 C.length) C.length = p → twinB m0 (if n < p then p else n) (cutA C m2 C.length) (cutB C m2 C.length) = true) := fun h1 h2 h3 => hcut h1 h2 h3
  have H160 := Lib.hid hc160
  clear h0 r0 hno hker hcut hc160 htv hcv hml
  by_cases hce : ce = 0
  case neg =>
    have he := HNO.out hce
    have y1 : (ce == 0) = false := by simpa using hce
    have y2 : (ce != 0) = true := by simpa using hce
    have y3 : (e0 == 0) = false := by simpa using he
    have y4 : (e0 != 0) = true := by simpa using he
    clear hce he
    go_enter Tryz.func6, Tryz.ntmps6
    go_wp2_with (first
      | (go_at_call 19; refine HLI.out.mono ?_; rintro e w0 ⟨⟨bb, rfl⟩, rfl⟩; cases bb)
      | (go_at_call 20; refine HTW.out.mono ?_; rintro e w2 ⟨hb2, xa, xc, ya, yc, rfl, _, _⟩; dsimp only; have HB2 := Lib.hid hb2; clear hb2)
      | (go_at_call 22; refine (HCI.out _ HB2.out).mono ?_; rintro e w3 ⟨hb3, ca, rfl, _⟩; dsimp only; have HB3 : Hid (Below w.heap.size w w3) := HB2.out.trans (hb3.mono HB2.out.size); clear hb3)
      | (go_at_call 8; refine (HAW.out _).mono ?_; rintro e w7 ⟨rfl, hb7⟩))
    all_goals
      go_ret
      first
        | exact ⟨rfl, hb7⟩
        | exact ⟨rfl, HB3.out.trans (hb7.mono HB3.out.size)⟩
  case pos =>
  subst hce
  obtain ⟨n, hn⟩ : ∃ n, C.length = n := ⟨_, rfl⟩
  have HN := Lib.hid hn
  rw [hn] at hcl10 HCUT
  have HCI2 : Hid (∀ V, Below w.heap.size w V → Calls Tryz.prog 22 #[.slice b0 ml c0] V fun e w' => ∃ ca, e = .returned (.tuple #[.slice ca n n, .int .i64 0]) ∧ Below V.heap.size V w' ∧ Sl w' ca C) := fun V hb => by
    refine (HCI.out V hb).mono ?_
    rintro e w' ⟨h1, ca, h2, h3⟩
    rw [show (C, (0 : Int)).1.length = n from hn] at h2
    exact ⟨ca, h2, h1, h3⟩
  clear HCI hn HNO
  obtain ⟨i0, hi, hz0, hz1, hz2⟩ := info_parts Tryz.infoInt
  obtain ⟨Z, hZ⟩ : ∃ Z, madeCells (Value.int .i64 0).cells (n * 1) = Z := ⟨_, rfl⟩
  have hmk : ∀ W : World, (Instr.makeSlice 22 (.int .i64 (n : Int)) (.int .i64 (n : Int))).run Tryz.prog W = .ok (.slice (some ⟨W.heap.size, 0, none⟩) n n) (W.alloc (.cells Z 3)) := fun W => by
    have z := run_make (P := Tryz.prog) W 22 3 i0 (.int .i64 0) Tryz.underlying22 hi hz0 .i64 .i64 (n : Int) (n : Int) (by omega) (Int.le_refl _) (by rw [hz2]; omega) (by omega)
    rw [hz1, Int.toNat_natCast, hZ] at z
    exact z
  have HZ := Lib.hid hZ
  clear hi hz0 hz1 hz2 hZ
  by_cases he : e0 = 0
  case neg =>
    have y3 : (e0 == 0) = false := by simpa using he
    have y4 : (e0 != 0) = true := by simpa using he
    clear he HKER
    go_enter Tryz.func6, Tryz.ntmps6
    go_wp2_with (first
      | (go_at_call 19; refine HLI.out.mono ?_; rintro e w0 ⟨⟨bb, rfl⟩, rfl⟩; cases bb)
      | (go_at_call 20; refine HTW.out.mono ?_; rintro e w2 ⟨hb2, xa, xc, ya, yc, rfl, _, _⟩; dsimp only; have HB2 := Lib.hid hb2; clear hb2)
      | (go_at_call 22; refine (HCI2.out _ HB2.out).mono ?_; rintro e w5 ⟨ca, rfl, hb5, hs5⟩; have HB5 : Hid (Below w.heap.size w w5) := HB2.out.trans (hb5.mono HB2.out.size); have HS5 := Lib.hid hs5; clear hb5 hs5)
      | (go_at_call 8; refine (HAW.out _).mono ?_; rintro e w7 ⟨rfl, hb7⟩))
    all_goals first
      | (go_ret
         exact ⟨rfl, hb7⟩)
      | skip
    obtain ⟨V1, hV1⟩ : ∃ V1, ((w5.alloc (Obj.cells Z 3)).alloc (Obj.cells Z 3)).drew = V1 := ⟨_, rfl⟩
    have hzs : Z.size = n * 1 := by rw [← HZ.out]; exact size_madeCells _ _
    have hzl : Z.toList = (List.replicate n (0 : Int)).map (Value.int .i64) := by rw [← HZ.out]; exact zeros_are n
    have hsz1 : (w5.alloc (Obj.cells Z 3)).heap.size = w5.heap.size + 1 := World.size_alloc _ _
    have HO0 : Hid (OwnI V1 w.heap.size (.slice (some ⟨w5.heap.size, 0, none⟩) n n) (List.replicate n 0)) := by
      have z : OwnI (w5.alloc (Obj.cells Z 3)) w5.heap.size (.slice (some ⟨w5.heap.size, 0, none⟩) n n) (List.replicate n 0) := by
        have y := World.ownsRow_lit (base := w5.heap.size) (e := 3) (size := 1) w5 Z n (Nat.le_refl _) (by unfold maxLen; omega) hzs
        rw [hzl] at y
        show World.ownsRow _ _ _ _ _ _ _
        rw [List.length_replicate]
        exact y
      have z2 : OwnI V1 w5.heap.size (.slice (some ⟨w5.heap.size, 0, none⟩) n n) (List.replicate n 0) := by
        rw [← hV1]
        exact ((z.below ((Below.refl _ _).alloc (Nat.le_refl _) _))).drew
      exact OwnI.mono z2 HB5.out.size
    have HO1 : Hid (OwnI V1 w.heap.size (.slice (some ⟨w5.heap.size + 1, 0, none⟩) n n) (List.replicate n 0)) := by
      have z : OwnI ((w5.alloc (Obj.cells Z 3)).alloc (Obj.cells Z 3)) w5.heap.size (.slice (some ⟨w5.heap.size + 1, 0, none⟩) n n) (List.replicate n 0) := by
        have y := World.ownsRow_lit (base := w5.heap.size) (e := 3) (size := 1) (w5.alloc (Obj.cells Z 3)) Z n (by omega) (by unfold maxLen; omega) hzs
        rw [hzl, hsz1] at y
        show World.ownsRow _ _ _ _ _ _ _
        rw [List.length_replicate]
        exact y
      have z2 : OwnI V1 w5.heap.size (.slice (some ⟨w5.heap.size + 1, 0, none⟩) n n) (List.replicate n 0) := by
        rw [← hV1]
        exact z.drew
      exact OwnI.mono z2 HB5.out.size
    have HBV : Hid (Below w5.heap.size w5 V1) := by
      rw [← hV1]
      exact (((Below.refl _ _).alloc (Nat.le_refl _) _).alloc (by omega) _).drew
    obtain ⟨G1, hG1⟩ : ∃ g, w5.heap.size + 1 = g := ⟨_, rfl⟩
    obtain ⟨G0, hG0⟩ : ∃ g, w5.heap.size = g := ⟨_, rfl⟩
    have HG0 := Lib.hid hG0
    have HG1 := Lib.hid hG1
    have HNE : Hid (G0 ≠ G1 ∧ w5.heap.size ≤ G0 ∧ w5.heap.size ≤ G1) := by show _ ∧ _; omega
    rw [hG0] at HO0
    rw [hG1] at HO1
    clear hzs hzl hsz1 hG0 hG1
    go_region_law (fail)
    · clear hmk
      simp only [Act.put, List.getElem_toArray, List.getElem_cons_zero, List.getElem_cons_succ, List.setIfInBounds_toArray, List.set_cons_zero, List.set_cons_succ]
      rw [HG1.out, HG0.out]
      clear hV1
      go_wp2
      go_loopw [16, 17, 80] (fun a b i wr => ∃ j : Nat, j ≤ n ∧ i = .int .i64 j ∧ a = .int .i64 (nzTo (cutA C m2 n) j) ∧ b = .int .i64 (nzTo (cutB C m2 n) j) ∧ OwnI wr w.heap.size (.slice (some ⟨G0, 0, none⟩) n n) (cutA C m2 j) ∧ OwnI wr w.heap.size (.slice (some ⟨G1, 0, none⟩) n n) (cutB C m2 j) ∧ Below w5.heap.size w5 wr) (fun _ _ i _ => n - (intOf i).toNat)
      case atStart => exact ⟨0, Nat.zero_le _, rfl, rfl, rfl, by rw [(cut_zero C m2).1, HN.out]; exact HO0.out, by rw [(cut_zero C m2).2, HN.out]; exact HO1.out, HBV.out⟩
      case round =>
        obtain ⟨j, hj, rfl, rfl, rfl, hoa, hob, hb⟩ := hrel
        have HA := Lib.hid hoa
        have HB := Lib.hid hob
        have HBB := Lib.hid hb
        have HSW := Lib.hid (HS5.out.below hb)
        have hna := nzTo_in (cutA C m2 n) j
        have hnb := nzTo_in (cutB C m2 n) j
        clear hoa hob hb
        by_cases hlt : j < n
        · have hjh : j < C.length := by rw [HN.out]; exact hlt
          obtain ⟨b, o, x, hae, hc, hx⟩ := HSW.out.at hjh
          have hgx := gt_some' hx.out
          have hxb := H160.out (by trivial) j
          rw [hgx] at hxb
          have HCC := Lib.hid (cut_count (t := m2) hjh)
          rw [hgx, HN.out] at HCC
          have HCL : (j : Int) < m2 → Hid ((cutA C m2 j).set j x = cutA C m2 (j + 1) ∧ cutB C m2 j = cutB C m2 (j + 1)) := fun h => by have := cut_left hjh h; rw [hgx] at this; exact this
          have HCR : ¬ (j : Int) < m2 → Hid ((cutB C m2 j).set j (-x) = cutB C m2 (j + 1) ∧ cutA C m2 j = cutA C m2 (j + 1)) := fun h => by have := cut_right hjh h; rw [hgx] at this; exact this
          obtain ⟨pa, hpa⟩ : ∃ pa, nzTo (cutA C m2 n) j = pa := ⟨_, rfl⟩
          obtain ⟨pb, hpb⟩ : ∃ pb, nzTo (cutB C m2 n) j = pb := ⟨_, rfl⟩
          rw [hpa] at HCC hna ⊢
          rw [hpb] at HCC hnb ⊢
          obtain rfl := hae
          have wneg : IntKind.i64.wrap (-x) = -x := IntWalk.i64_in _ (by omega)
          have wpa : IntKind.i64.wrap (pa + 1) = pa + 1 := IntWalk.i64_in _ (by omega)
          have wpb : IntKind.i64.wrap (pb + 1) = pb + 1 := IntWalk.i64_in _ (by omega)
          obtain ⟨ca', fa⟩ := HA.out.cell (j := j) (by rw [cutA_len]; exact hjh)
          obtain ⟨cb', fb⟩ := HB.out.cell (j := j) (by rw [cutB_len]; exact hjh)
          have hj0 : (j : Int) < (n : Int) := by omega
          clear hgx hjh hxb hna hnb hpa hpb
          by_cases hqk : (j : Int) < m2
          · have z1 : decide ((j : Int) < m2) = true := by simp [hqk]
            have HT2 := HCL hqk
            have HC2 : Hid (nzTo (cutA C m2 n) (j + 1) = (if x = 0 then pa else pa + 1) ∧ nzTo (cutB C m2 n) (j + 1) = pb) := by
              have h := HCC.out
              rw [if_pos hqk, if_pos hqk] at h
              exact h
            clear cb' fb wneg HCC HCL HCR hqk
            by_cases hx0 : x = 0
            · have z2 : (x != 0) = false := by simp [hx0]
              have HC3 : Hid (nzTo (cutA C m2 n) (j + 1) = pa) := by have h := HC2.out.1; rw [if_pos hx0] at h; exact h
              clear hx0
              go_wp2
              go_roundw
              case rel => exact ⟨j + 1, by omega, by go_num, by rw [HC3.out], by rw [HC2.out.2], by rw [← HT2.out.1]; exact HA.out.stored j x, by rw [← HT2.out.2]; exact OwnI.sameBlock HB.out (Below.heap_setCell _ _ _ _ (Ne.symm HNE.out.1)), HBB.out.setCell (p := ⟨G0, j, none⟩) HNE.out.2.1 _⟩
              case measure => simp [intOf]; omega
            · have z2 : (x != 0) = true := by simp [hx0]
              have HC3 : Hid (nzTo (cutA C m2 n) (j + 1) = pa + 1) := by have h := HC2.out.1; rw [if_neg hx0] at h; exact h
              clear hx0
              go_wp2
              go_roundw
              case rel => exact ⟨j + 1, by omega, by go_num, by rw [HC3.out], by rw [HC2.out.2], by rw [← HT2.out.1]; exact HA.out.stored j x, by rw [← HT2.out.2]; exact OwnI.sameBlock HB.out (Below.heap_setCell _ _ _ _ (Ne.symm HNE.out.1)), HBB.out.setCell (p := ⟨G0, j, none⟩) HNE.out.2.1 _⟩
              case measure => simp [intOf]; omega
          · have z1 : decide ((j : Int) < m2) = false := by simp; omega
            have HT2 := HCR hqk
            have HC2 : Hid (nzTo (cutA C m2 n) (j + 1) = pa ∧ nzTo (cutB C m2 n) (j + 1) = (if x = 0 then pb else pb + 1)) := by
              have h := HCC.out
              rw [if_neg hqk, if_neg hqk] at h
              exact h
            clear ca' fa HCC HCL HCR hqk
            by_cases hx0 : x = 0
            · have z2 : (x != 0) = false := by simp [hx0]
              have HC3 : Hid (nzTo (cutB C m2 n) (j + 1) = pb) := by have h := HC2.out.2; rw [if_pos hx0] at h; exact h
              clear hx0
              go_wp2
              go_roundw
              case rel => exact ⟨j + 1, by omega, by go_num, by rw [HC2.out.1], by rw [HC3.out], by rw [← HT2.out.2]; exact OwnI.sameBlock HA.out (Below.heap_setCell _ _ _ _ HNE.out.1), by rw [← HT2.out.1]; exact HB.out.stored j (-x), HBB.out.setCell (p := ⟨G1, j, none⟩) HNE.out.2.2 _⟩
              case measure => simp [intOf]; omega
            · have z2 : (x != 0) = true := by simp [hx0]
              have HC3 : Hid (nzTo (cutB C m2 n) (j + 1) = pb + 1) := by have h := HC2.out.2; rw [if_neg hx0] at h; exact h
              clear hx0
              go_wp2
              go_roundw
              case rel => exact ⟨j + 1, by omega, by go_num, by rw [HC2.out.1], by rw [HC3.out], by rw [← HT2.out.2]; exact OwnI.sameBlock HA.out (Below.heap_setCell _ _ _ _ HNE.out.1), by rw [← HT2.out.1]; exact HB.out.stored j (-x), HBB.out.setCell (p := ⟨G1, j, none⟩) HNE.out.2.2 _⟩
              case measure => simp [intOf]; omega
        · obtain rfl : j = n := by omega
          obtain ⟨pa, hpa⟩ : ∃ pa, nzTo (cutA C m2 j) j = pa := ⟨_, rfl⟩
          obtain ⟨pb, hpb⟩ : ∃ pb, nzTo (cutB C m2 j) j = pb := ⟨_, rfl⟩
          have HTB := Lib.hid (HCUT.out (by trivial) hpa hpb)
          rw [hpa, hpb]
          have HBW : Hid (Below w.heap.size w wr) := HB5.out.trans (HBB.out.mono HB5.out.size)
          have hla : (cutA C m2 j).length = j := by rw [cutA_len, HN.out]
          have hlb : (cutB C m2 j).length = j := by rw [cutB_len, HN.out]
          have HIT2 : Hid (Calls Tryz.prog 23 #[.slice b0 ml c0, .int .i64 (if pa < pb then pb else pa), .slice (some ⟨G0, 0, none⟩) j j, .slice (some ⟨G1, 0, none⟩) j j] wr fun e w' => e = .returned (.bool true) ∧ Below wr.heap.size wr w') := HIT.out wr _ j _ j _ _ _ j HBW.out hla hlb hcl10 HA.out.sl HB.out.sl HTB.out
          clear hpa hpb hna hnb hla hlb
          go_wp2_with (first
            | (go_at_call 23; refine HIT2.out.mono ?_; rintro e w6 ⟨rfl, hb6⟩; have HB6 : Hid (Below w.heap.size w w6) := HBW.out.trans (hb6.mono HBW.out.size); clear hb6)
            | (go_at_call 8; refine (HAW.out _).mono ?_; rintro e w7 ⟨rfl, hb7⟩))
          all_goals
            go_ret
            exact ⟨rfl, HB6.out.trans (hb7.mono HB6.out.size)⟩
    · clear hmk
      simp only [Act.put, List.getElem_toArray, List.getElem_cons_zero, List.getElem_cons_succ, List.setIfInBounds_toArray, List.set_cons_zero, List.set_cons_succ]
      rw [HG1.out, HG0.out]
      clear hV1
      go_wp2
      go_loopw [16, 17, 80] (fun a b i wr => ∃ j : Nat, j ≤ n ∧ i = .int .i64 j ∧ a = .int .i64 (nzTo (cutA C m2 n) j) ∧ b = .int .i64 (nzTo (cutB C m2 n) j) ∧ OwnI wr w.heap.size (.slice (some ⟨G1, 0, none⟩) n n) (cutA C m2 j) ∧ OwnI wr w.heap.size (.slice (some ⟨G0, 0, none⟩) n n) (cutB C m2 j) ∧ Below w5.heap.size w5 wr) (fun _ _ i _ => n - (intOf i).toNat)
      case atStart => exact ⟨0, Nat.zero_le _, rfl, rfl, rfl, by rw [(cut_zero C m2).1, HN.out]; exact HO1.out, by rw [(cut_zero C m2).2, HN.out]; exact HO0.out, HBV.out⟩
      case round =>
        obtain ⟨j, hj, rfl, rfl, rfl, hoa, hob, hb⟩ := hrel
        have HA := Lib.hid hoa
        have HB := Lib.hid hob
        have HBB := Lib.hid hb
        have HSW := Lib.hid (HS5.out.below hb)
        have hna := nzTo_in (cutA C m2 n) j
        have hnb := nzTo_in (cutB C m2 n) j
        clear hoa hob hb
        by_cases hlt : j < n
        · have hjh : j < C.length := by rw [HN.out]; exact hlt
          obtain ⟨b, o, x, hae, hc, hx⟩ := HSW.out.at hjh
          have hgx := gt_some' hx.out
          have hxb := H160.out (by trivial) j
          rw [hgx] at hxb
          have HCC := Lib.hid (cut_count (t := m2) hjh)
          rw [hgx, HN.out] at HCC
          have HCL : (j : Int) < m2 → Hid ((cutA C m2 j).set j x = cutA C m2 (j + 1) ∧ cutB C m2 j = cutB C m2 (j + 1)) := fun h => by have := cut_left hjh h; rw [hgx] at this; exact this
          have HCR : ¬ (j : Int) < m2 → Hid ((cutB C m2 j).set j (-x) = cutB C m2 (j + 1) ∧ cutA C m2 j = cutA C m2 (j + 1)) := fun h => by have := cut_right hjh h; rw [hgx] at this; exact this
          obtain ⟨pa, hpa⟩ : ∃ pa, nzTo (cutA C m2 n) j = pa := ⟨_, rfl⟩
          obtain ⟨pb, hpb⟩ : ∃ pb, nzTo (cutB C m2 n) j = pb := ⟨_, rfl⟩
          rw [hpa] at HCC hna ⊢
          rw [hpb] at HCC hnb ⊢
          obtain rfl := hae
          have wneg : IntKind.i64.wrap (-x) = -x := IntWalk.i64_in _ (by omega)
          have wpa : IntKind.i64.wrap (pa + 1) = pa + 1 := IntWalk.i64_in _ (by omega)
          have wpb : IntKind.i64.wrap (pb + 1) = pb + 1 := IntWalk.i64_in _ (by omega)
          obtain ⟨ca', fa⟩ := HA.out.cell (j := j) (by rw [cutA_len]; exact hjh)
          obtain ⟨cb', fb⟩ := HB.out.cell (j := j) (by rw [cutB_len]; exact hjh)
          have hj0 : (j : Int) < (n : Int) := by omega
          clear hgx hjh hxb hna hnb hpa hpb
          by_cases hqk : (j : Int) < m2
          · have z1 : decide ((j : Int) < m2) = true := by simp [hqk]
            have HT2 := HCL hqk
            have HC2 : Hid (nzTo (cutA C m2 n) (j + 1) = (if x = 0 then pa else pa + 1) ∧ nzTo (cutB C m2 n) (j + 1) = pb) := by
              have h := HCC.out
              rw [if_pos hqk, if_pos hqk] at h
              exact h
            clear cb' fb wneg HCC HCL HCR hqk
            by_cases hx0 : x = 0
            · have z2 : (x != 0) = false := by simp [hx0]
              have HC3 : Hid (nzTo (cutA C m2 n) (j + 1) = pa) := by have h := HC2.out.1; rw [if_pos hx0] at h; exact h
              clear hx0
              go_wp2
              go_roundw
              case rel => exact ⟨j + 1, by omega, by go_num, by rw [HC3.out], by rw [HC2.out.2], by rw [← HT2.out.1]; exact HA.out.stored j x, by rw [← HT2.out.2]; exact OwnI.sameBlock HB.out (Below.heap_setCell _ _ _ _ HNE.out.1), HBB.out.setCell (p := ⟨G1, j, none⟩) HNE.out.2.2 _⟩
              case measure => simp [intOf]; omega
            · have z2 : (x != 0) = true := by simp [hx0]
              have HC3 : Hid (nzTo (cutA C m2 n) (j + 1) = pa + 1) := by have h := HC2.out.1; rw [if_neg hx0] at h; exact h
              clear hx0
              go_wp2
              go_roundw
              case rel => exact ⟨j + 1, by omega, by go_num, by rw [HC3.out], by rw [HC2.out.2], by rw [← HT2.out.1]; exact HA.out.stored j x, by rw [← HT2.out.2]; exact OwnI.sameBlock HB.out (Below.heap_setCell _ _ _ _ HNE.out.1), HBB.out.setCell (p := ⟨G1, j, none⟩) HNE.out.2.2 _⟩
              case measure => simp [intOf]; omega
          · have z1 : decide ((j : Int) < m2) = false := by simp; omega
            have HT2 := HCR hqk
            have HC2 : Hid (nzTo (cutA C m2 n) (j + 1) = pa ∧ nzTo (cutB C m2 n) (j + 1) = (if x = 0 then pb else pb + 1)) := by
              have h := HCC.out
              rw [if_neg hqk, if_neg hqk] at h
              exact h
            clear ca' fa HCC HCL HCR hqk
            by_cases hx0 : x = 0
            · have z2 : (x != 0) = false := by simp [hx0]
              have HC3 : Hid (nzTo (cutB C m2 n) (j + 1) = pb) := by have h := HC2.out.2; rw [if_pos hx0] at h; exact h
              clear hx0
              go_wp2
              go_roundw
              case rel => exact ⟨j + 1, by omega, by go_num, by rw [HC2.out.1], by rw [HC3.out], by rw [← HT2.out.2]; exact OwnI.sameBlock HA.out (Below.heap_setCell _ _ _ _ (Ne.symm HNE.out.1)), by rw [← HT2.out.1]; exact HB.out.stored j (-x), HBB.out.setCell (p := ⟨G0, j, none⟩) HNE.out.2.1 _⟩
              case measure => simp [intOf]; omega
            · have z2 : (x != 0) = true := by simp [hx0]
              have HC3 : Hid (nzTo (cutB C m2 n) (j + 1) = pb + 1) := by have h := HC2.out.2; rw [if_neg hx0] at h; exact h
              clear hx0
              go_wp2
              go_roundw
              case rel => exact ⟨j + 1, by omega, by go_num, by rw [HC2.out.1], by rw [HC3.out], by rw [← HT2.out.2]; exact OwnI.sameBlock HA.out (Below.heap_setCell _ _ _ _ (Ne.symm HNE.out.1)), by rw [← HT2.out.1]; exact HB.out.stored j (-x), HBB.out.setCell (p := ⟨G0, j, none⟩) HNE.out.2.1 _⟩
              case measure => simp [intOf]; omega
        · obtain rfl : j = n := by omega
          obtain ⟨pa, hpa⟩ : ∃ pa, nzTo (cutA C m2 j) j = pa := ⟨_, rfl⟩
          obtain ⟨pb, hpb⟩ : ∃ pb, nzTo (cutB C m2 j) j = pb := ⟨_, rfl⟩
          have HTB := Lib.hid (HCUT.out (by trivial) hpa hpb)
          rw [hpa, hpb]
          have HBW : Hid (Below w.heap.size w wr) := HB5.out.trans (HBB.out.mono HB5.out.size)
          have hla : (cutA C m2 j).length = j := by rw [cutA_len, HN.out]
          have hlb : (cutB C m2 j).length = j := by rw [cutB_len, HN.out]
          have HIT2 : Hid (Calls Tryz.prog 23 #[.slice b0 ml c0, .int .i64 (if pa < pb then pb else pa), .slice (some ⟨G1, 0, none⟩) j j, .slice (some ⟨G0, 0, none⟩) j j] wr fun e w' => e = .returned (.bool true) ∧ Below wr.heap.size wr w') := HIT.out wr _ j _ j _ _ _ j HBW.out hla hlb hcl10 HA.out.sl HB.out.sl HTB.out
          clear hpa hpb hna hnb hla hlb
          go_wp2_with (first
            | (go_at_call 23; refine HIT2.out.mono ?_; rintro e w6 ⟨rfl, hb6⟩; have HB6 : Hid (Below w.heap.size w w6) := HBW.out.trans (hb6.mono HBW.out.size); clear hb6)
            | (go_at_call 8; refine (HAW.out _).mono ?_; rintro e w7 ⟨rfl, hb7⟩))
          all_goals
            go_ret
            exact ⟨rfl, HB6.out.trans (hb7.mono HB6.out.size)⟩
  case pos =>
    subst he
    obtain ⟨k1, k2, k3, k4, k5⟩ := HKER.out rfl
    obtain ⟨al, hal⟩ : ∃ al, A.length = al := ⟨_, rfl⟩
    have hbl : B.length = al := by omega
    have HAL := Lib.hid hal
    have HBL := Lib.hid hbl
    rw [hal] at k2 k3
    have HK3 := Lib.hid k3
    have HK4 := Lib.hid k4
    have HK5 := Lib.hid k5
    have HTW2 : Hid (Calls Tryz.prog 20 #[.slice b0 ml c0, .int .i64 m1] w fun e w' => ∃ xa xc ya yc, e = .returned (.tuple #[.slice xa al xc, .slice ya al yc, .int .i64 0]) ∧ Below w.heap.size w w' ∧ Sl w' xa A ∧ Sl w' ya B) := by
      refine HTW.out.mono ?_
      rintro e w' ⟨h1, xa, xc, ya, yc, h2, h3, h4⟩
      dsimp only at h2 h3 h4
      rw [hal, hbl] at h2
      exact ⟨xa, xc, ya, yc, h2, h1, h3, h4⟩
    clear HTW HKER k1 k3 k4 k5 hal hbl
    go_enter Tryz.func6, Tryz.ntmps6
    go_wp2_with (first
      | (go_at_call 19; refine HLI.out.mono ?_; rintro e w0 ⟨⟨bb, rfl⟩, rfl⟩; cases bb)
      | (go_at_call 20; refine HTW2.out.mono ?_; rintro e w2 ⟨xa, xc, ya, yc, rfl, hb2, hx2, hy2⟩; have HB2 := Lib.hid hb2; have HX2 := Lib.hid hx2; have HY2 := Lib.hid hy2; clear hb2 hx2 hy2)
      | (go_at_call 8; refine (HAW.out _).mono ?_; rintro e w7 ⟨rfl, hb7⟩))
    all_goals first
      | (go_ret
         exact ⟨rfl, hb7⟩)
      | skip
    go_loopw [10, 40] (fun o i wr => ∃ j : Nat, j ≤ al ∧ i = .int .i64 j ∧ OwnI wr w2.heap.size o (difTo A B j) ∧ Below w2.heap.size w2 wr) (fun _ i _ => al - (intOf i).toNat)
    case atStart => exact ⟨0, Nat.zero_le _, rfl, OwnI.nil _ _, Below.refl _ _⟩
    case round =>
      obtain ⟨j, hj, rfl, hO, hB⟩ := hrel
      obtain ⟨oa, oc, rfl, hso, hao⟩ := hO.row
      rw [difTo_len] at hO ⊢
      have HO := Lib.hid hO; clear hO
      have HSO := Lib.hid hso
      have HB := Lib.hid hB; clear hB hso hao
      by_cases hlt : j < al
      · obtain ⟨xb, xo, v1, rfl, hc1, hv1⟩ := (HX2.out.below HB.out).at (k := j) (by rw [HAL.out]; exact hlt)
        obtain ⟨yb, yo, v2, rfl, hc2, hv2⟩ := (HY2.out.below HB.out).at (k := j) (by rw [HBL.out]; exact hlt)
        have e1 := HK4.out v1 (List.mem_of_getElem? hv1.out)
        have e2 := HK5.out v2 (List.mem_of_getElem? hv2.out)
        have g1 := gt_some' hv1.out
        have g2 := gt_some' hv2.out
        have HSC : Hid (difTo A B (j + 1) = difTo A B j ++ [v1 - v2]) := by show _ = _; rw [difTo_succ, g1, g2]
        have wsum' : IntKind.i64.wrap (v1 - v2) = v1 - v2 := IntWalk.i64_in _ (by omega)
        have hj0 : (j : Int) < (al : Int) := by omega
        have hgs : w2.heap.size ≤ wr.heap.size := HB.out.size
        have HDL : Hid ((difTo A B j).length = j) := difTo_len _ _ _
        clear hv1 hv2 g1 g2 e1 e2 hmk
        go_wp2
        go_region_law (refine step_push rfl (.tmp 43) (.tmp 53) rfl w2.heap.size _ (difTo A B j) (v1 - v2) _ wr.heap.size (by rfl) (by rfl) (alloc_cell wr _ _ _ _ rfl) ((HO.out.below ((Below.refl _ _).alloc (Nat.le_refl _) _)).drew) (by rw [HDL.out]; omega) (by simp; omega) ?_; intro v' w9 hown' hbel')
        all_goals
          go_wp2
          go_roundw
          case rel => exact ⟨j + 1, by omega, by go_num, by rw [HSC.out]; exact hown', (HB.out.alloc HB.out.size _).drew.trans hbel'⟩
          case measure => simp [intOf]; omega
      · obtain rfl : j = al := by omega
        have hdl : (difTo A B j).length = j := difTo_len _ _ _
        have HBW : Hid (Below w.heap.size w wr) := HB2.out.trans (HB.out.mono HB2.out.size)
        have HIK2 : Hid (Calls Tryz.prog 21 #[.slice b0 ml c0, .slice oa j oc] wr fun e w' => e = .returned (.bool true) ∧ Below wr.heap.size wr w') := by
          have h := HIK.out wr oa oc (difTo A B j) HBW.out (by omega) HSO.out
          rw [hdl, HK3.out] at h
          exact h
        clear hdl HO HSO
        go_wp2_with (first
          | (go_at_call 21; refine HIK2.out.mono ?_; rintro e w4 ⟨rfl, hb4⟩; have HB4 : Hid (Below w.heap.size w w4) := HBW.out.trans (hb4.mono HBW.out.size); clear hb4)
          | (go_at_call 22; refine (HCI2.out _ HB4.out).mono ?_; rintro e w5 ⟨ca, rfl, hb5, hs5⟩; have HB5 : Hid (Below w.heap.size w w5) := HB4.out.trans (hb5.mono HB4.out.size); have HS5 := Lib.hid hs5; clear hb5 hs5))
        obtain ⟨V1, hV1⟩ : ∃ V1, ((w5.alloc (Obj.cells Z 3)).alloc (Obj.cells Z 3)).drew = V1 := ⟨_, rfl⟩
        have hzs : Z.size = n * 1 := by rw [← HZ.out]; exact size_madeCells _ _
        have hzl : Z.toList = (List.replicate n (0 : Int)).map (Value.int .i64) := by rw [← HZ.out]; exact zeros_are n
        have hsz1 : (w5.alloc (Obj.cells Z 3)).heap.size = w5.heap.size + 1 := World.size_alloc _ _
        have HO0 : Hid (OwnI V1 w.heap.size (.slice (some ⟨w5.heap.size, 0, none⟩) n n) (List.replicate n 0)) := by
          have z : OwnI (w5.alloc (Obj.cells Z 3)) w5.heap.size (.slice (some ⟨w5.heap.size, 0, none⟩) n n) (List.replicate n 0) := by
            have y := World.ownsRow_lit (base := w5.heap.size) (e := 3) (size := 1) w5 Z n (Nat.le_refl _) (by unfold maxLen; omega) hzs
            rw [hzl] at y
            show World.ownsRow _ _ _ _ _ _ _
            rw [List.length_replicate]
            exact y
          have z2 : OwnI V1 w5.heap.size (.slice (some ⟨w5.heap.size, 0, none⟩) n n) (List.replicate n 0) := by
            rw [← hV1]
            exact ((z.below ((Below.refl _ _).alloc (Nat.le_refl _) _))).drew
          exact OwnI.mono z2 HB5.out.size
        have HO1 : Hid (OwnI V1 w.heap.size (.slice (some ⟨w5.heap.size + 1, 0, none⟩) n n) (List.replicate n 0)) := by
          have z : OwnI ((w5.alloc (Obj.cells Z 3)).alloc (Obj.cells Z 3)) w5.heap.size (.slice (some ⟨w5.heap.size + 1, 0, none⟩) n n) (List.replicate n 0) := by
            have y := World.ownsRow_lit (base := w5.heap.size) (e := 3) (size := 1) (w5.alloc (Obj.cells Z 3)) Z n (by omega) (by unfold maxLen; omega) hzs
            rw [hzl, hsz1] at y
            show World.ownsRow _ _ _ _ _ _ _
            rw [List.length_replicate]
            exact y
          have z2 : OwnI V1 w5.heap.size (.slice (some ⟨w5.heap.size + 1, 0, none⟩) n n) (List.replicate n 0) := by
            rw [← hV1]
            exact z.drew
          exact OwnI.mono z2 HB5.out.size
        have HBV : Hid (Below w5.heap.size w5 V1) := by
          rw [← hV1]
          exact (((Below.refl _ _).alloc (Nat.le_refl _) _).alloc (by omega) _).drew
        obtain ⟨G1, hG1⟩ : ∃ g, w5.heap.size + 1 = g := ⟨_, rfl⟩
        obtain ⟨G0, hG0⟩ : ∃ g, w5.heap.size = g := ⟨_, rfl⟩
        have HG0 := Lib.hid hG0
        have HG1 := Lib.hid hG1
        have HNE : Hid (G0 ≠ G1 ∧ w5.heap.size ≤ G0 ∧ w5.heap.size ≤ G1) := by show _ ∧ _; omega
        rw [hG0] at HO0
        rw [hG1] at HO1
        clear hzs hzl hsz1 hG0 hG1
        go_region_law (fail)
        · clear hmk
          simp only [Act.put, List.getElem_toArray, List.getElem_cons_zero, List.getElem_cons_succ, List.setIfInBounds_toArray, List.set_cons_zero, List.set_cons_succ]
          rw [HG1.out, HG0.out]
          clear hV1
          go_wp2
          go_loopw [16, 17, 80] (fun a b i wr => ∃ j : Nat, j ≤ n ∧ i = .int .i64 j ∧ a = .int .i64 (nzTo (cutA C m2 n) j) ∧ b = .int .i64 (nzTo (cutB C m2 n) j) ∧ OwnI wr w.heap.size (.slice (some ⟨G0, 0, none⟩) n n) (cutA C m2 j) ∧ OwnI wr w.heap.size (.slice (some ⟨G1, 0, none⟩) n n) (cutB C m2 j) ∧ Below w5.heap.size w5 wr) (fun _ _ i _ => n - (intOf i).toNat)
          case atStart => exact ⟨0, Nat.zero_le _, rfl, rfl, rfl, by rw [(cut_zero C m2).1, HN.out]; exact HO0.out, by rw [(cut_zero C m2).2, HN.out]; exact HO1.out, HBV.out⟩
          case round =>
            obtain ⟨j, hj, rfl, rfl, rfl, hoa, hob, hb⟩ := hrel
            have HA := Lib.hid hoa
            have HB := Lib.hid hob
            have HBB := Lib.hid hb
            have HSW := Lib.hid (HS5.out.below hb)
            have hna := nzTo_in (cutA C m2 n) j
            have hnb := nzTo_in (cutB C m2 n) j
            clear hoa hob hb
            by_cases hlt : j < n
            · have hjh : j < C.length := by rw [HN.out]; exact hlt
              obtain ⟨b, o, x, hae, hc, hx⟩ := HSW.out.at hjh
              have hgx := gt_some' hx.out
              have hxb := H160.out (by trivial) j
              rw [hgx] at hxb
              have HCC := Lib.hid (cut_count (t := m2) hjh)
              rw [hgx, HN.out] at HCC
              have HCL : (j : Int) < m2 → Hid ((cutA C m2 j).set j x = cutA C m2 (j + 1) ∧ cutB C m2 j = cutB C m2 (j + 1)) := fun h => by have := cut_left hjh h; rw [hgx] at this; exact this
              have HCR : ¬ (j : Int) < m2 → Hid ((cutB C m2 j).set j (-x) = cutB C m2 (j + 1) ∧ cutA C m2 j = cutA C m2 (j + 1)) := fun h => by have := cut_right hjh h; rw [hgx] at this; exact this
              obtain ⟨pa, hpa⟩ : ∃ pa, nzTo (cutA C m2 n) j = pa := ⟨_, rfl⟩
              obtain ⟨pb, hpb⟩ : ∃ pb, nzTo (cutB C m2 n) j = pb := ⟨_, rfl⟩
              rw [hpa] at HCC hna ⊢
              rw [hpb] at HCC hnb ⊢
              obtain rfl := hae
              have wneg : IntKind.i64.wrap (-x) = -x := IntWalk.i64_in _ (by omega)
              have wpa : IntKind.i64.wrap (pa + 1) = pa + 1 := IntWalk.i64_in _ (by omega)
              have wpb : IntKind.i64.wrap (pb + 1) = pb + 1 := IntWalk.i64_in _ (by omega)
              obtain ⟨ca', fa⟩ := HA.out.cell (j := j) (by rw [cutA_len]; exact hjh)
              obtain ⟨cb', fb⟩ := HB.out.cell (j := j) (by rw [cutB_len]; exact hjh)
              have hj0 : (j : Int) < (n : Int) := by omega
              clear hgx hjh hxb hna hnb hpa hpb
              by_cases hqk : (j : Int) < m2
              · have z1 : decide ((j : Int) < m2) = true := by simp [hqk]
                have HT2 := HCL hqk
                have HC2 : Hid (nzTo (cutA C m2 n) (j + 1) = (if x = 0 then pa else pa + 1) ∧ nzTo (cutB C m2 n) (j + 1) = pb) := by
                  have h := HCC.out
                  rw [if_pos hqk, if_pos hqk] at h
                  exact h
                clear cb' fb wneg HCC HCL HCR hqk
                by_cases hx0 : x = 0
                · have z2 : (x != 0) = false := by simp [hx0]
                  have HC3 : Hid (nzTo (cutA C m2 n) (j + 1) = pa) := by have h := HC2.out.1; rw [if_pos hx0] at h; exact h
                  clear hx0
                  go_wp2
                  go_roundw
                  case rel => exact ⟨j + 1, by omega, by go_num, by rw [HC3.out], by rw [HC2.out.2], by rw [← HT2.out.1]; exact HA.out.stored j x, by rw [← HT2.out.2]; exact OwnI.sameBlock HB.out (Below.heap_setCell _ _ _ _ (Ne.symm HNE.out.1)), HBB.out.setCell (p := ⟨G0, j, none⟩) HNE.out.2.1 _⟩
                  case measure => simp [intOf]; omega
                · have z2 : (x != 0) = true := by simp [hx0]
                  have HC3 : Hid (nzTo (cutA C m2 n) (j + 1) = pa + 1) := by have h := HC2.out.1; rw [if_neg hx0] at h; exact h
                  clear hx0
                  go_wp2
                  go_roundw
                  case rel => exact ⟨j + 1, by omega, by go_num, by rw [HC3.out], by rw [HC2.out.2], by rw [← HT2.out.1]; exact HA.out.stored j x, by rw [← HT2.out.2]; exact OwnI.sameBlock HB.out (Below.heap_setCell _ _ _ _ (Ne.symm HNE.out.1)), HBB.out.setCell (p := ⟨G0, j, none⟩) HNE.out.2.1 _⟩
                  case measure => simp [intOf]; omega
              · have z1 : decide ((j : Int) < m2) = false := by simp; omega
                have HT2 := HCR hqk
                have HC2 : Hid (nzTo (cutA C m2 n) (j + 1) = pa ∧ nzTo (cutB C m2 n) (j + 1) = (if x = 0 then pb else pb + 1)) := by
                  have h := HCC.out
                  rw [if_neg hqk, if_neg hqk] at h
                  exact h
                clear ca' fa HCC HCL HCR hqk
                by_cases hx0 : x = 0
                · have z2 : (x != 0) = false := by simp [hx0]
                  have HC3 : Hid (nzTo (cutB C m2 n) (j + 1) = pb) := by have h := HC2.out.2; rw [if_pos hx0] at h; exact h
                  clear hx0
                  go_wp2
                  go_roundw
                  case rel => exact ⟨j + 1, by omega, by go_num, by rw [HC2.out.1], by rw [HC3.out], by rw [← HT2.out.2]; exact OwnI.sameBlock HA.out (Below.heap_setCell _ _ _ _ HNE.out.1), by rw [← HT2.out.1]; exact HB.out.stored j (-x), HBB.out.setCell (p := ⟨G1, j, none⟩) HNE.out.2.2 _⟩
                  case measure => simp [intOf]; omega
                · have z2 : (x != 0) = true := by simp [hx0]
                  have HC3 : Hid (nzTo (cutB C m2 n) (j + 1) = pb + 1) := by have h := HC2.out.2; rw [if_neg hx0] at h; exact h
                  clear hx0
                  go_wp2
                  go_roundw
                  case rel => exact ⟨j + 1, by omega, by go_num, by rw [HC2.out.1], by rw [HC3.out], by rw [← HT2.out.2]; exact OwnI.sameBlock HA.out (Below.heap_setCell _ _ _ _ HNE.out.1), by rw [← HT2.out.1]; exact HB.out.stored j (-x), HBB.out.setCell (p := ⟨G1, j, none⟩) HNE.out.2.2 _⟩
                  case measure => simp [intOf]; omega
            · obtain rfl : j = n := by omega
              obtain ⟨pa, hpa⟩ : ∃ pa, nzTo (cutA C m2 j) j = pa := ⟨_, rfl⟩
              obtain ⟨pb, hpb⟩ : ∃ pb, nzTo (cutB C m2 j) j = pb := ⟨_, rfl⟩
              have HTB := Lib.hid (HCUT.out (by trivial) hpa hpb)
              rw [hpa, hpb]
              have HBW : Hid (Below w.heap.size w wr) := HB5.out.trans (HBB.out.mono HB5.out.size)
              have hla : (cutA C m2 j).length = j := by rw [cutA_len, HN.out]
              have hlb : (cutB C m2 j).length = j := by rw [cutB_len, HN.out]
              have HIT2 : Hid (Calls Tryz.prog 23 #[.slice b0 ml c0, .int .i64 (if pa < pb then pb else pa), .slice (some ⟨G0, 0, none⟩) j j, .slice (some ⟨G1, 0, none⟩) j j] wr fun e w' => e = .returned (.bool true) ∧ Below wr.heap.size wr w') := HIT.out wr _ j _ j _ _ _ j HBW.out hla hlb hcl10 HA.out.sl HB.out.sl HTB.out
              clear hpa hpb hna hnb hla hlb
              go_wp2_with (first
                | (go_at_call 23; refine HIT2.out.mono ?_; rintro e w6 ⟨rfl, hb6⟩; have HB6 : Hid (Below w.heap.size w w6) := HBW.out.trans (hb6.mono HBW.out.size); clear hb6)
                | (go_at_call 8; refine (HAW.out _).mono ?_; rintro e w7 ⟨rfl, hb7⟩))
              all_goals
                go_ret
                exact ⟨rfl, HB6.out.trans (hb7.mono HB6.out.size)⟩
        · clear hmk
          simp only [Act.put, List.getElem_toArray, List.getElem_cons_zero, List.getElem_cons_succ, List.setIfInBounds_toArray, List.set_cons_zero, List.set_cons_succ]
          rw [HG1.out, HG0.out]
          clear hV1
          go_wp2
          go_loopw [16, 17, 80] (fun a b i wr => ∃ j : Nat, j ≤ n ∧ i = .int .i64 j ∧ a = .int .i64 (nzTo (cutA C m2 n) j) ∧ b = .int .i64 (nzTo (cutB C m2 n) j) ∧ OwnI wr w.heap.size (.slice (some ⟨G1, 0, none⟩) n n) (cutA C m2 j) ∧ OwnI wr w.heap.size (.slice (some ⟨G0, 0, none⟩) n n) (cutB C m2 j) ∧ Below w5.heap.size w5 wr) (fun _ _ i _ => n - (intOf i).toNat)
          case atStart => exact ⟨0, Nat.zero_le _, rfl, rfl, rfl, by rw [(cut_zero C m2).1, HN.out]; exact HO1.out, by rw [(cut_zero C m2).2, HN.out]; exact HO0.out, HBV.out⟩
          case round =>
            obtain ⟨j, hj, rfl, rfl, rfl, hoa, hob, hb⟩ := hrel
            have HA := Lib.hid hoa
            have HB := Lib.hid hob
            have HBB := Lib.hid hb
            have HSW := Lib.hid (HS5.out.below hb)
            have hna := nzTo_in (cutA C m2 n) j
            have hnb := nzTo_in (cutB C m2 n) j
            clear hoa hob hb
            by_cases hlt : j < n
            · have hjh : j < C.length := by rw [HN.out]; exact hlt
              obtain ⟨b, o, x, hae, hc, hx⟩ := HSW.out.at hjh
              have hgx := gt_some' hx.out
              have hxb := H160.out (by trivial) j
              rw [hgx] at hxb
              have HCC := Lib.hid (cut_count (t := m2) hjh)
              rw [hgx, HN.out] at HCC
              have HCL : (j : Int) < m2 → Hid ((cutA C m2 j).set j x = cutA C m2 (j + 1) ∧ cutB C m2 j = cutB C m2 (j + 1)) := fun h => by have := cut_left hjh h; rw [hgx] at this; exact this
              have HCR : ¬ (j : Int) < m2 → Hid ((cutB C m2 j).set j (-x) = cutB C m2 (j + 1) ∧ cutA C m2 j = cutA C m2 (j + 1)) := fun h => by have := cut_right hjh h; rw [hgx] at this; exact this
              obtain ⟨pa, hpa⟩ : ∃ pa, nzTo (cutA C m2 n) j = pa := ⟨_, rfl⟩
              obtain ⟨pb, hpb⟩ : ∃ pb, nzTo (cutB C m2 n) j = pb := ⟨_, rfl⟩
              rw [hpa] at HCC hna ⊢
              rw [hpb] at HCC hnb ⊢
              obtain rfl := hae
              have wneg : IntKind.i64.wrap (-x) = -x := IntWalk.i64_in _ (by omega)
              have wpa : IntKind.i64.wrap (pa + 1) = pa + 1 := IntWalk.i64_in _ (by omega)
              have wpb : IntKind.i64.wrap (pb + 1) = pb + 1 := IntWalk.i64_in _ (by omega)
              obtain ⟨ca', fa⟩ := HA.out.cell (j := j) (by rw [cutA_len]; exact hjh)
              obtain ⟨cb', fb⟩ := HB.out.cell (j := j) (by rw [cutB_len]; exact hjh)
              have hj0 : (j : Int) < (n : Int) := by omega
              clear hgx hjh hxb hna hnb hpa hpb
              by_cases hqk : (j : Int) < m2
              · have z1 : decide ((j : Int) < m2) = true := by simp [hqk]
                have HT2 := HCL hqk
                have HC2 : Hid (nzTo (cutA C m2 n) (j + 1) = (if x = 0 then pa else pa + 1) ∧ nzTo (cutB C m2 n) (j + 1) = pb) := by
                  have h := HCC.out
                  rw [if_pos hqk, if_pos hqk] at h
                  exact h
                clear cb' fb wneg HCC HCL HCR hqk
                by_cases hx0 : x = 0
                · have z2 : (x != 0) = false := by simp [hx0]
                  have HC3 : Hid (nzTo (cutA C m2 n) (j + 1) = pa) := by have h := HC2.out.1; rw [if_pos hx0] at h; exact h
                  clear hx0
                  go_wp2
                  go_roundw
                  case rel => exact ⟨j + 1, by omega, by go_num, by rw [HC3.out], by rw [HC2.out.2], by rw [← HT2.out.1]; exact HA.out.stored j x, by rw [← HT2.out.2]; exact OwnI.sameBlock HB.out (Below.heap_setCell _ _ _ _ HNE.out.1), HBB.out.setCell (p := ⟨G1, j, none⟩) HNE.out.2.2 _⟩
                  case measure => simp [intOf]; omega
                · have z2 : (x != 0) = true := by simp [hx0]
                  have HC3 : Hid (nzTo (cutA C m2 n) (j + 1) = pa + 1) := by have h := HC2.out.1; rw [if_neg hx0] at h; exact h
                  clear hx0
                  go_wp2
                  go_roundw
                  case rel => exact ⟨j + 1, by omega, by go_num, by rw [HC3.out], by rw [HC2.out.2], by rw [← HT2.out.1]; exact HA.out.stored j x, by rw [← HT2.out.2]; exact OwnI.sameBlock HB.out (Below.heap_setCell _ _ _ _ HNE.out.1), HBB.out.setCell (p := ⟨G1, j, none⟩) HNE.out.2.2 _⟩
                  case measure => simp [intOf]; omega
              · have z1 : decide ((j : Int) < m2) = false := by simp; omega
                have HT2 := HCR hqk
                have HC2 : Hid (nzTo (cutA C m2 n) (j + 1) = pa ∧ nzTo (cutB C m2 n) (j + 1) = (if x = 0 then pb else pb + 1)) := by
                  have h := HCC.out
                  rw [if_neg hqk, if_neg hqk] at h
                  exact h
                clear ca' fa HCC HCL HCR hqk
                by_cases hx0 : x = 0
                · have z2 : (x != 0) = false := by simp [hx0]
                  have HC3 : Hid (nzTo (cutB C m2 n) (j + 1) = pb) := by have h := HC2.out.2; rw [if_pos hx0] at h; exact h
                  clear hx0
                  go_wp2
                  go_roundw
                  case rel => exact ⟨j + 1, by omega, by go_num, by rw [HC2.out.1], by rw [HC3.out], by rw [← HT2.out.2]; exact OwnI.sameBlock HA.out (Below.heap_setCell _ _ _ _ (Ne.symm HNE.out.1)), by rw [← HT2.out.1]; exact HB.out.stored j (-x), HBB.out.setCell (p := ⟨G0, j, none⟩) HNE.out.2.1 _⟩
                  case measure => simp [intOf]; omega
                · have z2 : (x != 0) = true := by simp [hx0]
                  have HC3 : Hid (nzTo (cutB C m2 n) (j + 1) = pb + 1) := by have h := HC2.out.2; rw [if_neg hx0] at h; exact h
                  clear hx0
                  go_wp2
                  go_roundw
                  case rel => exact ⟨j + 1, by omega, by go_num, by rw [HC2.out.1], by rw [HC3.out], by rw [← HT2.out.2]; exact OwnI.sameBlock HA.out (Below.heap_setCell _ _ _ _ (Ne.symm HNE.out.1)), by rw [← HT2.out.1]; exact HB.out.stored j (-x), HBB.out.setCell (p := ⟨G0, j, none⟩) HNE.out.2.1 _⟩
                  case measure => simp [intOf]; omega
            · obtain rfl : j = n := by omega
              obtain ⟨pa, hpa⟩ : ∃ pa, nzTo (cutA C m2 j) j = pa := ⟨_, rfl⟩
              obtain ⟨pb, hpb⟩ : ∃ pb, nzTo (cutB C m2 j) j = pb := ⟨_, rfl⟩
              have HTB := Lib.hid (HCUT.out (by trivial) hpa hpb)
              rw [hpa, hpb]
              have HBW : Hid (Below w.heap.size w wr) := HB5.out.trans (HBB.out.mono HB5.out.size)
              have hla : (cutA C m2 j).length = j := by rw [cutA_len, HN.out]
              have hlb : (cutB C m2 j).length = j := by rw [cutB_len, HN.out]
              have HIT2 : Hid (Calls Tryz.prog 23 #[.slice b0 ml c0, .int .i64 (if pa < pb then pb else pa), .slice (some ⟨G1, 0, none⟩) j j, .slice (some ⟨G0, 0, none⟩) j j] wr fun e w' => e = .returned (.bool true) ∧ Below wr.heap.size wr w') := HIT.out wr _ j _ j _ _ _ j HBW.out hla hlb hcl10 HA.out.sl HB.out.sl HTB.out
              clear hpa hpb hna hnb hla hlb
              go_wp2_with (first
                | (go_at_call 23; refine HIT2.out.mono ?_; rintro e w6 ⟨rfl, hb6⟩; have HB6 : Hid (Below w.heap.size w w6) := HBW.out.trans (hb6.mono HBW.out.size); clear hb6)
                | (go_at_call 8; refine (HAW.out _).mono ?_; rintro e w7 ⟨rfl, hb7⟩))
              all_goals
                go_ret
                exact ⟨rfl, HB6.out.trans (hb7.mono HB6.out.size)⟩
end Go.Proofs.YtgbnfhfkehpfaaaGreat.topTwins
