/- Parts of the proof of SparseBounds: plain words, walks and contracts, each under its own heading. -/
import Derived.Test.YtfnomiingelfaaaGreatSparseBoundsPE
import Derived.Test.YtfnomiingelfaaaGreatSparseBoundsPF
/- SparseBounds: the walk. Written by mk_spbounds.py. -/
namespace Go.Proofs.YtfnomiingelfaaaGreat.sparseBounds
open Go.RowKit Go.Shelf

theorem pic_len (m : List (List Int)) (px : List Int) (vs : List (Int × Int)) : (picV m px vs).1.length ≤ 1000 := by
  unfold picV
  split
  · rename_i h
    show (spreadTo _ _ _ _).length ≤ _
    rw [spreadTo_len]
    unfold picE at h
    split at h
    · rename_i hv
      have := (validM_of hv).2.2.2.1
      omega
    · cases h
  · exact Nat.zero_le _
set_option maxRecDepth 1000000 in
set_option maxHeartbeats 8000000 in
theorem walk (b0 : Option Addr) (m0 : List (List Int)) (c0 : Nat) (b1 : Option Addr) (xs1 : List Int) (c1 : Nat) (vb1 : Option Addr) (ps1 : List (Int × Int)) (vc1 : Nat) (w : World) (h0 : Ms w b0 m0) (r0 : MOk m0) (h1 : Sl w b1 xs1) (l1 : xs1.length ≤ 9223372036854775807) (_r1 : ∀ x ∈ xs1, I64 x) (hv1 : Rr w vb1 ps1) (_lv1 : ps1.length ≤ 9223372036854775807) :
    Calls Tryz.prog 4 #[.slice b0 m0.length c0, .agg #[.slice b1 xs1.length c1, .slice vb1 ps1.length vc1]] w fun e w' => e = .returned (.bool true) ∧ Below w.heap.size w w' := by
  obtain ⟨V, hV⟩ : ∃ V, w.alloc (.cells #[.slice b1 xs1.length c1, .slice vb1 ps1.length vc1] 27) = V := ⟨_, rfl⟩
  have hbv : Below w.heap.size w V := by rw [← hV]; exact (Below.refl _ _).alloc (Nat.le_refl _) _
  have HBV := Lib.hid hbv
  have HVW := Lib.hid (box2 hV)
  obtain ⟨t0, t1, t2, t3⟩ := HVW.out V (Below.refl _ _)
  have HLI : Hid (Calls Tryz.prog 6 #[.slice b0 m0.length c0] V fun e w' => (∃ b, e = .returned (.bool b)) ∧ V = w') := light_any b0 m0 c0 V r0.1 (h0.below hbv)
  obtain ⟨wl, hwl⟩ : ∃ wl, V.alloc (.cells #[.slice b1 xs1.length c1] 24) = wl := ⟨_, rfl⟩
  have hbl : Below V.heap.size V wl := by rw [← hwl]; exact (Below.refl _ _).alloc (Nat.le_refl _) _
  obtain ⟨v0, v1, _, _⟩ := HVW.out wl hbl
  have HLN : Hid (Calls Tryz.prog 7 #[.slice (some ⟨V.heap.size, 0, none⟩) 1 1] wl fun e w' => w' = wl ∧ (e = .returned (.bool true) ∨ e = .returned (.bool false) ∧ Hid (xs1.length ≤ 100))) := by
    have k := long4_any V.heap.size 0 b1 xs1.length c1 1 wl l1 (by rw [← hwl]; exact alloc_cell V _ _ _ _ rfl)
    refine k.mono ?_
    rintro e w' ⟨k1, k2⟩
    refine ⟨k2.symm, ?_⟩
    by_cases h : 100 < xs1.length
    · exact .inl (by rw [k1]; simp [h])
    · exact .inr ⟨by rw [k1]; simp [h], (by omega : xs1.length ≤ 100)⟩
  have HB1 : Hid (Below w.heap.size w wl) := bel_trn hbv hbl
  have HBL := Lib.hid hbl
  have HS1 : Hid (∀ V, Below w.heap.size w V → Calls Tryz.prog 16 #[.slice b0 m0.length c0] V fun e w' => e = .returned (.tuple #[.int .i64 (sureV m0).1, .int .i64 (sureV m0).2]) ∧ Below V.heap.size V w') := fun V hb => ssure_any b0 m0 c0 V r0 (h0.below hb)
  have HS2 : Hid (∀ V, Below w.heap.size w V → Calls Tryz.prog 17 #[.slice b0 m0.length c0] V fun e w' => e = .returned (.tuple #[.int .i64 (sureV m0).1, .int .i64 (sureV m0).2]) ∧ Below V.heap.size V w') := fun V hb => rsure_any b0 m0 c0 V r0 (h0.below hb)
  have HN1 : Hid (∀ V, Below w.heap.size w V → Calls Tryz.prog 18 #[.slice b0 m0.length c0] V fun e w' => e = .returned (.tuple #[.int .i64 (boundV m0).1, .int .i64 (boundV m0).2]) ∧ Below V.heap.size V w') := fun V hb => sbound_any b0 m0 c0 V r0 (h0.below hb)
  have HN2 : Hid (∀ V, Below w.heap.size w V → Calls Tryz.prog 19 #[.slice b0 m0.length c0] V fun e w' => e = .returned (.tuple #[.int .i64 (boundV m0).1, .int .i64 (boundV m0).2]) ∧ Below V.heap.size V w') := fun V hb => rbound_any b0 m0 c0 V r0 (h0.below hb)
  have HK1 : Hid (∀ V, Below w.heap.size w V → Calls Tryz.prog 23 #[.slice b0 m0.length c0] V fun e w' => e = .returned (.tuple #[.int .i64 (sparkV m0).1, .int .i64 (sparkV m0).2]) ∧ Below V.heap.size V w') := fun V hb => rspark_any b0 m0 c0 V r0 (h0.below hb)
  have HP1 : Hid (xs1.length ≤ 100 → ps1.length ≤ 100 → ∀ V, Below w.heap.size w V → Calls Tryz.prog 20 #[.slice b0 m0.length c0, .agg #[.slice b1 xs1.length c1, .slice vb1 ps1.length vc1]] V (RLPost (picV m0 xs1 ps1) V)) := fun k1 k2 V hb => spicture_any b0 m0 c0 b1 xs1 c1 vb1 ps1 vc1 V r0 (by omega) (by omega) (h0.below hb) (h1.below hb) (hv1.below hb)
  have HP2 : Hid (xs1.length ≤ 100 → ps1.length ≤ 100 → ∀ V, Below w.heap.size w V → Calls Tryz.prog 21 #[.slice b0 m0.length c0, .agg #[.slice b1 xs1.length c1, .slice vb1 ps1.length vc1]] V (RLPost (picV m0 xs1 ps1) V)) := fun k1 k2 V hb => rpicture_any b0 m0 c0 b1 xs1 c1 vb1 ps1 vc1 V r0 (by omega) (by omega) (h0.below hb) (h1.below hb) (hv1.below hb)
  have hpl := pic_len m0 xs1 ps1
  have HSR : Hid (∀ V a ca b cb, Rl V a (picV m0 xs1 ps1).1 → Rl V b (picV m0 xs1 ps1).1 → Calls Tryz.prog 22 #[.slice a (picV m0 xs1 ps1).1.length ca, .slice b (picV m0 xs1 ps1).1.length cb] V fun e w' => e = .returned (.bool true) ∧ Below V.heap.size V w') := fun V a ca b cb k1 k2 => by
    refine (sameRat_any a _ ca b cb V hpl k1 k2).mono ?_
    rintro e w' ⟨q1, n, rfl⟩
    exact ⟨q1, below_drewN (Below.refl _ _) _⟩
  have HLE : Hid ((boundV m0).2 = 0 → (sparkV m0).2 = 0 → (boundV m0).1 ≤ (sureV m0).1) := bound_le
  obtain ⟨⟨sa, se⟩, hsv⟩ : ∃ r, sureV m0 = r := ⟨_, rfl⟩
  obtain ⟨⟨ba, be⟩, hbd⟩ : ∃ r, boundV m0 = r := ⟨_, rfl⟩
  obtain ⟨⟨ka, ke⟩, hkv⟩ : ∃ r, sparkV m0 = r := ⟨_, rfl⟩
  obtain ⟨⟨X, pe⟩, hpv⟩ : ∃ r, picV m0 xs1 ps1 = r := ⟨_, rfl⟩
  rw [hsv] at HS1 HS2 HLE
  rw [hbd] at HN1 HN2 HLE
  rw [hkv] at HK1 HLE
  rw [hpv] at HP1 HP2 HSR
  unfold RLPost at HP1 HP2
  dsimp only at HS1 HS2 HN1 HN2 HK1 HP1 HP2 HSR HLE
  obtain ⟨xl, hxl⟩ : ∃ xl, X.length = xl := ⟨_, rfl⟩
  rw [hxl] at HP1 HP2 HSR
  obtain ⟨pn, hpn⟩ : ∃ pn, ps1.length = pn := ⟨_, rfl⟩
  rw [hpn] at HP1 HP2 HVW t1 v1 hV ⊢
  obtain ⟨ml, hml⟩ : ∃ ml, m0.length = ml := ⟨_, rfl⟩
  rw [hml] at HLI HS1 HS2 HN1 HN2 HK1 HP1 HP2 ⊢
  clear h0 h1 hv1 r0 hpl hsv hbd hkv hpv hxl hpn hml _r1 _lv1 hbv hbl
  by_cases hp : 100 < pn
  · have hpI : (100 : Int) < (pn : Int) := by omega
    clear hp
    go_enter Tryz.func4, Tryz.ntmps4
    go_wp2_with (first
      | (go_at_call 6; refine HLI.out.mono ?_; rintro e w0 ⟨⟨bb, rfl⟩, rfl⟩; cases bb)
      | (go_at_call 7; refine HLN.out.mono ?_; rintro e w1 ⟨rfl, rfl | ⟨rfl, HQ⟩⟩)
      | (go_at_call 8; refine (awake4_any _).mono ?_; rintro e w20 ⟨rfl, hb20⟩))
    all_goals go_ret
    all_goals first
      | exact ⟨rfl, bel_trn HB1.out hb20⟩
      | exact ⟨rfl, bel_trn HBV.out hb20⟩
  · have hpI : ¬ (100 : Int) < (pn : Int) := by omega
    have HPN : Hid (pn ≤ 100) := by show _ ≤ _; omega
    clear hp
    have hcase : (∃ z : Unit, (be == 0) = false ∧ (be != 0) = true) ∨ be = 0 ∧ ((∃ z : Unit, (ke == 0) = false ∧ (ke != 0) = true) ∨ ke = 0 ∧ ba ≤ sa) := by
      by_cases e1 : be = 0
      · right
        refine ⟨e1, ?_⟩
        by_cases e2 : ke = 0
        · exact .inr ⟨e2, HLE.out e1 e2⟩
        · exact .inl ⟨(), by simpa using e2, by simpa using e2⟩
      · exact .inl ⟨(), by simpa using e1, by simpa using e1⟩
    clear HLE
    rcases hcase with ⟨_, y1, y2⟩ | ⟨rfl, ⟨_, y1, y2⟩ | ⟨rfl, hle⟩⟩
    all_goals
      go_enter Tryz.func4, Tryz.ntmps4
      go_wp2_with (first
        | (go_at_call 6; refine HLI.out.mono ?_; rintro e w0 ⟨⟨bb, rfl⟩, rfl⟩; cases bb)
        | (go_at_call 7; refine HLN.out.mono ?_; rintro e w1 ⟨rfl, rfl | ⟨rfl, HQ⟩⟩)
        | (go_at_call 8; refine (awake4_any _).mono ?_; rintro e w20 ⟨rfl, hb20⟩)
        | (go_at_call 16; refine (HS1.out _ HB1.out).mono ?_; rintro e w2 ⟨rfl, hb2⟩; have HV2 : Hid (Below V.heap.size V w2) := bel_trn HBL.out hb2; have HB2 : Hid (Below w.heap.size w w2) := bel_trn HB1.out hb2; clear hb2)
        | (go_at_call 17; refine (HS2.out _ HB2.out).mono ?_; rintro e w3 ⟨rfl, hb3⟩; have HV3 : Hid (Below V.heap.size V w3) := bel_trn HV2.out hb3; have HB3 : Hid (Below w.heap.size w w3) := bel_trn HB2.out hb3; clear hb3)
        | (go_at_call 18; refine (HN1.out _ HB3.out).mono ?_; rintro e w4 ⟨rfl, hb4⟩; have HV4 : Hid (Below V.heap.size V w4) := bel_trn HV3.out hb4; have HB4 : Hid (Below w.heap.size w w4) := bel_trn HB3.out hb4; clear hb4)
        | (go_at_call 19; refine (HN2.out _ HB4.out).mono ?_; rintro e w5 ⟨rfl, hb5⟩; have HV5 : Hid (Below V.heap.size V w5) := bel_trn HV4.out hb5; obtain ⟨c50, c51, _, _⟩ := HVW.out w5 HV5.out; have HB5 : Hid (Below w.heap.size w w5) := bel_trn HB4.out hb5; clear hb5)
        | (go_at_call 20; refine (HP1.out HQ.out HPN.out _ HB5.out).mono ?_; rintro e w6 ⟨hb6, xa, xc, rfl, hx6⟩; have HV6 : Hid (Below V.heap.size V w6) := bel_trn HV5.out hb6; obtain ⟨c60, c61, _, _⟩ := HVW.out w6 HV6.out; have HB6 : Hid (Below w.heap.size w w6) := bel_trn HB5.out hb6; have HX6 := Lib.hid hx6; clear hb6 hx6)
        | (go_at_call 21; refine (HP2.out HQ.out HPN.out _ HB6.out).mono ?_; rintro e w7 ⟨hb7, ya, yc, rfl, hx7⟩; have HX67 : Hid (Rl w7 xa X) := HX6.out.below hb7; have HB7 : Hid (Below w.heap.size w w7) := bel_trn HB6.out hb7; have HX7 := Lib.hid hx7; clear hb7 hx7)
        | (go_at_call 22; refine (HSR.out _ _ _ _ _ HX67.out HX7.out).mono ?_; rintro e w8 ⟨rfl, hb8⟩; have HB8 : Hid (Below w.heap.size w w8) := bel_trn HB7.out hb8; clear hb8)
        | (go_at_call 23; refine (HK1.out _ HB8.out).mono ?_; rintro e w9 ⟨rfl, hb9⟩; have HB9 : Hid (Below w.heap.size w w9) := bel_trn HB8.out hb9; clear hb9))
      all_goals go_ret
      all_goals first
        | exact ⟨rfl, bel_trn HB9.out hb20⟩
        | exact ⟨rfl, bel_trn HB1.out hb20⟩
        | exact ⟨rfl, bel_trn HBV.out hb20⟩
end Go.Proofs.YtfnomiingelfaaaGreat.sparseBounds
