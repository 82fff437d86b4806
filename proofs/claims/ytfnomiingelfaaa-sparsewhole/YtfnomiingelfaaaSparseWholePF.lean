/- Parts of the proof of SparseWhole: plain words, walks and contracts, each under its own heading. -/
import Derived.Test.YtfnomiingelfaaaSparseWholePD
import Derived.Test.YtfnomiingelfaaaSparseWholePE
import Derived.Test.YtfnomiingelfaaaSparseWholePC
import Derived.TacticsIn
import Derived.Laws.AppendOwnNone
import Derived.Test.YtfnomiingelfaaaSparseWholePA
import Derived.BigRegionIn
/- SameRatios of equal lists, long of two lists: contracts. -/
namespace Go.Proofs.Ytfnomiingelfaaa
open Go.RowKit

set_option maxRecDepth 1000000 in
set_option maxHeartbeats 1600000 in
theorem sameRat_any (a : Option Addr) (ps : List (Int × Int)) (ca : Nat) (b : Option Addr) (cb : Nat) (w : World) (hl : ps.length ≤ 1000) (ha : Rl w a ps) (hb : Rl w b ps) :
    Calls Try.prog 39 #[.slice a ps.length ca, .slice b ps.length cb] w fun e w' => e = .returned (.bool true) ∧ ∃ n, w' = w.drewN n := by
  have HA := Lib.hid ha; clear ha
  have HB := Lib.hid hb; clear hb
  obtain ⟨n, hn⟩ : ∃ n, ps.length = n := ⟨_, rfl⟩
  have HN := Lib.hid hn
  rw [hn] at hl ⊢
  clear hn
  go_enter Try.func39, Try.ntmps39
  go_wp2
  go_loopw [13] (fun i wr => ∃ k nd : Nat, k ≤ n ∧ i = .int .i64 k ∧ wr = w.drewN nd) (fun i _ => n - (intOf i).toNat)
  case atStart => exact ⟨0, 0, Nat.zero_le _, rfl, rfl⟩
  case round =>
    obtain ⟨k, nd, hk, rfl, rfl⟩ := hrel
    by_cases hlt : k < n
    · obtain ⟨p, hp⟩ : ∃ p, ps[k]? = some p := ⟨ps[k]'(by rw [HN.out]; exact hlt), by simp [HN.out, hlt]⟩
      obtain ⟨b1, rfl, a1, a2⟩ := HA.out k p hp
      obtain ⟨b2, rfl, c1, c2⟩ := HB.out k p hp
      obtain ⟨p1, p2⟩ := p
      dsimp only at a1 a2 c1 c2
      have hk0 : (k : Int) < (n : Int) := by omega
      clear hp
      go_wp2
      go_quiet (fail)
      all_goals
        go_wp2
        go_roundw
        case rel => exact ⟨k + 1, _, by omega, by go_num, by first | rfl | exact World.drewN_drewN _ _ _⟩
        case measure => simp [intOf]; omega
    · obtain rfl : k = n := by omega
      go_wp2
      go_ret
      exact ⟨rfl, _, rfl⟩
end Go.Proofs.Ytfnomiingelfaaa
/- SameFit of equal fits; Sure: contracts. -/
namespace Go.Proofs.Ytfnomiingelfaaa
open Go.RowKit Go.Shelf

set_option maxRecDepth 100000 in
set_option maxHeartbeats 800000 in
theorem sameFit_any (qa : Option Addr) (px : List Int) (qc : Nat) (va : Option Addr) (vs : List (Int × Int)) (vc : Nat) (qa2 : Option Addr) (qc2 : Nat) (va2 : Option Addr) (vc2 : Nat) (w : World) (hl : px.length ≤ 1000) (hl2 : vs.length ≤ 1000) (s1 : Sl w qa px) (s2 : Sl w qa2 px) (r1 : Rl w va vs) (r2 : Rl w va2 vs) :
    Calls Try.prog 19 #[.agg #[.slice qa px.length qc, .slice va vs.length vc], .agg #[.slice qa2 px.length qc2, .slice va2 vs.length vc2]] w fun e w' => e = .returned (.bool true) ∧ Below w.heap.size w w' := by
  obtain ⟨V1, hV1⟩ : ∃ V1, w.alloc (.cells #[.slice qa px.length qc, .slice va vs.length vc] 41) = V1 := ⟨_, rfl⟩
  obtain ⟨V, hV⟩ : ∃ V, V1.alloc (.cells #[.slice qa2 px.length qc2, .slice va2 vs.length vc2] 41) = V := ⟨_, rfl⟩
  have hb1 : Below w.heap.size w V1 := by rw [← hV1]; exact (Below.refl _ _).alloc (Nat.le_refl _) _
  have hb2 : Below V1.heap.size V1 V := by rw [← hV]; exact (Below.refl _ _).alloc (Nat.le_refl _) _
  have hbv : Below w.heap.size w V := hb1.trans (hb2.mono hb1.size)
  have HBV := Lib.hid hbv
  have HQ : Hid (∀ n, (V.drewN n).cell? ⟨w.heap.size, 0, none⟩ = some (.slice qa px.length qc) ∧ (V.drewN n).cell? ⟨w.heap.size, 1, none⟩ = some (.slice va vs.length vc)) := fun n => by
    obtain ⟨q0, q1, _, _⟩ := box2 hV1 (V.drewN n) (below_drewN hb2 n)
    exact ⟨q0, q1⟩
  have HF : Hid (∀ n, (V.drewN n).cell? ⟨V1.heap.size, 0, none⟩ = some (.slice qa2 px.length qc2) ∧ (V.drewN n).cell? ⟨V1.heap.size, 1, none⟩ = some (.slice va2 vs.length vc2)) := fun n => by
    obtain ⟨q0, q1, _, _⟩ := box2 hV (V.drewN n) (below_drewN (Below.refl _ _) n)
    exact ⟨q0, q1⟩
  obtain ⟨f0, f1, _, _⟩ := box2 hV V (Below.refl _ _)
  obtain ⟨g0, g1, _, _⟩ := box2 hV1 V hb2
  have HSI : Hid (Calls Try.prog 25 #[.slice qa px.length qc, .slice qa2 px.length qc2] V fun e w' => e = .returned (.bool true) ∧ ∃ n, w' = V.drewN n) := by
    refine (sameInts_any qa px qc qa2 px qc2 V (by omega) (by omega) (s1.below hbv) (s2.below hbv)).mono ?_
    rintro e w' ⟨rfl, h⟩
    exact ⟨by simp, h⟩
  have HSR : Hid (∀ n, Calls Try.prog 39 #[.slice va vs.length vc, .slice va2 vs.length vc2] (V.drewN n) fun e w' => e = .returned (.bool true) ∧ ∃ k, w' = (V.drewN n).drewN k) := fun n => sameRat_any va vs vc va2 vc2 (V.drewN n) hl2 ((r1.below hbv).below (below_drewN (Below.refl _ _) n)) ((r2.below hbv).below (below_drewN (Below.refl _ _) n))
  obtain ⟨pl, hpl⟩ : ∃ pl, px.length = pl := ⟨_, rfl⟩
  obtain ⟨vl, hvl⟩ : ∃ vl, vs.length = vl := ⟨_, rfl⟩
  rw [hpl] at HQ HF f0 g0 HSI ⊢
  rw [hvl] at HQ HF f1 g1 HSR hV1 hV ⊢
  rw [hpl] at hV1 hV
  clear s1 s2 r1 r2 hb1 hb2 hbv hpl hvl
  go_enter Try.func19, Try.ntmps19
  go_wp2_with (first
    | (go_at_call 25; refine HSI.out.mono ?_; rintro e w1 ⟨rfl, n1, rfl⟩; obtain ⟨f0, f1⟩ := HF.out n1; obtain ⟨g0, g1⟩ := HQ.out n1)
    | (go_at_call 39; refine (HSR.out _).mono ?_; rintro e w2 ⟨rfl, n2, rfl⟩))
  go_ret
  exact ⟨rfl, below_drewN HBV.out _⟩
/-- Sure of the document's mask. -/
theorem sure_two (a : Option Addr) (w : World) (hs : Ms w a twoM) : Calls Try.prog 15 #[.slice a twoM.length 2] w fun e w' => e = .returned (.tuple #[.int .i64 1, .int .i64 0]) ∧ Below w.heap.size w w' := by
  have HSP : Hid (Calls Try.prog 35 #[.slice a twoM.length 2] w fun e w' => e = .returned (.tuple #[.int .i64 3, .int .i64 0]) ∧ Below w.heap.size w w') := by
    have := spark_any a twoM 2 w (mok_of two_valid) hs
    rw [two_spark] at this
    exact this
  clear hs
  go_enter Try.func15, Try.ntmps15
  go_wp2_with (go_at_call 35; refine HSP.out.mono ?_; rintro e w2 ⟨rfl, hb⟩; have HB := Lib.hid hb; clear hb)
  go_ret2
  exact ⟨rfl, HB.out⟩
end Go.Proofs.Ytfnomiingelfaaa
/- The sanity check of layer 4: the document's example; long of one list. Written by mk_spawake.py. -/
namespace Go.Proofs.Ytfnomiingelfaaa
open Go.RowKit Go.Shelf

theorem two_sparsest : sparsestV twoM [1, 1] = ([([1], [(1, 1)])], 0) := by decide +kernel
theorem two4_any (w : World) : Calls Try.prog 18 #[] w fun e w' => ∃ a, e = .returned (.slice a twoM.length 2) ∧ Ms w' a twoM ∧ Below w.heap.size w w' := by
  go_enter Try.func18, Try.ntmps18
  go_wp2
  go_ret
  have e1 : (w.alloc (.cells #[.int .i64 1, .int .i64 1, .int .i64 0] 3)).heap.size = w.heap.size + 1 := World.size_alloc _ _
  have e2 : ((w.alloc (.cells #[.int .i64 1, .int .i64 1, .int .i64 0] 3)).alloc (.cells #[.int .i64 0, .int .i64 1, .int .i64 1] 3)).heap.size = w.heap.size + 2 := by rw [World.size_alloc, e1]
  have s1 : Sl (w.alloc (.cells #[.int .i64 1, .int .i64 1, .int .i64 0] 3)) (some ⟨w.heap.size, 0, none⟩) [1, 1, 0] := sl_new w [1, 1, 0] _
  have s2 : Sl ((w.alloc (.cells #[.int .i64 1, .int .i64 1, .int .i64 0] 3)).alloc (.cells #[.int .i64 0, .int .i64 1, .int .i64 1] 3)) (some ⟨w.heap.size + 1, 0, none⟩) [0, 1, 1] := by
    rw [← e1]; exact sl_new _ [0, 1, 1] _
  refine ⟨_, rfl, ?_, (((Below.refl _ _).alloc (Nat.le_refl _) _).alloc (by omega) _).alloc (by omega) _⟩
  intro i hi
  have hc : ∀ k v, (#[Value.slice (some ⟨w.heap.size, 0, none⟩) 3 3, Value.slice (some ⟨w.heap.size + 1, 0, none⟩) 3 3] : Array Value)[k]? = some v → (((w.alloc (.cells #[.int .i64 1, .int .i64 1, .int .i64 0] 3)).alloc (.cells #[.int .i64 0, .int .i64 1, .int .i64 1] 3)).alloc (.cells #[.slice (some ⟨w.heap.size, 0, none⟩) 3 3, .slice (some ⟨w.heap.size + 1, 0, none⟩) 3 3] 24)).cell? ⟨w.heap.size + 1 + 1, k, none⟩ = some v := by
    intro k v h
    rw [← show _ = w.heap.size + 1 + 1 from e2]
    exact alloc_cell _ _ _ _ _ h
  match i, hi with
  | 0, _ => exact ⟨_, 0, _, 3, rfl, hc 0 _ rfl, (s1.below ((Below.refl _ _).alloc (Nat.le_refl _) _)).below ((Below.refl _ _).alloc (Nat.le_refl _) _)⟩
  | 1, _ => exact ⟨_, 0, _, 3, rfl, hc 1 _ rfl, s2.below ((Below.refl _ _).alloc (Nat.le_refl _) _)⟩
theorem long4_any (b o : Nat) (ai : Option Addr) (ni ci cap : Nat) (w : World) (hn : ni ≤ 9223372036854775807) (hc : w.cell? ⟨b, o, none⟩ = some (.slice ai ni ci)) :
    Calls Try.prog 6 #[.slice (some ⟨b, o, none⟩) 1 cap] w fun e w' => e = .returned (.bool (decide (100 < ni))) ∧ w = w' := by
  go_enter Try.func6, Try.ntmps6
  go_wp2
  go_loopw [7] (fun i wr => ∃ k : Nat, k ≤ 1 ∧ i = .int .i64 k ∧ wr = w ∧ (k = 1 → ni ≤ 100)) (fun i _ => 1 - (intOf i).toNat)
  case atStart => exact ⟨0, by omega, rfl, rfl, fun h => by omega⟩
  case round =>
    obtain ⟨k, hk, rfl, rfl, hno⟩ := hrel
    by_cases hlt : k < 1
    · obtain rfl : k = 0 := by omega
      have hc' : wr.cell? ⟨b, o + 0, none⟩ = some (.slice ai ni ci) := hc
      by_cases h : ni > 100
      · have y : decide (100 < ni) = true := by simpa using h
        go_wp2
        go_ret
        exact ⟨ret_bool (by first | rfl | rw [y] | simp [y]), rfl⟩
      · go_wp2
        go_roundw
        case rel => exact ⟨1, by omega, by go_num, by first | trivial | rfl, fun _ => by omega⟩
        case measure => simp [intOf]
    · obtain rfl : k = 1 := by omega
      have hle := hno rfl
      have y : decide (100 < ni) = false := by simpa using hle
      go_wp2
      go_ret
      exact ⟨ret_bool (by first | rfl | rw [y] | simp [y]), rfl⟩

theorem rl_new1 (w : World) (a b : Int) (t : TypeId) : Rl (w.alloc (.cells #[.int .i64 a, .int .i64 b] t)) (some ⟨w.heap.size, 0, none⟩) [(a, b)] := by
  intro j p hj
  match j, hj with
  | 0, hj =>
    obtain rfl : (a, b) = p := by simpa using hj
    exact ⟨_, rfl, alloc_cell _ _ _ _ _ rfl, alloc_cell _ _ _ _ _ rfl⟩
  | j + 1, hj => simp at hj
set_option maxRecDepth 100000 in
set_option maxHeartbeats 1600000 in
theorem awake4_any (w : World) : Calls Try.prog 7 #[] w fun e w' => e = .returned (.bool true) ∧ Below w.heap.size w w' := by
  have mk2 : MOk twoM := mok_of two_valid
  have HTO : Hid (∀ (w1 : World) (a : Option Addr), Ms w1 a twoM → Calls Try.prog 17 #[.slice a twoM.length 2, .slice (some ⟨w1.heap.size, 0, none⟩) 2 2] (w1.alloc (.cells #[.int .i64 1, .int .i64 1] 3)) fun e w' => Below w1.heap.size w1 w' ∧ ∃ qa qc va vc, e = .returned (.tuple #[.agg #[.slice qa 1 qc, .slice va 1 vc], .int .i64 0]) ∧ Sl w' qa [1] ∧ Rl w' va [(1, 1)]) := fun w1 a h => by
    have hs : Sl (w1.alloc (.cells #[.int .i64 1, .int .i64 1] 3)) (some ⟨w1.heap.size, 0, none⟩) [1, 1] := sl_new w1 [1, 1] _
    have hb : Below w1.heap.size w1 (w1.alloc (.cells #[.int .i64 1, .int .i64 1] 3)) := (Below.refl _ _).alloc (Nat.le_refl _) _
    have hr : RowE (sparsestV twoM [1, 1]) := by rw [two_sparsest]; exact .inl ⟨rfl, by simp⟩
    have k := sstop_any (sparsestV twoM [1, 1]) hr a twoM.length 2 (some ⟨w1.heap.size, 0, none⟩) 2 2 (w1.alloc (.cells #[.int .i64 1, .int .i64 1] 3)) (fun W hW => sparsest_any a twoM 2 _ [1, 1] 2 W mk2 (by decide) ((h.below hb).below hW) (hs.below hW))
    rw [two_sparsest] at k
    refine k.mono ?_
    rintro e w' ⟨h1, qa, qc, va, vc, he, h2, h3⟩
    exact ⟨hb.trans (h1.mono hb.size), qa, qc, va, vc, he, h2, h3⟩
  have HSU : Hid (∀ (w1 : World) (a : Option Addr), Ms w1 a twoM → Calls Try.prog 15 #[.slice a twoM.length 2] w1 fun e w' => e = .returned (.tuple #[.int .i64 1, .int .i64 0]) ∧ Below w1.heap.size w1 w') := fun w1 a h => sure_two a w1 h
  have HSF : Hid (∀ (w5 : World) (qa : Option Addr) (qc : Nat) (va : Option Addr) (vc : Nat), Sl w5 qa [1] → Rl w5 va [(1, 1)] → Calls Try.prog 19 #[.agg #[.slice qa 1 qc, .slice va 1 vc], .agg #[.slice (some ⟨w5.heap.size, 0, none⟩) 1 1, .slice (some ⟨w5.heap.size + 1, 0, none⟩) 1 1]] ((w5.alloc (.cells #[.int .i64 1] 3)).alloc (.cells #[.int .i64 1, .int .i64 1] 47)) fun e w' => e = .returned (.bool true) ∧ Below w5.heap.size w5 w') := fun w5 qa qc va vc hq hv => by
    have e1 : (w5.alloc (.cells #[.int .i64 1] 3)).heap.size = w5.heap.size + 1 := World.size_alloc _ _
    have s1 : Sl (w5.alloc (.cells #[.int .i64 1] 3)) (some ⟨w5.heap.size, 0, none⟩) [1] := sl_new w5 [1] _
    have b1 : Below w5.heap.size w5 (w5.alloc (.cells #[.int .i64 1] 3)) := (Below.refl _ _).alloc (Nat.le_refl _) _
    have b2 : Below (w5.alloc (.cells #[.int .i64 1] 3)).heap.size (w5.alloc (.cells #[.int .i64 1] 3)) ((w5.alloc (.cells #[.int .i64 1] 3)).alloc (.cells #[.int .i64 1, .int .i64 1] 47)) := (Below.refl _ _).alloc (Nat.le_refl _) _
    have r1 : Rl ((w5.alloc (.cells #[.int .i64 1] 3)).alloc (.cells #[.int .i64 1, .int .i64 1] 47)) (some ⟨w5.heap.size + 1, 0, none⟩) [(1, 1)] := by rw [← e1]; exact rl_new1 _ 1 1 _
    have b3 := b1.trans (b2.mono b1.size)
    have k := sameFit_any qa [1] qc va [(1, 1)] vc (some ⟨w5.heap.size, 0, none⟩) 1 (some ⟨w5.heap.size + 1, 0, none⟩) 1 _ (by decide) (by decide) (hq.below b3) (s1.below b2) (hv.below b3) r1
    exact k.mono fun e w' ⟨k1, k2⟩ => ⟨k1, b3.trans (k2.mono b3.size)⟩
  clear mk2
  go_enter Try.func7, Try.ntmps7
  go_wp2_with (first
    | (go_at_call 17; refine (HTO.out _ _ HM.out).mono ?_; rintro e w3 ⟨hb3, qa, qc, va, vc, rfl, hq, hv⟩
       obtain ⟨wb, hwb⟩ : ∃ wb, w3.alloc (.cells #[.slice qa 1 qc, .slice va 1 vc] 41) = wb := ⟨_, rfl⟩
       have HBX := Lib.hid (box2 hwb)
       have HSB : Hid (w3.heap.size < wb.heap.size) := by show _ < _; rw [← hwb, World.size_alloc]; omega
       have hbb : Below w3.heap.size w3 wb := by rw [← hwb]; exact (Below.refl _ _).alloc (Nat.le_refl _) _
       have HWB : Hid (Below w.heap.size w wb) := (HB.out.trans (hb3.mono HB.out.size)).trans (hbb.mono (Nat.le_trans HB.out.size hb3.size))
       have HQ : Hid (Sl wb qa [1]) := hq.below hbb; have HV : Hid (Rl wb va [(1, 1)]) := hv.below hbb; clear hb3 hq hv hbb)
    | (go_at_call 18; refine (two4_any _).mono ?_; rintro e w4 ⟨a4, rfl, hm4, hb4⟩; have HM4 := Lib.hid hm4; have HB4 : Hid (Below wb.heap.size wb w4) := hb4; clear hm4 hb4)
    | (go_at_call 18; refine (two4_any _).mono ?_; rintro e w1 ⟨a1, rfl, hm1, hb1⟩; have HM := Lib.hid hm1; have HB := Lib.hid hb1; clear hm1 hb1)
    | (go_at_call 15; refine (HSU.out _ _ HM4.out).mono ?_; rintro e w5 ⟨rfl, hb5⟩; have HB5 : Hid (Below wb.heap.size wb w5) := HB4.out.trans (hb5.mono HB4.out.size); obtain ⟨x0, x1, _, _⟩ := HBX.out w5 HB5.out; clear hb5)
    | (go_at_call 19; refine (HSF.out w5 qa qc va vc (HQ.out.below HB5.out) (HV.out.below HB5.out)).mono ?_; rintro e w6 ⟨rfl, hb6⟩; have HB6 := Lib.hid hb6; clear hb6))
  go_ret
  exact ⟨rfl, HWB.out.trans ((HB5.out.trans (HB6.out.mono HB5.out.size)).mono HWB.out.size)⟩
end Go.Proofs.Ytfnomiingelfaaa
/- The values that are no whole numbers within a million: contracts of the closure and of ContainsFunc over it. -/
namespace Go.Proofs.Ytfnomiingelfaaa
open Go.RowKit Go.Shelf

def whB (p : Int × Int) : Bool := (p.1 == 0) || decide (1 < p.2) || decide (p.1 < -1000000) || decide (1000000 < p.1)
set_option maxRecDepth 100000 in
set_option maxHeartbeats 800000 in
theorem whole_any (LB : Nat) (a b : Int) (w : World) (hc : w.cell? ⟨LB, 0, none⟩ = some (.int .i64 1000000)) : Calls Try.prog 45 #[.agg #[.int .i64 a, .int .i64 b], .pointer (some ⟨LB, 0, none⟩)] w fun e w' => e = .returned (.bool (whB (a, b))) ∧ Below w.heap.size w w' := by
  obtain ⟨V, hV⟩ : ∃ V, w.alloc (.cells #[.int .i64 a, .int .i64 b] 47) = V := ⟨_, rfl⟩
  have hbv : Below w.heap.size w V := by rw [← hV]; exact (Below.refl _ _).alloc (Nat.le_refl _) _
  have HB := Lib.hid hbv
  have HX := Lib.hid (box2 hV)
  have HL : Hid (∀ W, Below V.heap.size V W → W.cell? ⟨LB, 0, none⟩ = some (.int .i64 1000000)) := fun W hb => ((hbv.trans (hb.mono hbv.size)).cell (p := ⟨LB, 0, none⟩) (cell_lt hc)).trans hc
  obtain ⟨t0, t1, _, _⟩ := HX.out V (Below.refl _ _)
  obtain ⟨z, hz⟩ : ∃ z, (a == 0) = z := ⟨_, rfl⟩
  have HZ : Hid (Calls Try.prog 46 #[.agg #[.int .i64 a, .int .i64 b]] V fun e w' => e = .returned (.bool z) ∧ Below V.heap.size V w') := by rw [← hz]; exact zero_any a b V
  have HE : Hid (whB (a, b) = (z || decide (1 < b) || decide (a < -1000000) || decide (1000000 < a))) := by show _ = _; rw [← hz]; rfl
  clear hz hbv hc
  cases z with
  | true =>
    have HR : Hid (whB (a, b) = true) := by show _ = _; rw [HE.out]; simp
    go_enter Try.func45, Try.ntmps45
    go_wp2_with (go_at_call 46; refine HZ.out.mono ?_; rintro e w5 ⟨rfl, hb5⟩; have HB5 := Lib.hid hb5; clear hb5)
    go_ret
    exact ⟨ret_bool HR.out.symm, HB.out.trans (HB5.out.mono HB.out.size)⟩
  | false =>
    have HR : Hid (whB (a, b) = (decide (1 < b) || decide (a < -1000000) || decide (1000000 < a))) := by show _ = _; rw [HE.out, Bool.false_or]
    clear HE
    go_enter Try.func45, Try.ntmps45
    go_wp2_with (go_at_call 46; refine HZ.out.mono ?_; rintro e w5 ⟨rfl, hb5⟩; have HB5 := Lib.hid hb5; obtain ⟨u0, u1, _, _⟩ := HX.out w5 hb5; have u2 := HL.out w5 hb5; clear hb5)
    all_goals go_ret
    all_goals exact ⟨ret_bool (by first | (rw [HR.out]; done) | (rw [HR.out]; rfl) | (rw [HR.out]; simp [*]; done) | (rw [HR.out]; simp; omega)), HB.out.trans (HB5.out.mono HB.out.size)⟩
/-- The place of the first such fraction, or -1. -/
def ixP (wr : Int × Int → Bool) (vs : List (Int × Int)) : Int := if vs.any wr = true then (vs.findIdx wr : Int) else -1
theorem ixP_hit {wr : Int × Int → Bool} {vs : List (Int × Int)} {k : Nat} {p : Int × Int} (h : ∀ j, j < k → ∀ q, vs[j]? = some q → wr q = false) (hp : vs[k]? = some p) (h0 : wr p = true) : ixP wr vs = k := by
  obtain ⟨hk, e⟩ := List.getElem?_eq_some_iff.1 hp
  have ha : vs.any wr = true := List.any_eq_true.2 ⟨p, List.mem_of_getElem? hp, h0⟩
  unfold ixP
  rw [if_pos ha]
  congr 1
  rw [List.findIdx_eq hk]
  exact ⟨by rw [e]; exact h0, fun j hj => h j hj _ (List.getElem?_eq_getElem (by omega))⟩
theorem ixP_no {wr : Int × Int → Bool} {vs : List (Int × Int)} (h : ∀ j, j < vs.length → ∀ q, vs[j]? = some q → wr q = false) : ixP wr vs = -1 := by
  have ha : vs.any wr = false := by
    rw [List.any_eq_false]
    intro q hq
    obtain ⟨j, hj, e⟩ := List.getElem_of_mem hq
    have := h j hj q (by rw [List.getElem?_eq_getElem hj, e])
    simp [this]
  unfold ixP; rw [ha]; rfl
set_option maxRecDepth 1000000 in
set_option maxHeartbeats 1600000 in
theorem indexW_any (LB : Nat) (a : Option Addr) (vs : List (Int × Int)) (cap : Nat) (w : World) (hl : vs.length ≤ 1000) (hs : Rl w a vs) (hc : w.cell? ⟨LB, 0, none⟩ = some (.int .i64 1000000)) :
    Calls Try.prog 86 #[.slice a vs.length cap, .func (.func 45) #[] #[.pointer (some ⟨LB, 0, none⟩)]] w fun e w' => e = .returned (.int .i64 (ixP whB vs)) ∧ Below w.heap.size w w' := by
  have HS := Lib.hid hs; clear hs
  have HC : Hid (∀ W, Below w.heap.size w W → W.cell? ⟨LB, 0, none⟩ = some (.int .i64 1000000)) := fun W hb => (hb.cell (p := ⟨LB, 0, none⟩) (cell_lt hc)).trans hc
  clear hc
  obtain ⟨n, hn⟩ : ∃ n, vs.length = n := ⟨_, rfl⟩
  have HN := Lib.hid hn
  rw [hn] at hl ⊢
  clear hn
  go_enter Try.func86, Try.ntmps86
  go_wp2
  go_loopw [8] (fun i wr => ∃ k : Nat, k ≤ n ∧ i = .int .i64 k ∧ Below w.heap.size w wr ∧ ∀ j, j < k → ∀ q, vs[j]? = some q → whB q = false) (fun i _ => n - (intOf i).toNat)
  case atStart => exact ⟨0, Nat.zero_le _, rfl, Below.refl _ _, fun j h => by omega⟩
  case round =>
    obtain ⟨k, hk, rfl, hb, hno⟩ := hrel
    have HNO := Lib.hid hno; clear hno
    have HB := Lib.hid hb; clear hb
    by_cases hlt : k < n
    · obtain ⟨p, hp⟩ : ∃ p, vs[k]? = some p := ⟨_, List.getElem?_eq_getElem (by rw [HN.out]; exact hlt)⟩
      obtain ⟨b, rfl, c1, c2⟩ := (HS.out.below HB.out) k p hp
      have HP := Lib.hid hp
      obtain ⟨p1, p2⟩ := p
      dsimp only at c1 c2
      have hk0 : (k : Int) < (n : Int) := by omega
      obtain ⟨z, hz⟩ : ∃ z, whB (p1, p2) = z := ⟨_, rfl⟩
      have HZ := Lib.hid hz
      have HZE : Hid (Calls Try.prog 45 #[.agg #[.int .i64 p1, .int .i64 p2], .pointer (some ⟨LB, 0, none⟩)] wr fun e w' => e = .returned (.bool z) ∧ Below wr.heap.size wr w') := by rw [← hz]; exact whole_any LB p1 p2 wr (HC.out wr HB.out)
      clear hz hp
      cases z with
      | true =>
        go_wp2_with (go_at_call 45; refine HZE.out.mono ?_; rintro e w5 ⟨rfl, hb5⟩)
        go_ret
        exact ⟨ret_i64 (ixP_hit HNO.out HP.out HZ.out).symm, HB.out.trans (hb5.mono HB.out.size)⟩
      | false =>
        go_wp2_with (go_at_call 45; refine HZE.out.mono ?_; rintro e w5 ⟨rfl, hb5⟩)
        go_roundw
        case rel => exact ⟨k + 1, by omega, by go_num, HB.out.trans (hb5.mono HB.out.size), fun j hj q hq => by
          by_cases e : j = k
          · subst e
            rw [HP.out] at hq
            obtain rfl := Option.some.inj hq
            exact HZ.out
          · exact HNO.out j (by omega) q hq⟩
        case measure => simp [intOf]; omega
    · obtain rfl : n = k := by omega
      have HE : Hid (ixP whB vs = -1) := ixP_no fun j hj => HNO.out j (by rw [HN.out] at hj; exact hj)
      go_wp2
      go_ret
      exact ⟨ret_i64 HE.out.symm, HB.out⟩
set_option maxRecDepth 100000 in
theorem containsW_any (LB : Nat) (a : Option Addr) (vs : List (Int × Int)) (cap : Nat) (w : World) (hl : vs.length ≤ 1000) (hs : Rl w a vs) (hc : w.cell? ⟨LB, 0, none⟩ = some (.int .i64 1000000)) :
    Calls Try.prog 67 #[.slice a vs.length cap, .func (.func 45) #[] #[.pointer (some ⟨LB, 0, none⟩)]] w fun e w' => e = .returned (.bool (vs.any whB)) ∧ Below w.heap.size w w' := by
  have HI := Lib.hid (indexW_any LB a vs cap w hl hs hc); clear hs hc
  have HE : Hid (decide (0 ≤ ixP whB vs) = vs.any whB) := by
    show _ = _
    unfold ixP
    cases vs.any whB
    · simp
    · simp
  obtain ⟨x, hx⟩ : ∃ x, ixP whB vs = x := ⟨_, rfl⟩
  rw [hx] at HI HE
  clear hx
  go_enter Try.func67, Try.ntmps67
  go_wp2_with (go_at_call 86; refine HI.out.mono ?_; rintro e w' ⟨rfl, hb⟩)
  go_ret
  exact ⟨ret_bool (by rw [← HE.out]), hb⟩
end Go.Proofs.Ytfnomiingelfaaa
/- A row of pictures taken within a round; butWhole: contracts. -/
namespace Go.Proofs.Ytfnomiingelfaaa
open Go.RowKit Go.Shelf

theorem wpListIn_pushHR {F : Fence} {r : Nat} {ops : Array Oper} {rest : List Oper} {o : Oper} {act : Act} {Q : Exit → Act → World → Prop} (hgd : o.guard = none) (s x : Operand)
    (ho : o.op = .call { callee := .builtin .append, args := #[s, x], argTypes := #[22, 22] }) (base : Nat) (rv : Value) (ads : List (Option Addr × Nat)) (M : List (List Int)) (row : List Int) (rl : Nat) (hrl : row.length = rl) (a : Option Addr) (c : Nat) (V : World) (t : TypeId) (A : Nat)
    (hv : act.eval s = rv) (hx : act.eval x = .slice (some ⟨A, 0, none⟩) 1 1) (hA : A = V.heap.size) (hown : HR base rv ads M V) (hs : Sl V a row)
    (ha : ∀ ad, a = some ad → ad.block < V.heap.size ∧ rv.ownBlock ≠ some ad.block) (hl : M.length ≤ 100000) (hbase : base ≤ V.heap.size)
    (h : ∀ g cap w', HR base (.slice (some ⟨g, 0, none⟩) (M.length + 1) cap) (ads ++ [(a, c)]) (M ++ [row]) w' → (rv.ownBlock = some g ∨ V.heap.size ≤ g) → Below base V w' → (V.alloc (.cells #[.slice a rl c] t)).grownBy w' rv.ownBlock → wpListIn F r Try.prog ops Q rest (act.put o.dst (.slice (some ⟨g, 0, none⟩) (M.length + 1) cap)) w') : wpListIn F r Try.prog ops Q (o :: rest) act (V.alloc (.cells #[.slice a rl c] t)) := by
  subst hrl
  obtain ⟨i0, hi, hz0, hz1, hz2⟩ := info_parts Try.infoRowL
  subst hA
  have hb1 : Below V.heap.size V (V.alloc (.cells #[.slice a row.length c] t)) := (Below.refl _ _).alloc (Nat.le_refl _) _
  have hown' := hown.below hb1
  refine wpListIn_append_lies hgd s x 22 ho base 24 i0 (.slice none 0 0) 1 24 Try.underlying22 hi hz0 hz1 hz2 rfl (by decide) rv M.length (hdO ads M) hv hown'.own ⟨V.heap.size, 0, none⟩ 1 1 [.slice a row.length c] hx rfl ?_ ?_ (by decide) (by unfold maxLen; omega) (by omega) (by rw [World.size_alloc]; omega) _ rfl ?_
  · intro j u hj
    match j, hj with
    | 0, hj =>
      simp at hj; subst hj
      rw [addr_add]; exact alloc_cell _ _ _ _ _ rfl
    | j + 1, hj => simp at hj
  · intro u hu; simp at hu; subst hu; rfl
  · intro g cap w' h1 h2 h3 _
    exact h g cap w' (hown'.push (hs.below hb1) (fun ad ea => ⟨Nat.lt_of_lt_of_le (ha ad ea).1 hb1.size, (ha ad ea).2⟩) h1 h2 h3) (by rcases h3 with h3 | h3; exact .inl h3; rw [World.size_alloc] at h3; exact .inr (by omega)) (((Below.refl base V).alloc hbase _).grown h2 (by rw [World.size_alloc]; omega) (fun k e => (World.ownsRow.lt hown.own k e).1)) h2
set_option maxRecDepth 100000 in
/-- butWhole: the closure, its limit in a box. -/
theorem butWhole_any (w : World) : Calls Try.prog 22 #[.int .i64 1000000] w fun e w' => e = .returned (.func (.func 45) #[] #[.pointer (some ⟨w.heap.size, 0, none⟩)]) ∧ w' = w.alloc (.cells #[.int .i64 1000000] 3) := by
  go_enter Try.func22, Try.ntmps22
  go_wp2
  go_ret
  exact ⟨rfl, rfl⟩
end Go.Proofs.Ytfnomiingelfaaa
/- askUpTo: a contract. -/
namespace Go.Proofs.Ytfnomiingelfaaa
open Go.RowKit Go.Shelf

theorem up_not {k : Int} (h : 10 < k) : decide (k < 0) = false := by simp; omega
/-- The error of a question up to a size. -/
def upE (m : List (List Int)) (y : List Int) (k : Int) : Int := if readE m y = 0 then (if rangeB k 0 10 = true then 0 else 7) else readE m y
set_option maxRecDepth 100000 in
set_option maxHeartbeats 800000 in
theorem askUp_any (ma : Option Addr) (m : List (List Int)) (mc : Nat) (ya : Option Addr) (y : List Int) (yc : Nat) (k : Int) (w : World) (hm : MOk m) (hly : y.length ≤ 9223372036854775807) (hs : Ms w ma m) (hy : Sl w ya y) :
    Calls Try.prog 20 #[.slice ma m.length mc, .slice ya y.length yc, .int .i64 k] w fun e w' => e = .returned (.tuple #[if upE m y k = 0 then .agg #[.slice ma m.length mc, .slice ya y.length yc] else .agg #[.slice none 0 0, .slice none 0 0], .int .i64 (upE m y k)]) ∧ Below w.heap.size w w' := by
  obtain ⟨V, hV⟩ : ∃ V, w.alloc (.cells #[.slice none 0 0, .slice none 0 0] 49) = V := ⟨_, rfl⟩
  have hbv : Below w.heap.size w V := by rw [← hV]; exact (Below.refl _ _).alloc (Nat.le_refl _) _
  have HBV := Lib.hid hbv
  have HVW := Lib.hid (box2 hV)
  obtain ⟨e0, he0⟩ : ∃ e0, readE m y = e0 := ⟨_, rfl⟩
  by_cases h0 : e0 = 0
  · subst h0
    have HAS := Lib.hid (ask_ok ma m mc ya y yc V he0 hm hly (hs.below hbv) (hy.below hbv))
    obtain ⟨rb, hrb⟩ : ∃ rb, rangeB k 0 10 = rb := ⟨_, rfl⟩
    have HRB := Lib.hid hrb
    have HUE : Hid (upE m y k = if rb = true then 0 else 7) := by show _ = _; unfold upE; rw [if_pos he0, hrb]
    clear hm hs hy hbv he0 hrb
    cases rb with
    | true =>
      have HE : Hid (upE m y k = 0) := HUE.out
      have hk0 : 0 ≤ k ∧ k ≤ 10 := by have := HRB.out; simpa [rangeB] using this
      have y1 : ¬ k < 0 := by omega
      have y2 : ¬ 10 < k := by omega
      rw [HE.out]
      clear hk0
      go_enter Try.func20, Try.ntmps20
      go_wp2_with (go_at_call 40; refine HAS.out.mono ?_; rintro e w2 ⟨rfl, hb2⟩
                   obtain ⟨x2, hx2⟩ : ∃ x2, w2.alloc (.cells #[.slice ma m.length mc, .slice ya y.length yc] 49) = x2 := ⟨_, rfl⟩
                   have hbx : Below w2.heap.size w2 x2 := by rw [← hx2]; exact (Below.refl _ _).alloc (Nat.le_refl _) _
                   have hbV : Below V.heap.size V x2 := hb2.trans (hbx.mono hb2.size)
                   obtain ⟨u0, u1, u2, u3⟩ := HVW.out x2 hbV
                   obtain ⟨z0, z1, _, _⟩ := box2 hx2 x2 (Below.refl _ _)
                   have HBX : Hid (Below w.heap.size w x2) := HBV.out.trans (hbV.mono HBV.out.size); clear hb2 hbx hbV)
      refine bodyPost_ret (v := .tuple #[.agg #[.slice ma m.length mc, .slice ya y.length yc], .int .i64 0]) ?_ rfl ⟨rfl, (HBX.out.setCell (p := ⟨w.heap.size, 0, none⟩) (Nat.le_refl _) _).setCell (p := ⟨w.heap.size, 1, none⟩) (Nat.le_refl _) _⟩
      rw [results_cell_tmp rfl]; go_simp
    | false =>
      have HE : Hid (upE m y k = 7) := HUE.out
      have hk0 : k < 0 ∨ 10 < k := by
        have := HRB.out
        simp only [rangeB, Bool.and_eq_false_iff, decide_eq_false_iff_not] at this
        omega
      rw [HE.out]
      rcases hk0 with y1 | y1
      all_goals
        (try have y2 := up_not y1)
        go_enter Try.func20, Try.ntmps20
        go_wp2_with (go_at_call 40; refine HAS.out.mono ?_; rintro e w2 ⟨rfl, hb2⟩
                     obtain ⟨x2, hx2⟩ : ∃ x2, w2.alloc (.cells #[.slice ma m.length mc, .slice ya y.length yc] 49) = x2 := ⟨_, rfl⟩
                     have hbx : Below w2.heap.size w2 x2 := by rw [← hx2]; exact (Below.refl _ _).alloc (Nat.le_refl _) _
                     have hbV : Below V.heap.size V x2 := hb2.trans (hbx.mono hb2.size)
                     obtain ⟨u0, u1, u2, u3⟩ := HVW.out x2 hbV
                     have HBX : Hid (Below w.heap.size w x2) := HBV.out.trans (hbV.mono HBV.out.size); clear hb2 hbx hbV)
        all_goals
          refine bodyPost_ret (v := .tuple #[.agg #[.slice none 0 0, .slice none 0 0], .int .i64 7]) ?_ rfl ?_
          · rw [results_cell_tmp rfl]; go_simp
          · exact ⟨rfl, (HBX.out.setCell (p := ⟨w.heap.size, 0, none⟩) (Nat.le_refl _) _).setCell (p := ⟨w.heap.size, 1, none⟩) (Nat.le_refl _) _⟩
  · have HUE : Hid (upE m y k = e0) := by show _ = _; unfold upE; rw [he0, if_neg h0]
    have HAS := Lib.hid (ask_no ma m mc ya y yc V e0 he0 h0 hm hly (hs.below hbv) (hy.below hbv))
    have y1 : (e0 == 0) = false := by simpa using h0
    have y2 : (e0 != 0) = true := by simpa using h0
    rw [HUE.out, if_neg h0]
    clear hm hs hy hbv he0 h0
    go_enter Try.func20, Try.ntmps20
    go_wp2_with (go_at_call 40; refine HAS.out.mono ?_; rintro e w2 ⟨rfl, hb2⟩
                 have hbV : Below V.heap.size V (w2.alloc (.cells #[.slice none 0 0, .slice none 0 0] 49)) := hb2.alloc hb2.size _
                 obtain ⟨u0, u1, u2, u3⟩ := HVW.out _ hbV
                 have HBX : Hid (Below w.heap.size w (w2.alloc (.cells #[.slice none 0 0, .slice none 0 0] 49))) := HBV.out.trans (hbV.mono HBV.out.size); clear hb2 hbV)
    refine bodyPost_ret (v := .tuple #[.agg #[.slice none 0 0, .slice none 0 0], .int .i64 e0]) ?_ rfl ⟨rfl, (HBX.out.setCell (p := ⟨w.heap.size, 0, none⟩) (Nat.le_refl _) _).setCell (p := ⟨w.heap.size, 1, none⟩) (Nat.le_refl _) _⟩
    rw [results_cell_tmp rfl]; go_simp
end Go.Proofs.Ytfnomiingelfaaa
/- A region that draws and calls, before a range over a function: one end for all orders. Speaks of no function. -/
namespace Go.Proofs.Ytfnomiingelfaaa
open Go.RowKit

/-- A region that draws and calls: whatever the order, one end. -/
theorem wpIn_one {F : Fence} {n : Nat} {P : Program} {c : Code} {Q : Exit → Act → World → Prop} {a : Act} {w : World} (A : Act) (W1 : World) (h : c.wpIn F n P (fun e a' w' => match e with | .normal => a' = A ∧ w' = W1 | _ => False) a w) (hq : Q .normal A W1) : c.wpIn F n P Q a w := by
  refine Code.wpIn_mono ?_ h
  intro e a' w' he
  cases e with
  | normal =>
    obtain ⟨rfl, rfl⟩ := he
    exact hq
  | _ => exact he.elim
end Go.Proofs.Ytfnomiingelfaaa
/- What Whole keeps between two fits: its row of pictures, in its box. -/
namespace Go.Proofs.Ytfnomiingelfaaa
open Go.RowKit Go.Shelf

theorem sl_turned {T : Blk} {W W' : World} {a : Option Addr} {xs : List Int} (h : Sl W a xs) (ht : Turned T W W') (hn : ∀ ad, a = some ad → ¬ T ad.block) : Sl W' a xs := fun k hk => by
  obtain ⟨b, o, e, hc⟩ := h k hk
  exact ⟨b, o, e, ht.cell hc (hn ⟨b, o, none⟩ e)⟩
theorem hr_turned {T : Blk} {W W' : World} {base : Nat} {v : Value} {ads : List (Option Addr × Nat)} {M : List (List Int)} (h : HR base v ads M W) (ht : Turned T W W') (hv : ∀ b, v.ownBlock = some b → ¬ T b) (ha : ∀ (i : Nat) (x : Option Addr × Nat), ads[i]? = some x → ∀ ad, x.1 = some ad → ¬ T ad.block) : HR base v ads M W' where
  len := h.len
  own := row_same h.own fun b e => ht.same b (World.ownsRow.lt h.own b e).2 (hv b e)
  row := fun i x r e1 e2 => sl_turned (h.row i x r e1 e2) ht (ha i x e1)
  out := fun i x e ad ea => ⟨Nat.lt_of_lt_of_le (h.out i x e ad ea).1 ht.size, (h.out i x e ad ea).2⟩
structure WI (w : World) (FB : Nat) (v : Value) (ads : List (Option Addr × Nat)) (M : List (List Int)) (C T : Blk) (W : World) : Prop where
  lo : w.heap.size ≤ FB
  r : W.cell? ⟨FB, 0, none⟩ = some v
  fr : W.frozen? ⟨FB, 0, none⟩ = false
  hr : HR (FB + 1) v ads M W
  bw : Below w.heap.size w W
  nt : ∀ b, b ≤ FB → ¬ T b
  nv : ∀ b, v.ownBlock = some b → ¬ T b
  na : ∀ (i : Nat) (x : Option Addr × Nat), ads[i]? = some x → ∀ ad, x.1 = some ad → ¬ T ad.block ∧ FB < ad.block
  cc : ∀ b, C b ↔ b = FB ∨ v.ownBlock = some b ∨ ∃ (i : Nat) (x : Option Addr × Nat) (ad : Addr), ads[i]? = some x ∧ x.1 = some ad ∧ b = ad.block
theorem WI.keep {w : World} {FB : Nat} {v : Value} {ads : List (Option Addr × Nat)} {M : List (List Int)} {C T T' : Blk} {W W' : World} (h : WI w FB v ads M C T W) (ht : Turned T W W') (hT : ∀ b, T' b → T b ∨ W.heap.size ≤ b) : WI w FB v ads M C T' W' := by
  have l0 := cell_lt h.r
  dsimp only at l0
  refine ⟨h.lo, ht.cell h.r (h.nt _ (Nat.le_refl _)), (ht.frozen l0 (h.nt _ (Nat.le_refl _))).trans h.fr, hr_turned h.hr ht h.nv fun i x e ad ea => (h.na i x e ad ea).1, h.bw.trans (ht.below h.bw.size fun b hb => h.nt b (by have := h.lo; omega)), fun b hb e => (hT b e).elim (h.nt b hb) (by omega), fun b hb e => (hT b e).elim (h.nv b hb) (by have := (World.ownsRow.lt h.hr.own b hb).2; omega), fun i x e ad ea => ⟨fun q => (hT _ q).elim (h.na i x e ad ea).1 (by have := (h.hr.out i x e ad ea).1; omega), (h.na i x e ad ea).2⟩, h.cc⟩
theorem WI.client {w : World} {FB : Nat} {α : Type} {p : List α → Prop} {f : List α → List (List Int)} : Client fun (pre : List α) C T W => ∃ v ads, p pre ∧ WI w FB v ads (f pre) C T W where
  lt := by
    rintro pre C T W ⟨v, ads, _, h⟩ b hb
    rcases (h.cc b).1 hb with rfl | e | ⟨i, x, ad, e1, e2, rfl⟩
    · exact ⟨cell_lt h.r, h.nt _ (Nat.le_refl _)⟩
    · exact ⟨(World.ownsRow.lt h.hr.own b e).2, h.nv b e⟩
    · exact ⟨(h.hr.out i x e1 ad e2).1, (h.na i x e1 ad e2).1⟩
  keep := fun ⟨v, ads, hp, h⟩ ht hT => ⟨v, ads, hp, h.keep ht hT⟩
/-- A picture is taken. -/
theorem WI.push {w : World} {FB : Nat} {v : Value} {ads : List (Option Addr × Nat)} {M : List (List Int)} {C T : Blk} {W V w9 : World} {own : Blk} {row : List Int} {g n cap xb N : Nat} (h : WI w FB v ads M C T W) (hb : Below W.heap.size W V) (hxb : W.heap.size ≤ xb) (h1 : HR (FB + 1) (.slice (some ⟨g, 0, none⟩) n cap) (ads ++ [(some ⟨xb, 0, none⟩, N)]) (M ++ [row]) w9) (h2 : v.ownBlock = some g ∨ V.heap.size ≤ g) (h3 : Turned (fun b => v.ownBlock = some b) V w9) :
    WI w FB (.slice (some ⟨g, 0, none⟩) n cap) (ads ++ [(some ⟨xb, 0, none⟩, N)]) (M ++ [row]) (fun b => b = FB ∨ (Value.slice (some ⟨g, 0, none⟩) n cap).ownBlock = some b ∨ ∃ (i : Nat) (x : Option Addr × Nat) (ad : Addr), (ads ++ [(some ⟨xb, 0, none⟩, N)])[i]? = some x ∧ x.1 = some ad ∧ b = ad.block) (fun b => T b ∧ ¬ own b ∧ b < W.heap.size) (w9.setCell ⟨FB, 0, none⟩ (.slice (some ⟨g, 0, none⟩) n cap)) ∧ Turned (fun b => b = FB ∨ v.ownBlock = some b) W (w9.setCell ⟨FB, 0, none⟩ (.slice (some ⟨g, 0, none⟩) n cap)) := by
  have s1 := hb.size
  have hg : v.ownBlock = some g ∨ W.heap.size ≤ g := h2.imp_right fun e => by omega
  have ht : Turned (fun b => v.ownBlock = some b) W w9 := (turned_below hb).trans h3 fun b e => .inl e
  have hset : Turned (fun b => b = FB) w9 (w9.setCell ⟨FB, 0, none⟩ (.slice (some ⟨g, 0, none⟩) n cap)) := turned_set (T := fun b => b = FB) _ _ rfl
  have htF : Turned (fun b => b = FB ∨ v.ownBlock = some b) W (w9.setCell ⟨FB, 0, none⟩ (.slice (some ⟨g, 0, none⟩) n cap)) := (ht.mono fun b _ e => .inr e).trans hset fun b e => .inl (.inl e)
  have l0 := cell_lt h.r
  dsimp only at l0
  have hlo := h.lo
  have nF : v.ownBlock ≠ some FB := fun e => by have := (World.ownsRow.lt h.hr.own FB e).1; omega
  have hgF : g ≠ FB := fun e => by
    subst e
    rcases hg with e | e
    · exact nF e
    · omega
  have hob : ∀ b, (Value.slice (some ⟨g, 0, none⟩) n cap).ownBlock = some b ↔ b = g := fun b => by
    show some g = some b ↔ b = g
    exact ⟨fun e => (Option.some.inj e).symm, fun e => by rw [e]⟩
  have hrow : ∀ (i : Nat) (x : Option Addr × Nat), (ads ++ [(some (⟨xb, 0, none⟩ : Addr), N)])[i]? = some x → ∀ ad, x.1 = some ad → FB < ad.block ∧ ¬ (T ad.block ∧ ¬ own ad.block ∧ ad.block < W.heap.size) := fun i x e ad ea => by
    by_cases hi : i < ads.length
    · rw [List.getElem?_append_left hi] at e
      exact ⟨(h.na i x e ad ea).2, fun q => (h.na i x e ad ea).1 q.1⟩
    · rw [List.getElem?_append_right (by omega)] at e
      have hx := List.mem_singleton.1 (List.mem_of_getElem? e)
      subst hx
      obtain rfl := Option.some.inj ea
      exact ⟨by show FB < xb; omega, fun q => by have := q.2.2; simp only at this; omega⟩
  refine ⟨⟨hlo, World.cell?_setCell_same _ _ _ (ht.cell h.r nF), ?_, hr_turned h1 hset (fun b e q => hgF ((hob b).1 e ▸ q)) fun i x e ad ea q => ?_, h.bw.trans (htF.below h.bw.size fun b hb e => ?_), fun b hb e => h.nt b hb e.1, fun b hb e => ?_, fun i x e ad ea => ⟨(hrow i x e ad ea).2, (hrow i x e ad ea).1⟩, fun b => Iff.rfl⟩, htF⟩
  · have := (ht.frozen l0 nF).trans h.fr
    simpa using this
  · have := (hrow i x e ad ea).1; omega
  · rcases e with rfl | e
    · omega
    · have := (World.ownsRow.lt h.hr.own b e).1; omega
  · rw [hob] at hb
    subst hb
    rcases hg with q | q
    · exact h.nv _ q e.1
    · have := e.2.2; omega
theorem WI.went {w : World} {FB : Nat} {f : FitV → List Int} {pre : List FitV} {x : FitV} {v : Value} {ads : List (Option Addr × Nat)} {C T : Blk} {W V w9 : World} {g n cap xb N : Nat} (h : WI w FB v ads (pre.map f) C T W) (hb : Below W.heap.size W V) (hxb : W.heap.size ≤ xb) (h1 : HR (FB + 1) (.slice (some ⟨g, 0, none⟩) n cap) (ads ++ [(some ⟨xb, 0, none⟩, N)]) (pre.map f ++ [f x]) w9) (h2 : v.ownBlock = some g ∨ V.heap.size ≤ g) (h3 : Turned (fun b => v.ownBlock = some b) V w9) :
    Went (fun pre C T W => ∃ v ads, True ∧ WI w FB v ads (pre.map f) C T W) ownF pre x C T W (w9.setCell ⟨FB, 0, none⟩ (.slice (some ⟨g, 0, none⟩) n cap)) := by
  obtain ⟨k1, k2⟩ := h.push (own := ownF x) hb hxb h1 h2 h3
  rw [show pre.map f ++ [f x] = (pre ++ [x]).map f by rw [List.map_append]; rfl] at k1
  refine ⟨_, _, ⟨_, _, trivial, k1⟩, fun b hb hl hn => ⟨hb, hn, hl⟩, fun b hb2 => ?_, k2.mono fun b _ e => .inl ((h.cc b).2 (e.elim .inl fun e => .inr (.inl e)))⟩
  rcases hb2 with rfl | e | ⟨i, z, ad, e1, e2, rfl⟩
  · exact .inl ((h.cc _).2 (.inl rfl))
  · obtain rfl : g = b := Option.some.inj e
    rcases h2 with q | q
    · exact .inl ((h.cc _).2 (.inr (.inl q)))
    · exact .inr (.inr (by have := hb.size; omega))
  · by_cases hi : i < ads.length
    · rw [List.getElem?_append_left hi] at e1
      exact .inl ((h.cc _).2 (.inr (.inr ⟨i, z, ad, e1, e2, rfl⟩)))
    · rw [List.getElem?_append_right (by omega)] at e1
      have hx := List.mem_singleton.1 (List.mem_of_getElem? e1)
      subst hx
      obtain rfl := Option.some.inj e2
      exact .inr (.inr hxb)
theorem wi_leaves {fn : Func} {tmps : Array Value} {w : World} {FB : Nat} {v r : Value} {ads : List (Option Addr × Nat)} {M : List (List Int)} {C T : Blk} {ms : List Nat} {V : World} {R : Ending → World → Prop}
    (hres : ∀ W : World, (results fn tmps).run Try.prog W = .ok r W)
    (h : WI w FB v ads M C T V) (hT : ∀ D, D ∈ ms → T D) (hn : ms.Nodup) (hd : ∀ D, D ∈ ms → V.heap[D]? = some (.deferred (some []))) (hR : ∀ W, WI w FB v ads M C T W → R (.returned r) W) :
    LeavesInM Fence.wide 50 Try.prog fn tmps R (ms.map mark) .returning V := by
  refine leaves_marks2 (fun W => WI w FB v ads M C T W) ms ?_ ?_ ms V (fun _ h => h) hn hd h
  · exact fun W D hD hW => hW.keep (turned_put W _ (hT D hD)) fun b e => .inl e
  · exact fun W hW => ⟨_, hres W, hR W hW⟩
theorem WI.ms {w : World} {FB n c : Nat} {a : Option Addr} {ads : List (Option Addr × Nat)} {M : List (List Int)} {C T : Blk} {W : World} (h : WI w FB (.slice a n c) ads M C T W) : Ms W a M := by
  obtain ⟨a', c', e, hm⟩ := h.hr.ms
  obtain ⟨rfl, _, _⟩ : a = a' ∧ n = M.length ∧ c = c' := by simpa using e
  exact hm
end Go.Proofs.Ytfnomiingelfaaa
/- The six boxes before the range of Whole. -/
namespace Go.Proofs.Ytfnomiingelfaaa
open Go.RowKit Go.Shelf

/-- The six boxes before the range. -/
theorem boxes6 (w1 : World) (u v : Value) (k : Int) (f : Value) (t1 t2 t3 t4 t5 : TypeId) : let V := ((((((w1.alloc (.cells #[u, v] t1)).alloc (.cells #[.slice none 0 0] t2)).alloc (.cells #[.int .i64 1000000] t3)).alloc (.cells #[u, v] t1)).alloc (.cells #[.int .i64 k] t4)).alloc (.cells #[f] t5)).drew
    V.heap.size = w1.heap.size + 6 ∧ Below w1.heap.size w1 V ∧ V.cell? ⟨w1.heap.size + 1, 0, none⟩ = some (.slice none 0 0) ∧ V.frozen? ⟨w1.heap.size + 1, 0, none⟩ = false ∧ V.cell? ⟨w1.heap.size + 1 + 1, 0, none⟩ = some (.int .i64 1000000) ∧ V.cell? ⟨w1.heap.size + 1 + 1 + 1, 0, none⟩ = some u ∧ V.cell? ⟨w1.heap.size + 1 + 1 + 1, 1, none⟩ = some v ∧ V.cell? ⟨w1.heap.size + 1 + 1 + 1 + 1, 0, none⟩ = some (.int .i64 k) ∧ V.cell? ⟨w1.heap.size + 1 + 1 + 1 + 1 + 1, 0, none⟩ = some f := by
  obtain ⟨A, hA⟩ : ∃ A, w1.alloc (.cells #[u, v] t1) = A := ⟨_, rfl⟩
  obtain ⟨B, hB⟩ : ∃ B, A.alloc (.cells #[.slice none 0 0] t2) = B := ⟨_, rfl⟩
  obtain ⟨C, hC⟩ : ∃ C, B.alloc (.cells #[.int .i64 1000000] t3) = C := ⟨_, rfl⟩
  obtain ⟨D, hD⟩ : ∃ D, C.alloc (.cells #[u, v] t1) = D := ⟨_, rfl⟩
  obtain ⟨E, hE⟩ : ∃ E, D.alloc (.cells #[.int .i64 k] t4) = E := ⟨_, rfl⟩
  obtain ⟨F, hF⟩ : ∃ F, E.alloc (.cells #[f] t5) = F := ⟨_, rfl⟩
  intro V
  have hV : V = F.drewN 1 := by show World.drew ((((((w1.alloc (.cells #[u, v] t1)).alloc _).alloc _).alloc _).alloc _).alloc _) = _; rw [hA, hB, hC, hD, hE, hF]; rfl
  have sA : A.heap.size = w1.heap.size + 1 := by rw [← hA]; exact World.size_alloc _ _
  have sB : B.heap.size = w1.heap.size + 1 + 1 := by rw [← hB, World.size_alloc, sA]
  have sC : C.heap.size = w1.heap.size + 1 + 1 + 1 := by rw [← hC, World.size_alloc, sB]
  have sD : D.heap.size = w1.heap.size + 1 + 1 + 1 + 1 := by rw [← hD, World.size_alloc, sC]
  have sE : E.heap.size = w1.heap.size + 1 + 1 + 1 + 1 + 1 := by rw [← hE, World.size_alloc, sD]
  have sF : F.heap.size = w1.heap.size + 6 := by rw [← hF, World.size_alloc, sE]
  have bA : Below w1.heap.size w1 A := by rw [← hA]; exact (Below.refl _ _).alloc (Nat.le_refl _) _
  have bB : Below A.heap.size A B := by rw [← hB]; exact (Below.refl _ _).alloc (Nat.le_refl _) _
  have bC : Below B.heap.size B C := by rw [← hC]; exact (Below.refl _ _).alloc (Nat.le_refl _) _
  have bD : Below C.heap.size C D := by rw [← hD]; exact (Below.refl _ _).alloc (Nat.le_refl _) _
  have bE : Below D.heap.size D E := by rw [← hE]; exact (Below.refl _ _).alloc (Nat.le_refl _) _
  have bF0 : Below E.heap.size E F := by rw [← hF]; exact (Below.refl _ _).alloc (Nat.le_refl _) _
  have bF : Below E.heap.size E (F.drewN 1) := below_drewN bF0 1
  have bFF : Below F.heap.size F (F.drewN 1) := below_drewN (Below.refl _ _) 1
  have bDF : Below D.heap.size D (F.drewN 1) := bE.trans (bF.mono bE.size)
  have bCF : Below C.heap.size C (F.drewN 1) := bD.trans (bDF.mono bD.size)
  have bBF : Below B.heap.size B (F.drewN 1) := bC.trans (bCF.mono bC.size)
  rw [hV]
  refine ⟨sF, bA.trans ((bB.trans (bBF.mono bB.size)).mono bA.size), ?_, ?_, ?_, ?_, ?_, ?_, ?_⟩
  · rw [← sA]; exact (bBF.cell (p := ⟨A.heap.size, 0, none⟩) (by show A.heap.size < B.heap.size; omega)).trans (by rw [← hB]; exact alloc_cell _ _ _ _ _ rfl)
  · rw [← sA]; exact (bBF.frozen (p := ⟨A.heap.size, 0, none⟩) (by show A.heap.size < B.heap.size; omega)).trans (by rw [← hB]; simp)
  · rw [← sB]; exact (bCF.cell (p := ⟨B.heap.size, 0, none⟩) (by show B.heap.size < C.heap.size; omega)).trans (by rw [← hC]; exact alloc_cell _ _ _ _ _ rfl)
  · rw [← sC]; exact (bDF.cell (p := ⟨C.heap.size, 0, none⟩) (by show C.heap.size < D.heap.size; omega)).trans (by rw [← hD]; exact alloc_cell _ _ _ _ _ rfl)
  · rw [← sC]; exact (bDF.cell (p := ⟨C.heap.size, 1, none⟩) (by show C.heap.size < D.heap.size; omega)).trans (by rw [← hD]; exact alloc_cell _ _ _ _ _ rfl)
  · rw [← sD]; exact (bF.cell (p := ⟨D.heap.size, 0, none⟩) (by show D.heap.size < E.heap.size; omega)).trans (by rw [← hE]; exact alloc_cell _ _ _ _ _ rfl)
  · rw [← sE]; exact (bFF.cell (p := ⟨E.heap.size, 0, none⟩) (by show E.heap.size < F.heap.size; omega)).trans (by rw [← hF]; exact alloc_cell _ _ _ _ _ rfl)
end Go.Proofs.Ytfnomiingelfaaa
/- fit of the reference of layer 4: a contract. -/
namespace Go.Proofs.Ytfnomiingelfaaa
open Go.RowKit Go.Shelf

/-- A list of ints, with or without memory, appended to an own slice without anything. -/
theorem wpList_catN {ops : Array Oper} {rest : List Oper} {o : Oper} {a : Act} {Q : Exit → Act → World → Prop} (hgd : o.guard = none) (s x : Operand)
    (ho : o.op = .call { callee := .builtin .append, args := #[s, x], argTypes := #[24, 24] }) (base : Nat) (v : Value) (pa : Option Addr) (ys : List Int) (c : Nat) (V : World)
    (hs : a.eval s = v) (hx : a.eval x = .slice pa ys.length c) (hz : ys = [] → pa = none ∧ c = 0) (hown : OwnI V base v []) (hsl : Sl V pa ys) (hl : ys.length ≤ 100000) (hbase : base ≤ V.heap.size)
    (h : ∀ v' w', OwnI w' base v' ys → Below base V w' → wpList Try.prog ops Q rest (a.put o.dst v') w') : wpList Try.prog ops Q (o :: rest) a V := by
  cases ys with
  | nil =>
    obtain ⟨rfl, rfl⟩ := hz rfl
    obtain ⟨i0, hi, hz0, hz1, hz2⟩ := info_parts Try.infoInt
    exact wpList_append_own_none hgd s x 24 ho base 3 i0 1 Try.underlying24 hi v 0 [] hs hown hx (h v V hown (Below.refl _ _))
  | cons y ys =>
    obtain ⟨b, off, rfl, _⟩ := hsl 0 (by simp)
    refine wpList_catS hgd s x ho base v [] b off (y :: ys) c V hs hx hown hsl (by simpa using hl) hbase ?_
    intro v' w' h1 h2
    exact h v' w' (by simpa using h1) h2
/-- Where a slice of the call's own starts. -/
def Zero (a : Option Addr) : Prop := a = none ∨ ∃ b, a = some ⟨b, 0, none⟩
theorem OwnI.zero {w : World} {base : Nat} {a : Option Addr} {n c : Nat} {xs : List Int} (h : OwnI w base (.slice a n c) xs) : Zero a := by
  obtain ⟨_, ⟨e, _⟩ | ⟨g, cap, cur, e, _⟩⟩ := h
  · exact .inl (by injection e)
  · exact .inr ⟨g, by injection e⟩
/-- What fit of the reference answers. -/
def RFitPost (o : Option (List (Int × Int))) (px : List Int) (w : World) (e : Ending) (w' : World) : Prop :=
  Below w.heap.size w w' ∧ ((o = none ∧ e = .returned (.tuple #[.agg #[.slice none 0 0, .slice none 0 0], .bool false])) ∨ ∃ vs qa qc va vc, o = some vs ∧ e = .returned (.tuple #[.agg #[.slice qa px.length qc, .slice va vs.length vc], .bool true]) ∧ Sl w' qa px ∧ Rl w' va vs ∧ Zero qa)
set_option maxRecDepth 1000000 in
set_option maxHeartbeats 1600000 in
theorem rfit_any (ma : Option Addr) (m : List (List Int)) (mc : Nat) (ya : Option Addr) (y : List Int) (yc : Nat) (pa : Option Addr) (px : List Int) (pc : Nat) (w : World) (hm : MOk m) (hl : px.length ≤ 1000) (hly : y.length ≤ 1000) (hs : Ms w ma m) (hp : Sl w pa px) (hz : px = [] → pa = none ∧ pc = 0) (hy : Sl w ya y) :
    Calls Try.prog 71 #[.slice ma m.length mc, .slice ya y.length yc, .slice pa px.length pc] w (RFitPost (fitO zB m y px) px w) := by
  obtain ⟨V, hV⟩ : ∃ V, w.alloc (.cells #[.slice none 0 0, .slice none 0 0] 41) = V := ⟨_, rfl⟩
  have HVV := Lib.hid hV
  have HVW := Lib.hid (box2 hV)
  have hbv : Below w.heap.size w V := by rw [← hV]; exact (Below.refl _ _).alloc (Nat.le_refl _) _
  have HBV := Lib.hid hbv
  obtain ⟨t0, t1, t2, t3⟩ := HVW.out V (Below.refl _ _)
  have HSO : Hid (Calls Try.prog 88 #[.slice ma m.length mc, .slice pa px.length pc, .slice ya y.length yc] V (RLPost (solveV m px y) V)) := rsolve_any ma m mc pa px pc ya y yc V hm hl hly (hs.below hbv) (hp.below hbv) (hy.below hbv)
  have HFO : Hid (fitO zB m y px = if (solveV m px y).2 = 0 then (if (solveV m px y).1.any zB = true then none else some (solveV m px y).1) else none) := rfl
  have hvl := solveV_len m px y
  obtain ⟨⟨vs, e0⟩, hsv⟩ : ∃ r, solveV m px y = r := ⟨_, rfl⟩
  rw [hsv] at HSO HFO hvl
  dsimp only at hvl HFO
  have HP := Lib.hid hp
  have HZ := Lib.hid hz
  obtain ⟨pl, hpl⟩ : ∃ pl, px.length = pl := ⟨_, rfl⟩
  have HPL := Lib.hid hpl
  obtain ⟨vl, hvl2⟩ : ∃ vl, vs.length = vl := ⟨_, rfl⟩
  have HVL := Lib.hid hvl2
  have HRL : Hid (Calls Try.prog 88 #[.slice ma m.length mc, .slice pa pl pc, .slice ya y.length yc] V fun e w' => Below V.heap.size V w' ∧ ∃ a cap, e = .returned (.tuple #[.slice a vl cap, .int .i64 e0]) ∧ Rl w' a vs) := by rw [← hpl, ← hvl2]; exact HSO.out
  unfold RFitPost
  rw [hpl] at hl hvl ⊢
  rw [hvl2] at hvl
  clear HSO hm hs hp hy hbv hsv hpl hvl2 hz
  by_cases he0 : e0 = 0
  · subst he0
    rw [if_pos rfl] at HFO
    go_enter Try.func71, Try.ntmps71
    go_wp2_with (go_at_call 88; refine HRL.out.mono ?_; rintro e w2 ⟨hb2, va, vc, rfl, hrl⟩; have HB2 := Lib.hid hb2; have HRV := Lib.hid hrl; clear hb2 hrl)
    go_loopw [11, 24] (fun _ i wr => ∃ k : Nat, k ≤ vl ∧ i = .int .i64 k ∧ (vs.take k).any zB = false ∧ Below w2.heap.size w2 wr) (fun _ i _ => vl - (intOf i).toNat)
    case atStart => exact ⟨0, Nat.zero_le _, rfl, by simp, Below.refl _ _⟩
    case round =>
      obtain ⟨k, hk, rfl, hany, hB⟩ := hrel
      have HANY := Lib.hid hany
      have HB := Lib.hid hB
      clear hany hB
      have hVr : Below V.heap.size V wr := HB2.out.trans (HB.out.mono HB2.out.size)
      have HVR := Lib.hid hVr
      obtain ⟨u0, u1, u2, u3⟩ := HVW.out wr hVr
      have HBW : Hid (Below w.heap.size w wr) := HBV.out.trans (hVr.mono HBV.out.size)
      clear hVr
      by_cases hlt : k < vl
      · obtain ⟨p, hp⟩ : ∃ p, vs[k]? = some p := ⟨vs[k]'(by rw [HVL.out]; exact hlt), by simp [HVL.out, hlt]⟩
        obtain ⟨b1, rfl, a1, a2⟩ := (HRV.out.below HB.out) k p hp
        have HTK : Hid ((vs.take (k + 1)).any zB = zB p) := by
          show _ = _
          have hkl := (List.getElem?_eq_some_iff.1 hp).1
          rw [List.take_succ_eq_append_getElem hkl, List.any_append, HANY.out]
          obtain ⟨_, rfl⟩ := List.getElem?_eq_some_iff.1 hp
          simp
        have HMEM : Hid (p ∈ vs) := List.mem_of_getElem? hp
        obtain ⟨p1, p2⟩ := p
        dsimp only at a1 a2
        have hk0 : (k : Int) < (vl : Int) := by omega
        obtain ⟨wa, hwa⟩ : ∃ wa, wr.alloc (.cells #[.int .i64 p1, .int .i64 p2] 47) = wa := ⟨_, rfl⟩
        have wa0 : wa.cell? ⟨wr.heap.size, 0, none⟩ = some (.int .i64 p1) := by rw [← hwa]; exact alloc_cell _ _ _ _ _ rfl
        have HBA : Hid (Below wr.heap.size wr wa) := by rw [← hwa]; exact (Below.refl _ _).alloc (Nat.le_refl _) _
        have HVA : Hid (Below V.heap.size V wa) := HVR.out.trans (HBA.out.mono HVR.out.size)
        obtain ⟨g0, g1, g2, g3⟩ := HVW.out wa HVA.out
        clear hp
        by_cases hp1 : p1 = 0
        · subst hp1
          have HFN : Hid (fitO zB m y px = none) := by
            show _ = _
            rw [HFO.out, if_pos]
            exact List.any_eq_true.2 ⟨_, HMEM.out, rfl⟩
          clear HFO
          go_wp2
          refine bodyPost_ret (v := .tuple #[.agg #[.slice none 0 0, .slice none 0 0], .bool false]) ?_ rfl ⟨?_, .inl ⟨HFN.out, rfl⟩⟩
          · rw [results_cell_tmp rfl]; go_simp
          · exact ((HBV.out.trans (HVA.out.mono HBV.out.size)).setCell (p := ⟨w.heap.size, 0, none⟩) (Nat.le_refl _) _).setCell (p := ⟨w.heap.size, 1, none⟩) (Nat.le_refl _) _
        · have y1 : (p1 == 0) = false := by simpa using hp1
          have HTN : Hid ((vs.take (k + 1)).any zB = false) := by rw [HTK.out]; exact y1
          clear hp1
          go_wp2
          go_roundw
          case rel => exact ⟨k + 1, by omega, by go_num, HTN.out, HB.out.trans (HBA.out.mono HB.out.size)⟩
          case measure => simp [intOf]; omega
      · obtain rfl : vl = k := by omega
        have HFS : Hid (fitO zB m y px = some vs) := by
          show _ = _
          rw [HFO.out, if_neg]
          rw [← HVL.out, List.take_length] at HANY
          rw [HANY.out]; simp
        clear HFO
        have HPR : Hid (Sl wr pa px) := HP.out.below HBW.out
        have HRR : Hid (Rl wr va vs) := HRV.out.below HB.out
        have HOE := Lib.hid (own_lit0 wr)
        have HBE : Hid (Below wr.heap.size wr (wr.alloc (.cells #[] 3))) := (Below.refl _ _).alloc (Nat.le_refl _) _
        have HLP : Hid (px.length ≤ 100000) := by rw [HPL.out]; show _ ≤ _; omega
        go_wp2_with (at_builtin; go_must (refine wpList_catN rfl (.tmp 33) (.tmp 34) rfl wr.heap.size _ pa px pc _ rfl (by rw [HPL.out]; rfl) HZ.out HOE.out (HPR.out.below HBE.out) HLP.out HBE.out.size ?_); intro v2 w6 ho2 hb2; obtain ⟨qa, qc, rfl, s2, l2⟩ := ho2.parts; have HQ0 := Lib.hid ho2.zero; have hb6 := HBE.out.trans hb2; obtain ⟨g0, g1, g2, g3⟩ := HVW.out w6 (HVR.out.trans (hb6.mono HVR.out.size)); have HB6 := Lib.hid hb6; have HS6 := Lib.hid s2; clear hb6 hb2 ho2 s2 l2; (try rw [HPL.out]))
        have hT := topPost_put (t := (px, vs)) (n := 0) HVV.out (HVR.out.trans (HB6.out.mono HVR.out.size)) HS6.out (HRR.out.below HB6.out) (qc := qc) (vc := vc) rfl
        dsimp only at hT
        rw [HPL.out, HVL.out] at hT
        obtain ⟨h1, qa', qc', va', vc', he, h2, h3⟩ := hT
        dsimp only at he h2 h3
        simp only [Ending.returned.injEq, Value.tuple.injEq, Array.mk.injEq, List.cons.injEq, Value.agg.injEq, Value.slice.injEq, and_true] at he
        rw [HPL.out, HVL.out] at he
        obtain ⟨⟨rfl, _, rfl⟩, rfl, _, rfl⟩ := he
        refine bodyPost_ret (v := .tuple #[.agg #[.slice qa pl qc, .slice va vl vc], .bool true]) ?_ rfl ⟨h1, .inr ⟨vs, qa, qc, va, vc, HFS.out, by rw [HVL.out], h2, h3, HQ0.out⟩⟩
        rw [results_cell_tmp rfl]; go_simp
  · have y1 : (e0 == 0) = false := by simpa using he0
    have y2 : (e0 != 0) = true := by simpa using he0
    have HFN : Hid (fitO zB m y px = none) := by show _ = _; rw [HFO.out, if_neg he0]
    clear HFO he0
    go_enter Try.func71, Try.ntmps71
    go_wp2_with (go_at_call 88; refine HRL.out.mono ?_; rintro e w2 ⟨hb2, va, vc, rfl, hrl⟩; obtain ⟨g0, g1, g2, g3⟩ := HVW.out w2 hb2; have HBW : Hid (Below w.heap.size w w2) := HBV.out.trans (hb2.mono HBV.out.size); clear hb2 hrl)
    refine bodyPost_ret (v := .tuple #[.agg #[.slice none 0 0, .slice none 0 0], .bool false]) ?_ rfl ⟨(HBW.out.setCell (p := ⟨w.heap.size, 0, none⟩) (Nat.le_refl _) _).setCell (p := ⟨w.heap.size, 1, none⟩) (Nat.le_refl _) _, .inl ⟨HFN.out, rfl⟩⟩
    rw [results_cell_tmp rfl]; go_simp
end Go.Proofs.Ytfnomiingelfaaa
/- All of the reference of layer 4: a contract. -/
namespace Go.Proofs.Ytfnomiingelfaaa
open Go.RowKit Go.Shelf

/-- A fit of the reference, as it lies in memory. -/
structure FitR (x : FitV) (W : World) : Prop where
  sl : Sl W x.qa x.px
  rl : Rl W x.va x.vs
  z : Zero x.qa
theorem FitR.below {x : FitV} {W W' : World} (h : FitR x W) (hb : Below W.heap.size W W') : FitR x W' := ⟨h.sl.below hb, h.rl.below hb, h.z⟩
/-- A row of fits shares no memory with what holds numbers. -/
theorem OwnF.no_int {W : World} {base b : Nat} {v : Value} {xs : List FitV} {k : Int} (h : OwnF W base v xs) (hx : v = .slice none 0 0 ∨ xs ≠ []) (hc : W.cell? ⟨b, 0, none⟩ = some (.int .i64 k)) : v.ownBlock ≠ some b := by
  intro e
  rcases hx with rfl | hx
  · cases e
  · rcases h.form with ⟨_, q⟩ | ⟨g, cap, rfl⟩
    · exact hx q
    · obtain rfl : g = b := by injection e
      cases xs with
      | nil => exact hx rfl
      | cons x xs =>
        have := (h.cell (j := 0) (x := x) rfl).1
        rw [Nat.zero_mul, hc] at this
        cases this
theorem FitR.turned {x : FitV} {W W' : World} {base : Nat} {v : Value} {xs : List FitV} (h : FitR x W) (ho : OwnF W base v xs) (hx : v = .slice none 0 0 ∨ xs ≠ []) (ht : Turned (fun b => v.ownBlock = some b) W W') : FitR x W' := by
  refine ⟨fun k hk => ?_, fun j p hj => ?_, h.z⟩
  · obtain ⟨b, off, e, hc⟩ := h.sl k hk
    refine ⟨b, off, e, ht.cell hc ?_⟩
    obtain ⟨b2, off2, e2, hc2⟩ := h.sl 0 (by omega)
    rw [e] at e2
    obtain ⟨rfl, rfl⟩ : b = b2 ∧ off = off2 := by simpa using e2
    have hoff : off = 0 := by
      rcases h.z with q | ⟨b3, q⟩
      · rw [e] at q; cases q
      · rw [e] at q; simpa using (by simpa using q : _ ∧ off = 0).2
    subst hoff
    exact ho.no_int hx hc2
  · obtain ⟨b, e, h1, h2⟩ := h.rl j p hj
    obtain ⟨p0, hp0⟩ : ∃ p0, x.vs[0]? = some p0 := ⟨x.vs[0]'(by have := (List.getElem?_eq_some_iff.1 hj).1; omega), by simp [show 0 < x.vs.length by have := (List.getElem?_eq_some_iff.1 hj).1; omega]⟩
    obtain ⟨b2, e2, h3, _⟩ := h.rl 0 p0 hp0
    rw [e] at e2
    obtain rfl : b = b2 := by simpa using e2
    rw [Nat.zero_mul] at h3
    exact ⟨b, e, ht.cell h1 (ho.no_int hx h3), ht.cell h2 (ho.no_int hx h3)⟩
theorem OwnF.fsR {W : World} {base : Nat} {v : Value} {xs : List FitV} (h : OwnF W base v xs) (hm : ∀ x ∈ xs, FitR x W) : ∃ a cap, v = .slice a xs.length cap ∧ Fs W a (xs.map keyF) := by
  rcases h.form with ⟨e, rfl⟩ | ⟨g, cap', rfl⟩
  · exact ⟨none, 0, e, fun k p hk => by simp at hk⟩
  · refine ⟨_, cap', rfl, fun k p hk => ?_⟩
    rw [List.getElem?_map] at hk
    obtain ⟨x, hx, rfl⟩ := Option.map_eq_some_iff.1 hk
    obtain ⟨c1, c2⟩ := h.cell hx
    have hf := hm x (List.mem_of_getElem? hx)
    exact ⟨g, x.qa, x.qc, x.va, x.vc, rfl, c1, c2, hf.sl, hf.rl⟩
/-- What the reference keeps: a row of fits of its own. -/
structure RowI (base : Nat) (v : Value) (xs : List FitV) (W : World) : Prop where
  own : OwnF W base v xs
  mem : ∀ x ∈ xs, FitR x W
  sh : v = .slice none 0 0 ∨ xs ≠ []
theorem RowI.nil (base : Nat) (W : World) : RowI base (.slice none 0 0) [] W := ⟨OwnF.nil _ _, fun x hx => (by cases hx), .inl rfl⟩
theorem RowI.below {base : Nat} {v : Value} {xs : List FitV} {W W' : World} (h : RowI base v xs W) (hb : Below W.heap.size W W') : RowI base v xs W' := ⟨h.own.below hb, fun x hx => (h.mem x hx).below hb, h.sh⟩
theorem RowI.push {base : Nat} {v : Value} {xs : List FitV} {V w' : World} {x : FitV} {g cap : Nat} (h : RowI base v xs V) (hx : FitR x V) (hp : PushedF V base v xs x g cap w') : RowI base (.slice (some ⟨g, 0, none⟩) (xs.length + 1) cap) (xs ++ [x]) w' := by
  obtain ⟨h1, h2, _⟩ := hp
  refine ⟨h1, fun z hz => ?_, .inr (by simp)⟩
  rcases List.mem_append.1 hz with hz | hz
  · exact (h.mem z hz).turned h.own h.sh h2
  · obtain rfl := List.mem_singleton.1 hz
    exact hx.turned h.own h.sh h2
theorem pushedF_below {base : Nat} {v : Value} {xs : List FitV} {V w' : World} {x : FitV} {g cap : Nat} (h : OwnF V base v xs) (hb : base ≤ V.heap.size) (hp : PushedF V base v xs x g cap w') : Below base V w' := hp.2.1.below hb fun b hb e => by have := (World.ownsRow.lt h b e).1; omega
theorem rfit_none {px : List Int} {w w' : World} {e : Ending} (h : RFitPost none px w e w') : Below w.heap.size w w' ∧ e = .returned (.tuple #[.agg #[.slice none 0 0, .slice none 0 0], .bool false]) := by
  obtain ⟨h1, ⟨_, h2⟩ | ⟨_, _, _, _, _, q, _⟩⟩ := h
  · exact ⟨h1, h2⟩
  · cases q
theorem rfit_some {vs : List (Int × Int)} {px : List Int} {w w' : World} {e : Ending} (h : RFitPost (some vs) px w e w') : Below w.heap.size w w' ∧ ∃ qa qc va vc, e = .returned (.tuple #[.agg #[.slice qa px.length qc, .slice va vs.length vc], .bool true]) ∧ Sl w' qa px ∧ Rl w' va vs ∧ Zero qa := by
  obtain ⟨h1, ⟨q, _⟩ | ⟨vs', qa, qc, va, vc, q, h2⟩⟩ := h
  · cases q
  · obtain rfl : vs = vs' := by injection q
    exact ⟨h1, qa, qc, va, vc, h2⟩
/-- All fits, as the reference finds them. -/
def fitsR (m : List (List Int)) (y : List Int) (k : Nat) : List (List Int × List (Int × Int)) := ((setsAll (colsM m)).take k).filterMap fun px => (fitO zB m y px).map fun vs => (px, vs)
theorem fitsR_succ {m : List (List Int)} {y : List Int} {k : Nat} {s : List Int} (h : (setsAll (colsM m))[k]? = some s) : fitsR m y (k + 1) = fitsR m y k ++ ((fitO zB m y s).map fun vs => (s, vs)).toList := by
  unfold fitsR
  obtain ⟨hk, rfl⟩ := List.getElem?_eq_some_iff.1 h
  rw [List.take_succ_eq_append_getElem hk, List.filterMap_append]
  congr 1
theorem fitsR_len (m : List (List Int)) (y : List Int) (k : Nat) : (fitsR m y k).length ≤ k := by
  unfold fitsR
  exact Nat.le_trans (List.length_filterMap_le _ _) (by rw [List.length_take]; omega)
set_option maxRecDepth 1000000 in
set_option maxHeartbeats 3200000 in
theorem rall_any (ma : Option Addr) (m : List (List Int)) (mc : Nat) (ya : Option Addr) (y : List Int) (yc : Nat) (w : World) (hm : MOk m) (hv : validM m = true) (hly : y.length ≤ 1000) (hs : Ms w ma m) (hy : Sl w ya y) :
    Calls Try.prog 48 #[.slice ma m.length mc, .slice ya y.length yc] w fun e w' => Below w.heap.size w w' ∧ ∃ base v xs, e = .returned v ∧ xs.map keyF = fitsR m y (setsAll (colsM m)).length ∧ RowI base v xs w' := by
  obtain ⟨hm1, hm6, hc1, hc10, hrows⟩ := validM_of hv
  have HM := Lib.hid hm
  have HS := Lib.hid hs
  have HY := Lib.hid hy
  have HLY := Lib.hid hly
  obtain ⟨b0, o0, a0, r0, c0, rfl, hcw, _, hr0⟩ := hs.at (i := 0) (by omega)
  obtain ⟨N, hN⟩ : ∃ N, colsM m = N := ⟨_, rfl⟩
  have HN := Lib.hid hN
  have hr0N : r0.length = N := by rw [← hN]; exact (hrows r0 (List.mem_of_getElem? hr0.out)).1
  rw [hr0N, Nat.add_zero] at hcw
  rw [hN] at hc1 hc10 ⊢
  have hml : 0 < m.length := by omega
  have HSE : Hid (∀ W, Calls Try.prog 70 #[.int .i64 N] W fun e w' => ∃ a c, e = .returned (.slice a (setsAll N).length c) ∧ MsN w' a (setsAll N) ∧ Below W.heap.size W w') := fun W => rsets_new N (by omega) W
  obtain ⟨AL, hAL⟩ : ∃ AL, (setsAll N).length = AL := ⟨_, rfl⟩
  have HALL := Lib.hid hAL
  have hAL1 : AL ≤ 1024 := by rw [← hAL]; exact setsAll_len N (by omega)
  rw [hAL] at HSE ⊢
  clear hm hs hy hly hrows hr0 hr0N hN hAL hm6 hm1
  go_enter Try.func48, Try.ntmps48
  go_wp2_with (go_at_call 70; refine (HSE.out w).mono ?_; rintro e w2 ⟨sa, sc, rfl, hms, hb1⟩; have HMS := Lib.hid hms; have HB1 := Lib.hid hb1; clear hms hb1)
  clear hcw HSE
  go_loopw [5, 7, 8, 9, 16] (fun v _ _ _ i wr => ∃ (k : Nat) (xs : List FitV), k ≤ AL ∧ i = .int .i64 k ∧ xs.map keyF = fitsR m y k ∧ RowI w2.heap.size v xs wr ∧ Below w2.heap.size w2 wr) (fun _ _ _ _ i _ => AL - (intOf i).toNat)
  case atStart => exact ⟨0, [], Nat.zero_le _, rfl, rfl, RowI.nil _ _, Below.refl _ _⟩
  case round =>
    obtain ⟨k, xs, hk, rfl, hxs, hO, hB⟩ := hrel
    have HXS := Lib.hid hxs; clear hxs
    have HO := Lib.hid hO; clear hO
    have HB := Lib.hid hB; clear hB
    have HRB : Hid (Below w.heap.size w wr) := HB1.out.trans (HB.out.mono HB1.out.size)
    by_cases hlt : k < AL
    · obtain ⟨s, hs0⟩ : ∃ s, (setsAll N)[k]? = some s := ⟨_, List.getElem?_eq_getElem (by rw [HALL.out]; exact hlt)⟩
      have hkM : k < (setsAll N).length := by rw [HALL.out]; exact hlt
      obtain ⟨b1, o1, a1, c1, rfl, hcell, hsl, hnil⟩ := HMS.out k hkM
      rw [hs0] at hnil
      rw [hs0, Option.getD_some] at hcell hsl
      have hSw : Sl wr a1 s := Sl.below hsl HB.out
      have hcell : wr.cell? ⟨b1, o1 + k, none⟩ = some (.slice a1 s.length c1) := (HB.out.cell (p := ⟨b1, o1 + k, none⟩) (cell_lt hcell)).trans hcell
      obtain ⟨hsN, _⟩ := setsAll_mem (List.mem_of_getElem? hs0)
      have HSU : Hid (fitsR m y (k + 1) = fitsR m y k ++ ((fitO zB m y s).map fun vs => (s, vs)).toList) := fitsR_succ (by rw [HN.out]; exact hs0)
      have HFI : Hid (Calls Try.prog 71 #[.slice (some ⟨b0, o0, none⟩) m.length mc, .slice ya y.length yc, .slice a1 s.length c1] wr (RFitPost (fitO zB m y s) s wr)) := rfit_any _ m mc ya y yc a1 s c1 wr HM.out (by omega) HLY.out (HS.out.below HRB.out) hSw (fun e => hnil (by rw [e])) (HY.out.below HRB.out)
      have HXL : Hid (xs.length ≤ 100000) := by
        have := congrArg List.length HXS.out
        rw [List.length_map] at this
        have h2 := fitsR_len m y k
        show _ ≤ _
        omega
      have hb0k : o1 + k = o1 + k := rfl
      have hk0 : (k : Int) < (AL : Int) := by omega
      clear hsl hs0 hkM hnil hSw hsN hb0k
      cases hfo : fitO zB m y s with
      | none =>
        rw [hfo] at HFI HSU
        have HNX : Hid (fitsR m y (k + 1) = fitsR m y k) := by show _ = _; rw [HSU.out]; simp
        clear hfo HSU
        go_wp2_with (go_at_call 71; refine HFI.out.mono ?_; intro e w5 h5; obtain ⟨hb5, rfl⟩ := rfit_none h5; have HB5 := Lib.hid hb5; clear hb5 h5)
        go_roundw
        case rel => exact ⟨k + 1, xs, by omega, by go_num, by rw [HNX.out]; exact HXS.out, HO.out.below (HB5.out.alloc HB5.out.size _), (Below.next HB.out HB5.out (Nat.le_refl _)).alloc (Nat.le_trans HB.out.size HB5.out.size) _⟩
        case measure => simp [intOf]; omega
      | some vs0 =>
        rw [hfo] at HFI HSU
        have HNX : Hid (fitsR m y (k + 1) = fitsR m y k ++ [(s, vs0)]) := by show _ = _; rw [HSU.out]; simp
        clear hfo HSU
        go_wp2_with (first
          | (go_at_call 71; refine HFI.out.mono ?_; intro e w5 h5; obtain ⟨hb5, qa, qc, va, vc, rfl, hsl5, hrl5, hz5⟩ := rfit_some h5; clear h5
             obtain ⟨wb, hwb⟩ : ∃ wb, w5.alloc (.cells #[.slice qa s.length qc, .slice va vs0.length vc] 41) = wb := ⟨_, rfl⟩
             have HBB : Hid (Below w5.heap.size w5 wb) := by rw [← hwb]; exact (Below.refl _ _).alloc (Nat.le_refl _) _
             have wb0 : wb.cell? ⟨w5.heap.size, 0, none⟩ = some (.slice qa s.length qc) := by rw [← hwb]; exact alloc_cell _ _ _ _ _ rfl
             have wb1 : wb.cell? ⟨w5.heap.size, 1, none⟩ = some (.slice va vs0.length vc) := by rw [← hwb]; exact alloc_cell _ _ _ _ _ rfl
             have HB5 := Lib.hid hb5; have HWB : Hid (Below wr.heap.size wr wb) := hb5.trans (HBB.out.mono hb5.size)
             have HFR : Hid (FitR ⟨qa, qc, s, va, vc, vs0⟩ wb) := FitR.below (W := w5) ⟨hsl5, hrl5, hz5⟩ HBB.out
             have HRI : Hid (RowI w2.heap.size _ xs wb) := HO.out.below HWB.out
             have HSZ : Hid (w2.heap.size ≤ wb.heap.size) := Nat.le_trans HB.out.size HWB.out.size
             clear hb5 hsl5 hrl5 hz5)
          | (at_builtin; go_must (refine wpList_pushF rfl (.tmp 28) (.tmp 30) rfl w2.heap.size _ xs ⟨qa, qc, s, va, vc, vs0⟩ wb _ _ rfl rfl rfl HRI.out.own HXL.out HSZ.out ?_); intro g gc w7 hp; have HP := Lib.hid (HRI.out.push HFR.out hp); have HB7 := Lib.hid (pushedF_below HRI.out.own HSZ.out hp); clear hp))
        go_roundw
        case rel => exact ⟨k + 1, xs ++ [⟨qa, qc, s, va, vc, vs0⟩], by omega, by go_num, by rw [HNX.out, List.map_append, HXS.out]; rfl, HP.out, (Below.next HB.out HWB.out (Nat.le_refl _)).trans HB7.out⟩
        case measure => simp [intOf]; omega
    · obtain rfl : AL = k := by omega
      obtain ⟨oa, oc, hov, hof⟩ := HO.out.own.fsR HO.out.mem
      subst hov
      clear hof
      go_wp2
      go_ret
      exact ⟨HRB.out, _, _, xs, rfl, HXS.out, HO.out⟩
end Go.Proofs.Ytfnomiingelfaaa
/- known of a reduction: a contract. -/
namespace Go.Proofs.Ytfnomiingelfaaa
open Go.RowKit

/-- All free columns of a row are 0. -/
def loneR (M : List (List Int)) (pz : List Int) (cols i : Nat) : Bool := (freeTo pz cols).all fun f => gt (rowL M i) f.toNat == 0
/-- The row in which a column stands alone, or -1. -/
def knownV (M : List (List Int)) (pz : List Int) (cols : Nat) (v : Int) : Int := if indexV pz v < 0 then -1 else if loneR M pz cols (indexV pz v).toNat = true then indexV pz v else -1
theorem indexV_at (pz : List Int) (v : Int) : indexV pz v = -1 ∨ ∃ i : Nat, indexV pz v = (i : Int) ∧ i < pz.length ∧ gt pz i = v := by
  have hm := indexV_mem (xs := pz) (v := v)
  by_cases h : v ∈ pz
  · have hex : ∃ k, k < pz.length ∧ gt pz k = v ∧ ∀ j, j < k → gt pz j ≠ v := by
      obtain ⟨k, hk, e⟩ := mem_gt.1 h
      induction k using Nat.strongRecOn with
      | _ k ih =>
        by_cases hj : ∃ j, j < k ∧ gt pz j = v
        · obtain ⟨j, j1, j2⟩ := hj
          exact ih j j1 (by omega) j2
        · exact ⟨k, hk, e, fun j j1 j2 => hj ⟨j, j1, j2⟩⟩
    obtain ⟨k, k1, k2, k3⟩ := hex
    exact .inr ⟨k, indexV_hit k1 k3 k2, k1, k2⟩
  · exact .inl (indexV_miss fun j hj e => h (mem_gt.2 ⟨j, hj, e⟩))
end Go.Proofs.Ytfnomiingelfaaa
/- What is known: the two sides agree. Plain words. Speaks of no program. -/
namespace Go.Proofs.Ytfnomiingelfaaa
open Go.RowKit

theorem short_zero {v : List Int} {c : Nat} (hc : c < v.length) (hg : gcdL v ≠ 0) : gt (shortL v) c = 0 ↔ gt v c = 0 := by
  have e := gt_short hc
  constructor
  · intro h; rw [e, h]; simp
  · intro h
    rw [h] at e
    rcases Int.mul_eq_zero.mp e.symm with e2 | e2
    · omega
    · exact e2
theorem known_same {m : List (List Int)} (hv : validM m = true) {j : Nat} (hj : j < colsM m) :
    (decide (0 ≤ knownV (redN m (upTo (colsM m))).rows (redN m (upTo (colsM m))).piv (colsM m) (j : Int)) = rknownB m j) := by
  obtain ⟨_, hm6, _, _, _⟩ := validM_of hv
  have h := basis_fin hv
  unfold rknownB basisM
  obtain ⟨r, hr⟩ : ∃ r, redN m (upTo (colsM m)) = r := ⟨_, rfl⟩
  rw [hr] at h ⊢
  obtain ⟨N, hN⟩ : ∃ N, colsM m = N := ⟨_, rfl⟩
  rw [hN] at h hj ⊢
  rw [Bool.eq_iff_iff, decide_eq_true_eq, List.all_eq_true]
  have hz : ∀ f, f < N → (f : Int) ∉ r.piv → (gt (shortL (kvec r N f)) j = 0 ↔ gt (kvec r N f) j = 0) := fun f hf hn => short_zero (by rw [kvec_len]; exact hj) (h.kvec_gcd hm6 (Nat.le_refl _) hf hn)
  have all : (∀ x ∈ (freeTo r.piv N).map (fun c => shortL (kvec r N c.toNat)), (gt x j == 0) = true) ↔ ∀ f, f < N → (f : Int) ∉ r.piv → gt (kvec r N f) j = 0 := by
    constructor
    · intro ha f hf hn
      have := ha _ (List.mem_map.2 ⟨(f : Int), (freeTo_mem _ _ _).2 ⟨f, hf, rfl, hn⟩, rfl⟩)
      rw [Int.toNat_natCast] at this
      exact (hz f hf hn).1 (by simpa using this)
    · intro ha x hx
      obtain ⟨c, hc, rfl⟩ := List.mem_map.1 hx
      obtain ⟨f, hf, rfl, hn⟩ := (freeTo_mem _ _ _).1 hc
      rw [Int.toNat_natCast]
      simpa using (hz f hf hn).2 (ha f hf hn)
  rw [all]
  rcases indexV_at r.piv (j : Int) with e | ⟨i, e, hi, hp⟩
  · have hn : (j : Int) ∉ r.piv := by
      have hm := indexV_mem (xs := r.piv) (v := (j : Int))
      rw [e] at hm
      intro hin
      rw [decide_eq_true hin] at hm
      exact absurd hm (by decide)
    unfold knownV
    rw [e, if_pos (by decide)]
    constructor
    · intro hh; omega
    · intro ha
      have := ha j hj hn
      rw [h.kvec_free hm6 (Nat.le_refl _) hj hn] at this
      have := h.pos; omega
  · have hpj : pivN r i = j := by have := h.pivN_eq hi; omega
    unfold knownV
    rw [e, if_neg (by omega), Int.toNat_natCast]
    have hl : loneR r.rows r.piv N i = true ↔ ∀ f, f < N → (f : Int) ∉ r.piv → gt (rowL r.rows i) f = 0 := by
      unfold loneR
      rw [List.all_eq_true]
      constructor
      · intro ha f hf hn
        have := ha _ ((freeTo_mem _ _ _).2 ⟨f, hf, rfl, hn⟩)
        rw [Int.toNat_natCast] at this
        simpa using this
      · intro ha x hx
        obtain ⟨f, hf, rfl, hn⟩ := (freeTo_mem _ _ _).1 hx
        rw [Int.toNat_natCast]
        simpa using ha f hf hn
    have hk : (∀ f, f < N → (f : Int) ∉ r.piv → gt (kvec r N f) j = 0) ↔ ∀ f, f < N → (f : Int) ∉ r.piv → gt (rowL r.rows i) f = 0 := by
      constructor <;> intro ha f hf hn <;> have h1 := h.kvec_piv hm6 (Nat.le_refl _) hf hn hi <;> rw [hpj] at h1 <;> have h2 := ha f hf hn <;> omega
    rw [hk, ← hl]
    cases loneR r.rows r.piv N i
    · simp
    · simp
end Go.Proofs.Ytfnomiingelfaaa
/- What is known does not hang on the numbers behind the rows; the row of a pivot as a sum of rows. Plain words. Speaks of no program. -/
namespace Go.Proofs.Ytfnomiingelfaaa
open Go.RowKit

variable {R N cols : Nat} {A0 : Nat → Nat → Int} {r : Rd}
theorem sum_cut {f w : Nat → Int} {cols N : Nat} (hc : cols ≤ N) : sumTo (fun c => f c * (if c < cols then w c else 0)) N = sumTo (fun c => f c * w c) cols := by
  obtain ⟨d, rfl⟩ : ∃ d, N = cols + d := ⟨N - cols, by omega⟩
  rw [sumTo_split, sumZ d fun c _ => by rw [if_neg (by omega), Int.mul_zero], Int.add_zero]
  exact sumTo_congr cols fun c hc => by rw [if_pos hc]
theorem RFin.ker_cols (h : RFin R N cols A0 r) (hc : cols ≤ N) (w : Nat → Int) : (∀ i, i < R → sumTo (fun c => A0 i c * w c) cols = 0) ↔ (∀ t, t < r.piv.length → sumTo (fun c => gt (rowL r.rows t) c * w c) cols = 0) := by
  have hk := h.ker (fun c => if c < cols then w c else 0)
  have hl := h.pl
  constructor
  · intro hw t ht
    have := hk.mp (fun i hi => by rw [sum_cut hc]; exact hw i hi) t (by omega)
    rwa [sum_cut hc] at this
  · intro hw i hi
    have := hk.mpr (fun x hx => by
      rw [sum_cut hc]
      by_cases e : x < r.piv.length
      · exact hw x e
      · exact sumZ cols fun c hc => by rw [h.low x (by omega) hx c hc, Int.zero_mul]) i hi
    rwa [sum_cut hc] at this
theorem RFin.kvec_cols (h : RFin R N cols A0 r) (hR : R ≤ 6) (hN : cols ≤ N) {f : Nat} (hf : f < cols) (hn : (f : Int) ∉ r.piv) : ∀ t, t < r.piv.length → sumTo (fun c => gt (rowL r.rows t) c * gt (kvec r cols f) c) cols = 0 := by
  intro t ht
  have hp := h.pivN_lt ht
  have hne : f ≠ pivN r t := fun e => hn (h.mem.mpr ⟨t, ht, e.symm⟩)
  have e0 : ∀ c, c < cols → c ≠ f → c ≠ pivN r t → gt (rowL r.rows t) c * gt (kvec r cols f) c = 0 := fun c hc e1 e2 => by
    by_cases hm : (c : Int) ∈ r.piv
    · obtain ⟨s, hs, e⟩ := h.mem.mp hm
      have := h.self s t hs ht
      rw [e, if_neg (fun e3 => e2 (by rw [e3]; exact e.symm))] at this
      rw [this, Int.zero_mul]
    · rw [h.kvec_else hR hN hf hn hc e1 hm, Int.mul_zero]
  have hs := h.self t t ht ht
  rw [if_pos rfl] at hs
  have goal : gt (rowL r.rows t) f * gt (kvec r cols f) f + gt (rowL r.rows t) (pivN r t) * gt (kvec r cols f) (pivN r t) = 0 := by
    rw [hs, h.kvec_free hR hN hf hn, h.kvec_piv hR hN hf hn ht]; grind
  rcases Nat.lt_or_ge f (pivN r t) with h1 | h1
  · rw [sumPair h1 cols (by omega) fun c hc a b => e0 c hc a b]; exact goal
  · rw [sumPair (s := pivN r t) (t := f) (by omega) cols (by omega) fun c hc a b => e0 c hc b a]; omega
theorem loneR_iff (M : List (List Int)) (pz : List Int) (cols i : Nat) : loneR M pz cols i = true ↔ ∀ f, f < cols → (f : Int) ∉ pz → gt (rowL M i) f = 0 := by
  unfold loneR
  rw [List.all_eq_true]
  constructor
  · intro ha f hf hn
    have := ha _ ((freeTo_mem _ _ _).2 ⟨f, hf, rfl, hn⟩)
    rw [Int.toNat_natCast] at this
    simpa using this
  · intro ha x hx
    obtain ⟨f, hf, rfl, hn⟩ := (freeTo_mem _ _ _).1 hx
    rw [Int.toNat_natCast]
    simpa using ha f hf hn
/-- Where a pixel is known, its row is 0 everywhere else. -/
theorem RFin.known_row (h : RFin R N cols A0 r) {v : Int} (hk : 0 ≤ knownV r.rows r.piv cols v) : ∃ i : Nat, knownV r.rows r.piv cols v = (i : Int) ∧ i < r.piv.length ∧ gt r.piv i = v ∧ ∀ c, c < cols → gt (rowL r.rows i) c = if (c : Int) = v then r.dv else 0 := by
  unfold knownV at hk ⊢
  rcases indexV_at r.piv v with e | ⟨i, e, hi, hp⟩
  · rw [e, if_pos (by decide)] at hk; exact absurd hk (by decide)
  · rw [e, if_neg (by omega), Int.toNat_natCast] at hk ⊢
    by_cases hl : loneR r.rows r.piv cols i = true
    · rw [if_pos hl]
      refine ⟨i, rfl, hi, hp, fun c hc => ?_⟩
      have hpe := h.pivN_eq hi
      by_cases hm : (c : Int) ∈ r.piv
      · obtain ⟨s, hs, e2⟩ := h.mem.mp hm
        have h1 := h.self s i hs hi
        rw [e2] at h1
        rw [h1]
        by_cases e3 : i = s
        · subst e3; rw [if_pos rfl, if_pos (by omega)]
        · rw [if_neg e3, if_neg]
          intro e4
          exact e3 (h.inj hi hs (by omega))
      · rw [(loneR_iff _ _ _ _).1 hl c hc hm, if_neg]
        intro e4
        exact hm (h.mem.mpr ⟨i, hi, by omega⟩)
    · rw [if_neg hl] at hk; exact absurd hk (by decide)
theorem RFin.known_iff (h : RFin R N cols A0 r) (hR : R ≤ 6) (hN : cols ≤ N) {j : Nat} (hj : j < cols) :
    0 ≤ knownV r.rows r.piv cols (j : Int) ↔ ∀ w : Nat → Int, (∀ i, i < R → sumTo (fun c => A0 i c * w c) cols = 0) → w j = 0 := by
  constructor
  · intro hk w hw
    obtain ⟨i, _, hi, _, hrow⟩ := h.known_row hk
    have hs := (h.ker_cols hN w).mp hw i hi
    rw [sumOne (s := j) cols hj fun c hc e => by rw [hrow c hc, if_neg (by omega), Int.zero_mul], hrow j hj, if_pos rfl] at hs
    have := h.pos
    rcases Int.mul_eq_zero.mp hs with e | e
    · omega
    · exact e
  · intro ha
    have hz : ∀ f, f < cols → (f : Int) ∉ r.piv → gt (kvec r cols f) j = 0 := fun f hf hn => ha _ ((h.ker_cols hN _).mpr (h.kvec_cols hR hN hf hn))
    rcases indexV_at r.piv (j : Int) with e | ⟨i, e, hi, hp⟩
    · have hn : (j : Int) ∉ r.piv := by
        have hm := indexV_mem (xs := r.piv) (v := (j : Int))
        rw [e] at hm
        intro hin
        rw [decide_eq_true hin] at hm
        exact absurd hm (by decide)
      have := hz j hj hn
      rw [h.kvec_free hR hN hj hn] at this
      have := h.pos; omega
    · have hpj : pivN r i = j := by have := h.pivN_eq hi; omega
      unfold knownV
      rw [e, if_neg (by omega), Int.toNat_natCast, if_pos]
      · omega
      · rw [loneR_iff]
        intro f hf hn
        have h1 := h.kvec_piv hR hN hf hn hi
        rw [hpj] at h1
        have h2 := hz f hf hn
        omega
/-- Two reductions of rows that begin alike know the same pixels. -/
theorem known_alike {N2 : Nat} {B0 : Nat → Nat → Int} {s : Rd} (h : RFin R N cols A0 r) (g : RFin R N2 cols B0 s) (hR : R ≤ 6) (hN : cols ≤ N) (hN2 : cols ≤ N2) (he : ∀ i, i < R → ∀ c, c < cols → A0 i c = B0 i c) {j : Nat} (hj : j < cols) :
    0 ≤ knownV r.rows r.piv cols (j : Int) ↔ 0 ≤ knownV s.rows s.piv cols (j : Int) := by
  rw [h.known_iff hR hN hj, g.known_iff hR hN2 hj]
  constructor <;> intro ha w hw <;> refine ha w fun i hi => ?_ <;> rw [← hw i hi] <;> refine sumTo_congr cols fun c hc => ?_ <;> rw [he i hi c hc]
/-- The numbers behind a row tell of which rows it is the sum. -/
theorem RFin.behind (h : RFin R N cols A0 r) {n : Nat} (hN : N = cols + n) (hR : R = n) (hw : ∀ i, i < R → ∀ k, k < n → A0 i (cols + k) = if k = i then 1 else 0) {x : Nat} (hx : x < R) {c : Nat} (hc : c < cols) :
    gt (rowL r.rows x) c = sumTo (fun k => gt (rowL r.rows x) (cols + k) * A0 k c) n := by
  subst hN hR
  have hk := (h.ker (fun q => if q < cols then (if q = c then 1 else 0) else -A0 (q - cols) c)).mp (fun i hi => by
    rw [sumTo_split, sumOne (s := c) cols hc fun q hq e => by rw [if_pos hq, if_neg e, Int.mul_zero], if_pos hc, if_pos rfl, sumOne (s := i) R hi fun q hq e => by rw [hw i hi q hq, if_neg e, Int.zero_mul], if_neg (by omega), hw i hi i hi, if_pos rfl, show cols + i - cols = i by omega]
    omega) x hx
  rw [sumTo_split, sumOne (s := c) cols hc fun q hq e => by rw [if_pos hq, if_neg e, Int.mul_zero], if_pos hc, if_pos rfl] at hk
  have e : sumTo (fun i => gt (rowL r.rows x) (cols + i) * (if cols + i < cols then (if cols + i = c then 1 else 0) else -A0 (cols + i - cols) c)) R = -1 * sumTo (fun k => gt (rowL r.rows x) (cols + k) * A0 k c) R := by
    rw [← sumTo_mul]
    refine sumTo_congr R fun k _ => ?_
    rw [if_neg (by omega), show cols + k - cols = k by omega]
    grind
  rw [e] at hk
  omega
/-- A solution's number at a pivot. -/
theorem RFin.sol_at (h : RFin R N cols A0 r) {i : Nat} (hi : i < r.piv.length) : (solL cols r.rows r.piv r.dv r.piv.length)[pivN r i]? = some (lowR (gt (rowL r.rows i) cols) r.dv) := by
  have key : ∀ t, t ≤ r.piv.length → i < t → (solL cols r.rows r.piv r.dv t)[pivN r i]? = some (lowR (gt (rowL r.rows i) cols) r.dv) := by
    intro t
    induction t with
    | zero => intro _ h0; omega
    | succ t ih =>
      intro ht hit
      unfold solL
      have hlen := solL_len cols r.rows r.piv r.dv t
      by_cases e : t = i
      · subst e
        show ((solL cols r.rows r.piv r.dv t).set (pivN r t) _)[pivN r t]? = _
        rw [List.getElem?_set_self (by rw [hlen]; exact h.pivN_lt hi)]
      · show ((solL cols r.rows r.piv r.dv t).set (pivN r t) _)[pivN r i]? = _
        rw [List.getElem?_set_ne (fun e2 => e (h.inj (by omega) hi e2))]
        exact ih (by omega) (by omega)
  exact key _ (Nat.le_refl _) hi
end Go.Proofs.Ytfnomiingelfaaa
/- The fits of the reference are those of the program: more columns than the rank carry no fit. -/
namespace Go.Proofs.Ytfnomiingelfaaa
open Go.RowKit

theorem rankB_le {m : List (List Int)} (hv : validM m = true) {px y : List Int} (hpx : pxOk m px) (hy : y.length = m.length) (hb : allB 1000000 y = true) : (redB m px (oneB y)).piv.length ≤ rankM m := by
  apply Nat.le_of_not_lt
  intro hlt
  have h := redB_fin hv hpx hy hb
  have g := basis_fin hv
  unfold rankM at hlt
  obtain ⟨r, hr⟩ : ∃ r, redB m px (oneB y) = r := ⟨_, rfl⟩
  obtain ⟨s, hs⟩ : ∃ s, redN m (upTo (colsM m)) = s := ⟨_, rfl⟩
  rw [hr] at h hlt
  rw [hs] at g hlt
  obtain ⟨w, ⟨j, hj, hw⟩, hsol⟩ := more_unknowns s.piv.length r.piv.length (fun t u => gt (rowL s.rows t) (gt px (pivN r u)).toNat) hlt
  have hcol : ∀ u, u < r.piv.length → (gt px (pivN r u)).toNat < colsM m := fun u hu => by
    have hp := h.pivN_lt hu
    have := hpx _ (mem_gt.2 ⟨pivN r u, hp, rfl⟩)
    omega
  have k1 : ∀ i, i < m.length → sumTo (fun c => a0 m i c * pushW (fun u => (gt px (pivN r u)).toNat) w r.piv.length c) (colsM m) = 0 :=
    (g.ker' g.low _).2 fun t ht => by rw [sum_push _ _ _ _ _ hcol]; exact hsol t ht
  have k2 : ∀ i, i < m.length → sumTo (fun c => a0 (pixB px m (oneB y)) i c * pushW (pivN r) w r.piv.length c) px.length = 0 := fun i hi => by
    have := k1 i hi
    rw [sum_push _ _ _ _ _ hcol] at this
    rw [sum_push _ _ _ _ _ fun u hu => h.pivN_lt hu, ← this]
    refine sumTo_congr _ fun u hu => ?_
    show a0 (pixB px m (oneB y)) i (pivN r u) * w u = a0 m i (gt px (pivN r u)).toNat * w u
    rw [pixB_at hi, if_pos (h.pivN_lt hu)]
    rfl
  have k3 := (h.ker_cols (Nat.le_succ _) _).1 k2 j hj
  rw [sum_push _ _ _ _ _ fun u hu => h.pivN_lt hu] at k3
  have k4 : sumTo (fun u => gt (rowL r.rows j) (pivN r u) * w u) r.piv.length = r.dv * w j := by
    have e := sum_one (fun _ => r.dv) j (w j) r.piv.length
    rw [if_pos hj] at e
    rw [← e]
    refine sumTo_congr _ fun u hu => ?_
    show gt (rowL r.rows j) (pivN r u) * w u = r.dv * (if j = u then w j else 0)
    rw [h.self u j hu hj]
    by_cases e : j = u
    · subst e; rw [if_pos rfl, if_pos rfl]
    · rw [if_neg e, if_neg e]; omega
  rw [k4] at k3
  have := h.pos
  rcases Int.mul_eq_zero.1 k3 with e | e
  · omega
  · exact hw e
theorem fitO_big {wr : Int × Int → Bool} {m : List (List Int)} {y px : List Int} (hr : readE m y = 0) (hpx : pxOk m px) (h : rankM m < px.length) : fitO wr m y px = none := by
  obtain ⟨hv, hy, hb⟩ := readE_ok hr
  have h1 := rankB_le hv hpx hy hb
  unfold fitO
  rw [if_neg]
  unfold solveV
  rw [if_pos hr]
  split
  · split
    · rw [if_pos (by omega)]; decide
    · decide
  · assumption
theorem fitsTo_const {wr : Int × Int → Bool} {m : List (List Int)} {y : List Int} {K : Nat} (h : ∀ j, K ≤ j → ∀ px ∈ compl (colsM m) j 0, fitO wr m y px = none) : ∀ d, fitsTo wr m y (K + d) = fitsTo wr m y K
  | 0 => rfl
  | d + 1 => by
    rw [← Nat.add_assoc, fitsTo_succ, fitsTo_const h d]
    rw [List.filterMap_eq_nil_iff.2 fun px hp => by rw [h (K + d) (by omega) px hp]; rfl, List.append_nil]
theorem compl_over (n d : Nat) : compl n (n + 1 + d) 0 = [] := by
  rw [show n + 1 + d = (n + d) + 1 by omega]
  show (List.range (n - (n + d) - 0)).flatMap _ = []
  rw [show n - (n + d) - 0 = 0 by omega]
  rfl
theorem fitsR_eq {m : List (List Int)} {y : List Int} (hr : readE m y = 0) : fitsR m y (setsAll (colsM m)).length = allFits m y := by
  obtain ⟨hv, hy, hb⟩ := readE_ok hr
  have h6 := (basis_fin hv).pl
  have hr6 : rankM m ≤ 6 := by have := (validM_of hv).2.1; show (redN m (upTo (colsM m))).piv.length ≤ 6; omega
  have e1 : fitsR m y (setsAll (colsM m)).length = fitsTo zB m y (colsM m + 1) := by
    unfold fitsR
    rw [List.take_length]
    unfold setsAll setsTo fitsTo
    rw [List.filterMap_flatMap]
  have e2 : allFits m y = fitsTo zB m y (rankM m + 1) := by unfold allFits; rw [show min 10 (rankM m) = rankM m by omega]
  rw [e1, e2]
  have c1 := fitsTo_const (wr := zB) (m := m) (y := y) (K := rankM m + 1) (fun j hj px hp => by
    obtain ⟨l1, l2⟩ := compl_mem hp
    exact fitO_big hr (fun i hi => by have := l2 i hi; omega) (by omega)) (colsM m)
  have c2 := fitsTo_const (wr := zB) (m := m) (y := y) (K := colsM m + 1) (fun j hj px hp => by
    obtain ⟨d, rfl⟩ : ∃ d, j = colsM m + 1 + d := ⟨j - (colsM m + 1), by omega⟩
    rw [compl_over] at hp
    cases hp) (rankM m)
  rw [← c1, ← c2]
  congr 1
  omega
/-- A further fit among the smallest ones. -/
def stepF (l : List (List Int × List (Int × Int))) (p : List Int × List (Int × Int)) : List (List Int × List (Int × Int)) := match l with
  | [] => [p]
  | q :: t => (q :: t) ++ if p.1.length = q.1.length then [p] else []
theorem leastF_snoc (Z : List (List Int × List (Int × Int))) (p : List Int × List (Int × Int)) : leastF (Z ++ [p]) = stepF (leastF Z) p := by
  cases Z with
  | nil => simp [leastF, stepF]
  | cons a Z =>
    have e1 : leastF (a :: Z) = a :: Z.filter fun q => q.1.length == a.1.length := by simp [leastF]
    rw [e1]
    have e2 : leastF (a :: Z ++ [p]) = a :: (Z ++ [p]).filter fun q => q.1.length == a.1.length := by simp [leastF]
    rw [e2, List.filter_append]
    show _ = (a :: List.filter _ Z) ++ if p.1.length = a.1.length then [p] else []
    by_cases h : p.1.length = a.1.length
    · simp [h]
    · simp [h]
end Go.Proofs.Ytfnomiingelfaaa
/- sparsest of the reference of layer 4: a contract. -/
namespace Go.Proofs.Ytfnomiingelfaaa
open Go.RowKit Go.Shelf

theorem RowI.at {base : Nat} {v : Value} {xs : List FitV} {W : World} (h : RowI base v xs W) : ∃ a cap, v = .slice a xs.length cap ∧ ∀ k x, xs[k]? = some x → ∃ g, a = some ⟨g, 0, none⟩ ∧ W.cell? ⟨g, k * 2, none⟩ = some (.slice x.qa x.px.length x.qc) ∧ W.cell? ⟨g, k * 2 + 1, none⟩ = some (.slice x.va x.vs.length x.vc) ∧ FitR x W := by
  rcases h.own.form with ⟨e, rfl⟩ | ⟨g, cap', rfl⟩
  · exact ⟨none, 0, e, fun k x hk => by simp at hk⟩
  · refine ⟨_, cap', rfl, fun k x hk => ?_⟩
    obtain ⟨c1, c2⟩ := h.own.cell hk
    exact ⟨g, rfl, c1, c2, h.mem x (List.mem_of_getElem? hk)⟩
theorem rowI_empty {base : Nat} {v : Value} {W : World} (h : RowI base v [] W) : v = .slice none 0 0 := h.sh.elim id fun e => absurd rfl e
theorem fs_of {base : Nat} {a : Option Addr} {n c : Nat} {xs : List FitV} {W : World} (h : RowI base (.slice a n c) xs W) : Fs W a (xs.map keyF) := by
  obtain ⟨a', c', e, hf⟩ := h.own.fsR h.mem
  obtain ⟨rfl, _, _⟩ : a = a' ∧ n = xs.length ∧ c = c' := by simpa using e
  exact hf
theorem least_take {Z : List (List Int × List (Int × Int))} {k : Nat} {p : List Int × List (Int × Int)} (h : Z[k]? = some p) : leastF (Z.take (k + 1)) = stepF (leastF (Z.take k)) p := by
  obtain ⟨hk, rfl⟩ := List.getElem?_eq_some_iff.1 h
  rw [List.take_succ_eq_append_getElem hk, leastF_snoc]
end Go.Proofs.Ytfnomiingelfaaa
/- Fits of the reference of layer 4: a contract. -/
namespace Go.Proofs.Ytfnomiingelfaaa
open Go.RowKit Go.Shelf

theorem rwithin4_any (n lo hi : Int) (w : World) :
    Calls Try.prog 29 #[.int .i64 n, .int .i64 lo, .int .i64 hi] w fun e w' => e = .returned (.bool (rangeB n lo hi)) ∧ w = w' := by
  go_enter Try.func29, Try.ntmps29
  go_wp2
  all_goals go_ret
  all_goals exact ⟨ret_bool (by first | (simp [rangeB, *]; done) | (simp [rangeB]; omega)), rfl⟩
/-- The fits with at most k pixels. -/
def shortF (k : Int) (Z : List (List Int × List (Int × Int))) : List (List Int × List (Int × Int)) := Z.filter fun q => decide ((q.1.length : Int) ≤ k)
theorem shortF_snoc (k : Int) (Z : List (List Int × List (Int × Int))) (p : List Int × List (Int × Int)) : shortF k (Z ++ [p]) = shortF k Z ++ if (p.1.length : Int) ≤ k then [p] else [] := by
  unfold shortF
  rw [List.filter_append]
  by_cases h : (p.1.length : Int) ≤ k
  · simp [h]
  · simp [h]
def fitsKV (m : List (List Int)) (y : List Int) (k : Int) : List (List Int × List (Int × Int)) × Int := if readE m y = 0 then (if rangeB k 0 10 = true then (shortF k (allFits m y), 0) else ([], 7)) else ([], readE m y)
/-- What Fits of the reference answers. -/
def RowPost (r : List (List Int × List (Int × Int)) × Int) (w : World) (e : Ending) (w' : World) : Prop := Below w.heap.size w w' ∧ ∃ base v xs, e = .returned (.tuple #[v, .int .i64 r.2]) ∧ xs.map keyF = r.1 ∧ RowI base v xs w'
set_option maxRecDepth 1000000 in
set_option maxHeartbeats 3200000 in
theorem rfits_any (ma : Option Addr) (m : List (List Int)) (mc : Nat) (ya : Option Addr) (y : List Int) (yc : Nat) (kk : Int) (w : World) (hm : MOk m) (hly : y.length ≤ 1000) (hs : Ms w ma m) (hy : Sl w ya y) :
    Calls Try.prog 23 #[.slice ma m.length mc, .slice ya y.length yc, .int .i64 kk] w (RowPost (fitsKV m y kk) w) := by
  obtain ⟨rv, hrv⟩ : ∃ rv, readE m y = rv := ⟨_, rfl⟩
  have HRE : Hid (Calls Try.prog 47 #[.slice ma m.length mc, .slice ya y.length yc] w fun e w' => e = .returned (.int .i64 rv) ∧ w = w') := by rw [← hrv]; exact rread3_any ma m mc ya y yc w hm (by omega) hs hy
  by_cases hr0 : rv = 0
  · subst hr0
    have hv := (readE_ok hrv).1
    have HAL : Hid (Calls Try.prog 48 #[.slice ma m.length mc, .slice ya y.length yc] w fun e w' => Below w.heap.size w w' ∧ ∃ base v xs, e = .returned v ∧ xs.map keyF = allFits m y ∧ RowI base v xs w') := by
      have := rall_any ma m mc ya y yc w hm hv hly hs hy
      rw [fitsR_eq hrv] at this
      exact this
    obtain ⟨Z, hZ⟩ : ∃ Z, allFits m y = Z := ⟨_, rfl⟩
    obtain ⟨rb, hrb⟩ : ∃ rb, rangeB kk 0 10 = rb := ⟨_, rfl⟩
    have HWI : Hid (Calls Try.prog 29 #[.int .i64 kk, .int .i64 0, .int .i64 10] w fun e w' => e = .returned (.bool rb) ∧ w = w') := by rw [← hrb]; exact rwithin4_any kk 0 10 w
    have HSV : Hid (fitsKV m y kk = if rb = true then (shortF kk Z, 0) else ([], 7)) := by show _ = _; unfold fitsKV; rw [if_pos hrv, hZ, hrb]
    have HZL : Hid (Z.length ≤ 3300) := by
      rw [← hZ]
      have := allFits_len hv y zB (min 10 (rankM m) + 1) (by omega)
      show (fitsTo _ _ _ _).length ≤ _
      omega
    rw [hZ] at HAL
    clear hm hs hy hly hrv hv hZ hrb
    cases rb with
    | false =>
      have HR : Hid (fitsKV m y kk = ([], 7)) := HSV.out
      rw [HR.out]
      go_enter Try.func23, Try.ntmps23
      go_wp2_with (first
        | (go_at_call 47; refine HRE.out.mono ?_; rintro e w1 ⟨rfl, rfl⟩)
        | (go_at_call 29; refine HWI.out.mono ?_; rintro e w1 ⟨rfl, rfl⟩))
      go_ret2
      exact ⟨Below.refl _ _, w.heap.size, _, [], rfl, rfl, RowI.nil _ _⟩
    | true =>
      have HR : Hid (fitsKV m y kk = (shortF kk Z, 0)) := HSV.out
      rw [HR.out]
      go_enter Try.func23, Try.ntmps23
      go_wp2_with (first
        | (go_at_call 47; refine HRE.out.mono ?_; rintro e w1 ⟨rfl, rfl⟩)
        | (go_at_call 29; refine HWI.out.mono ?_; rintro e w1 ⟨rfl, rfl⟩)
        | (go_at_call 48; refine HAL.out.mono ?_; rintro e w2 ⟨hb1, base, v0, xs, rfl, hxs, hrow⟩; obtain ⟨xa, xc, rfl, hat⟩ := hrow.at; have HXA := Lib.hid hat; have HXS := Lib.hid hxs; have HB1 := Lib.hid hb1; clear hrow hat hxs hb1
           obtain ⟨L, hL⟩ : ∃ L, xs.length = L := ⟨_, rfl⟩; have HL := Lib.hid hL; have hL1 : L ≤ 3300 := (by have h1 := congrArg List.length HXS.out; rw [List.length_map, hL] at h1; have := HZL.out; omega); rw [hL]; clear hL))
      go_loopw [9, 11, 25] (fun v _ i wr => ∃ (k : Nat) (zs : List FitV), k ≤ L ∧ i = .int .i64 k ∧ zs.map keyF = shortF kk (Z.take k) ∧ zs.length ≤ k ∧ RowI w2.heap.size v zs wr ∧ Below w2.heap.size w2 wr) (fun _ _ i _ => L - (intOf i).toNat)
      case atStart => exact ⟨0, [], Nat.zero_le _, rfl, rfl, Nat.le_refl _, RowI.nil _ _, Below.refl _ _⟩
      case round =>
        obtain ⟨k, zs, hk, rfl, hzs, hzl, hO, hB⟩ := hrel
        have HZS := Lib.hid hzs; clear hzs
        have HO := Lib.hid hO; clear hO
        have HB := Lib.hid hB; clear hB
        by_cases hlt : k < L
        · obtain ⟨x, hx⟩ : ∃ x, xs[k]? = some x := ⟨xs[k]'(by rw [HL.out]; exact hlt), by simp [HL.out, hlt]⟩
          have HTK : Hid (shortF kk (Z.take (k + 1)) = shortF kk (Z.take k) ++ if (x.px.length : Int) ≤ kk then [keyF x] else []) := by
            have h : Z[k]? = some (keyF x) := by rw [← HXS.out, List.getElem?_map, hx]; rfl
            obtain ⟨hk, e⟩ := List.getElem?_eq_some_iff.1 h
            show _ = _
            rw [List.take_succ_eq_append_getElem hk, shortF_snoc, e]
          obtain ⟨b1, rfl, a1, a2, hfr⟩ := HXA.out k x hx
          have a1 : wr.cell? ⟨b1, k * 2, none⟩ = some (.slice x.qa x.px.length x.qc) := (HB.out.cell (p := ⟨b1, k * 2, none⟩) (cell_lt a1)).trans a1
          have a2 : wr.cell? ⟨b1, k * 2 + 1, none⟩ = some (.slice x.va x.vs.length x.vc) := (HB.out.cell (p := ⟨b1, k * 2 + 1, none⟩) (cell_lt a2)).trans a2
          obtain ⟨wb, hwb⟩ : ∃ wb, wr.alloc (.cells #[.slice x.qa x.px.length x.qc, .slice x.va x.vs.length x.vc] 41) = wb := ⟨_, rfl⟩
          have hbb : Below wr.heap.size wr wb := by rw [← hwb]; exact (Below.refl _ _).alloc (Nat.le_refl _) _
          have wb0 : wb.cell? ⟨wr.heap.size, 0, none⟩ = some (.slice x.qa x.px.length x.qc) := by rw [← hwb]; exact alloc_cell _ _ _ _ _ rfl
          have wb1 : wb.cell? ⟨wr.heap.size, 1, none⟩ = some (.slice x.va x.vs.length x.vc) := by rw [← hwb]; exact alloc_cell _ _ _ _ _ rfl
          have HWB : Hid (Below w2.heap.size w2 wb) := HB.out.trans (hbb.mono HB.out.size)
          have HFR : Hid (FitR x wb) := (hfr.below HB.out).below hbb
          have HRI := Lib.hid (HO.out.below hbb)
          have HXL : Hid (zs.length ≤ 100000) := by show _ ≤ _; omega
          have hk0 : (k : Int) < (L : Int) := by omega
          clear hx hfr hbb
          by_cases hq : (x.px.length : Int) ≤ kk
          · have HNX : Hid (shortF kk (Z.take (k + 1)) = (zs ++ [x]).map keyF) := by show _ = _; rw [HTK.out, if_pos hq, List.map_append, HZS.out]; rfl
            clear HTK
            go_wp2_with (at_builtin; go_must (refine wpList_pushF rfl (.tmp 34) (.tmp 36) rfl w2.heap.size _ zs x _ _ _ rfl rfl rfl HRI.out.own HXL.out HWB.out.size ?_); intro g gc w7 hp; have HP := Lib.hid (HRI.out.push HFR.out hp); have HB7 := Lib.hid (pushedF_below HRI.out.own HWB.out.size hp); clear hp)
            go_roundw
            case rel => exact ⟨k + 1, zs ++ [x], by omega, by go_num, HNX.out.symm, by rw [List.length_append]; simpa using hzl, HP.out, HWB.out.trans HB7.out⟩
            case measure => simp [intOf]; omega
          · have HNX : Hid (shortF kk (Z.take (k + 1)) = zs.map keyF) := by show _ = _; rw [HTK.out, if_neg hq, List.append_nil, HZS.out]
            clear HTK
            go_wp2
            go_roundw
            case rel => exact ⟨k + 1, zs, by omega, by go_num, HNX.out.symm, by omega, HRI.out, HWB.out⟩
            case measure => simp [intOf]; omega
        · obtain rfl : L = k := by omega
          have HZE : Hid (zs.map keyF = shortF kk Z) := by
            show _ = _
            have h1 := congrArg List.length HXS.out
            rw [List.length_map, HL.out] at h1
            rw [HZS.out, h1, List.take_length]
          have HBW : Hid (Below w.heap.size w wr) := HB1.out.trans (HB.out.mono HB1.out.size)
          obtain ⟨oa, oc, hv0, _⟩ := HO.out.at
          subst hv0
          go_wp2
          go_ret2
          exact ⟨HBW.out, _, _, zs, rfl, HZE.out, HO.out⟩
  · have HSV : Hid (fitsKV m y kk = ([], rv)) := by show _ = _; unfold fitsKV; rw [hrv, if_neg hr0]
    have y1 : (rv == 0) = false := by simpa using hr0
    have y2 : (rv != 0) = true := by simpa using hr0
    rw [HSV.out]
    clear hm hs hy hly hrv hr0
    go_enter Try.func23, Try.ntmps23
    go_wp2_with (go_at_call 47; refine HRE.out.mono ?_; rintro e w1 ⟨rfl, rfl⟩)
    go_ret2
    exact ⟨Below.refl _ _, w.heap.size, _, [], rfl, rfl, RowI.nil _ _⟩
end Go.Proofs.Ytfnomiingelfaaa
/- The whole fits of both sides are one list. -/
namespace Go.Proofs.Ytfnomiingelfaaa
open Go.RowKit Go.Shelf

/-- A fit as a picture. -/
def picF (n : Nat) (q : List Int × List (Int × Int)) : List Int := putTo n q.1 (q.2.map Prod.fst) q.1.length
/-- Is a fit whole, and within a million? -/
def goodF (m : List (List Int)) (q : List Int × List (Int × Int)) : Bool := (q.2.all fun p => p.2 == 1) && shownM m (picF (colsM m) q)
theorem low_den {n d : Int} (hd : 0 < d) : 0 < (lowR n d).2 := by
  obtain ⟨k, rfl⟩ : ∃ k : Nat, d = (k : Int) := ⟨d.natAbs, by omega⟩
  have hk : 0 < k := by omega
  show 0 < ((k : Int)).tdiv ((Nat.gcd n.natAbs (k : Int).natAbs : Nat) : Int)
  rw [Int.natAbs_natCast, ← Int.ofNat_tdiv]
  have h1 : 0 < Nat.gcd n.natAbs k := Nat.gcd_pos_of_pos_right _ hk
  have h2 := Nat.div_pos (Nat.le_of_dvd hk (Nat.gcd_dvd_right n.natAbs k)) h1
  omega
theorem solL_den {n : Nat} {M : List (List Int)} {pz : List Int} {dv : Int} (hd : 0 < dv) : ∀ t, ∀ p ∈ solL n M pz dv t, 0 < p.2
  | 0, p, h => by
    obtain ⟨_, rfl⟩ := List.mem_replicate.1 h
    decide
  | t + 1, p, h => by
    unfold solL at h
    rcases List.mem_or_eq_of_mem_set h with h | rfl
    · exact solL_den hd t p h
    · exact low_den hd
theorem fit_den {wr : Int × Int → Bool} {m : List (List Int)} {y px : List Int} {vs : List (Int × Int)} (hr : readE m y = 0) (hpx : pxOk m px) (h : fitO wr m y px = some vs) : vs.length = px.length ∧ ∀ p ∈ vs, 0 < p.2 := by
  obtain ⟨hv, hy, hb⟩ := readE_ok hr
  have hp := (redB_fin hv hpx hy hb).pos.1
  unfold fitO at h
  split at h
  · rename_i h0
    split at h
    · cases h
    · obtain rfl := Option.some.inj h
      unfold solveV at h0 ⊢
      rw [if_pos hr] at h0 ⊢
      split at h0
      · rename_i h1
        rw [if_pos h1]
        split at h0
        · rename_i h2
          rw [if_pos h2]
          split at h0
          · cases h0
          · rename_i h3
            rw [if_neg h3]
            exact ⟨solL_len _ _ _ _ _, solL_den hp _⟩
        · cases h0
      · rename_i h1
        exact absurd h0 h1
  · cases h
theorem out_iff {n : Int} : outB 1000000 n = true ↔ n < -1000000 ∨ 1000000 < n := by
  simp [outB]
theorem pic_good {m : List (List Int)} (hv : validM m = true) {px : List Int} {vs : List (Int × Int)} (hs : SetP m px) (hl : vs.length = px.length) (hd : ∀ p ∈ vs, 0 < p.2) (hz : vs.any zB = false) : goodF m (px, vs) = !vs.any whB := by
  have hn : fitsV (picF (colsM m) (px, vs)) (colsM m) 1000000 = 0 ↔ ∀ p ∈ vs, outB 1000000 p.1 = false := by
    have hlen : (picF (colsM m) (px, vs)).length = colsM m := putTo_len _ _ _ _
    unfold fitsV
    rw [if_pos (by rw [hlen])]
    constructor
    · intro h p hp
      have hb : allB 1000000 (picF (colsM m) (px, vs)) = true := by
        split at h
        · assumption
        · cases h
      obtain ⟨u, hu, e⟩ := List.getElem_of_mem hp
      have hup : u < px.length := by omega
      have h1 := hs.put_at (part := vs.map Prod.fst) px.length (Nat.le_refl _) u hup
      have h2 : gt (vs.map Prod.fst) u = p.1 := by unfold gt; simp [hu, e]
      have h3 : pos px u < colsM m := by
        have := hs.ok _ (mem_gt.2 ⟨u, hup, rfl⟩)
        unfold pos; omega
      have h4 : (picF (colsM m) (px, vs))[pos px u]? = some p.1 := by
        rw [← h2, ← h1]
        rw [← hlen] at h3
        unfold gt
        simp only [picF] at h3 ⊢
        simp [h3]
      have h5 := allB_get hb h4
      cases ho : outB 1000000 p.1 with
      | false => rfl
      | true => rcases out_iff.1 ho with k | k <;> omega
    · intro h
      rw [if_pos]
      refine allB_all fun k hk => ?_
      by_cases hj : (k : Int) ∈ px
      · obtain ⟨u, hu, e⟩ := mem_gt.1 hj
        have h1 := hs.put_at (part := vs.map Prod.fst) px.length (Nat.le_refl _) u hu
        have hpu : pos px u = k := by unfold pos; rw [e]; omega
        rw [hpu] at h1
        have h2 : gt (vs.map Prod.fst) u = (vs[u]'(by omega)).1 := by unfold gt; simp [show u < vs.length by omega]
        have h3 := h _ (List.getElem_mem (show u < vs.length by omega))
        have h4 : ¬ outB 1000000 (vs[u]'(by omega)).1 = true := by rw [h3]; decide
        rw [out_iff] at h4
        show -1000000 ≤ gt (putTo (colsM m) px (vs.map Prod.fst) px.length) k ∧ _
        rw [show gt (picF (colsM m) (px, vs)) k = gt (putTo (colsM m) px (vs.map Prod.fst) px.length) k from rfl, h1, h2]
        omega
      · have := hs.put_no (n := colsM m) (part := vs.map Prod.fst) hj px.length (Nat.le_refl _)
        show -1000000 ≤ gt (putTo (colsM m) px (vs.map Prod.fst) px.length) k ∧ gt (putTo (colsM m) px (vs.map Prod.fst) px.length) k ≤ 1000000
        rw [this]; omega
  have hz' : ∀ p ∈ vs, p.1 ≠ 0 := fun p hp e => by
    have := List.any_eq_false.1 hz p hp
    exact this (by unfold zB; simp [e])
  rw [Bool.eq_iff_iff]
  unfold goodF shownM
  rw [hv]
  simp only [Bool.true_and, Bool.and_eq_true, decide_eq_true_eq, List.all_eq_true, beq_iff_eq, Bool.not_eq_true']
  rw [hn, List.any_eq_false]
  constructor
  · rintro ⟨k1, k2⟩ p hp
    have e1 := k1 p hp
    have e2 : ¬ outB 1000000 p.1 = true := by rw [k2 p hp]; decide
    rw [out_iff] at e2
    have e3 := hz' p hp
    unfold whB
    simp [e3, e1]
    omega
  · intro k
    have key : ∀ p ∈ vs, ¬ (1 < p.2) ∧ ¬ (p.1 < -1000000) ∧ ¬ (1000000 < p.1) := fun p hp => by
      have := k p hp
      unfold whB at this
      simp at this
      omega
    exact ⟨fun p hp => by have := key p hp; have := hd p hp; omega, fun p hp => by
      cases ho : outB 1000000 p.1 with
      | false => rfl
      | true => have := key p hp; rcases out_iff.1 ho with k | k <;> omega⟩
theorem fitO_split {wr : Int × Int → Bool} {m : List (List Int)} {y px : List Int} : fitO wr m y px = if (solveV m px y).2 = 0 then (if (solveV m px y).1.any wr = true then none else some (solveV m px y).1) else none := rfl
theorem fit_whole {m : List (List Int)} {y px : List Int} (hr : readE m y = 0) (hs : SetP m px) : (((fitO zB m y px).map fun vs => (px, vs)).filter fun q => goodF m q) = (fitO whB m y px).map fun vs => (px, vs) := by
  cases hf : fitO zB m y px with
  | none =>
    have : fitO whB m y px = none := by
      rw [fitO_split] at hf ⊢
      split at hf
      · rename_i h0
        rw [if_pos h0]
        split at hf
        · rename_i h1
          rw [if_pos]
          obtain ⟨p, hp, e⟩ := List.any_eq_true.1 h1
          refine List.any_eq_true.2 ⟨p, hp, ?_⟩
          unfold whB
          unfold zB at e
          simp [e]
        · cases hf
      · rename_i h0
        rw [if_neg h0]
    rw [this]; rfl
  | some vs =>
    obtain ⟨h1, h2⟩ := fit_den hr hs.ok hf
    have h3 : vs.any zB = false ∧ fitO whB m y px = if vs.any whB = true then none else some vs := by
      rw [fitO_split] at hf ⊢
      split at hf
      · rename_i h0
        rw [if_pos h0]
        split at hf
        · cases hf
        · rename_i hn
          obtain rfl := Option.some.inj hf
          exact ⟨by rw [Bool.eq_false_iff]; exact hn, rfl⟩
      · cases hf
    have h4 := pic_good (readE_ok hr).1 hs h1 h2 h3.1
    rw [h3.2]
    show (some (px, vs)).filter _ = _
    cases hw : vs.any whB with
    | true => rw [hw] at h4; simp [Option.filter, h4]
    | false => rw [hw] at h4; simp [Option.filter, h4]
theorem filterMap_same {α β : Type} {f g : α → Option β} : ∀ l : List α, (∀ x ∈ l, f x = g x) → l.filterMap f = l.filterMap g
  | [], _ => rfl
  | x :: l, h => by
    simp only [List.filterMap_cons]
    rw [h x List.mem_cons_self, filterMap_same l fun y hy => h y (List.mem_cons_of_mem _ hy)]
theorem row_whole {m : List (List Int)} {y : List Int} (hr : readE m y = 0) (j : Nat) : (((compl (colsM m) j 0).filterMap fun px => (fitO zB m y px).map fun vs => (px, vs)).filter fun q => goodF m q) = (compl (colsM m) j 0).filterMap fun px => (fitO whB m y px).map fun vs => (px, vs) := by
  rw [List.filter_filterMap]
  refine filterMap_same _ fun px hp => ?_
  exact fit_whole hr (compl_set hp)
theorem shortF_row {m : List (List Int)} {y : List Int} (k j : Nat) : shortF k ((compl (colsM m) j 0).filterMap fun px => (fitO zB m y px).map fun vs => (px, vs)) = if j ≤ k then (compl (colsM m) j 0).filterMap fun px => (fitO zB m y px).map fun vs => (px, vs) else [] := by
  have hlen : ∀ q ∈ ((compl (colsM m) j 0).filterMap fun px => (fitO zB m y px).map fun vs => (px, vs)), q.1.length = j := fun q hq => by
    obtain ⟨px, hpx, e⟩ := List.mem_filterMap.1 hq
    obtain ⟨vs, _, rfl⟩ := Option.map_eq_some_iff.1 e
    exact (compl_mem hpx).1
  unfold shortF
  split
  · exact List.filter_eq_self.2 fun q hq => by have := hlen q hq; simp; omega
  · exact List.filter_eq_nil_iff.2 fun q hq => by have := hlen q hq; simp; omega
theorem whole_to {m : List (List Int)} {y : List Int} (hr : readE m y = 0) (k : Nat) : ∀ j, (shortF k (fitsTo zB m y j)).filter (goodF m) = fitsTo whB m y (min j (k + 1))
  | 0 => by simp [fitsTo, shortF]
  | j + 1 => by
    rw [fitsTo_succ]
    have e : shortF k (fitsTo zB m y j ++ ((compl (colsM m) j 0).filterMap fun px => (fitO zB m y px).map fun vs => (px, vs))) = shortF k (fitsTo zB m y j) ++ shortF k ((compl (colsM m) j 0).filterMap fun px => (fitO zB m y px).map fun vs => (px, vs)) := by unfold shortF; rw [List.filter_append]
    rw [e, List.filter_append, whole_to hr k j, shortF_row]
    by_cases h : j ≤ k
    · rw [if_pos h, row_whole hr j, show min j (k + 1) = j by omega, show min (j + 1) (k + 1) = j + 1 by omega, fitsTo_succ]
    · rw [if_neg h, show min j (k + 1) = k + 1 by omega, show min (j + 1) (k + 1) = k + 1 by omega]; simp
/-- The whole fits of at most k pixels: both sides. -/
theorem whole_eq {m : List (List Int)} {y : List Int} (hr : readE m y = 0) {k : Nat} (hk : k ≤ 10) : (shortF k (allFits m y)).filter (goodF m) = fitsTo whB m y (min k (rankM m) + 1) := by
  unfold allFits
  rw [whole_to hr k]
  congr 1
  omega
end Go.Proofs.Ytfnomiingelfaaa
/- Whole of the reference of layer 4: a contract. -/
namespace Go.Proofs.Ytfnomiingelfaaa
open Go.RowKit Go.Shelf

/-- The whole fits among the first ones of a row, as pictures. -/
def wholeTo (m : List (List Int)) (Y : List (List Int × List (Int × Int))) (k : Nat) : List (List Int) := ((Y.take k).filter (goodF m)).map (picF (colsM m))
theorem wholeTo_succ {m : List (List Int)} {Y : List (List Int × List (Int × Int))} {k : Nat} {q : List Int × List (Int × Int)} (h : Y[k]? = some q) : wholeTo m Y (k + 1) = wholeTo m Y k ++ if goodF m q = true then [picF (colsM m) q] else [] := by
  unfold wholeTo
  obtain ⟨hk, rfl⟩ := List.getElem?_eq_some_iff.1 h
  rw [List.take_succ_eq_append_getElem hk, List.filter_append, List.map_append]
  congr 1
  by_cases hg : goodF m Y[k] = true
  · simp [hg]
  · simp [hg]
def wholeV (m : List (List Int)) (y : List Int) (k : Int) : List (List Int) × Int := (wholeTo m (fitsKV m y k).1 (fitsKV m y k).1.length, (fitsKV m y k).2)
theorem short_fit {m : List (List Int)} {y : List Int} {kk : Int} {q : List Int × List (Int × Int)} (hr : readE m y = 0) (h : q ∈ (fitsKV m y kk).1) : SetP m q.1 ∧ q.2.length = q.1.length ∧ q.1.length ≤ 10 := by
  unfold fitsKV at h
  rw [if_pos hr] at h
  split at h
  · have h1 : q ∈ allFits m y := (List.mem_filter.1 h).1
    unfold allFits fitsTo at h1
    obtain ⟨s, hs10, hq⟩ := List.mem_flatMap.1 h1
    obtain ⟨px, hpx, e⟩ := List.mem_filterMap.1 hq
    obtain ⟨vs, hvs, rfl⟩ := Option.map_eq_some_iff.1 e
    have hs := compl_set hpx
    exact ⟨hs, (fit_den hr hs.ok hvs).1, by have h2 := (compl_mem hpx).1; have h3 := List.mem_range.1 hs10; show px.length ≤ 10; omega⟩
  · cases h
/-- Are the first values of den. 1? -/
def onesTo (vs : List (Int × Int)) (k : Nat) : Bool := (vs.take k).all fun p => p.2 == 1
theorem onesTo_succ {vs : List (Int × Int)} {k : Nat} {p : Int × Int} (h : vs[k]? = some p) : onesTo vs (k + 1) = (onesTo vs k && (p.2 == 1)) := by
  unfold onesTo
  obtain ⟨hk, rfl⟩ := List.getElem?_eq_some_iff.1 h
  rw [List.take_succ_eq_append_getElem hk, List.all_append]
  simp
set_option maxRecDepth 1000000 in
set_option maxHeartbeats 6400000 in
theorem rwhole_any (ma : Option Addr) (m : List (List Int)) (mc : Nat) (ya : Option Addr) (y : List Int) (yc : Nat) (kk : Int) (w : World) (hm : MOk m) (hly : y.length ≤ 1000) (hs : Ms w ma m) (hy : Sl w ya y) :
    Calls Try.prog 9 #[.slice ma m.length mc, .slice ya y.length yc, .int .i64 kk] w (LLPost (wholeV m y kk) w) := by
  obtain ⟨i0, hi, hz0, hz1, hz2⟩ := info_parts Try.infoInt
  have HFI : Hid (Calls Try.prog 23 #[.slice ma m.length mc, .slice ya y.length yc, .int .i64 kk] w (RowPost (fitsKV m y kk) w)) := rfits_any ma m mc ya y yc kk w hm hly hs hy
  have hsh : ∀ q ∈ (fitsKV m y kk).1, readE m y = 0 ∧ SetP m q.1 ∧ q.2.length = q.1.length ∧ q.1.length ≤ 10 := fun q hq => by
    have h0 : readE m y = 0 := by
      unfold fitsKV at hq
      split at hq
      · assumption
      · cases hq
    exact ⟨h0, short_fit h0 hq⟩
  have HWV : Hid (wholeV m y kk = (wholeTo m (fitsKV m y kk).1 (fitsKV m y kk).1.length, (fitsKV m y kk).2)) := rfl
  have hY0 : (fitsKV m y kk).1 ≠ [] → (fitsKV m y kk).2 = 0 := fun h => by
    unfold fitsKV at h ⊢
    split
    · split
      · rfl
      · rename_i h1 h2; rw [if_pos h1, if_neg h2] at h; exact absurd rfl h
    · rename_i h1; rw [if_neg h1] at h; exact absurd rfl h
  have hYL : (fitsKV m y kk).1.length ≤ 3300 := by
    unfold fitsKV
    split
    · rename_i h1
      split
      · refine Nat.le_trans (List.length_filter_le _ _) ?_
        have := allFits_len (readE_ok h1).1 y zB (min 10 (rankM m) + 1) (by omega)
        show (fitsTo _ _ _ _).length ≤ _
        omega
      · simp
    · simp
  obtain ⟨⟨Y, e0⟩, hY⟩ : ∃ r, fitsKV m y kk = r := ⟨_, rfl⟩
  rw [hY] at HFI hsh HWV hY0 hYL
  dsimp only at hsh HWV hY0 hYL
  by_cases h0 : e0 = 0
  · subst h0
    rw [HWV.out]
    have HM := Lib.hid hm
    have HS := Lib.hid hs
    have HSH := Lib.hid hsh
    have HYL := Lib.hid hYL
    clear HWV hY0 hY hm hs hy hsh hYL
    go_enter Try.func9, Try.ntmps9
    go_wp2_with (go_at_call 23; refine HFI.out.mono ?_; rintro e w2 ⟨hb1, base, v0, xs, rfl, hxs, hrow⟩; obtain ⟨xa, xc, rfl, hat⟩ := hrow.at; have HXA := Lib.hid hat; have HXS := Lib.hid hxs; have HB1 := Lib.hid hb1; clear hrow hat hxs hb1
                 obtain ⟨L, hL⟩ : ∃ L, xs.length = L := ⟨_, rfl⟩; have HL := Lib.hid hL; have hL1 : L ≤ 3300 := (by have h1 := congrArg List.length HXS.out; rw [List.length_map, hL] at h1; have := HYL.out; dsimp only at h1; omega); rw [hL]; clear hL)
    go_loopw [10, 12, 13, 14, 15, 16, 29] (fun v _ _ _ _ _ i wr => ∃ (k : Nat) (ads : List (Option Addr × Nat)), k ≤ L ∧ i = .int .i64 k ∧ HR w2.heap.size v ads (wholeTo m Y k) wr ∧ Below w2.heap.size w2 wr) (fun _ _ _ _ _ _ i _ => L - (intOf i).toNat)
    case atStart => exact ⟨0, [], Nat.zero_le _, rfl, HR.nil _ _, Below.refl _ _⟩
    case round =>
      obtain ⟨k, ads, hk, rfl, hO, hB⟩ := hrel
      have HO := Lib.hid hO; clear hO
      have HB := Lib.hid hB; clear hB
      by_cases hlt : k < L
      · obtain ⟨⟨qa, qc, px, va, vc, vs⟩, hx⟩ : ∃ x, xs[k]? = some x := ⟨xs[k]'(by rw [HL.out]; exact hlt), by simp [HL.out, hlt]⟩
        have hxy : Y[k]? = some (px, vs) := by rw [← HXS.out, List.getElem?_map, hx]; rfl
        obtain ⟨hr0, hset, hvl, hp10⟩ := HSH.out (px, vs) (List.mem_of_getElem? hxy)
        have HSET := Lib.hid hset
        have hv := (readE_ok hr0).1
        obtain ⟨hm1, _, hc1, hc10, hrows⟩ := validM_of hv
        obtain ⟨b0, o0, a0, r0, c0, rfl, hcw, _, hrr⟩ := HS.out.at (i := 0) (by omega)
        obtain ⟨N, hN⟩ : ∃ N, colsM m = N := ⟨_, rfl⟩
        have HN := Lib.hid hN
        have hr0N : r0.length = N := by rw [← hN]; exact (hrows r0 (List.mem_of_getElem? hrr.out)).1
        rw [hr0N, Nat.add_zero] at hcw
        rw [hN] at hc1 hc10
        have HWS : Hid (wholeTo m Y (k + 1) = wholeTo m Y k ++ if goodF m (px, vs) = true then [picF N (px, vs)] else []) := by show _ = _; rw [← hN]; exact wholeTo_succ hxy
        obtain ⟨b1, rfl, a1, a2, hfr⟩ := HXA.out k _ hx
        have a1 : wr.cell? ⟨b1, k * 2, none⟩ = some (.slice qa px.length qc) := (HB.out.cell (p := ⟨b1, k * 2, none⟩) (cell_lt a1)).trans a1
        have a2 : wr.cell? ⟨b1, k * 2 + 1, none⟩ = some (.slice va vs.length vc) := (HB.out.cell (p := ⟨b1, k * 2 + 1, none⟩) (cell_lt a2)).trans a2
        obtain ⟨wb, hwb⟩ : ∃ wb, wr.alloc (.cells #[.slice qa px.length qc, .slice va vs.length vc] 41) = wb := ⟨_, rfl⟩
        have hbb : Below wr.heap.size wr wb := by rw [← hwb]; exact (Below.refl _ _).alloc (Nat.le_refl _) _
        have HBB := Lib.hid hbb
        have HBX := Lib.hid (box2 hwb)
        have HWB : Hid (Below w2.heap.size w2 wb) := HB.out.trans (hbb.mono HB.out.size)
        have hww : Below w.heap.size w wb := HB1.out.trans (HWB.out.mono HB1.out.size)
        have HWW := Lib.hid hww
        have hcw : wb.cell? ⟨b0, o0, none⟩ = some (.slice a0 N c0) := (hww.cell (p := ⟨b0, o0, none⟩) (cell_lt hcw)).trans hcw
        obtain ⟨u0, u1, _, _⟩ := HBX.out wb (Below.refl _ _)
        have HSL : Hid (Sl wb qa px) := ((hfr.below HB.out).below hbb).sl
        have HRL : Hid (Rl wb va vs) := ((hfr.below HB.out).below hbb).rl
        have HSX : Hid (wr.heap.size < wb.heap.size) := by show _ < _; rw [← hwb, World.size_alloc]; omega
        have HVL : Hid (vs.length = px.length) := hvl
        have hp10 : px.length ≤ 10 := hp10
        have hml : 0 < m.length := by omega
        have hk0 : (k : Int) < (L : Int) := by omega
        obtain ⟨part, hpart⟩ : ∃ part, vs.map Prod.fst = part := ⟨_, rfl⟩
        have HPART := Lib.hid hpart
        clear hx hxy hr0 hset hv hm1 hrows hrr hr0N hN hfr hbb hww hvl hpart
        go_wp2_with (first
          | (with_reducible refine wpList_make_full _ rfl (.tmp 36) (.tmp 36) 24 rfl wb.heap.size 3 i0 (.int .i64 0) 1 Try.underlying24 hi hz0 hz1 .i64 .i64 (N : Int) (N : Int) N rfl rfl rfl rfl (by rw [hz2]; omega) (by unfold maxLen; omega) (Nat.le_refl _) ?_))
        intro w6 hown hgrow
        have hb6 : Below wb.heap.size wb w6 := (Below.refl _ _).grown hgrow (Nat.le_refl _) (fun k e => by cases e)
        have HO6 : Hid (OwnI w6 wb.heap.size (.slice (some ⟨wb.heap.size, 0, none⟩) N N) (putTo N px part 0)) := by
          have z := zeros_are N
          rw [Nat.mul_one] at z
          show w6.ownsRow _ _ _ _ _ _
          rw [putTo_len]
          show w6.ownsRow _ _ _ _ _ ((List.replicate N (0 : Int)).map (Value.int .i64))
          rw [← z]; exact hown
        have HB6 := Lib.hid hb6
        obtain ⟨v0, v1, _, _⟩ := HBX.out w6 hb6
        clear hown hgrow hb6
        go_wp2
        go_loopw [14, 15, 16, 41] (fun fl _ _ i wr2 => ∃ j : Nat, j ≤ px.length ∧ i = .int .i64 j ∧ fl = .bool (onesTo vs j) ∧ OwnI wr2 wb.heap.size (.slice (some ⟨wb.heap.size, 0, none⟩) N N) (putTo N px part j) ∧ Below wb.heap.size wb wr2) (fun _ _ _ i _ => px.length - (intOf i).toNat)
        case atStart => exact ⟨0, Nat.zero_le _, rfl, rfl, HO6.out, HB6.out⟩
        case round =>
          clear HO6 HB6 v0 v1 u0 u1
          obtain ⟨j, hj, rfl, rfl, hO3, hB3⟩ := hrel
          have HO3 := Lib.hid hO3; clear hO3
          have HB3 := Lib.hid hB3; clear hB3
          by_cases hlt2 : j < px.length
          · obtain ⟨pb, po, v, rfl, hcv, HV⟩ := (HSL.out.below HB3.out).at hlt2
            have hvr := HSET.out.ok v (List.mem_of_getElem? HV.out)
            have hgv := gt_some' HV.out
            rw [HN.out] at hvr
            obtain ⟨jj, rfl⟩ := Int.eq_ofNat_of_zero_le hvr.1
            have hjj : jj < N := by omega
            obtain ⟨p, hp⟩ : ∃ p, vs[j]? = some p := ⟨vs[j]'(by rw [HVL.out]; exact hlt2), by simp [HVL.out, hlt2]⟩
            obtain ⟨b2, rfl, d1, d2⟩ := (HRL.out.below HB3.out) j p hp
            obtain ⟨p1, p2⟩ := p
            dsimp only at d1 d2
            obtain ⟨g0, g1, _, _⟩ := HBX.out wr HB3.out
            obtain ⟨cz, fz⟩ := HO3.out.cell (j := jj) (by rw [putTo_len]; exact hjj)
            have hgp : gt part j = p1 := by rw [← HPART.out]; unfold gt; rw [List.getElem?_map, hp]; rfl
            have HKN : Hid ((putTo N px part j).set jj p1 = putTo N px part (j + 1)) := by
              show _ = _
              conv => rhs; unfold putTo
              rw [hgv, Int.toNat_natCast, hgp]
            have HST := Lib.hid (HO3.out.stored jj p1)
            have HON : Hid (onesTo vs (j + 1) = (onesTo vs j && (p2 == 1))) := onesTo_succ hp
            have hj0 : (j : Int) < (px.length : Int) := by omega
            have hjv : j < vs.length := by rw [HVL.out]; exact hlt2
            clear hgv hvr hp hgp
            cases hfl : onesTo vs j with
            | false =>
              rw [hfl] at HON
              clear hfl
              go_wp2
              go_roundw
              case rel => exact ⟨j + 1, by omega, by go_num, by rw [HON.out]; rfl, by rw [← HKN.out]; exact HST.out, HB3.out.setCell (p := ⟨wb.heap.size, jj, none⟩) (Nat.le_refl _) _⟩
              case measure => simp [intOf]; omega
            | true =>
              rw [hfl] at HON
              clear hfl
              go_wp2
              go_roundw
              case rel => exact ⟨j + 1, by omega, by go_num, by rw [HON.out]; rfl, by rw [← HKN.out]; exact HST.out, HB3.out.setCell (p := ⟨wb.heap.size, jj, none⟩) (Nat.le_refl _) _⟩
              case measure => simp [intOf]; omega
          · have hje : j = px.length := by omega
            subst hje
            have HPIC : Hid (putTo N px part px.length = picF N (px, vs)) := by show _ = _; unfold picF; rw [HPART.out]
            have HGF : Hid (goodF m (px, vs) = (onesTo vs px.length && shownM m (picF N (px, vs)))) := by
              show _ = _
              unfold goodF onesTo
              rw [HN.out, ← HVL.out, List.take_length]
            have hpicl : (picF N (px, vs)).length = N := putTo_len _ _ _ _
            have hdw : Below w2.heap.size w2 wr := HWB.out.trans (HB3.out.mono HWB.out.size)
            have HDW := Lib.hid hdw
            have HROW := Lib.hid ((HO.out.below HBB.out).below HB3.out)
            rw [HPIC.out] at HO3
            have HSP : Hid (Sl wr (some ⟨wb.heap.size, 0, none⟩) (picF N (px, vs))) := HO3.out.sl
            have HAP : Hid (wb.heap.size < wr.heap.size) := (World.ownsRow.lt HO3.out _ rfl).2
            have hml2 : (wholeTo m Y k).length ≤ k := by
              unfold wholeTo
              rw [List.length_map]
              exact Nat.le_trans (List.length_filter_le _ _) (by rw [List.length_take]; omega)
            have HML : Hid ((wholeTo m Y k).length ≤ 100000) := by show _ ≤ _; omega
            have HOWN : Hid (∀ b, (_ : Value).ownBlock = some b → b < wb.heap.size) := fun b e => (World.ownsRow.lt (HO.out.below HBB.out).own b e).2
            have HSHN : Hid (∀ sh, shownM m (picF N (px, vs)) = sh → Calls Try.prog 24 #[.slice (some ⟨b0, o0, none⟩) m.length mc, .slice (some ⟨wb.heap.size, 0, none⟩) N N] wr fun e w' => e = .returned (.bool sh) ∧ wr = w') := fun sh e => by
              have k := rshown_any (some ⟨b0, o0, none⟩) m mc (some ⟨wb.heap.size, 0, none⟩) (picF N (px, vs)) N wr HM.out (by rw [hpicl]; omega) (HS.out.below (HB1.out.trans (hdw.mono HB1.out.size))) HSP.out
              rw [hpicl, e] at k
              exact k
            have HPL := Lib.hid hpicl
            clear hdw hpicl hml2
            cases hfl : onesTo vs px.length with
            | false =>
              have HNX : Hid (wholeTo m Y (k + 1) = wholeTo m Y k) := by show _ = _; rw [HWS.out, HGF.out, hfl]; simp
              clear hfl
              go_wp2
              go_roundw
              case rel => exact ⟨k + 1, ads, by omega, by go_num, by rw [HNX.out]; exact HROW.out, HDW.out⟩
              case measure => simp [intOf]; omega
            | true =>
              cases hsh : shownM m (picF N (px, vs)) with
              | false =>
                have HNX : Hid (wholeTo m Y (k + 1) = wholeTo m Y k) := by show _ = _; rw [HWS.out, HGF.out, hfl, hsh]; simp
                have HCA := Lib.hid (HSHN.out false hsh)
                clear hfl hsh
                go_wp2_with (go_at_call 24; refine HCA.out.mono ?_; rintro e w8 ⟨rfl, rfl⟩)
                go_roundw
                case rel => exact ⟨k + 1, ads, by omega, by go_num, by rw [HNX.out]; exact HROW.out, HDW.out⟩
                case measure => simp [intOf]; omega
              | true =>
                have HNX : Hid (wholeTo m Y (k + 1) = wholeTo m Y k ++ [picF N (px, vs)]) := by show _ = _; rw [HWS.out, HGF.out, hfl, hsh]; simp
                have HCA := Lib.hid (HSHN.out true hsh)
                clear hfl hsh
                go_wp2_with (first
                  | (go_at_call 24; refine HCA.out.mono ?_; rintro e w8 ⟨rfl, rfl⟩)
                  | (at_builtin; (refine wpList_pushHR rfl (.tmp 72) (.tmp 74) rfl w2.heap.size _ ads (wholeTo m Y k) (picF N (px, vs)) N HPL.out (some ⟨wb.heap.size, 0, none⟩) N _ _ _ rfl rfl rfl HROW.out HSP.out (fun ad e => by obtain rfl := Option.some.inj e; exact ⟨HAP.out, fun e2 => Nat.lt_irrefl _ (HOWN.out _ e2)⟩) HML.out HDW.out.size ?_; intro g' cap' w9 ho3 _ hb3 _; have HO9 := Lib.hid ho3; have HB9 := Lib.hid hb3; clear ho3 hb3)))
                go_roundw
                case rel => exact ⟨k + 1, ads ++ [(some ⟨wb.heap.size, 0, none⟩, N)], by omega, by go_num, by rw [HNX.out]; exact HO9.out, HDW.out.trans HB9.out⟩
                case measure => simp [intOf]; omega
      · obtain rfl : L = k := by omega
        have HLY : Hid (Y.length = L) := by
          have h1 := congrArg List.length HXS.out
          rw [List.length_map, HL.out] at h1
          exact h1.symm
        obtain ⟨oa, oc, hov, hom⟩ := HO.out.ms
        subst hov
        have HOM := Lib.hid hom
        have HBW : Hid (Below w.heap.size w wr) := HB1.out.trans (HB.out.mono HB1.out.size)
        clear hom
        go_wp2
        go_ret2
        rw [HLY.out]
        exact ⟨HBW.out, oa, oc, rfl, HOM.out⟩
  · have hYn : Y = [] := by
      cases hc : Y with
      | nil => rfl
      | cons q t => exact absurd (hY0 (by rw [hc]; simp)) h0
    subst hYn
    have y1 : (e0 == 0) = false := by simpa using h0
    have y2 : (e0 != 0) = true := by simpa using h0
    have HR0 : Hid (wholeV m y kk = ([], e0)) := by show _ = _; rw [HWV.out]; rfl
    rw [HR0.out]
    clear HWV HR0 hY0 hY hm hs hy hsh hYL h0
    go_enter Try.func9, Try.ntmps9
    go_wp2_with (go_at_call 23; refine HFI.out.mono ?_; rintro e w2 ⟨hb1, base, v0, xs, rfl, hxs, hrow⟩; obtain ⟨xa, xc, rfl, hat⟩ := hrow.at; have HB1 := Lib.hid hb1; clear hrow hat hxs hb1)
    go_ret2
    exact ⟨HB1.out, none, 0, rfl, fun i hi => by simp at hi⟩
end Go.Proofs.Ytfnomiingelfaaa
/- Whole of layer 4: a contract. -/
namespace Go.Proofs.Ytfnomiingelfaaa
open Go.RowKit Go.Shelf
attribute [local go_sem] Oper.semAt_some

set_option maxRecDepth 1000000 in
set_option maxHeartbeats 4000000 in
theorem whole_in (a : Option Addr) (m : List (List Int)) (cap : Nat) (ya : Option Addr) (y : List Int) (yc : Nat) (kk : Nat) (w : World) (hm : MOk m) (hly : y.length ≤ 1000) (hs : Ms w a m) (hy : Sl w ya y) (hr : readE m y = 0) (hk : kk ≤ 10) :
    CallsIn Fence.wide 50 Try.prog 8 #[.slice a m.length cap, .slice ya y.length yc, .int .i64 (kk : Int)] w (LLPost ((fitsTo whB m y (min kk (rankM m) + 1)).map (picF (colsM m)), 0) w) := by
  have hu : upE m y kk = 0 := by unfold upE; rw [if_pos hr, if_pos (by simp [rangeB]; omega)]
  have HS := Lib.hid hs
  obtain ⟨V, hV⟩ : ∃ V, w.alloc (.cells #[.slice a m.length cap] 23) = V := ⟨_, rfl⟩
  have hbv : Below w.heap.size w V := by rw [← hV]; exact (Below.refl _ _).alloc (Nat.le_refl _) _
  have HBV := Lib.hid hbv
  have HUP : Hid (Calls Try.prog 20 #[.slice a m.length cap, .slice ya y.length yc, .int .i64 (kk : Int)] V fun e w' => e = .returned (.tuple #[.agg #[.slice a m.length cap, .slice ya y.length yc], .int .i64 0]) ∧ Below V.heap.size V w') := by
    have h := askUp_any a m cap ya y yc kk V hm (by omega) (hs.below hbv) (hy.below hbv)
    rw [hu, if_pos rfl] at h
    exact h
  have t0 : V.cell? ⟨w.heap.size, 0, none⟩ = some (.slice a m.length cap) := by rw [← hV]; exact alloc_cell _ _ _ _ _ rfl
  clear hbv
  refine callsIn_of_wp_marks Try.func8 rfl trivial ?_ rfl
  simp only [Try.ntmps8, List.size_toArray, List.length_cons, List.length_nil, Nat.reduceAdd, Nat.reduceSub, Array.replicate_succ, Array.replicate_zero, List.push_toArray, List.append_toArray, List.nil_append, List.cons_append]
  gi_wp2_with (first
    | (refine ⟨trivial, ?_⟩; gi_at_call 20; refine (callsIn_wide.2 HUP.out).mono ?_; rintro e w1 ⟨rfl, hb1⟩; have HB1 := Lib.hid hb1; clear hb1)
    | (refine ⟨trivial, ?_⟩; gi_at_call 22; refine (callsIn_wide.2 (butWhole_any _)).mono ?_; rintro e w2 ⟨rfl, rfl⟩)
    | (refine ⟨trivial, ?_⟩; gi_at_call 21; refine (callsIn_wide.2 (sfits_any _ _ (kk : Int) 45 _ _ ⟨_, _, _, rfl⟩ ⟨_, _, _, rfl⟩)).mono ?_; rintro e w3 ⟨rfl, rfl⟩))
  apply wpIn_one
  case h =>
   gi_region_with (first
    | (refine ⟨trivial, ?_⟩; gi_at_call 22; refine (callsIn_wide.2 (butWhole_any _)).mono ?_; rintro e w2 ⟨rfl, rfl⟩)
    | (refine ⟨trivial, ?_⟩; gi_at_call 21; refine (callsIn_wide.2 (sfits_any _ _ (kk : Int) 45 _ _ ⟨_, _, _, rfl⟩ ⟨_, _, _, rfl⟩)).mono ?_; rintro e w3 ⟨rfl, rfl⟩))
   all_goals exact ⟨rfl, rfl⟩
  obtain ⟨k1, k2, k3, k4, kL, k5, k6, k7, k8⟩ := boxes6 w1 (.slice a m.length cap) (.slice ya y.length yc) (kk : Int) (.func (.func 45) #[] #[.pointer (some ⟨w1.heap.size + 1 + 1, 0, none⟩)]) 49 22 3 3 55
  obtain ⟨V0, hV0⟩ : ∃ V0, ((((((w1.alloc (.cells #[.slice a m.length cap, .slice ya y.length yc] 49)).alloc (.cells #[.slice none 0 0] 22)).alloc (.cells #[.int .i64 1000000] 3)).alloc (.cells #[.slice a m.length cap, .slice ya y.length yc] 49)).alloc (.cells #[.int .i64 (kk : Int)] 3)).alloc (.cells #[.func (.func 45) #[] #[.pointer (some ⟨w1.heap.size + 1 + 1, 0, none⟩)]] 55)).drew = V0 := ⟨_, rfl⟩
  rw [hV0] at k1 k2 k3 k4 kL k5 k6 k7 k8 ⊢
  clear hV0
  have hV1 : Below w.heap.size w w1 := HBV.out.trans (HB1.out.mono HBV.out.size)
  have hbw0 : Below w.heap.size w V0 := hV1.trans (k2.mono hV1.size)
  obtain ⟨FB, hFB⟩ : ∃ FB, w1.heap.size + 1 = FB := ⟨_, rfl⟩
  have hMB : w.heap.size < FB := by have h1 := HB1.out.size; have h2 := cell_lt t0; dsimp only at h2; omega
  have t1 : V0.cell? ⟨w.heap.size, 0, none⟩ = some (.slice a m.length cap) := by
    have h1 := (HB1.out.cell (p := ⟨w.heap.size, 0, none⟩) (cell_lt t0)).trans t0
    exact (k2.cell (p := ⟨w.heap.size, 0, none⟩) (cell_lt h1)).trans h1
  have k1 : V0.heap.size = FB + 5 := by omega
  rw [hFB] at k3 k4 kL k5 k6 k7 k8 ⊢
  clear hFB
  have hbwV : Below V.heap.size V V0 := HB1.out.trans (k2.mono HB1.out.size)
  have HI0 : Hid (WI V FB (.slice none 0 0) [] [] (fun b => b = FB) (fun _ => False) V0) := ⟨by have := HB1.out.size; omega, k3, k4, HR.nil _ _, hbwV, fun _ _ e => e, fun b e => (by cases e), fun i x e => by simp at e, fun b => ⟨.inl, fun e => e.elim id fun e => e.elim (fun e => (by cases e)) fun ⟨i, x, ad, h, _⟩ => by simp at h⟩⟩
  have hbs : ∀ p ∈ ([(⟨FB + 1, 0, none⟩, .int .i64 1000000), (⟨FB + 1 + 1, 0, none⟩, .slice a m.length cap), (⟨FB + 1 + 1, 1, none⟩, .slice ya y.length yc), (⟨FB + 1 + 1 + 1, 0, none⟩, .int .i64 ((kk : Nat) : Int)), (⟨FB + 1 + 1 + 1 + 1, 0, none⟩, .func (.func 45) #[] #[.pointer (some ⟨FB + 1, 0, none⟩)])] : List (Addr × Value)), V0.cell? p.1 = some p.2 := fun p hp => by
    simp only [List.mem_cons, List.not_mem_nil, or_false] at hp
    rcases hp with rfl | rfl | rfl | rfl | rfl
    · exact kL
    · exact k5
    · exact k6
    · exact k7
    · exact k8
  have HSEQ := fits1_seq (wr := whB) (w0 := w) (w := V0) (kk := kk) (ma := a) (mc := cap) (ya := ya) (yc := yc) (Q := FB + 1 + 1) (KB := FB + 1 + 1 + 1) (WB := FB + 1 + 1 + 1 + 1) (wg := 45) (wl := #[.pointer (some ⟨FB + 1, 0, none⟩)]) (readE_ok hr).1 hly (by omega) hs hy hbw0 hbs (List.mem_cons_of_mem _ List.mem_cons_self) (List.mem_cons_of_mem _ (List.mem_cons_of_mem _ List.mem_cons_self)) (List.mem_cons_of_mem _ (List.mem_cons_of_mem _ (List.mem_cons_of_mem _ List.mem_cons_self))) (List.mem_cons_of_mem _ (List.mem_cons_of_mem _ (List.mem_cons_of_mem _ (List.mem_cons_of_mem _ List.mem_cons_self)))) (fun W a vs cap hcs h1 h2 => containsW_any (FB + 1) a vs cap W h1 h2 (hcs _ List.mem_cons_self))
  gi_wp2
  obtain ⟨Z, hZ⟩ : ∃ Z, fitsTo whB m y (min kk (rankM m) + 1) = Z := ⟨_, rfl⟩
  have HZL : Hid (Z.length ≤ 3300) := by
    rw [← hZ]
    have := allFits_len (readE_ok hr).1 y whB (min kk (rankM m) + 1) (by omega)
    show (fitsTo _ _ _ _).length ≤ _
    omega
  have HZH := Lib.hid hZ
  rw [hZ] at HSEQ ⊢
  have HFW : Hid (w.heap.size ≤ FB) := by show _ ≤ _; omega
  refine wpIn_rangeFunc_M2 (by omega) (gf := 41) (lb := #[.pointer (some ⟨FB + 1 + 1, 0, none⟩), .pointer (some ⟨FB + 1 + 1 + 1, 0, none⟩), .pointer (some ⟨FB + 1 + 1 + 1 + 1, 0, none⟩)]) rfl (enters_of Try.func41 (by kernel_rfl) rfl)
      HSEQ (Below.refl _ _) (fun _ => rfl) memF_put
      (fun pre C T W => ∃ v ads, True ∧ WI V FB v ads (pre.map fun x => picF (colsM m) (keyF x)) C T W)
      (fun c pre C T W => ∃ v ads, False ∧ WI V FB v ads (pre.map fun x => picF (colsM m) (keyF x)) C T W)
      (WI.client (p := fun _ => True) (f := fun pre => pre.map fun x => picF (colsM m) (keyF x))) (fun c => WI.client (p := fun _ => False) (f := fun pre => pre.map fun x => picF (colsM m) (keyF x))) (fun b => b = FB) (fun _ => False) ?need (fun _ e => e.elim) ⟨_, _, trivial, HI0.out⟩
      (fun x X => { tmps := #[.slice a m.length cap, .slice ya y.length yc, .int .i64 (kk : Int), .pointer (some ⟨w.heap.size, 0, none⟩), undef, undef, .slice none 0 0, .int .i64 0, .pointer (some ⟨w1.heap.size, 0, none⟩), .int .i64 0, .pointer (some ⟨FB, 0, none⟩), .pointer (some ⟨X.heap.size, 0, none⟩), undef, undef, undef, .tuple #[.agg #[.slice a m.length cap, .slice ya y.length yc], .int .i64 0], .slice a m.length cap, .slice ya y.length yc, .int .i64 (kk : Int), .tuple #[.agg #[.slice a m.length cap, .slice ya y.length yc], .int .i64 0], .agg #[.slice a m.length cap, .slice ya y.length yc], .int .i64 0, .int .i64 0, .bool false, undef, .agg #[.slice a m.length cap, .slice ya y.length yc], .int .i64 (kk : Int), .func (.func 45) #[] #[.pointer (some ⟨FB + 1, 0, none⟩)], .func (.func 41) #[] #[.pointer (some ⟨FB + 1 + 1, 0, none⟩), .pointer (some ⟨FB + 1 + 1 + 1, 0, none⟩), .pointer (some ⟨FB + 1 + 1 + 1 + 1, 0, none⟩)], fitV x, undef, undef, undef, undef, undef, undef, undef, undef, undef, undef, undef, undef, undef, undef, undef, undef, undef, undef, undef, undef, undef, undef, undef, undef, undef, undef, undef, undef], defers := [] }) (fun x X => X.alloc (.cells #[.slice x.qa x.px.length x.qc, .slice x.va x.vs.length x.vc] 41)) (fun x W => (Below.refl _ _).alloc (Nat.le_refl _) _) (fun x W W' h hb => ⟨h.sl.below hb, h.rl.below hb, fun ad e => ⟨(h.q ad e).1, Nat.lt_of_lt_of_le (h.q ad e).2 hb.size⟩, fun ad e => ⟨(h.v ad e).1, Nat.lt_of_lt_of_le (h.v ad e).2 hb.size⟩⟩) ?assign ?body ?done ?stop
  case need =>
    rintro b (h | ⟨p, hp, rfl⟩)
    · exact ⟨by omega, by omega⟩
    · simp only [List.mem_cons, List.not_mem_nil, or_false] at hp
      rcases hp with rfl | rfl | rfl | rfl | rfl
      all_goals refine ⟨?_, ?_⟩ <;> dsimp only <;> omega
  case assign =>
    rintro l2 ⟨qa, qc, px, va, vc, vs⟩ V K hK
    dsimp only
    gi_wp2
    exact hK
  case done =>
    rintro D xs C T V9 hD hxs ⟨v, ads, -, hI⟩ hTD hK
    have HI := Lib.hid hI
    have HTD := Lib.hid hTD
    have HK := Lib.hid hK
    obtain ⟨oa, oc, hov, _⟩ := hI.hr.ms
    subst hov
    have hl := hI.r
    have HMM : Hid ((xs.map fun x => picF (colsM m) (keyF x)) = Z.map (picF (colsM m))) := by show _ = _; rw [← hxs, List.map_map]; rfl
    rw [HMM.out] at HI hl
    clear hI hTD hK hxs hD k2 k3 k4 kL k5 k6 k7 k8 hbs hbw0 HSEQ hZ k1 t0 t1 hbwV
    obtain ⟨pn, hpn⟩ : ∃ pn, (Z.map (picF (colsM m))).length = pn := ⟨_, rfl⟩
    have HPN := Lib.hid hpn
    rw [hpn] at HI hl
    clear hpn
    gi_wp2
    refine wi_leaves (ms := [D]) (r := .tuple #[.slice oa pn oc, .int .i64 0]) (by intro W; simp [results, Try.results8, go_sem]) HI.out (fun E hE => ?_) (by simp) (fun E hE => ?_) (fun W h => ⟨HBV.out.trans (h.bw.mono HBV.out.size), oa, oc, by rw [HZH.out]; dsimp only; rw [HPN.out], by rw [HZH.out]; exact h.ms⟩)
    · obtain rfl : E = D := by simpa using hE
      exact HTD.out
    · obtain rfl : E = D := by simpa using hE
      exact HK.out
  case stop =>
    rintro D c pre0 C T V9 hD ⟨v, ads, hf, _⟩
    exact hf.elim
  case body =>
    rintro l2 pre ⟨qa, qc, px, va, vc, vs⟩ C T X W ⟨v, ads, -, hI⟩ hmem hown ⟨rest, hrest⟩ hcl
    have hb0 := hcl _ _ (alloc_cell X #[.slice qa px.length qc, .slice va vs.length vc] 41 0 (.slice qa px.length qc) rfl)
    have hb1 := hcl _ _ (alloc_cell X #[.slice qa px.length qc, .slice va vs.length vc] 41 1 (.slice va vs.length vc) rfl)
    have t2 : W.cell? ⟨w.heap.size, 0, none⟩ = some (.slice a m.length cap) := (hI.bw.cell (p := ⟨w.heap.size, 0, none⟩) (cell_lt t0)).trans t0
    have hmz : (px, vs) ∈ fitsTo whB m y (min kk (rankM m) + 1) := by rw [hZ, hrest]; simp
    have hlen : pre.length ≤ 3300 := by
      have h1 := congrArg List.length hrest
      rw [List.length_append, List.length_map] at h1
      have := HZL.out
      omega
    have hfit : SetP m px ∧ vs.length = px.length ∧ px.length ≤ 10 := by
      unfold fitsTo at hmz
      obtain ⟨s, hs10, hq⟩ := List.mem_flatMap.1 hmz
      obtain ⟨p, hpx, e⟩ := List.mem_filterMap.1 hq
      obtain ⟨z, hz, e2⟩ := Option.map_eq_some_iff.1 e
      obtain ⟨rfl, rfl⟩ : p = px ∧ z = vs := by simpa using e2
      have hs := compl_set hpx
      exact ⟨hs, (fit_den hr hs.ok hz).1, by have h2 := (compl_mem hpx).1; have h3 := List.mem_range.1 hs10; omega⟩
    obtain ⟨hset, hvl, hp10⟩ := hfit
    have HSET := Lib.hid hset
    have HVL := Lib.hid hvl
    obtain ⟨hm1, _, hc1, hc10, hrows⟩ := validM_of (readE_ok hr).1
    obtain ⟨b0, o0, a0, r0, c0, rfl, hcw, _, hrr⟩ := HS.out.at (i := 0) (by omega)
    obtain ⟨N, hN⟩ : ∃ N, colsM m = N := ⟨_, rfl⟩
    have HN := Lib.hid hN
    have hr0N : r0.length = N := by rw [← hN]; exact (hrows r0 (List.mem_of_getElem? hrr.out)).1
    rw [hr0N, Nat.add_zero] at hcw
    rw [hN] at hc1 hc10
    have hcw2 : W.cell? ⟨b0, o0, none⟩ = some (.slice a0 N c0) := ((HBV.out.trans (hI.bw.mono HBV.out.size)).cell (p := ⟨b0, o0, none⟩) (cell_lt hcw)).trans hcw
    have hml : 0 < m.length := by omega
    obtain ⟨part, hpart⟩ : ∃ part, vs.map Prod.fst = part := ⟨_, rfl⟩
    have HPART := Lib.hid hpart
    have HI := Lib.hid hI
    have HMX := Lib.hid hmem
    have HLE := Lib.hid hlen
    have hbase := hI.r
    have hfz := hI.fr
    obtain ⟨i0, hi, hz0, hz1, hz2⟩ := info_parts Try.infoInt
    clear hI hmem hown hrest hcl k2 k3 k4 kL k5 k6 k7 k8 hbs hbw0 hbwV HSEQ hZ k1 t0 t1 hset hvl hmz hrr hrows hr0N hcw hpart hlen hN hr hm hs hy hu
    dsimp only
    gi_wp2_with (with_reducible refine wpListIn_make_full _ rfl (.tmp 33) (.tmp 33) 24 rfl W.heap.size 3 i0 (.int .i64 0) 1 Try.underlying24 hi hz0 hz1 .i64 .i64 (N : Int) (N : Int) N rfl rfl rfl rfl (by rw [hz2]; omega) (by unfold maxLen; omega) (Nat.le_refl _) ?_)
    intro w6 hown6 hgrow
    have hb6 : Below W.heap.size W w6 := (Below.refl _ _).grown hgrow (Nat.le_refl _) (fun k e => by cases e)
    have HO6 : Hid (OwnI w6 W.heap.size (.slice (some ⟨W.heap.size, 0, none⟩) N N) (putTo N px part 0)) := by
      have z := zeros_are N
      rw [Nat.mul_one] at z
      show w6.ownsRow _ _ _ _ _ _
      rw [putTo_len]
      show w6.ownsRow _ _ _ _ _ ((List.replicate N (0 : Int)).map (Value.int .i64))
      rw [← z]; exact hown6
    have HB6 := Lib.hid hb6
    have HSL : Hid (Sl W qa px) := HMX.out.sl
    have HRL : Hid (Rl W va vs) := HMX.out.rl
    have HBC : Hid (∀ Y, Below W.heap.size W Y → Y.cell? ⟨X.heap.size, 0, none⟩ = some (.slice qa px.length qc) ∧ Y.cell? ⟨X.heap.size, 1, none⟩ = some (.slice va vs.length vc) ∧ Y.cell? ⟨FB, 0, none⟩ = some v ∧ Y.frozen? ⟨FB, 0, none⟩ = false) := fun Y hb => ⟨(hb.cell (p := ⟨X.heap.size, 0, none⟩) (cell_lt hb0)).trans hb0, (hb.cell (p := ⟨X.heap.size, 1, none⟩) (cell_lt hb1)).trans hb1, (hb.cell (p := ⟨FB, 0, none⟩) (cell_lt hbase)).trans hbase, (hb.frozen (p := ⟨FB, 0, none⟩) (cell_lt hbase)).trans hfz⟩
    obtain ⟨v0, v1, _, _⟩ := HBC.out w6 hb6
    clear hown6 hgrow hb6 hb0 hb1 hbase hfz
    gi_wp2
    gi_loopw [13, 14, 38] (fun _ _ i wr2 => ∃ j : Nat, j ≤ px.length ∧ i = .int .i64 j ∧ OwnI wr2 W.heap.size (.slice (some ⟨W.heap.size, 0, none⟩) N N) (putTo N px part j) ∧ Below W.heap.size W wr2) (fun _ _ i _ => px.length - (intOf i).toNat)
    case atStart => exact ⟨0, Nat.zero_le _, rfl, HO6.out, HB6.out⟩
    case round =>
      clear HO6 HB6 v0 v1
      obtain ⟨j, hj, rfl, hO3, hB3⟩ := hrel
      have HO3 := Lib.hid hO3; clear hO3
      have HB3 := Lib.hid hB3; clear hB3
      by_cases hlt2 : j < px.length
      · obtain ⟨pb, po, vv, rfl, hcv, HV⟩ := (HSL.out.below HB3.out).at hlt2
        have hvr := HSET.out.ok vv (List.mem_of_getElem? HV.out)
        have hgv := gt_some' HV.out
        rw [HN.out] at hvr
        obtain ⟨jj, rfl⟩ := Int.eq_ofNat_of_zero_le hvr.1
        have hjj : jj < N := by omega
        obtain ⟨p, hp⟩ : ∃ p, vs[j]? = some p := ⟨vs[j]'(by rw [HVL.out]; exact hlt2), by simp [HVL.out, hlt2]⟩
        obtain ⟨b2, rfl, d1, d2⟩ := (HRL.out.below HB3.out) j p hp
        obtain ⟨p1, p2⟩ := p
        dsimp only at d1 d2
        obtain ⟨g0, g1, _, _⟩ := HBC.out wr HB3.out
        obtain ⟨cz, fz⟩ := HO3.out.cell (j := jj) (by rw [putTo_len]; exact hjj)
        have hgp : gt part j = p1 := by rw [← HPART.out]; unfold gt; rw [List.getElem?_map, hp]; rfl
        have HKN : Hid ((putTo N px part j).set jj p1 = putTo N px part (j + 1)) := by
          show _ = _
          conv => rhs; unfold putTo
          rw [hgv, Int.toNat_natCast, hgp]
        have HST := Lib.hid (HO3.out.stored jj p1)
        have hj0 : (j : Int) < (px.length : Int) := by omega
        have hjv : j < vs.length := by rw [HVL.out]; exact hlt2
        clear hgv hvr hp hgp
        gi_wp2
        go_roundw
        case rel => exact ⟨j + 1, by omega, by go_num, by rw [← HKN.out]; exact HST.out, HB3.out.setCell (p := ⟨W.heap.size, jj, none⟩) (Nat.le_refl _) _⟩
        case measure => simp [intOf]; omega
      · have hje : j = px.length := by omega
        subst hje
        have HPIC : Hid (putTo N px part px.length = picF (colsM m) (px, vs)) := by show _ = _; unfold picF; rw [HPART.out, HN.out]
        have hpicl : (picF (colsM m) (px, vs)).length = N := by rw [← HPIC.out]; exact putTo_len _ _ _ _
        have HPL := Lib.hid hpicl
        rw [HPIC.out] at HO3
        have HSP : Hid (Sl wr (some ⟨W.heap.size, 0, none⟩) (picF (colsM m) (px, vs))) := HO3.out.sl
        have HAP : Hid (W.heap.size < wr.heap.size) := (World.ownsRow.lt HO3.out _ rfl).2
        have HROW := Lib.hid (HI.out.hr.below HB3.out)
        have HML : Hid ((pre.map fun x => picF (colsM m) (keyF x)).length ≤ 100000) := by have := HLE.out; show _ ≤ _; rw [List.length_map]; omega
        have HOWN : Hid (∀ b, v.ownBlock = some b → b < W.heap.size) := fun b e => (World.ownsRow.lt HI.out.hr.own b e).2
        obtain ⟨_, _, f0, f1⟩ := HBC.out wr HB3.out
        have HF2 : Hid (FB + 1 ≤ wr.heap.size) := by have := cell_lt f0; show _ ≤ _; dsimp only at this; omega
        have HFC : Hid (∀ Y, Below (FB + 1) wr Y → Y.cell? ⟨FB, 0, none⟩ = some v ∧ Y.frozen? ⟨FB, 0, none⟩ = false) := fun Y hb => ⟨(hb.cell (p := ⟨FB, 0, none⟩) (Nat.lt_succ_self _)).trans f0, (hb.frozen (p := ⟨FB, 0, none⟩) (Nat.lt_succ_self _)).trans f1⟩
        clear hpicl
        gi_wp2_with (gi_at_builtin; go_must (refine wpListIn_pushHR rfl (.tmp 53) (.tmp 55) rfl (FB + 1) v ads (pre.map fun x => picF (colsM m) (keyF x)) (picF (colsM m) (px, vs)) N HPL.out (some ⟨W.heap.size, 0, none⟩) N wr _ _ rfl rfl rfl HROW.out HSP.out (fun ad e => by obtain rfl := Option.some.inj e; exact ⟨HAP.out, fun e2 => Nat.lt_irrefl _ (HOWN.out _ e2)⟩) HML.out HF2.out ?_); intro g cap' w9 ho3 hg3 hb3 hgr; have HO9 := Lib.hid ho3; have HG9 := Lib.hid hg3; have HT9 : Hid (Turned (fun b => v.ownBlock = some b) wr w9) := (turned_alloc _ wr _).trans (turned_grown (T := fun b => v.ownBlock = some b) hgr fun r e => e) fun b e => .inl e; obtain ⟨z0, z1⟩ := HFC.out w9 hb3; clear ho3 hg3 hb3 hgr)
        have h9 := HO9.out
        rw [List.length_map] at h9
        exact WI.went (f := fun x => picF (colsM m) (keyF x)) (x := ⟨qa, qc, px, va, vc, vs⟩) HI.out HB3.out (Nat.le_refl _) h9 HG9.out HT9.out
end Go.Proofs.Ytfnomiingelfaaa
/- Whole of layer 4: both sides answer the same. -/
namespace Go.Proofs.Ytfnomiingelfaaa
open Go.RowKit Go.Shelf

theorem up_fits {m : List (List Int)} {y : List Int} {k : Int} : (fitsKV m y k).2 = upE m y k := by
  unfold fitsKV upE
  split
  · split <;> rfl
  · rfl
theorem whole_ok {m : List (List Int)} {y : List Int} {kk : Nat} (hr : readE m y = 0) (hk : kk ≤ 10) : wholeV m y kk = ((fitsTo whB m y (min kk (rankM m) + 1)).map (picF (colsM m)), 0) := by
  have hb : rangeB (kk : Int) 0 10 = true := by simp [rangeB]; omega
  have e : fitsKV m y kk = (shortF kk (allFits m y), 0) := by unfold fitsKV; rw [if_pos hr, if_pos hb]
  unfold wholeV wholeTo
  rw [e]
  dsimp only
  rw [List.take_length, whole_eq hr hk]
theorem whole_no {m : List (List Int)} {y : List Int} {k : Int} (h : upE m y k ≠ 0) : wholeV m y k = ([], upE m y k) := by
  have e : (fitsKV m y k).1 = [] := by
    unfold upE at h
    unfold fitsKV
    split
    · rename_i h1
      rw [if_pos h1] at h
      split
      · rename_i h2; rw [if_pos h2] at h; exact absurd rfl h
      · rfl
    · rfl
  unfold wholeV wholeTo
  rw [e, up_fits]
  rfl
set_option maxRecDepth 100000 in
set_option maxHeartbeats 1600000 in
theorem swhole_any (a : Option Addr) (m : List (List Int)) (cap : Nat) (ya : Option Addr) (y : List Int) (yc : Nat) (k : Int) (w : World) (hm : MOk m) (hly : y.length ≤ 1000) (hs : Ms w a m) (hy : Sl w ya y) :
    Calls Try.prog 8 #[.slice a m.length cap, .slice ya y.length yc, .int .i64 k] w (LLPost (wholeV m y k) w) := by
  by_cases hu : upE m y k = 0
  · have hr : readE m y = 0 := by
      unfold upE at hu
      split at hu
      · assumption
      · exact hu
    have hk : 0 ≤ k ∧ k ≤ 10 := by
      unfold upE at hu
      rw [if_pos hr] at hu
      split at hu
      · rename_i h; simpa [rangeB] using h
      · cases hu
    obtain ⟨kk, rfl⟩ := Int.eq_ofNat_of_zero_le hk.1
    rw [whole_ok hr (by omega)]
    exact callsIn_wide.1 (whole_in a m cap ya y yc kk w hm hly hs hy hr (by omega))
  · rw [whole_no hu]
    obtain ⟨V, hV⟩ : ∃ V, w.alloc (.cells #[.slice a m.length cap] 23) = V := ⟨_, rfl⟩
    have hbv : Below w.heap.size w V := by rw [← hV]; exact (Below.refl _ _).alloc (Nat.le_refl _) _
    have HBV := Lib.hid hbv
    obtain ⟨e0, he0⟩ : ∃ e0, upE m y k = e0 := ⟨_, rfl⟩
    have HUP : Hid (Calls Try.prog 20 #[.slice a m.length cap, .slice ya y.length yc, .int .i64 k] V fun e w' => e = .returned (.tuple #[.agg #[.slice none 0 0, .slice none 0 0], .int .i64 e0]) ∧ Below V.heap.size V w') := by
      have h := askUp_any a m cap ya y yc k V hm (by omega) (hs.below hbv) (hy.below hbv)
      rw [if_neg hu, he0] at h
      exact h
    have t0 : V.cell? ⟨w.heap.size, 0, none⟩ = some (.slice a m.length cap) := by rw [← hV]; exact alloc_cell _ _ _ _ _ rfl
    rw [he0] at hu ⊢
    have y1 : (e0 == 0) = false := by simpa using hu
    have y2 : (e0 != 0) = true := by simpa using hu
    clear hbv he0 hu hm hs hy
    go_enter Try.func8, Try.ntmps8
    go_wp2_with (go_at_call 20; refine HUP.out.mono ?_; rintro e w1 ⟨rfl, hb1⟩; have HB1 : Hid (Below w.heap.size w w1) := HBV.out.trans (hb1.mono HBV.out.size); clear hb1)
    go_ret2
    exact ⟨HB1.out.alloc HB1.out.size _, none, 0, rfl, fun i hi => by simp at hi⟩
end Go.Proofs.Ytfnomiingelfaaa
/- Circuit and Spark of the answers: contracts. -/
namespace Go.Proofs.Ytfnomiingelfaaa
open Go.RowKit

set_option maxRecDepth 100000 in
set_option maxHeartbeats 800000 in
theorem rcircuits_no (a : Option Addr) (m : List (List Int)) (cap : Nat) (w : World) (hv : validM m = false) (hm : MOk m) (hs : Ms w a m) :
    Calls Try.prog 59 #[.slice a m.length cap] w fun e w' => e = .returned (.tuple #[.slice none 0 0, .int .i64 1]) ∧ w = w' := by
  have HVA : Hid (Calls Try.prog 34 #[.slice a m.length cap] w fun e w' => e = .returned (.bool false) ∧ w = w') := by rw [← hv]; exact rvalid_any a m cap w hm hs
  clear hv hm hs
  go_enter Try.func59, Try.ntmps59
  go_wp2_with (go_at_call 34; refine HVA.out.mono ?_; rintro e w1 ⟨rfl, rfl⟩)
  go_ret2
  exact ⟨rfl, rfl⟩
set_option maxRecDepth 100000 in
set_option maxHeartbeats 800000 in
theorem rcircuit_any (a : Option Addr) (m : List (List Int)) (cap : Nat) (w : World) (hm : MOk m) (hs : Ms w a m) : Calls Try.prog 37 #[.slice a m.length cap] w (LPost (circuitV m) w) := by
  cases hv : validM m with
  | false =>
    have HC := Lib.hid (rcircuits_no a m cap w hv hm hs)
    have HE : Hid (circuitV m = ([], 1)) := by show _ = _; unfold circuitV; rw [hv]; rfl
    clear hv hm hs
    go_enter Try.func37, Try.ntmps37
    go_wp2_with (go_at_call 59; refine HC.out.mono ?_; rintro e w1 ⟨rfl, rfl⟩)
    go_ret2
    exact LPost.err 1 HE.out (Below.refl _ _)
  | true =>
    have h0 := rcircuits_any a m cap w hv hm hs
    rw [circs_same hv] at h0
    have HC := Lib.hid h0
    have HE : Hid (circuitV m = match circsAll m with | [] => ([], 8) | h :: _ => (h, 0)) := by show _ = _; unfold circuitV; rw [if_pos hv]; cases circsAll m <;> rfl
    obtain ⟨L, hL⟩ : ∃ L, circsAll m = L := ⟨_, rfl⟩
    rw [hL] at HC HE
    clear hv hm hs h0 hL
    cases L with
    | nil =>
      go_enter Try.func37, Try.ntmps37
      go_wp2_with (go_at_call 59; refine HC.out.mono ?_; rintro e w1 ⟨ca, cc, rfl, _, hb⟩; have HB := Lib.hid hb; clear hb)
      go_ret2
      exact LPost.err 8 HE.out HB.out
    | cons h t =>
      obtain ⟨n, hn⟩ : ∃ n, (h :: t).length = n := ⟨_, rfl⟩
      have hn1 : (0 : Int) < (n : Int) := by have : n = t.length + 1 := by rw [← hn]; rfl
                                             omega
      have hn2 : ((n : Int) == 0) = false := by simp; omega
      rw [hn] at HC
      have HN := Lib.hid hn
      clear hn
      go_enter Try.func37, Try.ntmps37
      go_wp2_with fail
      refine HC.out.mono ?_
      rintro e w1 ⟨ca, cc, rfl, hms, hb⟩
      have HB := Lib.hid hb
      obtain ⟨b, o, ah, ch, rfl, hc, hsl⟩ := hms 0 (by rw [HN.out]; omega)
      have hc : w1.cell? ⟨b, o, none⟩ = some (.slice ah h.length ch) := hc
      have hsl : Sl w1 ah h := hsl
      have HSL := Lib.hid hsl
      clear hb hms hsl
      go_wp2
      go_ret2
      exact ⟨HB.out, ah, ch, by rw [HE.out]; rfl, by rw [HE.out]; exact HSL.out⟩
set_option maxRecDepth 100000 in
set_option maxHeartbeats 800000 in
theorem rspark_any (a : Option Addr) (m : List (List Int)) (cap : Nat) (w : World) (hm : MOk m) (hs : Ms w a m) :
    Calls Try.prog 16 #[.slice a m.length cap] w fun e w' => e = .returned (.tuple #[.int .i64 (sparkV m).1, .int .i64 (sparkV m).2]) ∧ Below w.heap.size w w' := by
  have HCI : Hid (Calls Try.prog 37 #[.slice a m.length cap] w (LPost (circuitV m) w)) := rcircuit_any a m cap w hm hs
  have HL := Lib.hid (circuitV_len (m := m))
  have HSP : Hid (sparkV m = if (circuitV m).2 = 0 then (nzTo (circuitV m).1 (circuitV m).1.length, 0) else (0, (circuitV m).2)) := rfl
  clear hm hs
  obtain ⟨⟨h, e0⟩, hr⟩ : ∃ r, circuitV m = r := ⟨_, rfl⟩
  rw [hr] at HCI HL HSP
  dsimp only at HL HSP
  clear hr
  by_cases he : e0 = 0
  · subst he
    rw [if_pos rfl] at HSP
    rw [HSP.out]
    dsimp only
    clear HSP
    go_enter Try.func16, Try.ntmps16
    go_wp2_with (go_at_call 37; refine HCI.out.mono ?_; rintro e w1 ⟨hb1, ah, ch, rfl, hsl⟩; dsimp only at hsl ⊢; have HB := Lib.hid hb1; have HS := Lib.hid hsl; clear hb1 hsl)
    go_loopw [6, 19] (fun v i wr => ∃ k : Nat, k ≤ h.length ∧ i = .int .i64 k ∧ v = .int .i64 (nzTo h k) ∧ wr = w1) (fun _ i _ => h.length - (intOf i).toNat)
    case atStart => exact ⟨0, Nat.zero_le _, rfl, rfl, rfl⟩
    case round =>
      obtain ⟨k, hk, rfl, rfl, rfl⟩ := hrel
      have hl := HL.out
      by_cases hlt : k < h.length
      · obtain ⟨b, o, x, rfl, hc, hx⟩ := HS.out.at hlt
        have hgx := gt_some' hx.out
        have hin := nzTo_in h k
        by_cases h0 : x = 0
        · subst h0
          have HT : Hid (nzTo h (k + 1) = nzTo h k) := by show _ = _; rw [nzTo, if_pos hgx]
          clear hgx
          go_wp2
          go_roundw
          case rel => exact ⟨k + 1, by omega, by go_num, by rw [HT.out], by first | trivial | rfl⟩
          case measure => simp [intOf]; omega
        · have HT : Hid (nzTo h (k + 1) = nzTo h k + 1) := by show _ = _; rw [nzTo, if_neg (by rw [hgx]; exact h0)]
          clear hgx
          have hne : (x != 0) = true := by simpa using h0
          obtain ⟨n, hn⟩ : ∃ n, nzTo h k = n := ⟨_, rfl⟩
          rw [hn] at hin HT ⊢
          clear hn
          go_wp2
          go_roundw
          case rel => exact ⟨k + 1, by omega, by go_num, by rw [HT.out], by first | trivial | rfl⟩
          case measure => simp [intOf]; omega
      · obtain rfl : k = h.length := by omega
        go_wp2
        go_ret2
        exact ⟨rfl, HB.out⟩
  · rw [if_neg he] at HSP
    rw [HSP.out]
    dsimp only
    have hne : (e0 != 0) = true := by simpa using he
    clear HSP he
    go_enter Try.func16, Try.ntmps16
    go_wp2_with (go_at_call 37; refine HCI.out.mono ?_; rintro e w1 ⟨hb1, ah, ch, rfl, hsl⟩; dsimp only; have HB := Lib.hid hb1; clear hb1 hsl)
    go_ret2
    exact ⟨rfl, HB.out⟩
end Go.Proofs.Ytfnomiingelfaaa
/- Light of the statements, whatever it says; Circuits of the answers, whole. -/
namespace Go.Proofs.Ytfnomiingelfaaa
open Go.RowKit

set_option maxRecDepth 100000 in
set_option maxHeartbeats 800000 in
theorem light_any (a : Option Addr) (m : List (List Int)) (cap : Nat) (w : World) (hl : m.length ≤ 9223372036854775807) (hs : Ms w a m) :
    Calls Try.prog 5 #[.slice a m.length cap] w fun e w' => (∃ b, e = .returned (.bool b)) ∧ w = w' := by
  have HS := Lib.hid hs; clear hs
  go_enter Try.func5, Try.ntmps5
  go_wp2
  go_loopw [3, 8] (fun v i wr => ∃ k : Nat, k ≤ m.length ∧ i = .int .i64 k ∧ (∃ n, v = .int .i64 n) ∧ wr = w) (fun _ i _ => m.length - (intOf i).toNat)
  case atStart => exact ⟨0, Nat.zero_le _, rfl, ⟨_, rfl⟩, rfl⟩
  case round =>
    obtain ⟨k, hk, rfl, ⟨n, rfl⟩, rfl⟩ := hrel
    by_cases hlt : k < m.length
    · obtain ⟨b, o, ai, r, ci, rfl, hc, _, hr⟩ := HS.out.at hlt
      clear hr
      obtain ⟨rl, hrl⟩ : ∃ rl, r.length = rl := ⟨_, rfl⟩
      rw [hrl] at hc
      clear hrl
      by_cases h7 : (7 : Int) < rl
      · by_cases h10 : (rl : Int) ≤ 10
        · go_wp2
          go_ret
          exact ⟨⟨_, rfl⟩, rfl⟩
        · go_wp2
          go_roundw
          case rel => exact ⟨k + 1, by omega, by go_num, ⟨_, rfl⟩, by first | trivial | rfl⟩
          case measure => simp [intOf]; omega
      · go_wp2
        go_roundw
        case rel => exact ⟨k + 1, by omega, by go_num, ⟨_, rfl⟩, by first | trivial | rfl⟩
        case measure => simp [intOf]; omega
    · obtain rfl : k = m.length := by omega
      go_wp2
      go_ret
      exact ⟨⟨_, rfl⟩, rfl⟩
theorem rcircuitsV_any (a : Option Addr) (m : List (List Int)) (cap : Nat) (w : World) (hm : MOk m) (hs : Ms w a m) :
    Calls Try.prog 59 #[.slice a m.length cap] w fun e w' => ∃ ca cc, e = .returned (.tuple #[.slice ca (circsV m).1.length cc, .int .i64 (circsV m).2]) ∧ Ms w' ca (circsV m).1 ∧ Below w.heap.size w w' := by
  cases hv : validM m with
  | false =>
    have e0 : circsV m = ([], 1) := by unfold circsV; rw [hv]; rfl
    rw [e0]
    refine (rcircuits_no a m cap w hv hm hs).mono ?_
    rintro e w' ⟨rfl, rfl⟩
    exact ⟨none, 0, rfl, fun k hk => by simp at hk, Below.refl _ _⟩
  | true =>
    have e0 : circsV m = (circsAll m, 0) := by unfold circsV; rw [if_pos hv]
    rw [e0]
    have h := rcircuits_any a m cap w hv hm hs
    rw [circs_same hv] at h
    exact h
theorem circsV_bd (m : List (List Int)) : (circsV m).1.length ≤ 10000 ∧ ∀ r ∈ (circsV m).1, r.length ≤ 10 := by
  cases hv : validM m with
  | false =>
    have e0 : circsV m = ([], 1) := by unfold circsV; rw [hv]; rfl
    rw [e0]; exact ⟨by simp, fun r hr => by cases hr⟩
  | true =>
    have e0 : circsV m = (circsAll m, 0) := by unfold circsV; rw [if_pos hv]
    rw [e0]
    exact ⟨circsAll_small hv, fun r hr => by rw [circsAll_len hr]; exact (validM_of hv).2.2.2.1⟩
end Go.Proofs.Ytfnomiingelfaaa
/- SparseWhole: the walk. -/
namespace Go.Proofs.Ytfnomiingelfaaa.sparseWhole
open Go.RowKit Go.Shelf

theorem bel_tr {w V V' : World} (hb : Below w.heap.size w V) (h : Below V.heap.size V V') : Below w.heap.size w V' := hb.trans (h.mono hb.size)
/-- What is shown: few rows, and short ones. -/
theorem whole_small (m : List (List Int)) (y : List Int) (k : Int) : (wholeV m y k).1.length ≤ 3300 := by
  have hYL : (fitsKV m y k).1.length ≤ 3300 := by
    unfold fitsKV
    split
    · rename_i h1
      split
      · refine Nat.le_trans (List.length_filter_le _ _) ?_
        have := allFits_len (readE_ok h1).1 y zB (min 10 (rankM m) + 1) (by omega)
        show (fitsTo _ _ _ _).length ≤ _
        omega
      · simp
    · simp
  unfold wholeV wholeTo
  rw [List.length_map]
  exact Nat.le_trans (List.length_filter_le _ _) (by rw [List.length_take]; omega)
theorem same_l {R : List (List Int)} {rl : Nat} {V : World} {a b : Option Addr} {ca cb : Nat} (h : Hid (R.length ≤ 3300 ∧ ∀ r ∈ R, r.length ≤ 1000)) (hl : Hid (R.length = rl)) (ha : Hid (Ms V a R)) (hb : Hid (Ms V b R)) : Calls Try.prog 10 #[.slice a rl ca, .slice b rl cb] V fun e w' => e = .returned (.bool true) ∧ Below V.heap.size V w' := by
  have e := hl.out
  subst e
  have hs : R.length ≤ 100000 ∧ ∀ r ∈ R, r.length ≤ 100000 := ⟨by have := h.out.1; omega, fun r hr => by have := h.out.2 r hr; omega⟩
  refine (sameLists_any a R ca b R cb V hs hs ha.out hb.out).mono ?_
  rintro e w' ⟨h1, h2⟩
  exact ⟨by rw [h1]; simp, h2⟩
set_option maxRecDepth 1000000 in
set_option maxHeartbeats 8000000 in
theorem walk (b0 : Option Addr) (m0 : List (List Int)) (c0 : Nat) (b1 : Option Addr) (xs1 : List Int) (c1 : Nat) (m2 : Int) (w : World) (h0 : Ms w b0 m0) (r0 : MOk m0) (h1 : Sl w b1 xs1) (l1 : xs1.length ≤ 9223372036854775807) (_r1 : ∀ x ∈ xs1, I64 x) (_r2 : I64 m2) :
    Calls Try.prog 3 #[.slice b0 m0.length c0, .slice b1 xs1.length c1, .int .i64 m2] w fun e w' => e = .returned (.bool true) ∧ Below w.heap.size w w' := by
  have HLI : Hid (Calls Try.prog 5 #[.slice b0 m0.length c0] w fun e w' => (∃ b, e = .returned (.bool b)) ∧ w = w') := light_any b0 m0 c0 w r0.1 h0
  obtain ⟨wl, hwl⟩ : ∃ wl, (w.alloc (.cells #[.slice b1 xs1.length c1] 24)) = wl := ⟨_, rfl⟩
  have HLN : Hid (Calls Try.prog 6 #[.slice (some ⟨w.heap.size, 0, none⟩) 1 1] wl fun e w' => w' = wl ∧ (e = .returned (.bool true) ∨ e = .returned (.bool false) ∧ Hid (xs1.length ≤ 100))) := by
    have k := long4_any w.heap.size 0 b1 xs1.length c1 1 wl l1 (by rw [← hwl]; exact alloc_cell w _ _ _ _ rfl)
    refine k.mono ?_
    rintro e w' ⟨k1, k2⟩
    refine ⟨k2.symm, ?_⟩
    by_cases h : 100 < xs1.length
    · exact .inl (by rw [k1]; simp [h])
    · exact .inr ⟨by rw [k1]; simp [h], (by omega : xs1.length ≤ 100)⟩
  have HB1 : Hid (Below w.heap.size w wl) := by rw [← hwl]; exact (Below.refl _ _).alloc (Nat.le_refl _) _
  have HW1 : Hid (xs1.length ≤ 100 → ∀ V, Below w.heap.size w V → Calls Try.prog 8 #[.slice b0 m0.length c0, .slice b1 xs1.length c1, .int .i64 m2] V (LLPost (wholeV m0 xs1 m2) V)) := fun hl V hb => swhole_any b0 m0 c0 b1 xs1 c1 m2 V r0 (by omega) (h0.below hb) (h1.below hb)
  have HW2 : Hid (xs1.length ≤ 100 → ∀ V, Below w.heap.size w V → Calls Try.prog 9 #[.slice b0 m0.length c0, .slice b1 xs1.length c1, .int .i64 m2] V (LLPost (wholeV m0 xs1 m2) V)) := fun hl V hb => rwhole_any b0 m0 c0 b1 xs1 c1 m2 V r0 (by omega) (h0.below hb) (h1.below hb)
  have hsm := whole_small m0 xs1 m2
  have hrw : ∀ r ∈ (wholeV m0 xs1 m2).1, r.length ≤ 1000 := fun r hr => by
    unfold wholeV wholeTo at hr
    obtain ⟨q, hq, rfl⟩ := List.mem_map.1 hr
    have hq1 := List.mem_of_mem_take (List.mem_filter.1 hq).1
    have h0 : readE m0 xs1 = 0 := by
      unfold fitsKV at hq1
      split at hq1
      · assumption
      · cases hq1
    unfold picF
    rw [putTo_len]
    have := (validM_of (readE_ok h0).1).2.2.2.1
    omega
  obtain ⟨⟨R, e0⟩, hR⟩ : ∃ r, wholeV m0 xs1 m2 = r := ⟨_, rfl⟩
  rw [hR] at HW1 HW2 hsm hrw
  dsimp only at hsm hrw
  have HSM : Hid (R.length ≤ 3300 ∧ ∀ r ∈ R, r.length ≤ 1000) := ⟨hsm, hrw⟩
  obtain ⟨rl, hrl⟩ : ∃ rl, R.length = rl := ⟨_, rfl⟩
  have HRL := Lib.hid hrl
  have HW1 : Hid (xs1.length ≤ 100 → ∀ V, Below w.heap.size w V → Calls Try.prog 8 #[.slice b0 m0.length c0, .slice b1 xs1.length c1, .int .i64 m2] V fun e w' => ∃ a cap, e = .returned (.tuple #[.slice a rl cap, .int .i64 e0]) ∧ Below V.heap.size V w' ∧ Ms w' a R) := fun hl V hb => by
    refine (HW1.out hl V hb).mono ?_
    rintro e w' ⟨k1, a, c, k2, k3⟩
    exact ⟨a, c, by rw [k2, ← hrl], k1, k3⟩
  have HW2 : Hid (xs1.length ≤ 100 → ∀ V, Below w.heap.size w V → Calls Try.prog 9 #[.slice b0 m0.length c0, .slice b1 xs1.length c1, .int .i64 m2] V fun e w' => ∃ a cap, e = .returned (.tuple #[.slice a rl cap, .int .i64 e0]) ∧ Below V.heap.size V w' ∧ Ms w' a R) := fun hl V hb => by
    refine (HW2.out hl V hb).mono ?_
    rintro e w' ⟨k1, a, c, k2, k3⟩
    exact ⟨a, c, by rw [k2, ← hrl], k1, k3⟩
  clear h0 h1 r0 hsm hrw hR hrl _r1 _r2
  go_enter Try.func3, Try.ntmps3
  go_wp2_with (first
    | (go_at_call 5; refine HLI.out.mono ?_; rintro e w0 ⟨⟨bb, rfl⟩, rfl⟩; cases bb)
    | (go_at_call 6; refine HLN.out.mono ?_; rintro e w1 ⟨rfl, rfl | ⟨rfl, HQ⟩⟩)
    | (go_at_call 7; refine (awake4_any _).mono ?_; rintro e w20 ⟨rfl, hb20⟩)
    | (go_at_call 8; refine (HW1.out HQ.out _ HB1.out).mono ?_; rintro e w2 ⟨xa, xc, rfl, hb2, hm2⟩; have HB2 : Hid (Below w.heap.size w w2) := bel_tr HB1.out hb2; have HM2 := Lib.hid hm2; clear hb2 hm2)
    | (go_at_call 9; refine (HW2.out HQ.out _ HB2.out).mono ?_; rintro e w3 ⟨ya, yc, rfl, hb3, hm3⟩; have HB3 : Hid (Below w.heap.size w w3) := bel_tr HB2.out hb3; have HM3 := Lib.hid hm3; have HM2 : Hid (Ms w3 xa R) := HM2.out.below hb3; clear hb3 hm3)
    | (go_at_call 10; refine (same_l HSM HRL HM2 HM3).mono ?_; rintro e w4 ⟨rfl, hb4⟩; have HB4 : Hid (Below w.heap.size w w4) := bel_tr HB3.out hb4; clear hb4))
  all_goals go_ret
  all_goals first
    | exact ⟨rfl, bel_tr HB4.out hb20⟩
    | exact ⟨rfl, bel_tr HB1.out hb20⟩
    | exact ⟨rfl, hb20⟩
end Go.Proofs.Ytfnomiingelfaaa.sparseWhole
