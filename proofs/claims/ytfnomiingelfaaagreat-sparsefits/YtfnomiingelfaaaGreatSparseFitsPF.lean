/- Parts of the proof of SparseFits: plain words, walks and contracts, each under its own heading. -/
import Derived.Test.YtfnomiingelfaaaGreatSparseFitsPE
import Derived.Test.YtfnomiingelfaaaGreatSparseFitsPD
import Derived.Laws.AppendOwnNone
import Derived.Test.YtfnomiingelfaaaGreatShelf
import Derived.Test.YtfnomiingelfaaaGreatSparseFitsPA
import Derived.Test.YtfnomiingelfaaaGreatSparseFitsPB
import Derived.Deep.RegionLaw
import Derived.Deep.QuietTactic
import Derived.BigQuiet
import Derived.Laws.Externs
import Derived.IntWalk
/- Sparsest, Only, Size, Count of layer 4 and of its reference: contracts, given one of sparsest. -/
namespace Go.Proofs.YtfnomiingelfaaaGreat
open Go.RowKit Go.Shelf
attribute [local go_sem] Oper.semAt_some

theorem sl_set_slice {W : World} {a : Option Addr} {xs : List Int} {p : Addr} {b : Option Addr} {n c : Nat} (h : Sl W a xs) (hc : W.cell? p = some (.slice b n c)) (u : Value) : Sl (W.setCell p u) a xs := fun k hk => by
  obtain ⟨g, off, e, h1⟩ := h k hk
  refine ⟨g, off, e, (World.cell?_setCell_other _ _ _ _ ?_).trans h1⟩
  intro q
  first
    | (rw [q] at h1; rw [h1] at hc; cases hc)
    | (rw [← q] at h1; rw [h1] at hc; cases hc)
theorem rl_set_slice {W : World} {a : Option Addr} {xs : List (Int × Int)} {p : Addr} {b : Option Addr} {n c : Nat} (h : Rl W a xs) (hc : W.cell? p = some (.slice b n c)) (u : Value) : Rl (W.setCell p u) a xs := fun j x hj => by
  obtain ⟨g, e, h1, h2⟩ := h j x hj
  refine ⟨g, e, (World.cell?_setCell_other _ _ _ _ ?_).trans h1, (World.cell?_setCell_other _ _ _ _ ?_).trans h2⟩
  · intro q
    first
      | (rw [q] at h1; rw [h1] at hc; cases hc)
      | (rw [← q] at h1; rw [h1] at hc; cases hc)
  · intro q
    first
      | (rw [q] at h2; rw [h2] at hc; cases hc)
      | (rw [← q] at h2; rw [h2] at hc; cases hc)
/-- What a function that tells one fit answers. -/
def TopPost (t : List Int × List (Int × Int)) (n : Int) (w : World) (e : Ending) (w' : World) : Prop := Below w.heap.size w w' ∧ ∃ qa qc va vc, e = .returned (.tuple #[.agg #[.slice qa t.1.length qc, .slice va t.2.length vc], .int .i64 n]) ∧ Sl w' qa t.1 ∧ Rl w' va t.2
def topV (r : List (List Int × List (Int × Int)) × Int) : List Int × List (Int × Int) := r.1.headD ([], [])
def onlyV (r : List (List Int × List (Int × Int)) × Int) : (List Int × List (Int × Int)) × Int := if r.1.length ≤ 1 then (topV r, r.2) else (([], []), 11)
/-- A row of fits and a code that fit together. -/
def RowE (r : List (List Int × List (Int × Int)) × Int) : Prop := (r.2 = 0 ∧ r.1 ≠ []) ∨ (r.2 ≠ 0 ∧ r.1 = [])
theorem topPost_put {W W2 : World} {t : List Int × List (Int × Int)} {n : Int} {w V : World} {qa va : Option Addr} {qc vc : Nat} {ty : TypeId} (hV : w.alloc (.cells #[.slice none 0 0, .slice none 0 0] ty) = V) (hW : Below V.heap.size V W) (hs : Sl W qa t.1) (hr : Rl W va t.2) (e2 : W2 = (W.setCell ⟨w.heap.size, 0, none⟩ (.slice qa t.1.length qc)).setCell ⟨w.heap.size, 1, none⟩ (.slice va t.2.length vc)) :
    TopPost t n w (.returned (.tuple #[.agg #[.slice qa t.1.length qc, .slice va t.2.length vc], .int .i64 n])) W2 := by
  subst e2
  obtain ⟨t0, t1, t2, t3⟩ := box2 hV W hW
  have hb0 : Below w.heap.size w V := by rw [← hV]; exact (Below.refl _ _).alloc (Nat.le_refl _) _
  have t1' : (W.setCell ⟨w.heap.size, 0, none⟩ (.slice qa t.1.length qc)).cell? ⟨w.heap.size, 1, none⟩ = some (.slice none 0 0) := (World.cell?_setCell_other _ _ _ _ (by simp)).trans t1
  have hb1 : Below w.heap.size w W := hb0.trans (hW.mono hb0.size)
  exact ⟨(hb1.setCell (p := ⟨w.heap.size, 0, none⟩) (Nat.le_refl _) _).setCell (p := ⟨w.heap.size, 1, none⟩) (Nat.le_refl _) _, qa, qc, va, vc, rfl, sl_set_slice (sl_set_slice hs t0 _) t1' _, rl_set_slice (rl_set_slice hr t0 _) t1' _⟩
set_option maxRecDepth 100000 in
set_option maxHeartbeats 800000 in
theorem sstop_any (r : List (List Int × List (Int × Int)) × Int) (hr : RowE r) (a : Option Addr) (n c : Nat) (ya : Option Addr) (yn yc : Nat) (w : World) (hsp : ∀ W, Below w.heap.size w W → Calls Tryz.prog 53 #[.slice a n c, .slice ya yn yc] W (FsPost r W)) :
    Calls Tryz.prog 24 #[.slice a n c, .slice ya yn yc] w (TopPost (topV r) r.2 w) := by
  obtain ⟨V, hV⟩ : ∃ V, w.alloc (.cells #[.slice none 0 0, .slice none 0 0] 27) = V := ⟨_, rfl⟩
  have HVV := Lib.hid hV
  have HVW := Lib.hid (box2 hV)
  have HBV : Hid (Below w.heap.size w V) := by rw [← hV]; exact (Below.refl _ _).alloc (Nat.le_refl _) _
  have HSP := Lib.hid (hsp V HBV.out)
  clear hsp
  obtain ⟨l, e0⟩ := r
  rcases hr with ⟨h0, h1⟩ | ⟨h0, h1⟩
  · simp only at h0 h1
    subst h0
    cases l with
    | nil => exact absurd rfl h1
    | cons p l =>
      clear h1
      go_enter Tryz.func24, Tryz.ntmps24
      go_wp2_with (go_at_call 53; refine HSP.out.mono ?_; rintro e w2 ⟨hb, la, lc, rfl, hf⟩; obtain ⟨g, qa, qc, va, vc, rfl, z1, z2, z3, z4⟩ := hf 0 p rfl; simp only [Nat.zero_mul, Nat.zero_add] at z1 z2; obtain ⟨u0, u1, u2, u3⟩ := HVW.out w2 hb; have HB := Lib.hid hb; have HS3 := Lib.hid z3; have HS4 := Lib.hid z4; clear hb hf z3 z4)
      refine bodyPost_ret (v := .tuple #[.agg #[.slice qa p.1.length qc, .slice va p.2.length vc], .int .i64 0]) ?_ rfl (topPost_put (t := p) HVV.out HB.out HS3.out HS4.out rfl)
      rw [results_cell_tmp rfl]; go_simp
  · simp only at h0 h1
    subst h1
    have y1 : (e0 == 0) = false := by simpa using h0
    have y2 : (e0 != 0) = true := by simpa using h0
    clear h0
    go_enter Tryz.func24, Tryz.ntmps24
    go_wp2_with (go_at_call 53; refine HSP.out.mono ?_; rintro e w2 ⟨hb, la, lc, rfl, hf⟩; obtain ⟨u0, u1, u2, u3⟩ := HVW.out w2 hb; have HB := Lib.hid hb; clear hb hf)
    refine bodyPost_ret (v := .tuple #[.agg #[.slice none 0 0, .slice none 0 0], .int .i64 e0]) ?_ rfl (topPost_put (t := ([], [])) HVV.out HB.out (fun k hk => by simp at hk) (fun k p hk => by simp at hk) rfl)
    rw [results_cell_tmp rfl]; go_simp
end Go.Proofs.YtfnomiingelfaaaGreat
/- SameRatios of equal lists, long of two lists: contracts. -/
namespace Go.Proofs.YtfnomiingelfaaaGreat
open Go.RowKit

set_option maxRecDepth 1000000 in
set_option maxHeartbeats 1600000 in
theorem sameRat_any (a : Option Addr) (ps : List (Int × Int)) (ca : Nat) (b : Option Addr) (cb : Nat) (w : World) (hl : ps.length ≤ 1000) (ha : Rl w a ps) (hb : Rl w b ps) :
    Calls Tryz.prog 22 #[.slice a ps.length ca, .slice b ps.length cb] w fun e w' => e = .returned (.bool true) ∧ ∃ n, w' = w.drewN n := by
  have HA := Lib.hid ha; clear ha
  have HB := Lib.hid hb; clear hb
  obtain ⟨n, hn⟩ : ∃ n, ps.length = n := ⟨_, rfl⟩
  have HN := Lib.hid hn
  rw [hn] at hl ⊢
  clear hn
  go_enter Tryz.func22, Tryz.ntmps22
  go_wp2
  go_loopw [13] (fun i wr => ∃ k nd : Nat, k ≤ n ∧ i = .int .i64 k ∧ wr = w.drewN nd) (fun i _ => n - (intOf i).toNat)
  case atStart => exact ⟨0, 0, Nat.zero_le _, rfl, rfl⟩
  case round =>
    obtain ⟨k, nd, hk, rfl, rfl⟩ := hrel
    by_cases hlt : k < n
    · obtain ⟨p, hp⟩ : ∃ p, ps[k]? = some p := ⟨ps[k]'(by rw [HN.out]; exact hlt), by simp [HN.out, hlt]⟩
      obtain ⟨b1, rfl, a1, a2⟩ := HA.out k p hp
      obtain ⟨b2, rfl, c1, c2⟩ := HB.out k p hp
      obtain ⟨p1, p2⟩ := p
      dsimp only at a1 a2 c1 c2
      have hk0 : (k : Int) < (n : Int) := by omega
      clear hp
      go_wp2
      go_quiet (fail)
      all_goals
        go_wp2
        go_roundw
        case rel => exact ⟨k + 1, _, by omega, by go_num, by first | rfl | exact World.drewN_drewN _ _ _⟩
        case measure => simp [intOf]; omega
    · obtain rfl : k = n := by omega
      go_wp2
      go_ret
      exact ⟨rfl, _, rfl⟩
end Go.Proofs.YtfnomiingelfaaaGreat
/- SameFit of equal fits; Sure: contracts. -/
namespace Go.Proofs.YtfnomiingelfaaaGreat
open Go.RowKit Go.Shelf

set_option maxRecDepth 100000 in
set_option maxHeartbeats 800000 in
theorem sameFit_any (qa : Option Addr) (px : List Int) (qc : Nat) (va : Option Addr) (vs : List (Int × Int)) (vc : Nat) (qa2 : Option Addr) (qc2 : Nat) (va2 : Option Addr) (vc2 : Nat) (w : World) (hl : px.length ≤ 1000) (hl2 : vs.length ≤ 1000) (s1 : Sl w qa px) (s2 : Sl w qa2 px) (r1 : Rl w va vs) (r2 : Rl w va2 vs) :
    Calls Tryz.prog 25 #[.agg #[.slice qa px.length qc, .slice va vs.length vc], .agg #[.slice qa2 px.length qc2, .slice va2 vs.length vc2]] w fun e w' => e = .returned (.bool true) ∧ Below w.heap.size w w' := by
  obtain ⟨V1, hV1⟩ : ∃ V1, w.alloc (.cells #[.slice qa px.length qc, .slice va vs.length vc] 27) = V1 := ⟨_, rfl⟩
  obtain ⟨V, hV⟩ : ∃ V, V1.alloc (.cells #[.slice qa2 px.length qc2, .slice va2 vs.length vc2] 27) = V := ⟨_, rfl⟩
  have hb1 : Below w.heap.size w V1 := by rw [← hV1]; exact (Below.refl _ _).alloc (Nat.le_refl _) _
  have hb2 : Below V1.heap.size V1 V := by rw [← hV]; exact (Below.refl _ _).alloc (Nat.le_refl _) _
  have hbv : Below w.heap.size w V := hb1.trans (hb2.mono hb1.size)
  have HBV := Lib.hid hbv
  have HQ : Hid (∀ n, (V.drewN n).cell? ⟨w.heap.size, 0, none⟩ = some (.slice qa px.length qc) ∧ (V.drewN n).cell? ⟨w.heap.size, 1, none⟩ = some (.slice va vs.length vc)) := fun n => by
    obtain ⟨q0, q1, _, _⟩ := box2 hV1 (V.drewN n) (below_drewN hb2 n)
    exact ⟨q0, q1⟩
  have HF : Hid (∀ n, (V.drewN n).cell? ⟨V1.heap.size, 0, none⟩ = some (.slice qa2 px.length qc2) ∧ (V.drewN n).cell? ⟨V1.heap.size, 1, none⟩ = some (.slice va2 vs.length vc2)) := fun n => by
    obtain ⟨q0, q1, _, _⟩ := box2 hV (V.drewN n) (below_drewN (Below.refl _ _) n)
    exact ⟨q0, q1⟩
  obtain ⟨f0, f1, _, _⟩ := box2 hV V (Below.refl _ _)
  obtain ⟨g0, g1, _, _⟩ := box2 hV1 V hb2
  have HSI : Hid (Calls Tryz.prog 54 #[.slice qa px.length qc, .slice qa2 px.length qc2] V fun e w' => e = .returned (.bool true) ∧ ∃ n, w' = V.drewN n) := by
    refine (sameInts_any qa px qc qa2 px qc2 V (by omega) (by omega) (s1.below hbv) (s2.below hbv)).mono ?_
    rintro e w' ⟨rfl, h⟩
    exact ⟨by simp, h⟩
  have HSR : Hid (∀ n, Calls Tryz.prog 22 #[.slice va vs.length vc, .slice va2 vs.length vc2] (V.drewN n) fun e w' => e = .returned (.bool true) ∧ ∃ k, w' = (V.drewN n).drewN k) := fun n => sameRat_any va vs vc va2 vc2 (V.drewN n) hl2 ((r1.below hbv).below (below_drewN (Below.refl _ _) n)) ((r2.below hbv).below (below_drewN (Below.refl _ _) n))
  obtain ⟨pl, hpl⟩ : ∃ pl, px.length = pl := ⟨_, rfl⟩
  obtain ⟨vl, hvl⟩ : ∃ vl, vs.length = vl := ⟨_, rfl⟩
  rw [hpl] at HQ HF f0 g0 HSI ⊢
  rw [hvl] at HQ HF f1 g1 HSR hV1 hV ⊢
  rw [hpl] at hV1 hV
  clear s1 s2 r1 r2 hb1 hb2 hbv hpl hvl
  go_enter Tryz.func25, Tryz.ntmps25
  go_wp2_with (first
    | (go_at_call 54; refine HSI.out.mono ?_; rintro e w1 ⟨rfl, n1, rfl⟩; obtain ⟨f0, f1⟩ := HF.out n1; obtain ⟨g0, g1⟩ := HQ.out n1)
    | (go_at_call 22; refine (HSR.out _).mono ?_; rintro e w2 ⟨rfl, n2, rfl⟩))
  go_ret
  exact ⟨rfl, below_drewN HBV.out _⟩
/-- Sure of the document's mask. -/
theorem sure_two (a : Option Addr) (w : World) (hs : Ms w a twoM) : Calls Tryz.prog 16 #[.slice a twoM.length 2] w fun e w' => e = .returned (.tuple #[.int .i64 1, .int .i64 0]) ∧ Below w.heap.size w w' := by
  have HSP : Hid (Calls Tryz.prog 41 #[.slice a twoM.length 2] w fun e w' => e = .returned (.tuple #[.int .i64 3, .int .i64 0]) ∧ Below w.heap.size w w') := by
    have := spark_any a twoM 2 w (mok_of two_valid) hs
    rw [two_spark] at this
    exact this
  clear hs
  go_enter Tryz.func16, Tryz.ntmps16
  go_wp2_with (go_at_call 41; refine HSP.out.mono ?_; rintro e w2 ⟨rfl, hb⟩; have HB := Lib.hid hb; clear hb)
  go_ret2
  exact ⟨rfl, HB.out⟩
end Go.Proofs.YtfnomiingelfaaaGreat
/- The sanity check of layer 4: the document's example; long of one list. Written by mk_spawake.py. -/
namespace Go.Proofs.YtfnomiingelfaaaGreat
open Go.RowKit Go.Shelf

theorem two_sparsest : sparsestV twoM [1, 1] = ([([1], [(1, 1)])], 0) := by decide +kernel
theorem two4_any (w : World) : Calls Tryz.prog 27 #[] w fun e w' => ∃ a, e = .returned (.slice a twoM.length 2) ∧ Ms w' a twoM ∧ Below w.heap.size w w' := by
  go_enter Tryz.func27, Tryz.ntmps27
  go_wp2
  go_ret
  have e1 : (w.alloc (.cells #[.int .i64 1, .int .i64 1, .int .i64 0] 3)).heap.size = w.heap.size + 1 := World.size_alloc _ _
  have e2 : ((w.alloc (.cells #[.int .i64 1, .int .i64 1, .int .i64 0] 3)).alloc (.cells #[.int .i64 0, .int .i64 1, .int .i64 1] 3)).heap.size = w.heap.size + 2 := by rw [World.size_alloc, e1]
  have s1 : Sl (w.alloc (.cells #[.int .i64 1, .int .i64 1, .int .i64 0] 3)) (some ⟨w.heap.size, 0, none⟩) [1, 1, 0] := sl_new w [1, 1, 0] _
  have s2 : Sl ((w.alloc (.cells #[.int .i64 1, .int .i64 1, .int .i64 0] 3)).alloc (.cells #[.int .i64 0, .int .i64 1, .int .i64 1] 3)) (some ⟨w.heap.size + 1, 0, none⟩) [0, 1, 1] := by
    rw [← e1]; exact sl_new _ [0, 1, 1] _
  refine ⟨_, rfl, ?_, (((Below.refl _ _).alloc (Nat.le_refl _) _).alloc (by omega) _).alloc (by omega) _⟩
  intro i hi
  have hc : ∀ k v, (#[Value.slice (some ⟨w.heap.size, 0, none⟩) 3 3, Value.slice (some ⟨w.heap.size + 1, 0, none⟩) 3 3] : Array Value)[k]? = some v → (((w.alloc (.cells #[.int .i64 1, .int .i64 1, .int .i64 0] 3)).alloc (.cells #[.int .i64 0, .int .i64 1, .int .i64 1] 3)).alloc (.cells #[.slice (some ⟨w.heap.size, 0, none⟩) 3 3, .slice (some ⟨w.heap.size + 1, 0, none⟩) 3 3] 24)).cell? ⟨w.heap.size + 1 + 1, k, none⟩ = some v := by
    intro k v h
    rw [← show _ = w.heap.size + 1 + 1 from e2]
    exact alloc_cell _ _ _ _ _ h
  match i, hi with
  | 0, _ => exact ⟨_, 0, _, 3, rfl, hc 0 _ rfl, (s1.below ((Below.refl _ _).alloc (Nat.le_refl _) _)).below ((Below.refl _ _).alloc (Nat.le_refl _) _)⟩
  | 1, _ => exact ⟨_, 0, _, 3, rfl, hc 1 _ rfl, s2.below ((Below.refl _ _).alloc (Nat.le_refl _) _)⟩
theorem long4_any (b o : Nat) (ai : Option Addr) (ni ci cap : Nat) (w : World) (hn : ni ≤ 9223372036854775807) (hc : w.cell? ⟨b, o, none⟩ = some (.slice ai ni ci)) :
    Calls Tryz.prog 7 #[.slice (some ⟨b, o, none⟩) 1 cap] w fun e w' => e = .returned (.bool (decide (100 < ni))) ∧ w = w' := by
  go_enter Tryz.func7, Tryz.ntmps7
  go_wp2
  go_loopw [7] (fun i wr => ∃ k : Nat, k ≤ 1 ∧ i = .int .i64 k ∧ wr = w ∧ (k = 1 → ni ≤ 100)) (fun i _ => 1 - (intOf i).toNat)
  case atStart => exact ⟨0, by omega, rfl, rfl, fun h => by omega⟩
  case round =>
    obtain ⟨k, hk, rfl, rfl, hno⟩ := hrel
    by_cases hlt : k < 1
    · obtain rfl : k = 0 := by omega
      have hc' : wr.cell? ⟨b, o + 0, none⟩ = some (.slice ai ni ci) := hc
      by_cases h : ni > 100
      · have y : decide (100 < ni) = true := by simpa using h
        go_wp2
        go_ret
        exact ⟨ret_bool (by first | rfl | rw [y] | simp [y]), rfl⟩
      · go_wp2
        go_roundw
        case rel => exact ⟨1, by omega, by go_num, by first | trivial | rfl, fun _ => by omega⟩
        case measure => simp [intOf]
    · obtain rfl : k = 1 := by omega
      have hle := hno rfl
      have y : decide (100 < ni) = false := by simpa using hle
      go_wp2
      go_ret
      exact ⟨ret_bool (by first | rfl | rw [y] | simp [y]), rfl⟩

theorem rl_new1 (w : World) (a b : Int) (t : TypeId) : Rl (w.alloc (.cells #[.int .i64 a, .int .i64 b] t)) (some ⟨w.heap.size, 0, none⟩) [(a, b)] := by
  intro j p hj
  match j, hj with
  | 0, hj =>
    obtain rfl : (a, b) = p := by simpa using hj
    exact ⟨_, rfl, alloc_cell _ _ _ _ _ rfl, alloc_cell _ _ _ _ _ rfl⟩
  | j + 1, hj => simp at hj
set_option maxRecDepth 100000 in
set_option maxHeartbeats 1600000 in
theorem awake4_any (w : World) : Calls Tryz.prog 8 #[] w fun e w' => e = .returned (.bool true) ∧ Below w.heap.size w w' := by
  have mk2 : MOk twoM := mok_of two_valid
  have HTO : Hid (∀ (w1 : World) (a : Option Addr), Ms w1 a twoM → Calls Tryz.prog 24 #[.slice a twoM.length 2, .slice (some ⟨w1.heap.size, 0, none⟩) 2 2] (w1.alloc (.cells #[.int .i64 1, .int .i64 1] 3)) fun e w' => Below w1.heap.size w1 w' ∧ ∃ qa qc va vc, e = .returned (.tuple #[.agg #[.slice qa 1 qc, .slice va 1 vc], .int .i64 0]) ∧ Sl w' qa [1] ∧ Rl w' va [(1, 1)]) := fun w1 a h => by
    have hs : Sl (w1.alloc (.cells #[.int .i64 1, .int .i64 1] 3)) (some ⟨w1.heap.size, 0, none⟩) [1, 1] := sl_new w1 [1, 1] _
    have hb : Below w1.heap.size w1 (w1.alloc (.cells #[.int .i64 1, .int .i64 1] 3)) := (Below.refl _ _).alloc (Nat.le_refl _) _
    have hr : RowE (sparsestV twoM [1, 1]) := by rw [two_sparsest]; exact .inl ⟨rfl, by simp⟩
    have k := sstop_any (sparsestV twoM [1, 1]) hr a twoM.length 2 (some ⟨w1.heap.size, 0, none⟩) 2 2 (w1.alloc (.cells #[.int .i64 1, .int .i64 1] 3)) (fun W hW => sparsest_any a twoM 2 _ [1, 1] 2 W mk2 (by decide) ((h.below hb).below hW) (hs.below hW))
    rw [two_sparsest] at k
    refine k.mono ?_
    rintro e w' ⟨h1, qa, qc, va, vc, he, h2, h3⟩
    exact ⟨hb.trans (h1.mono hb.size), qa, qc, va, vc, he, h2, h3⟩
  have HSU : Hid (∀ (w1 : World) (a : Option Addr), Ms w1 a twoM → Calls Tryz.prog 16 #[.slice a twoM.length 2] w1 fun e w' => e = .returned (.tuple #[.int .i64 1, .int .i64 0]) ∧ Below w1.heap.size w1 w') := fun w1 a h => sure_two a w1 h
  have HSF : Hid (∀ (w5 : World) (qa : Option Addr) (qc : Nat) (va : Option Addr) (vc : Nat), Sl w5 qa [1] → Rl w5 va [(1, 1)] → Calls Tryz.prog 25 #[.agg #[.slice qa 1 qc, .slice va 1 vc], .agg #[.slice (some ⟨w5.heap.size, 0, none⟩) 1 1, .slice (some ⟨w5.heap.size + 1, 0, none⟩) 1 1]] ((w5.alloc (.cells #[.int .i64 1] 3)).alloc (.cells #[.int .i64 1, .int .i64 1] 52)) fun e w' => e = .returned (.bool true) ∧ Below w5.heap.size w5 w') := fun w5 qa qc va vc hq hv => by
    have e1 : (w5.alloc (.cells #[.int .i64 1] 3)).heap.size = w5.heap.size + 1 := World.size_alloc _ _
    have s1 : Sl (w5.alloc (.cells #[.int .i64 1] 3)) (some ⟨w5.heap.size, 0, none⟩) [1] := sl_new w5 [1] _
    have b1 : Below w5.heap.size w5 (w5.alloc (.cells #[.int .i64 1] 3)) := (Below.refl _ _).alloc (Nat.le_refl _) _
    have b2 : Below (w5.alloc (.cells #[.int .i64 1] 3)).heap.size (w5.alloc (.cells #[.int .i64 1] 3)) ((w5.alloc (.cells #[.int .i64 1] 3)).alloc (.cells #[.int .i64 1, .int .i64 1] 52)) := (Below.refl _ _).alloc (Nat.le_refl _) _
    have r1 : Rl ((w5.alloc (.cells #[.int .i64 1] 3)).alloc (.cells #[.int .i64 1, .int .i64 1] 52)) (some ⟨w5.heap.size + 1, 0, none⟩) [(1, 1)] := by rw [← e1]; exact rl_new1 _ 1 1 _
    have b3 := b1.trans (b2.mono b1.size)
    have k := sameFit_any qa [1] qc va [(1, 1)] vc (some ⟨w5.heap.size, 0, none⟩) 1 (some ⟨w5.heap.size + 1, 0, none⟩) 1 _ (by decide) (by decide) (hq.below b3) (s1.below b2) (hv.below b3) r1
    exact k.mono fun e w' ⟨k1, k2⟩ => ⟨k1, b3.trans (k2.mono b3.size)⟩
  clear mk2
  go_enter Tryz.func8, Tryz.ntmps8
  go_wp2_with (first
    | (go_at_call 24; refine (HTO.out _ _ HM.out).mono ?_; rintro e w3 ⟨hb3, qa, qc, va, vc, rfl, hq, hv⟩
       obtain ⟨wb, hwb⟩ : ∃ wb, w3.alloc (.cells #[.slice qa 1 qc, .slice va 1 vc] 27) = wb := ⟨_, rfl⟩
       have HBX := Lib.hid (box2 hwb)
       have HSB : Hid (w3.heap.size < wb.heap.size) := by show _ < _; rw [← hwb, World.size_alloc]; omega
       have hbb : Below w3.heap.size w3 wb := by rw [← hwb]; exact (Below.refl _ _).alloc (Nat.le_refl _) _
       have HWB : Hid (Below w.heap.size w wb) := (HB.out.trans (hb3.mono HB.out.size)).trans (hbb.mono (Nat.le_trans HB.out.size hb3.size))
       have HQ : Hid (Sl wb qa [1]) := hq.below hbb; have HV : Hid (Rl wb va [(1, 1)]) := hv.below hbb; clear hb3 hq hv hbb)
    | (go_at_call 27; refine (two4_any _).mono ?_; rintro e w4 ⟨a4, rfl, hm4, hb4⟩; have HM4 := Lib.hid hm4; have HB4 : Hid (Below wb.heap.size wb w4) := hb4; clear hm4 hb4)
    | (go_at_call 27; refine (two4_any _).mono ?_; rintro e w1 ⟨a1, rfl, hm1, hb1⟩; have HM := Lib.hid hm1; have HB := Lib.hid hb1; clear hm1 hb1)
    | (go_at_call 16; refine (HSU.out _ _ HM4.out).mono ?_; rintro e w5 ⟨rfl, hb5⟩; have HB5 : Hid (Below wb.heap.size wb w5) := HB4.out.trans (hb5.mono HB4.out.size); obtain ⟨x0, x1, _, _⟩ := HBX.out w5 HB5.out; clear hb5)
    | (go_at_call 25; refine (HSF.out w5 qa qc va vc (HQ.out.below HB5.out) (HV.out.below HB5.out)).mono ?_; rintro e w6 ⟨rfl, hb6⟩; have HB6 := Lib.hid hb6; clear hb6))
  go_ret
  exact ⟨rfl, HWB.out.trans ((HB5.out.trans (HB6.out.mono HB5.out.size)).mono HWB.out.size)⟩
end Go.Proofs.YtfnomiingelfaaaGreat
/- fit of the reference of layer 4: a contract. -/
namespace Go.Proofs.YtfnomiingelfaaaGreat
open Go.RowKit Go.Shelf

/-- A list of ints, with or without memory, appended to an own slice without anything. -/
theorem wpList_catN {ops : Array Oper} {rest : List Oper} {o : Oper} {a : Act} {Q : Exit → Act → World → Prop} (hgd : o.guard = none) (s x : Operand)
    (ho : o.op = .call { callee := .builtin .append, args := #[s, x], argTypes := #[24, 24] }) (base : Nat) (v : Value) (pa : Option Addr) (ys : List Int) (c : Nat) (V : World)
    (hs : a.eval s = v) (hx : a.eval x = .slice pa ys.length c) (hz : ys = [] → pa = none ∧ c = 0) (hown : OwnI V base v []) (hsl : Sl V pa ys) (hl : ys.length ≤ 100000) (hbase : base ≤ V.heap.size)
    (h : ∀ v' w', OwnI w' base v' ys → Below base V w' → wpList Tryz.prog ops Q rest (a.put o.dst v') w') : wpList Tryz.prog ops Q (o :: rest) a V := by
  cases ys with
  | nil =>
    obtain ⟨rfl, rfl⟩ := hz rfl
    obtain ⟨i0, hi, hz0, hz1, hz2⟩ := info_parts Tryz.infoInt
    exact wpList_append_own_none hgd s x 24 ho base 3 i0 1 Tryz.underlying24 hi v 0 [] hs hown hx (h v V hown (Below.refl _ _))
  | cons y ys =>
    obtain ⟨b, off, rfl, _⟩ := hsl 0 (by simp)
    refine wpList_catS hgd s x ho base v [] b off (y :: ys) c V hs hx hown hsl (by simpa using hl) hbase ?_
    intro v' w' h1 h2
    exact h v' w' (by simpa using h1) h2
/-- Where a slice of the call's own starts. -/
def Zero (a : Option Addr) : Prop := a = none ∨ ∃ b, a = some ⟨b, 0, none⟩
theorem OwnI.zero {w : World} {base : Nat} {a : Option Addr} {n c : Nat} {xs : List Int} (h : OwnI w base (.slice a n c) xs) : Zero a := by
  obtain ⟨_, ⟨e, _⟩ | ⟨g, cap, cur, e, _⟩⟩ := h
  · exact .inl (by injection e)
  · exact .inr ⟨g, by injection e⟩
/-- What fit of the reference answers. -/
def RFitPost (o : Option (List (Int × Int))) (px : List Int) (w : World) (e : Ending) (w' : World) : Prop :=
  Below w.heap.size w w' ∧ ((o = none ∧ e = .returned (.tuple #[.agg #[.slice none 0 0, .slice none 0 0], .bool false])) ∨ ∃ vs qa qc va vc, o = some vs ∧ e = .returned (.tuple #[.agg #[.slice qa px.length qc, .slice va vs.length vc], .bool true]) ∧ Sl w' qa px ∧ Rl w' va vs ∧ Zero qa)
set_option maxRecDepth 1000000 in
set_option maxHeartbeats 1600000 in
theorem rfit_any (ma : Option Addr) (m : List (List Int)) (mc : Nat) (ya : Option Addr) (y : List Int) (yc : Nat) (pa : Option Addr) (px : List Int) (pc : Nat) (w : World) (hm : MOk m) (hl : px.length ≤ 1000) (hly : y.length ≤ 1000) (hs : Ms w ma m) (hp : Sl w pa px) (hz : px = [] → pa = none ∧ pc = 0) (hy : Sl w ya y) :
    Calls Tryz.prog 33 #[.slice ma m.length mc, .slice ya y.length yc, .slice pa px.length pc] w (RFitPost (fitO zB m y px) px w) := by
  obtain ⟨V, hV⟩ : ∃ V, w.alloc (.cells #[.slice none 0 0, .slice none 0 0] 27) = V := ⟨_, rfl⟩
  have HVV := Lib.hid hV
  have HVW := Lib.hid (box2 hV)
  have hbv : Below w.heap.size w V := by rw [← hV]; exact (Below.refl _ _).alloc (Nat.le_refl _) _
  have HBV := Lib.hid hbv
  obtain ⟨t0, t1, t2, t3⟩ := HVW.out V (Below.refl _ _)
  have HSO : Hid (Calls Tryz.prog 65 #[.slice ma m.length mc, .slice pa px.length pc, .slice ya y.length yc] V (RLPost (solveV m px y) V)) := rsolve_any ma m mc pa px pc ya y yc V hm hl hly (hs.below hbv) (hp.below hbv) (hy.below hbv)
  have HFO : Hid (fitO zB m y px = if (solveV m px y).2 = 0 then (if (solveV m px y).1.any zB = true then none else some (solveV m px y).1) else none) := rfl
  have hvl := solveV_len m px y
  obtain ⟨⟨vs, e0⟩, hsv⟩ : ∃ r, solveV m px y = r := ⟨_, rfl⟩
  rw [hsv] at HSO HFO hvl
  dsimp only at hvl HFO
  have HP := Lib.hid hp
  have HZ := Lib.hid hz
  obtain ⟨pl, hpl⟩ : ∃ pl, px.length = pl := ⟨_, rfl⟩
  have HPL := Lib.hid hpl
  obtain ⟨vl, hvl2⟩ : ∃ vl, vs.length = vl := ⟨_, rfl⟩
  have HVL := Lib.hid hvl2
  have HRL : Hid (Calls Tryz.prog 65 #[.slice ma m.length mc, .slice pa pl pc, .slice ya y.length yc] V fun e w' => Below V.heap.size V w' ∧ ∃ a cap, e = .returned (.tuple #[.slice a vl cap, .int .i64 e0]) ∧ Rl w' a vs) := by rw [← hpl, ← hvl2]; exact HSO.out
  unfold RFitPost
  rw [hpl] at hl hvl ⊢
  rw [hvl2] at hvl
  clear HSO hm hs hp hy hbv hsv hpl hvl2 hz
  by_cases he0 : e0 = 0
  · subst he0
    rw [if_pos rfl] at HFO
    go_enter Tryz.func33, Tryz.ntmps33
    go_wp2_with (go_at_call 65; refine HRL.out.mono ?_; rintro e w2 ⟨hb2, va, vc, rfl, hrl⟩; have HB2 := Lib.hid hb2; have HRV := Lib.hid hrl; clear hb2 hrl)
    go_loopw [11, 24] (fun _ i wr => ∃ k : Nat, k ≤ vl ∧ i = .int .i64 k ∧ (vs.take k).any zB = false ∧ Below w2.heap.size w2 wr) (fun _ i _ => vl - (intOf i).toNat)
    case atStart => exact ⟨0, Nat.zero_le _, rfl, by simp, Below.refl _ _⟩
    case round =>
      obtain ⟨k, hk, rfl, hany, hB⟩ := hrel
      have HANY := Lib.hid hany
      have HB := Lib.hid hB
      clear hany hB
      have hVr : Below V.heap.size V wr := HB2.out.trans (HB.out.mono HB2.out.size)
      have HVR := Lib.hid hVr
      obtain ⟨u0, u1, u2, u3⟩ := HVW.out wr hVr
      have HBW : Hid (Below w.heap.size w wr) := HBV.out.trans (hVr.mono HBV.out.size)
      clear hVr
      by_cases hlt : k < vl
      · obtain ⟨p, hp⟩ : ∃ p, vs[k]? = some p := ⟨vs[k]'(by rw [HVL.out]; exact hlt), by simp [HVL.out, hlt]⟩
        obtain ⟨b1, rfl, a1, a2⟩ := (HRV.out.below HB.out) k p hp
        have HTK : Hid ((vs.take (k + 1)).any zB = zB p) := by
          show _ = _
          have hkl := (List.getElem?_eq_some_iff.1 hp).1
          rw [List.take_succ_eq_append_getElem hkl, List.any_append, HANY.out]
          obtain ⟨_, rfl⟩ := List.getElem?_eq_some_iff.1 hp
          simp
        have HMEM : Hid (p ∈ vs) := List.mem_of_getElem? hp
        obtain ⟨p1, p2⟩ := p
        dsimp only at a1 a2
        have hk0 : (k : Int) < (vl : Int) := by omega
        obtain ⟨wa, hwa⟩ : ∃ wa, wr.alloc (.cells #[.int .i64 p1, .int .i64 p2] 52) = wa := ⟨_, rfl⟩
        have wa0 : wa.cell? ⟨wr.heap.size, 0, none⟩ = some (.int .i64 p1) := by rw [← hwa]; exact alloc_cell _ _ _ _ _ rfl
        have HBA : Hid (Below wr.heap.size wr wa) := by rw [← hwa]; exact (Below.refl _ _).alloc (Nat.le_refl _) _
        have HVA : Hid (Below V.heap.size V wa) := HVR.out.trans (HBA.out.mono HVR.out.size)
        obtain ⟨g0, g1, g2, g3⟩ := HVW.out wa HVA.out
        clear hp
        by_cases hp1 : p1 = 0
        · subst hp1
          have HFN : Hid (fitO zB m y px = none) := by
            show _ = _
            rw [HFO.out, if_pos]
            exact List.any_eq_true.2 ⟨_, HMEM.out, rfl⟩
          clear HFO
          go_wp2
          refine bodyPost_ret (v := .tuple #[.agg #[.slice none 0 0, .slice none 0 0], .bool false]) ?_ rfl ⟨?_, .inl ⟨HFN.out, rfl⟩⟩
          · rw [results_cell_tmp rfl]; go_simp
          · exact ((HBV.out.trans (HVA.out.mono HBV.out.size)).setCell (p := ⟨w.heap.size, 0, none⟩) (Nat.le_refl _) _).setCell (p := ⟨w.heap.size, 1, none⟩) (Nat.le_refl _) _
        · have y1 : (p1 == 0) = false := by simpa using hp1
          have HTN : Hid ((vs.take (k + 1)).any zB = false) := by rw [HTK.out]; exact y1
          clear hp1
          go_wp2
          go_roundw
          case rel => exact ⟨k + 1, by omega, by go_num, HTN.out, HB.out.trans (HBA.out.mono HB.out.size)⟩
          case measure => simp [intOf]; omega
      · obtain rfl : vl = k := by omega
        have HFS : Hid (fitO zB m y px = some vs) := by
          show _ = _
          rw [HFO.out, if_neg]
          rw [← HVL.out, List.take_length] at HANY
          rw [HANY.out]; simp
        clear HFO
        have HPR : Hid (Sl wr pa px) := HP.out.below HBW.out
        have HRR : Hid (Rl wr va vs) := HRV.out.below HB.out
        have HOE := Lib.hid (own_lit0 wr)
        have HBE : Hid (Below wr.heap.size wr (wr.alloc (.cells #[] 3))) := (Below.refl _ _).alloc (Nat.le_refl _) _
        have HLP : Hid (px.length ≤ 100000) := by rw [HPL.out]; show _ ≤ _; omega
        go_wp2_with (at_builtin; go_must (refine wpList_catN rfl (.tmp 33) (.tmp 34) rfl wr.heap.size _ pa px pc _ rfl (by rw [HPL.out]; rfl) HZ.out HOE.out (HPR.out.below HBE.out) HLP.out HBE.out.size ?_); intro v2 w6 ho2 hb2; obtain ⟨qa, qc, rfl, s2, l2⟩ := ho2.parts; have HQ0 := Lib.hid ho2.zero; have hb6 := HBE.out.trans hb2; obtain ⟨g0, g1, g2, g3⟩ := HVW.out w6 (HVR.out.trans (hb6.mono HVR.out.size)); have HB6 := Lib.hid hb6; have HS6 := Lib.hid s2; clear hb6 hb2 ho2 s2 l2; (try rw [HPL.out]))
        have hT := topPost_put (t := (px, vs)) (n := 0) HVV.out (HVR.out.trans (HB6.out.mono HVR.out.size)) HS6.out (HRR.out.below HB6.out) (qc := qc) (vc := vc) rfl
        dsimp only at hT
        rw [HPL.out, HVL.out] at hT
        obtain ⟨h1, qa', qc', va', vc', he, h2, h3⟩ := hT
        dsimp only at he h2 h3
        simp only [Ending.returned.injEq, Value.tuple.injEq, Array.mk.injEq, List.cons.injEq, Value.agg.injEq, Value.slice.injEq, and_true] at he
        rw [HPL.out, HVL.out] at he
        obtain ⟨⟨rfl, _, rfl⟩, rfl, _, rfl⟩ := he
        refine bodyPost_ret (v := .tuple #[.agg #[.slice qa pl qc, .slice va vl vc], .bool true]) ?_ rfl ⟨h1, .inr ⟨vs, qa, qc, va, vc, HFS.out, by rw [HVL.out], h2, h3, HQ0.out⟩⟩
        rw [results_cell_tmp rfl]; go_simp
  · have y1 : (e0 == 0) = false := by simpa using he0
    have y2 : (e0 != 0) = true := by simpa using he0
    have HFN : Hid (fitO zB m y px = none) := by show _ = _; rw [HFO.out, if_neg he0]
    clear HFO he0
    go_enter Tryz.func33, Tryz.ntmps33
    go_wp2_with (go_at_call 65; refine HRL.out.mono ?_; rintro e w2 ⟨hb2, va, vc, rfl, hrl⟩; obtain ⟨g0, g1, g2, g3⟩ := HVW.out w2 hb2; have HBW : Hid (Below w.heap.size w w2) := HBV.out.trans (hb2.mono HBV.out.size); clear hb2 hrl)
    refine bodyPost_ret (v := .tuple #[.agg #[.slice none 0 0, .slice none 0 0], .bool false]) ?_ rfl ⟨(HBW.out.setCell (p := ⟨w.heap.size, 0, none⟩) (Nat.le_refl _) _).setCell (p := ⟨w.heap.size, 1, none⟩) (Nat.le_refl _) _, .inl ⟨HFN.out, rfl⟩⟩
    rw [results_cell_tmp rfl]; go_simp
end Go.Proofs.YtfnomiingelfaaaGreat
/- Whole numbers of 128 bits in layer 3: widened, times, compare; cmp.Compare and cmp.Or of Go's library: contracts. -/
namespace Go.Proofs.YtfnomiingelfaaaGreat
open Go.RowKit

def cmpZ (a b : Int) : Int := if a < b then -1 else if b < a then 1 else 0
def hi64 (x : Int) : Int := (x / 18446744073709551616) % 18446744073709551616
def lo64 (x : Int) : Int := x % 18446744073709551616
def wideV (x : Int) : Value := .agg #[.int .u64 (hi64 x), .int .u64 (lo64 x)]
theorem lo64_in (x : Int) : 0 ≤ lo64 x ∧ lo64 x < 18446744073709551616 := by unfold lo64; omega
theorem hi64_in (x : Int) : 0 ≤ hi64 x ∧ hi64 x < 18446744073709551616 := by unfold hi64; omega
def orZ (p q : Int) : Int := if p = 0 then q else p
def I64' (n : Int) : Prop := -9223372036854775808 ≤ n ∧ n ≤ 9223372036854775807
theorem widened_any (n : Int) (w : World) (h : I64' n) : Calls Tryz.prog 157 #[.int .i64 n] w fun e w' => e = .returned (wideV n) ∧ Below w.heap.size w w' := by
  go_enter Tryz.func157, Tryz.ntmps157
  go_wp2
  have e1 : IntKind.u64.wrap (n / 9223372036854775808) = hi64 n := by rw [IntKind.wrap_u64]; unfold hi64; unfold I64' at h; omega
  have e2 : IntKind.u64.wrap n = lo64 n := by rw [IntKind.wrap_u64]; unfold lo64; omega
  rw [e1, e2]
  refine bodyPost_ret_by (v := wideV n) ?_ rfl ⟨rfl, (Below.refl _ _).alloc (Nat.le_refl _) _⟩
  rw [results_cell_one' rfl]
  unfold wideV
  go_simp
theorem cmp_wide {x y : Int} (hx : -170141183460469231731687303715884105728 ≤ x ∧ x < 170141183460469231731687303715884105728) (hy : -170141183460469231731687303715884105728 ≤ y ∧ y < 170141183460469231731687303715884105728) :
    orZ (cmpZ (IntKind.i64.wrap (hi64 x)) (IntKind.i64.wrap (hi64 y))) (cmpZ (lo64 x) (lo64 y)) = cmpZ x y := by
  have h1 : IntKind.i64.wrap (hi64 x) = x / 18446744073709551616 := by rw [← wrap_is]; unfold wrap64 hi64; omega
  have h2 : IntKind.i64.wrap (hi64 y) = y / 18446744073709551616 := by rw [← wrap_is]; unfold wrap64 hi64; omega
  rw [h1, h2]
  unfold orZ cmpZ lo64
  by_cases q1 : x / 18446744073709551616 < y / 18446744073709551616
  · rw [if_pos q1, if_neg (by omega), if_pos (by omega)]
  · by_cases q2 : y / 18446744073709551616 < x / 18446744073709551616
    · rw [if_neg q1, if_pos q2, if_neg (by omega), if_neg (by omega), if_pos (by omega)]
    · rw [if_neg q1, if_neg q2, if_pos rfl]
      by_cases q3 : x < y
      · rw [if_pos q3, if_pos (by omega)]
      · by_cases q4 : y < x
        · rw [if_neg q3, if_pos q4, if_neg (by omega), if_pos (by omega)]
        · rw [if_neg q3, if_neg q4, if_neg (by omega), if_neg (by omega)]
theorem hi_times (x y : Int) : hi64 (x * y) = (lo64 x * lo64 y / 18446744073709551616 + hi64 x * lo64 y + lo64 x * hi64 y) % 18446744073709551616 := by
  have ex : x = 18446744073709551616 * (x / 18446744073709551616) + lo64 x := by unfold lo64; omega
  have ey : y = 18446744073709551616 * (y / 18446744073709551616) + lo64 y := by unfold lo64; omega
  obtain ⟨X, hX⟩ : ∃ X, x / 18446744073709551616 = X := ⟨_, rfl⟩
  obtain ⟨Y, hY⟩ : ∃ Y, y / 18446744073709551616 = Y := ⟨_, rfl⟩
  have hx : hi64 x = X - 18446744073709551616 * (X / 18446744073709551616) := by unfold hi64; rw [hX]; omega
  have hy : hi64 y = Y - 18446744073709551616 * (Y / 18446744073709551616) := by unfold hi64; rw [hY]; omega
  rw [hX] at ex
  rw [hY] at ey
  obtain ⟨a, ha⟩ : ∃ a, lo64 x = a := ⟨_, rfl⟩
  obtain ⟨b, hb⟩ : ∃ b, lo64 y = b := ⟨_, rfl⟩
  obtain ⟨k, hk⟩ : ∃ k, X / 18446744073709551616 = k := ⟨_, rfl⟩
  obtain ⟨j, hj⟩ : ∃ j, Y / 18446744073709551616 = j := ⟨_, rfl⟩
  rw [ha] at ex ⊢
  rw [hb] at ey ⊢
  rw [hk] at hx
  rw [hj] at hy
  rw [hx, hy]
  unfold hi64
  have e1 : x * y = a * b + 18446744073709551616 * (18446744073709551616 * (X * Y) + X * b + a * Y) := by rw [ex, ey]; grind
  have e2 : x * y / 18446744073709551616 = a * b / 18446744073709551616 + (18446744073709551616 * (X * Y) + X * b + a * Y) := by rw [e1, Int.add_mul_ediv_left _ _ (by decide)]
  have e3 : x * y / 18446744073709551616 = (a * b / 18446744073709551616 + (X - 18446744073709551616 * k) * b + a * (Y - 18446744073709551616 * j)) + 18446744073709551616 * (X * Y + k * b + a * j) := by rw [e2]; grind
  rw [e3, Int.add_mul_emod_self_left]
theorem lo_times (x y : Int) : lo64 (x * y) = (lo64 x * lo64 y) % 18446744073709551616 := by unfold lo64; rw [← Int.mul_emod]
theorem times_any (x y : Int) (w : World) : Calls Tryz.prog 158 #[wideV x, wideV y] w fun e w' => e = .returned (wideV (x * y)) ∧ Below w.heap.size w w' := by
  obtain ⟨a, ha⟩ : ∃ a : Nat, lo64 x = (a : Int) := Int.eq_ofNat_of_zero_le (lo64_in x).1
  obtain ⟨b, hb⟩ : ∃ b : Nat, lo64 y = (b : Int) := Int.eq_ofNat_of_zero_le (lo64_in y).1
  obtain ⟨hx, hhx⟩ : ∃ a : Nat, hi64 x = (a : Int) := Int.eq_ofNat_of_zero_le (hi64_in x).1
  obtain ⟨hy, hhy⟩ : ∃ b : Nat, hi64 y = (b : Int) := Int.eq_ofNat_of_zero_le (hi64_in y).1
  have la := (lo64_in x).2
  have lb := (lo64_in y).2
  have hH := hi_times x y
  have hL := lo_times x y
  rw [ha, hb, hhx, hhy] at hH
  rw [ha, hb] at hL
  have HMU : Hid (∀ V, Calls Tryz.prog 114 #[.int .u64 (a : Int), .int .u64 (b : Int)] V fun e w' => e = .returned (.tuple #[.int .u64 ((a * b / 18446744073709551616 : Nat) : Int), .int .u64 ((a * b % 18446744073709551616 : Nat) : Int)]) ∧ w' = V) := fun V => Tryz.bits_Mul64 a b (by omega) (by omega) V
  have HV : Hid (wideV (x * y) = .agg #[.int .u64 (hi64 (x * y)), .int .u64 (lo64 (x * y))]) := rfl
  have HH := Lib.hid hH
  have HL := Lib.hid hL
  unfold wideV
  rw [ha, hb, hhx, hhy]
  clear ha hb hhx hhy la lb hH hL
  obtain ⟨p, hp⟩ : ∃ p : Nat, a * b / 18446744073709551616 = p := ⟨_, rfl⟩
  obtain ⟨q, hq⟩ : ∃ q : Nat, a * b % 18446744073709551616 = q := ⟨_, rfl⟩
  rw [hp, hq] at HMU
  have HP := Lib.hid hp
  have HQ := Lib.hid hq
  clear hp hq
  go_enter Tryz.func158, Tryz.ntmps158
  go_wp2_with (go_at_call 114; refine (HMU.out _).mono ?_; rintro e w1 ⟨rfl, rfl⟩)
  have hlo : (q : Int) = lo64 (x * y) := by rw [HL.out, ← HQ.out]; omega
  have hhi : IntKind.u64.wrap (IntKind.u64.wrap ((p : Int) + IntKind.u64.wrap ((hx : Int) * b)) + IntKind.u64.wrap ((a : Int) * hy)) = hi64 (x * y) := by
    rw [HH.out]
    have e : (a : Int) * (b : Int) / 18446744073709551616 = (p : Int) := by rw [← HP.out]; omega
    rw [e]
    simp only [IntKind.wrap_u64]
    generalize (hx : Int) * b = u
    generalize (a : Int) * hy = v
    omega
  rw [hhi, hlo]
  have hs1 : (w.alloc (.cells #[.int .u64 (hx : Int), .int .u64 (a : Int)] 163)).heap.size = w.heap.size + 1 := World.size_alloc _ _
  refine bodyPost_ret_by (v := .agg #[.int .u64 (hi64 (x * y)), .int .u64 (lo64 (x * y))]) ?_ rfl ⟨rfl, (((Below.refl _ _).alloc (Nat.le_refl _) _).alloc (by omega) _).alloc (by rw [World.size_alloc]; omega) _⟩
  have hc : ∀ k v, (#[Value.int .u64 (hi64 (x * y)), Value.int .u64 (lo64 (x * y))] : Array Value)[k]? = some v → (((w.alloc (.cells #[.int .u64 (hx : Int), .int .u64 (a : Int)] 163)).alloc (.cells #[.int .u64 (hy : Int), .int .u64 (b : Int)] 163)).alloc (.cells #[.int .u64 (hi64 (x * y)), .int .u64 (lo64 (x * y))] 163)).cell? ⟨w.heap.size + 1 + 1, k, none⟩ = some v := fun k v h => by
    rw [← show _ = w.heap.size + 1 + 1 from (World.size_alloc (w.alloc (.cells #[.int .u64 (hx : Int), .int .u64 (a : Int)] 163)) (.cells #[.int .u64 (hy : Int), .int .u64 (b : Int)] 163)).trans (by rw [hs1])]
    exact alloc_cell _ _ _ _ _ h
  have hc0 := hc 0 _ rfl
  have hc1 := hc 1 _ rfl
  rw [results_cell_one' rfl]
  generalize (((w.alloc (.cells #[.int .u64 (hx : Int), .int .u64 (a : Int)] 163)).alloc (.cells #[.int .u64 (hy : Int), .int .u64 (b : Int)] 163)).alloc (.cells #[.int .u64 (hi64 (x * y)), .int .u64 (lo64 (x * y))] 163)) = V at *
  clear hc hs1 hhi hlo
  go_simp
end Go.Proofs.YtfnomiingelfaaaGreat
/- The sum of whole numbers of 128 bits in layer 3: math/bits.Add64 and plus: contracts. -/
namespace Go.Proofs.YtfnomiingelfaaaGreat
open Go.RowKit

theorem add64 (x y c : Int) (hx : 0 ≤ x) (hy : 0 ≤ y) (hc0 : 0 ≤ c) (hc : c ≤ 1) (w : World) : (callFunc 162 #[.int .u64 x, .int .u64 y, .int .u64 c]).run Tryz.prog w =
    .ok (.value (.tuple #[.int .u64 ((x + y + c) % 18446744073709551616), .int .u64 ((x + y + c) / 18446744073709551616)])) w := by
  rw [run_callFunc_extern Tryz.func162 (by kernel_rfl) (by kernel_rfl) (by kernel_rfl) (e := add64Entry) (by kernel_rfl), run_add64 x y c hx hy hc0 hc]
  rfl
theorem add64_0 (x y : Int) (hx : 0 ≤ x) (hy : 0 ≤ y) (w : World) : (callFunc 162 #[.int .u64 x, .int .u64 y, .int .u64 0]).run Tryz.prog w =
    .ok (.value (.tuple #[.int .u64 ((x + y) % 18446744073709551616), .int .u64 ((x + y) / 18446744073709551616)])) w := by
  simpa using add64 x y 0 hx hy (Int.le_refl 0) (by decide) w
theorem plus_any (x y : Int) (w : World) : Calls Tryz.prog 159 #[wideV x, wideV y] w fun e w' => e = .returned (wideV (x + y)) ∧ Below w.heap.size w w' := by
  obtain ⟨a1, a2⟩ := hi64_in x
  obtain ⟨b1, b2⟩ := lo64_in x
  obtain ⟨c1, c2⟩ := hi64_in y
  obtain ⟨d1, d2⟩ := lo64_in y
  have HH : Hid ((hi64 x + hi64 y + (lo64 x + lo64 y) / 18446744073709551616) % 18446744073709551616 = hi64 (x + y)) := by show _ = _; unfold hi64 lo64; omega
  have HL : Hid ((lo64 x + lo64 y) % 18446744073709551616 = lo64 (x + y)) := by show _ = _; unfold lo64; omega
  have k0 : 0 ≤ (lo64 x + lo64 y) / 18446744073709551616 := by omega
  have k1 : (lo64 x + lo64 y) / 18446744073709551616 ≤ 1 := by omega
  unfold wideV
  obtain ⟨hx, hhx⟩ : ∃ v, hi64 x = v := ⟨_, rfl⟩
  obtain ⟨lx, hlx⟩ : ∃ v, lo64 x = v := ⟨_, rfl⟩
  obtain ⟨hy, hhy⟩ : ∃ v, hi64 y = v := ⟨_, rfl⟩
  obtain ⟨ly, hly⟩ : ∃ v, lo64 y = v := ⟨_, rfl⟩
  obtain ⟨ho, hho⟩ : ∃ v, hi64 (x + y) = v := ⟨_, rfl⟩
  obtain ⟨lo, hlo⟩ : ∃ v, lo64 (x + y) = v := ⟨_, rfl⟩
  rw [hhx, hhy, hlx, hly, hho] at HH
  rw [hlx, hly, hlo] at HL
  rw [hhx] at a1
  rw [hlx] at b1
  rw [hhy] at c1
  rw [hly] at d1
  rw [hlx, hly] at k0 k1
  rw [hhx, hlx, hhy, hly, hho, hlo]
  clear hhx hlx hhy hly hho hlo a2 b2 c2 d2
  go_enter Tryz.func159, Tryz.ntmps159
  go_wp2_with (first | simp only [add64_0 lx ly b1 d1] | simp only [add64 hx hy _ a1 c1 k0 k1])
  rw [HH.out, HL.out]
  have hs1 : (w.alloc (.cells #[.int .u64 hx, .int .u64 lx] 163)).heap.size = w.heap.size + 1 := World.size_alloc _ _
  refine bodyPost_ret_by (v := .agg #[.int .u64 ho, .int .u64 lo]) ?_ rfl ⟨rfl, (((Below.refl _ _).alloc (Nat.le_refl _) _).alloc (by omega) _).alloc (by rw [World.size_alloc]; omega) _⟩
  have hc : ∀ k v, (#[Value.int .u64 ho, Value.int .u64 lo] : Array Value)[k]? = some v → (((w.alloc (.cells #[.int .u64 hx, .int .u64 lx] 163)).alloc (.cells #[.int .u64 hy, .int .u64 ly] 163)).alloc (.cells #[.int .u64 ho, .int .u64 lo] 163)).cell? ⟨w.heap.size + 1 + 1, k, none⟩ = some v := fun k v h => by
    rw [← show _ = w.heap.size + 1 + 1 from (World.size_alloc (w.alloc (.cells #[.int .u64 hx, .int .u64 lx] 163)) (.cells #[.int .u64 hy, .int .u64 ly] 163)).trans (by rw [hs1])]
    exact alloc_cell _ _ _ _ _ h
  have hc0 := hc 0 _ rfl
  have hc1 := hc 1 _ rfl
  rw [results_cell_one' rfl]
  generalize (((w.alloc (.cells #[.int .u64 hx, .int .u64 lx] 163)).alloc (.cells #[.int .u64 hy, .int .u64 ly] 163)).alloc (.cells #[.int .u64 ho, .int .u64 lo] 163)) = V at *
  clear hc hs1
  go_simp
end Go.Proofs.YtfnomiingelfaaaGreat
/- addUp: a contract. -/
namespace Go.Proofs.YtfnomiingelfaaaGreat
open Go.RowKit

/-- Fractions behind a slice, wherever it begins. -/
def Rr (w : World) (a : Option Addr) (ps : List (Int × Int)) : Prop := ∀ j p, ps[j]? = some p → ∃ b o, a = some ⟨b, o, none⟩ ∧ w.cell? ⟨b, o + j * 2, none⟩ = some (.int .i64 p.1) ∧ w.cell? ⟨b, o + j * 2 + 1, none⟩ = some (.int .i64 p.2)
theorem Rr.below {w w' : World} {a : Option Addr} {ps : List (Int × Int)} (h : Rr w a ps) (hb : Below w.heap.size w w') : Rr w' a ps := fun j p hj => by
  obtain ⟨b, o, e, h1, h2⟩ := h j p hj
  exact ⟨b, o, e, (hb.cell (p := ⟨b, o + j * 2, none⟩) (cell_lt h1)).trans h1, (hb.cell (p := ⟨b, o + j * 2 + 1, none⟩) (cell_lt h2)).trans h2⟩
theorem Rl.rr {w : World} {a : Option Addr} {ps : List (Int × Int)} (h : Rl w a ps) : Rr w a ps := fun j p hj => by
  obtain ⟨b, e, h1, h2⟩ := h j p hj
  exact ⟨b, 0, e, by rw [Nat.zero_add]; exact h1, by rw [Nat.zero_add]; exact h2⟩
/-- Numerator and denominator of the first k fractions' sum. -/
def upN (row : List Int) (ps : List (Int × Int)) : Nat → Int × Int
  | 0 => (0, 1)
  | k + 1 => ((upN row ps k).1 * (ps[k]?.getD (0, 1)).2 + (upN row ps k).2 * (gt row k * (ps[k]?.getD (0, 1)).1), (upN row ps k).2 * (ps[k]?.getD (0, 1)).2)
def wideEq (a b : Int) : Bool := decide (hi64 a = hi64 b) && decide (lo64 a = lo64 b)
def upB (row : List Int) (ps : List (Int × Int)) (s : Int) : Bool := wideEq (upN row ps ps.length).1 ((upN row ps ps.length).2 * s)
/-- A box of two values. -/
structure Bx (W : World) (b : Nat) (u v : Value) : Prop where
  lt : b < W.heap.size
  c0 : W.cell? ⟨b, 0, none⟩ = some u
  c1 : W.cell? ⟨b, 1, none⟩ = some v
  f0 : W.frozen? ⟨b, 0, none⟩ = false
  f1 : W.frozen? ⟨b, 1, none⟩ = false
theorem Bx.next {W W' : World} {b : Nat} {u v : Value} (h : Bx W b u v) (hb : Below W.heap.size W W') : Bx W' b u v :=
  ⟨Nat.lt_of_lt_of_le h.lt hb.size, (hb.cell (p := ⟨b, 0, none⟩) h.lt).trans h.c0, (hb.cell (p := ⟨b, 1, none⟩) h.lt).trans h.c1, (hb.frozen (p := ⟨b, 0, none⟩) h.lt).trans h.f0, (hb.frozen (p := ⟨b, 1, none⟩) h.lt).trans h.f1⟩
theorem Bx.new (W : World) (u v : Value) (t : TypeId) : Bx (W.alloc (.cells #[u, v] t)) W.heap.size u v := ⟨by rw [World.size_alloc]; omega, alloc_cell _ _ _ _ _ rfl, alloc_cell _ _ _ _ _ rfl, by simp, by simp⟩
theorem Bx.other {W : World} {b : Nat} {u v : Value} (h : Bx W b u v) {B : Nat} (hB : b ≠ B) (x y : Value) : Bx ((W.setCell ⟨B, 0, none⟩ x).setCell ⟨B, 1, none⟩ y) b u v :=
  ⟨by rw [World.size_setCell, World.size_setCell]; exact h.lt, (cell_other _ _ _ _ hB).trans ((cell_other _ _ _ _ hB).trans h.c0), (cell_other _ _ _ _ hB).trans ((cell_other _ _ _ _ hB).trans h.c1), by
    rw [World.frozen?_setCell, World.frozen?_setCell]; exact h.f0, by rw [World.frozen?_setCell, World.frozen?_setCell]; exact h.f1⟩
theorem Bx.stored {W : World} {b : Nat} {u v : Value} (h : Bx W b u v) (x y : Value) : Bx ((W.setCell ⟨b, 0, none⟩ x).setCell ⟨b, 1, none⟩ y) b x y :=
  ⟨by rw [World.size_setCell, World.size_setCell]; exact h.lt, (World.cell?_setCell_other _ ⟨b, 1, none⟩ ⟨b, 0, none⟩ _ (by simp)).trans (World.cell?_setCell_same _ _ _ h.c0), World.cell?_setCell_same _ _ _ ((World.cell?_setCell_other _ ⟨b, 0, none⟩ ⟨b, 1, none⟩ _ (by simp)).trans h.c1), by rw [World.frozen?_setCell, World.frozen?_setCell]; exact h.f0, by rw [World.frozen?_setCell, World.frozen?_setCell]; exact h.f1⟩
theorem i64_0 : I64' 0 := by unfold I64'; omega
theorem i64_1 : I64' 1 := by unfold I64'; omega
set_option maxRecDepth 1000000 in
set_option maxHeartbeats 6400000 in
theorem addUp_any (ra : Option Addr) (row : List Int) (rc : Nat) (xa : Option Addr) (ps : List (Int × Int)) (xc : Nat) (s : Int) (w : World) (hl : ps.length = row.length) (hl2 : row.length ≤ 100) (hr : Sl w ra row) (hx : Rr w xa ps)
    (hb : ∀ k, k < row.length → -1 ≤ gt row k ∧ gt row k ≤ 1) (hp : ∀ (k : Nat) (p : Int × Int), ps[k]? = some p → I64' p.2 ∧ -10000000000 ≤ p.1 ∧ p.1 ≤ 10000000000) (hs : I64' s) :
    Calls Tryz.prog 142 #[.slice ra row.length rc, .slice xa ps.length xc, .int .i64 s] w fun e w' => e = .returned (.bool (upB row ps s)) ∧ Below w.heap.size w w' := by
  have HR := Lib.hid hr
  have HX := Lib.hid hx
  have HB := Lib.hid hb
  have HP := Lib.hid hp
  have HW0 : Hid (∀ V, Calls Tryz.prog 157 #[.int .i64 0] V fun e w' => e = .returned (.agg #[.int .u64 0, .int .u64 0]) ∧ Below V.heap.size V w') := fun V => widened_any 0 V i64_0
  have HW1 : Hid (∀ V, Calls Tryz.prog 157 #[.int .i64 1] V fun e w' => e = .returned (.agg #[.int .u64 0, .int .u64 1]) ∧ Below V.heap.size V w') := fun V => widened_any 1 V i64_1
  have HWS : Hid (∀ V, Calls Tryz.prog 157 #[.int .i64 s] V fun e w' => e = .returned (.agg #[.int .u64 (hi64 s), .int .u64 (lo64 s)]) ∧ Below V.heap.size V w') := fun V => widened_any s V hs
  have HTI : Hid (∀ (x y : Int) V, Calls Tryz.prog 158 #[.agg #[.int .u64 (hi64 x), .int .u64 (lo64 x)], .agg #[.int .u64 (hi64 y), .int .u64 (lo64 y)]] V fun e w' => e = .returned (.agg #[.int .u64 (hi64 (x * y)), .int .u64 (lo64 (x * y))]) ∧ Below V.heap.size V w') := fun x y V => times_any x y V
  have HPL : Hid (∀ (x y : Int) V, Calls Tryz.prog 159 #[.agg #[.int .u64 (hi64 x), .int .u64 (lo64 x)], .agg #[.int .u64 (hi64 y), .int .u64 (lo64 y)]] V fun e w' => e = .returned (.agg #[.int .u64 (hi64 (x + y)), .int .u64 (lo64 (x + y))]) ∧ Below V.heap.size V w') := fun x y V => plus_any x y V
  have HNR := Lib.hid hl
  obtain ⟨L, hL⟩ : ∃ L, ps.length = L := ⟨_, rfl⟩
  have hl3 : L ≤ 100 := by omega
  have HLL := Lib.hid hL
  have HUB : Hid (upB row ps s = wideEq (upN row ps L).1 ((upN row ps L).2 * s)) := by show _ = _; unfold upB; rw [hL]
  rw [← hl, hL]
  clear hr hx hb hp hs hl hl2 hL
  go_enter Tryz.func142, Tryz.ntmps142
  go_wp2_with (first | (go_at_call 157; refine (HW0.out _).mono ?_; rintro e w1 ⟨rfl, hb1⟩; have HB1 := Lib.hid hb1; clear hb1) | (go_at_call 157; refine (HW1.out _).mono ?_; rintro e w2 ⟨rfl, hb2⟩; have HB2 : Hid (Below w.heap.size w w2) := HB1.out.trans (hb2.mono HB1.out.size); clear hb2))
  have I0 : Bx ((w2.alloc (.cells #[.int .u64 0, .int .u64 0] 163)).alloc (.cells #[.int .u64 0, .int .u64 1] 163)) w2.heap.size (.int .u64 0) (.int .u64 0) := (Bx.new w2 _ _ _).next ((Below.refl _ _).alloc (Nat.le_refl _) _)
  have I1 : Bx ((w2.alloc (.cells #[.int .u64 0, .int .u64 0] 163)).alloc (.cells #[.int .u64 0, .int .u64 1] 163)) (w2.heap.size + 1) (.int .u64 0) (.int .u64 1) := by
    have h := Bx.new (w2.alloc (.cells #[.int .u64 0, .int .u64 0] 163)) (.int .u64 0) (.int .u64 1) 163
    rw [World.size_alloc] at h
    exact h
  have IB : Below w.heap.size w ((w2.alloc (.cells #[.int .u64 0, .int .u64 0] 163)).alloc (.cells #[.int .u64 0, .int .u64 1] 163)) := (HB2.out.alloc HB2.out.size _).alloc (by rw [World.size_alloc]; have := HB2.out.size; omega) _
  have HI0 := Lib.hid I0
  have HI1 := Lib.hid I1
  have HIB := Lib.hid IB
  have hb7w : w.heap.size ≤ w2.heap.size := HB2.out.size
  clear I0 I1 IB HB1 HB2
  generalize ((w2.alloc (.cells #[.int .u64 0, .int .u64 0] 163)).alloc (.cells #[.int .u64 0, .int .u64 1] 163)) = W0 at *
  generalize w2.heap.size = b7 at *
  go_loopw [15] (fun i wr => ∃ k : Nat, k ≤ L ∧ i = .int .i64 k ∧ Bx wr b7 (.int .u64 (hi64 (upN row ps k).1)) (.int .u64 (lo64 (upN row ps k).1)) ∧ Bx wr (b7 + 1) (.int .u64 (hi64 (upN row ps k).2)) (.int .u64 (lo64 (upN row ps k).2)) ∧ Below w.heap.size w wr) (fun i _ => L - (intOf i).toNat)
  case atStart => exact ⟨0, Nat.zero_le _, rfl, HI0.out, HI1.out, HIB.out⟩
  case round =>
    clear HI0 HI1 HIB
    obtain ⟨k, hk, rfl, h7, h8, hbw⟩ := hrel
    have HBW := Lib.hid hbw; clear hbw
    have H7 := Lib.hid h7; clear h7
    have H8 := Lib.hid h8; clear h8
    by_cases hlt : k < L
    · obtain ⟨⟨p1, p2⟩, hp⟩ : ∃ p, ps[k]? = some p := ⟨ps[k]'(by rw [HLL.out]; exact hlt), by simp [HLL.out, hlt]⟩
      obtain ⟨xb, xo, rfl, x0, x1⟩ := (HX.out.below HBW.out) k _ hp
      obtain ⟨rb, ro, u, rfl, hcu, hu⟩ := (HR.out.below HBW.out).at (k := k) (by rw [← HNR.out, HLL.out]; exact hlt)
      have hgu := gt_some' hu.out
      obtain ⟨q1, q2, q3⟩ := HP.out k _ hp
      have q4 := HB.out k (by rw [← HNR.out, HLL.out]; exact hlt)
      rw [hgu] at q4
      dsimp only at x0 x1 q1 q2 q3
      obtain ⟨nk, hnk⟩ : ∃ nk, (upN row ps k).1 = nk := ⟨_, rfl⟩
      obtain ⟨dk, hdk⟩ : ∃ dk, (upN row ps k).2 = dk := ⟨_, rfl⟩
      have HN1 : Hid (upN row ps (k + 1) = (nk * p2 + dk * (u * p1), dk * p2)) := by show _ = _; unfold upN; rw [hnk, hdk, hp, hgu]; rfl
      rw [hnk] at H7
      rw [hdk] at H8
      have hup : -10000000000 ≤ u * p1 ∧ u * p1 ≤ 10000000000 := by
        have := mul_le q4 (show -10000000000 ≤ p1 ∧ p1 ≤ 10000000000 from ⟨q2, q3⟩)
        omega
      have hwu : IntKind.i64.wrap (u * p1) = u * p1 := wrap_id (by omega) (by omega)
      have HWD : Hid (∀ V, Calls Tryz.prog 157 #[.int .i64 p2] V fun e w' => e = .returned (.agg #[.int .u64 (hi64 p2), .int .u64 (lo64 p2)]) ∧ Below V.heap.size V w') := fun V => widened_any p2 V q1
      have HWU : Hid (∀ V, Calls Tryz.prog 157 #[.int .i64 (u * p1)] V fun e w' => e = .returned (.agg #[.int .u64 (hi64 (u * p1)), .int .u64 (lo64 (u * p1))]) ∧ Below V.heap.size V w') := fun V => widened_any (u * p1) V (by unfold I64'; omega)
      have hk0 : (k : Int) < (L : Int) := by omega
      have hk1 : (k : Int) < (row.length : Int) := by rw [← HNR.out, HLL.out]; exact hk0
      have hwlt : wr.heap.size = wr.heap.size := rfl
      have hne7 : b7 ≠ b7 + 1 := by omega
      have hb8 : b7 + 1 < wr.heap.size := H8.out.lt
      clear hp hu hgu hnk hdk q1 q2 q3 q4 hup
      go_wp2
      rename_i aL aK0 aK
      have HKO := Lib.hid aK
      have HKL := Lib.hid aL
      clear aK aL
      obtain ⟨V, hV⟩ : ∃ V, wr.alloc (.cells #[.int .i64 p1, .int .i64 p2] 52) = V := ⟨_, rfl⟩
      have HVB : Hid (Below wr.heap.size wr V) := hV ▸ (Below.refl _ _).alloc (Nat.le_refl _) _
      have HV10 : Hid (Bx V wr.heap.size (.int .i64 p1) (.int .i64 p2)) := hV ▸ Bx.new wr _ _ _
      have HV7 := Lib.hid (H7.out.next HVB.out)
      have HV8 := Lib.hid (H8.out.next HVB.out)
      have HCU : Hid (V.cell? ⟨rb, ro + k, none⟩ = some (.int .i64 u)) := (HVB.out.cell (p := ⟨rb, ro + k, none⟩) (cell_lt hcu)).trans hcu
      have HLU : Hid (rb < V.heap.size) := Nat.lt_of_lt_of_le (cell_lt hcu) HVB.out.size
      obtain ⟨T, hT⟩ : ∃ T, wr.heap.size = T := ⟨_, rfl⟩
      rw [hT] at HV10
      have HVW : Hid (∀ W, Below V.heap.size V W → (W.cell? ⟨b7, 0, none⟩ = some (.int .u64 (hi64 nk)) ∧ W.cell? ⟨b7, 1, none⟩ = some (.int .u64 (lo64 nk)) ∧ W.frozen? ⟨b7, 0, none⟩ = false ∧ W.frozen? ⟨b7, 1, none⟩ = false) ∧ (W.cell? ⟨b7 + 1, 0, none⟩ = some (.int .u64 (hi64 dk)) ∧ W.cell? ⟨b7 + 1, 1, none⟩ = some (.int .u64 (lo64 dk)) ∧ W.frozen? ⟨b7 + 1, 0, none⟩ = false ∧ W.frozen? ⟨b7 + 1, 1, none⟩ = false) ∧ (W.cell? ⟨T, 0, none⟩ = some (.int .i64 p1) ∧ W.cell? ⟨T, 1, none⟩ = some (.int .i64 p2)) ∧ W.cell? ⟨rb, ro + k, none⟩ = some (.int .i64 u)) := fun W h => by
        have a := HV7.out.next h
        have b := HV8.out.next h
        have c := HV10.out.next h
        exact ⟨⟨a.c0, a.c1, a.f0, a.f1⟩, ⟨b.c0, b.c1, b.f0, b.f1⟩, ⟨c.c0, c.c1⟩, (h.cell (p := ⟨rb, ro + k, none⟩) HLU.out).trans HCU.out⟩
      have HTB : Hid (T ≠ b7 ∧ T ≠ b7 + 1 ∧ w.heap.size ≤ T) := ⟨by omega, by omega, by rw [← hT]; exact HBW.out.size⟩
      rw [hV, hT]
      clear x0 x1 hcu hV hT
      refine wp_region_G (S := untilS 16 (fun _ => True) (fun W => Below V.heap.size V W)) (by kernel_rfl) (untilS_all ⟨trivial, (Below.refl _ _).drew⟩ _) ?_
      intro hc hS
      refine wpAnyG_take (i := 0) (oi := ?oia0) (v := ?va0) ?hia0 (by kernel_rfl) (by kernel_rfl) (by kernel_rfl) ?hQa0 (untilS_set (by decide)) hc ?hya0 hS ?resta0
      case hia0 => (simp only [List.getElem?_toArray, List.getElem?_cons_zero]; exact rfl)
      case hQa0 => exact fun _ _ _ h => h
      case hya0 => (refine Or.inl ⟨rfl, ?_⟩; (rintro w ⟨L, hsd, hL, _, hB⟩; replace hB := hB (hsd.not (i := 0) (by kernel_rfl) hL); obtain ⟨⟨_, _, _, _⟩, ⟨_, _, _, _⟩, ⟨_, _⟩, _⟩ := HVW.out w hB; clear hsd hL hB; go_simp; (try with_reducible rfl)))
      clear hc hS; intro hc hS
      simp only [Act.put, List.setIfInBounds_toArray, List.set_cons_zero, List.set_cons_succ]
      refine wpAnyG_take (i := 1) (oi := ?oia1) (v := ?va1) ?hia1 (by kernel_rfl) (by kernel_rfl) (by kernel_rfl) ?hQa1 (untilS_set (by decide)) hc ?hya1 hS ?resta1
      case hia1 => (simp only [List.getElem?_toArray, List.getElem?_cons_succ, List.getElem?_cons_zero]; exact rfl)
      case hQa1 => exact fun _ _ _ h => h
      case hya1 => (refine Or.inl ⟨rfl, ?_⟩; (intro w _; go_simp; (try with_reducible rfl)))
      clear hc hS; intro hc hS
      simp only [Act.put, List.setIfInBounds_toArray, List.set_cons_zero, List.set_cons_succ]
      refine wpAnyG_take (i := 2) (oi := ?oia2) (v := ?va2) ?hia2 (by kernel_rfl) (by kernel_rfl) (by kernel_rfl) ?hQa2 (untilS_set (by decide)) hc ?hya2 hS ?resta2
      case hia2 => (simp only [List.getElem?_toArray, List.getElem?_cons_succ, List.getElem?_cons_zero]; exact rfl)
      case hQa2 => exact fun _ _ _ h => h
      case hya2 => (refine Or.inl ⟨rfl, ?_⟩; (rintro w ⟨L, hsd, hL, _, hB⟩; replace hB := hB (hsd.not (i := 2) (by kernel_rfl) hL); obtain ⟨⟨_, _, _, _⟩, ⟨_, _, _, _⟩, ⟨_, _⟩, _⟩ := HVW.out w hB; clear hsd hL hB; go_simp; (try with_reducible rfl)))
      clear hc hS; intro hc hS
      simp only [Act.put, List.setIfInBounds_toArray, List.set_cons_zero, List.set_cons_succ]
      refine wpAnyG_take (i := 5) (oi := ?oia5) (v := ?va5) ?hia5 (by kernel_rfl) (by kernel_rfl) (by kernel_rfl) ?hQa5 (untilS_set (by decide)) hc ?hya5 hS ?resta5
      case hia5 => (simp only [List.getElem?_toArray, List.getElem?_cons_succ, List.getElem?_cons_zero]; exact rfl)
      case hQa5 => exact fun _ _ _ h => h
      case hya5 => (refine Or.inl ⟨rfl, ?_⟩; (rintro w ⟨L, hsd, hL, _, hB⟩; replace hB := hB (hsd.not (i := 5) (by kernel_rfl) hL); obtain ⟨⟨_, _, _, _⟩, ⟨_, _, _, _⟩, ⟨_, _⟩, _⟩ := HVW.out w hB; clear hsd hL hB; go_simp; (try with_reducible rfl)))
      clear hc hS; intro hc hS
      simp only [Act.put, List.setIfInBounds_toArray, List.set_cons_zero, List.set_cons_succ]
      refine wpAnyG_take (i := 6) (oi := ?oia6) (v := ?va6) ?hia6 (by kernel_rfl) (by kernel_rfl) (by kernel_rfl) ?hQa6 (untilS_set (by decide)) hc ?hya6 hS ?resta6
      case hia6 => (simp only [List.getElem?_toArray, List.getElem?_cons_succ, List.getElem?_cons_zero]; exact rfl)
      case hQa6 => exact fun _ _ _ h => h
      case hya6 => (refine Or.inl ⟨rfl, ?_⟩; (intro w _; go_simp; (try with_reducible rfl)))
      clear hc hS; intro hc hS
      simp only [Act.put, List.setIfInBounds_toArray, List.set_cons_zero, List.set_cons_succ]
      refine wpAnyG_take (i := 7) (oi := ?oia7) (v := ?va7) ?hia7 (by kernel_rfl) (by kernel_rfl) (by kernel_rfl) ?hQa7 (untilS_set (by decide)) hc ?hya7 hS ?resta7
      case hia7 => (simp only [List.getElem?_toArray, List.getElem?_cons_succ, List.getElem?_cons_zero]; exact rfl)
      case hQa7 => exact fun _ _ _ h => h
      case hya7 => (refine Or.inl ⟨rfl, ?_⟩; (intro w _; go_simp; (try with_reducible rfl)))
      clear hc hS; intro hc hS
      simp only [Act.put, List.setIfInBounds_toArray, List.set_cons_zero, List.set_cons_succ]
      refine wpAnyG_take (i := 8) (oi := ?oia8) (v := ?va8) ?hia8 (by kernel_rfl) (by kernel_rfl) (by kernel_rfl) ?hQa8 (untilS_set (by decide)) hc ?hya8 hS ?resta8
      case hia8 => (simp only [List.getElem?_toArray, List.getElem?_cons_succ, List.getElem?_cons_zero]; exact rfl)
      case hQa8 => exact fun _ _ _ h => h
      case hya8 => (refine Or.inl ⟨rfl, ?_⟩; (intro w _; go_simp; (try with_reducible rfl)))
      clear hc hS; intro hc hS
      simp only [Act.put, List.setIfInBounds_toArray, List.set_cons_zero, List.set_cons_succ]
      refine wpAnyG_take (i := 9) (oi := ?oia9) (v := ?va9) ?hia9 (by kernel_rfl) (by kernel_rfl) (by kernel_rfl) ?hQa9 (untilS_set (by decide)) hc ?hya9 hS ?resta9
      case hia9 => (simp only [List.getElem?_toArray, List.getElem?_cons_succ, List.getElem?_cons_zero]; exact rfl)
      case hQa9 => exact fun _ _ _ h => h
      case hya9 => (refine Or.inl ⟨rfl, ?_⟩; (rintro w ⟨L, hsd, hL, _, hB⟩; replace hB := hB (hsd.not (i := 9) (by kernel_rfl) hL); obtain ⟨⟨_, _, _, _⟩, ⟨_, _, _, _⟩, ⟨_, _⟩, _⟩ := HVW.out w hB; clear hsd hL hB; go_simp; (try with_reducible rfl)))
      clear hc hS; intro hc hS
      simp only [Act.put, List.setIfInBounds_toArray, List.set_cons_zero, List.set_cons_succ]
      refine wpAnyG_take (i := 10) (oi := ?oia10) (v := ?va10) ?hia10 (by kernel_rfl) (by kernel_rfl) (by kernel_rfl) ?hQa10 (untilS_set (by decide)) hc ?hya10 hS ?resta10
      case hia10 => (simp only [List.getElem?_toArray, List.getElem?_cons_succ, List.getElem?_cons_zero]; exact rfl)
      case hQa10 => exact fun _ _ _ h => h
      case hya10 => (refine Or.inl ⟨rfl, ?_⟩; (intro w _; go_simp; (try with_reducible rfl)))
      clear hc hS; intro hc hS
      simp only [Act.put, List.setIfInBounds_toArray, List.set_cons_zero, List.set_cons_succ]
      refine wpAnyG_take (i := 11) (oi := ?oia11) (v := ?va11) ?hia11 (by kernel_rfl) (by kernel_rfl) (by kernel_rfl) ?hQa11 (untilS_set (by decide)) hc ?hya11 hS ?resta11
      case hia11 => (simp only [List.getElem?_toArray, List.getElem?_cons_succ, List.getElem?_cons_zero]; exact rfl)
      case hQa11 => exact fun _ _ _ h => h
      case hya11 => (refine Or.inl ⟨rfl, ?_⟩; (rintro w ⟨L, hsd, hL, _, hB⟩; replace hB := hB (hsd.not (i := 11) (by kernel_rfl) hL); obtain ⟨⟨_, _, _, _⟩, ⟨_, _, _, _⟩, ⟨_, _⟩, _⟩ := HVW.out w hB; clear hsd hL hB; go_simp; (try with_reducible rfl)))
      clear hc hS; intro hc hS
      simp only [Act.put, List.setIfInBounds_toArray, List.set_cons_zero, List.set_cons_succ]
      refine wpAnyG_take (i := 12) (oi := ?oia12) (v := ?va12) ?hia12 (by kernel_rfl) (by kernel_rfl) (by kernel_rfl) ?hQa12 (untilS_set (by decide)) hc ?hya12 hS ?resta12
      case hia12 => (simp only [List.getElem?_toArray, List.getElem?_cons_succ, List.getElem?_cons_zero]; exact rfl)
      case hQa12 => exact fun _ _ _ h => h
      case hya12 => (refine Or.inl ⟨rfl, ?_⟩; (intro w _; go_simp; (try with_reducible rfl)))
      clear hc hS; intro hc hS
      simp only [Act.put, List.setIfInBounds_toArray, List.set_cons_zero, List.set_cons_succ]
      refine wpAnyG_only (i := 3) (o := ?oia3) (by kernel_rfl) ?hia3 hc ?resta3
      case hia3 => (simp only [List.getElem?_toArray, List.getElem?_cons_succ, List.getElem?_cons_zero]; exact rfl)
      clear hc; intro hc K hK; have HK := Lib.hid hK; clear hK
      go_simp
      go_at_call 157
      refine (HWD.out _).mono ?_
      rintro e w3 ⟨rfl, hb3⟩
      have HB3 : Hid (Below V.heap.size V w3) := (Below.refl V.heap.size V).drew.trans (hb3.mono (Below.refl V.heap.size V).drew.size)
      clear hb3
      refine HK.out _ _ (untilS_all ⟨trivial, HB3.out⟩ _) ?_
      clear HK K hS; intro hS
      refine wpAnyG_only (i := 4) (o := ?oia4) (by kernel_rfl) ?hia4 hc ?resta4
      case hia4 => (simp only [List.getElem?_toArray, List.getElem?_cons_succ, List.getElem?_cons_zero]; exact rfl)
      clear hc; intro hc K hK; have HK := Lib.hid hK; clear hK
      go_simp
      go_at_call 158
      refine (HTI.out nk p2 _).mono ?_
      rintro e w4 ⟨rfl, hb4⟩
      have HB4 : Hid (Below V.heap.size V w4) := HB3.out.trans (hb4.mono HB3.out.size)
      clear hb4
      refine HK.out _ _ (untilS_all ⟨trivial, HB4.out⟩ _) ?_
      clear HK K hS; intro hS
      refine wpAnyG_only (i := 13) (o := ?oia13) (by kernel_rfl) ?hia13 hc ?resta13
      case hia13 => (simp only [List.getElem?_toArray, List.getElem?_cons_succ, List.getElem?_cons_zero]; exact rfl)
      clear hc; intro hc K hK; have HK := Lib.hid hK; clear hK
      go_simp
      go_at_call 157
      refine (HWU.out _).mono ?_
      rintro e w5 ⟨rfl, hb5⟩
      have HB5 : Hid (Below V.heap.size V w5) := HB4.out.trans (hb5.mono HB4.out.size)
      clear hb5
      refine HK.out _ _ (untilS_all ⟨trivial, HB5.out⟩ _) ?_
      clear HK K hS; intro hS
      refine wpAnyG_only (i := 14) (o := ?oia14) (by kernel_rfl) ?hia14 hc ?resta14
      case hia14 => (simp only [List.getElem?_toArray, List.getElem?_cons_succ, List.getElem?_cons_zero]; exact rfl)
      clear hc; intro hc K hK; have HK := Lib.hid hK; clear hK
      go_simp
      go_at_call 158
      refine (HTI.out dk (u * p1) _).mono ?_
      rintro e w6 ⟨rfl, hb6⟩
      have HB6 : Hid (Below V.heap.size V w6) := HB5.out.trans (hb6.mono HB5.out.size)
      clear hb6
      refine HK.out _ _ (untilS_all ⟨trivial, HB6.out⟩ _) ?_
      clear HK K hS; intro hS
      refine wpAnyG_only (i := 15) (o := ?oia15) (by kernel_rfl) ?hia15 hc ?resta15
      case hia15 => (simp only [List.getElem?_toArray, List.getElem?_cons_succ, List.getElem?_cons_zero]; exact rfl)
      clear hc; intro hc K hK; have HK := Lib.hid hK; clear hK
      go_simp
      go_at_call 159
      refine (HPL.out (nk * p2) (dk * (u * p1)) _).mono ?_
      rintro e w7 ⟨rfl, hb7⟩
      have HB7 : Hid (Below V.heap.size V w7) := HB6.out.trans (hb7.mono HB6.out.size)
      clear hb7
      refine HK.out _ _ (untilS_all ⟨trivial, HB7.out⟩ _) ?_
      clear HK K hS; intro hS
      obtain ⟨⟨_, _, _, _⟩, ⟨_, _, _, _⟩, ⟨_, _⟩, _⟩ := HVW.out w7 HB7.out
      refine wpAnyG_only (i := 16) (o := ?oia16) (by kernel_rfl) ?hia16 hc ?resta16
      case hia16 => (simp only [List.getElem?_toArray, List.getElem?_cons_succ, List.getElem?_cons_zero]; exact rfl)
      clear hc; intro hc K hK; have HK := Lib.hid hK; clear hK
      go_simp
      refine HK.out _ _ (untilS_past trivial (by first | rfl | decide)) ?_
      clear HK K hS; intro hS
      refine wpAnyG_done (by kernel_rfl) ?_ _
      refine HKO.out _ _ ?_
      clear HKO
      have HX7 : Hid (Bx ((w7.setCell ⟨b7, 0, none⟩ (.int .u64 (hi64 (nk * p2 + dk * (u * p1))))).setCell ⟨b7, 1, none⟩ (.int .u64 (lo64 (nk * p2 + dk * (u * p1))))) b7 (.int .u64 (hi64 (nk * p2 + dk * (u * p1)))) (.int .u64 (lo64 (nk * p2 + dk * (u * p1))))) := (HV7.out.next HB7.out).stored _ _
      have HX8 : Hid (Bx ((w7.setCell ⟨b7, 0, none⟩ (.int .u64 (hi64 (nk * p2 + dk * (u * p1))))).setCell ⟨b7, 1, none⟩ (.int .u64 (lo64 (nk * p2 + dk * (u * p1))))) (b7 + 1) (.int .u64 (hi64 dk)) (.int .u64 (lo64 dk))) := (HV8.out.next HB7.out).other (Ne.symm hne7) _ _
      have HX10 : Hid (Bx ((w7.setCell ⟨b7, 0, none⟩ (.int .u64 (hi64 (nk * p2 + dk * (u * p1))))).setCell ⟨b7, 1, none⟩ (.int .u64 (lo64 (nk * p2 + dk * (u * p1))))) T (.int .i64 p1) (.int .i64 p2)) := (HV10.out.next HB7.out).other HTB.out.1 _ _
      have HBW7 : Hid (Below w.heap.size w ((w7.setCell ⟨b7, 0, none⟩ (.int .u64 (hi64 (nk * p2 + dk * (u * p1))))).setCell ⟨b7, 1, none⟩ (.int .u64 (lo64 (nk * p2 + dk * (u * p1)))))) := ((HBW.out.trans ((HVB.out.mono HBW.out.size).trans (HB7.out.mono (Nat.le_trans HBW.out.size HVB.out.size)))).setCell (p := ⟨b7, 0, none⟩) hb7w _).setCell (p := ⟨b7, 1, none⟩) hb7w _
      generalize ((w7.setCell ⟨b7, 0, none⟩ (.int .u64 (hi64 (nk * p2 + dk * (u * p1))))).setCell ⟨b7, 1, none⟩ (.int .u64 (lo64 (nk * p2 + dk * (u * p1))))) = V2 at *
      have HV2 : Hid (∀ W, Below V2.heap.size V2 W → (W.cell? ⟨b7, 0, none⟩ = some (.int .u64 (hi64 (nk * p2 + dk * (u * p1)))) ∧ W.cell? ⟨b7, 1, none⟩ = some (.int .u64 (lo64 (nk * p2 + dk * (u * p1)))) ∧ W.frozen? ⟨b7, 0, none⟩ = false ∧ W.frozen? ⟨b7, 1, none⟩ = false) ∧ (W.cell? ⟨b7 + 1, 0, none⟩ = some (.int .u64 (hi64 dk)) ∧ W.cell? ⟨b7 + 1, 1, none⟩ = some (.int .u64 (lo64 dk)) ∧ W.frozen? ⟨b7 + 1, 0, none⟩ = false ∧ W.frozen? ⟨b7 + 1, 1, none⟩ = false) ∧ (W.cell? ⟨T, 0, none⟩ = some (.int .i64 p1) ∧ W.cell? ⟨T, 1, none⟩ = some (.int .i64 p2)) ∧ True) := fun W h => by
        have a := HX7.out.next h
        have b := HX8.out.next h
        have c := HX10.out.next h
        exact ⟨⟨a.c0, a.c1, a.f0, a.f1⟩, ⟨b.c0, b.c1, b.f0, b.f1⟩, ⟨c.c0, c.c1⟩, trivial⟩
      clear hS hc
      refine wp_region_G (S := untilS 5 (fun _ => True) (fun W => Below V2.heap.size V2 W)) (by kernel_rfl) (untilS_all ⟨trivial, (Below.refl _ _).drew⟩ _) ?_
      intro hc hS
      refine wpAnyG_take (i := 0) (oi := ?oib0) (v := ?vb0) ?hib0 (by kernel_rfl) (by kernel_rfl) (by kernel_rfl) ?hQb0 (untilS_set (by decide)) hc ?hyb0 hS ?restb0
      case hib0 => (simp only [List.getElem?_toArray, List.getElem?_cons_zero]; exact rfl)
      case hQb0 => exact fun _ _ _ h => h
      case hyb0 => (refine Or.inl ⟨rfl, ?_⟩; (rintro w ⟨L, hsd, hL, _, hB⟩; replace hB := hB (hsd.not (i := 0) (by kernel_rfl) hL); obtain ⟨⟨_, _, _, _⟩, ⟨_, _, _, _⟩, ⟨_, _⟩, _⟩ := HV2.out w hB; clear hsd hL hB; go_simp; (try with_reducible rfl)))
      clear hc hS; intro hc hS
      simp only [Act.put, List.setIfInBounds_toArray, List.set_cons_zero, List.set_cons_succ]
      refine wpAnyG_take (i := 1) (oi := ?oib1) (v := ?vb1) ?hib1 (by kernel_rfl) (by kernel_rfl) (by kernel_rfl) ?hQb1 (untilS_set (by decide)) hc ?hyb1 hS ?restb1
      case hib1 => (simp only [List.getElem?_toArray, List.getElem?_cons_succ, List.getElem?_cons_zero]; exact rfl)
      case hQb1 => exact fun _ _ _ h => h
      case hyb1 => (refine Or.inl ⟨rfl, ?_⟩; (intro w _; go_simp; (try with_reducible rfl)))
      clear hc hS; intro hc hS
      simp only [Act.put, List.setIfInBounds_toArray, List.set_cons_zero, List.set_cons_succ]
      refine wpAnyG_take (i := 2) (oi := ?oib2) (v := ?vb2) ?hib2 (by kernel_rfl) (by kernel_rfl) (by kernel_rfl) ?hQb2 (untilS_set (by decide)) hc ?hyb2 hS ?restb2
      case hib2 => (simp only [List.getElem?_toArray, List.getElem?_cons_succ, List.getElem?_cons_zero]; exact rfl)
      case hQb2 => exact fun _ _ _ h => h
      case hyb2 => (refine Or.inl ⟨rfl, ?_⟩; (rintro w ⟨L, hsd, hL, _, hB⟩; replace hB := hB (hsd.not (i := 2) (by kernel_rfl) hL); obtain ⟨⟨_, _, _, _⟩, ⟨_, _, _, _⟩, ⟨_, _⟩, _⟩ := HV2.out w hB; clear hsd hL hB; go_simp; (try with_reducible rfl)))
      clear hc hS; intro hc hS
      simp only [Act.put, List.setIfInBounds_toArray, List.set_cons_zero, List.set_cons_succ]
      refine wpAnyG_only (i := 3) (o := ?oib3) (by kernel_rfl) ?hib3 hc ?restb3
      case hib3 => (simp only [List.getElem?_toArray, List.getElem?_cons_succ, List.getElem?_cons_zero]; exact rfl)
      clear hc; intro hc K hK; have HK := Lib.hid hK; clear hK
      go_simp
      go_at_call 157
      refine (HWD.out _).mono ?_
      rintro e w8 ⟨rfl, hb8⟩
      have HB8 : Hid (Below V2.heap.size V2 w8) := (Below.refl V2.heap.size V2).drew.trans (hb8.mono (Below.refl V2.heap.size V2).drew.size)
      clear hb8
      refine HK.out _ _ (untilS_all ⟨trivial, HB8.out⟩ _) ?_
      clear HK K hS; intro hS
      refine wpAnyG_only (i := 4) (o := ?oib4) (by kernel_rfl) ?hib4 hc ?restb4
      case hib4 => (simp only [List.getElem?_toArray, List.getElem?_cons_succ, List.getElem?_cons_zero]; exact rfl)
      clear hc; intro hc K hK; have HK := Lib.hid hK; clear hK
      go_simp
      go_at_call 158
      refine (HTI.out dk p2 _).mono ?_
      rintro e w9 ⟨rfl, hb9⟩
      have HB9 : Hid (Below V2.heap.size V2 w9) := HB8.out.trans (hb9.mono HB8.out.size)
      clear hb9
      refine HK.out _ _ (untilS_all ⟨trivial, HB9.out⟩ _) ?_
      clear HK K hS; intro hS
      obtain ⟨⟨_, _, _, _⟩, ⟨_, _, _, _⟩, ⟨_, _⟩, _⟩ := HV2.out w9 HB9.out
      refine wpAnyG_only (i := 5) (o := ?oib5) (by kernel_rfl) ?hib5 hc ?restb5
      case hib5 => (simp only [List.getElem?_toArray, List.getElem?_cons_succ, List.getElem?_cons_zero]; exact rfl)
      clear hc; intro hc K hK; have HK := Lib.hid hK; clear hK
      go_simp
      refine HK.out _ _ (untilS_past trivial (by first | rfl | decide)) ?_
      clear HK K hS; intro hS
      refine wpAnyG_done (by kernel_rfl) ?_ _
      refine HKL.out _ _ ?_
      clear HKL hc hS
      go_wp2
      go_roundw
      case rel => exact ⟨k + 1, by omega, by go_num, by rw [HN1.out]; exact (HX7.out.next HB9.out).other hne7 _ _, by rw [HN1.out]; exact (HX8.out.next HB9.out).stored _ _, ((HBW7.out.trans (HB9.out.mono HBW7.out.size)).setCell (p := ⟨b7 + 1, 0, none⟩) (Nat.le_succ_of_le hb7w) _).setCell (p := ⟨b7 + 1, 1, none⟩) (Nat.le_succ_of_le hb7w) _⟩
      case measure => simp [intOf]; omega
    · obtain rfl : k = L := by omega
      obtain ⟨nk, hnk⟩ : ∃ nk, (upN row ps k).1 = nk := ⟨_, rfl⟩
      obtain ⟨dk, hdk⟩ : ∃ dk, (upN row ps k).2 = dk := ⟨_, rfl⟩
      rw [hnk] at H7
      rw [hdk] at H8
      rw [hnk, hdk] at HUB
      obtain ⟨e1, h1⟩ : ∃ e, decide (hi64 nk = hi64 (dk * s)) = e := ⟨_, rfl⟩
      obtain ⟨e2, h2⟩ : ∃ e, decide (lo64 nk = lo64 (dk * s)) = e := ⟨_, rfl⟩
      have HUF : Hid (upB row ps s = (e1 && e2)) := by show _ = _; rw [HUB.out]; unfold wideEq; rw [h1, h2]
      have HV3 : Hid (∀ W, Below wr.heap.size wr W → (W.cell? ⟨b7, 0, none⟩ = some (.int .u64 (hi64 nk)) ∧ W.cell? ⟨b7, 1, none⟩ = some (.int .u64 (lo64 nk))) ∧ (W.cell? ⟨b7 + 1, 0, none⟩ = some (.int .u64 (hi64 dk)) ∧ W.cell? ⟨b7 + 1, 1, none⟩ = some (.int .u64 (lo64 dk)))) := fun W h => by
        have a := H7.out.next h
        have b := H8.out.next h
        exact ⟨⟨a.c0, a.c1⟩, ⟨b.c0, b.c1⟩⟩
      have y1 : (hi64 nk == hi64 (dk * s)) = e1 := by rw [← h1]; rfl
      have y2 : (lo64 nk == lo64 (dk * s)) = e2 := by rw [← h2]; rfl
      clear hnk hdk h1 h2 HUB
      go_wp2
      rename_i aK
      have HKO := Lib.hid aK
      clear aK
      refine wp_region_G (S := fun _ W => Below wr.heap.size wr W) (by kernel_rfl) ((Below.refl _ _).drew) ?_
      intro hc hS
      refine wpAnyG_take (i := 0) (oi := ?oic0) (v := ?vc0) ?hic0 (by kernel_rfl) (by kernel_rfl) (by kernel_rfl) ?hQc0 (fun _ _ => Iff.rfl) hc ?hyc0 hS ?restc0
      case hic0 => (simp only [List.getElem?_toArray, List.getElem?_cons_zero]; exact rfl)
      case hQc0 => exact fun _ _ _ h => h
      case hyc0 => (refine Or.inl ⟨rfl, ?_⟩; (rintro w ⟨L, hsd, hL, hB⟩; obtain ⟨⟨_, _⟩, ⟨_, _⟩⟩ := HV3.out w hB; clear hsd hL hB; go_simp; (try with_reducible rfl)))
      clear hc hS; intro hc hS
      simp only [Act.put, List.setIfInBounds_toArray, List.set_cons_zero, List.set_cons_succ]
      refine wpAnyG_take (i := 1) (oi := ?oic1) (v := ?vc1) ?hic1 (by kernel_rfl) (by kernel_rfl) (by kernel_rfl) ?hQc1 (fun _ _ => Iff.rfl) hc ?hyc1 hS ?restc1
      case hic1 => (simp only [List.getElem?_toArray, List.getElem?_cons_succ, List.getElem?_cons_zero]; exact rfl)
      case hQc1 => exact fun _ _ _ h => h
      case hyc1 => (refine Or.inl ⟨rfl, ?_⟩; (rintro w ⟨L, hsd, hL, hB⟩; obtain ⟨⟨_, _⟩, ⟨_, _⟩⟩ := HV3.out w hB; clear hsd hL hB; go_simp; (try with_reducible rfl)))
      clear hc hS; intro hc hS
      simp only [Act.put, List.setIfInBounds_toArray, List.set_cons_zero, List.set_cons_succ]
      refine wpAnyG_take (i := 2) (oi := ?oic2) (v := ?vc2) ?hic2 (by kernel_rfl) (by kernel_rfl) (by kernel_rfl) ?hQc2 (fun _ _ => Iff.rfl) hc ?hyc2 hS ?restc2
      case hic2 => (simp only [List.getElem?_toArray, List.getElem?_cons_succ, List.getElem?_cons_zero]; exact rfl)
      case hQc2 => exact fun _ _ _ h => h
      case hyc2 => (refine Or.inl ⟨rfl, ?_⟩; (intro w _; go_simp; (try with_reducible rfl)))
      clear hc hS; intro hc hS
      simp only [Act.put, List.setIfInBounds_toArray, List.set_cons_zero, List.set_cons_succ]
      refine wpAnyG_only (i := 3) (o := ?oic3) (by kernel_rfl) ?hic3 hc ?restc3
      case hic3 => (simp only [List.getElem?_toArray, List.getElem?_cons_succ, List.getElem?_cons_zero]; exact rfl)
      clear hc; intro hc K hK; have HK := Lib.hid hK; clear hK
      go_simp
      go_at_call 157
      refine (HWS.out _).mono ?_
      rintro e w8 ⟨rfl, hb8⟩
      have HB8 : Hid (Below wr.heap.size wr w8) := (Below.refl wr.heap.size wr).drew.trans (hb8.mono (Below.refl wr.heap.size wr).drew.size)
      clear hb8
      refine HK.out _ _ HB8.out ?_
      clear HK K hS; intro hS
      refine wpAnyG_only (i := 4) (o := ?oic4) (by kernel_rfl) ?hic4 hc ?restc4
      case hic4 => (simp only [List.getElem?_toArray, List.getElem?_cons_succ, List.getElem?_cons_zero]; exact rfl)
      clear hc; intro hc K hK; have HK := Lib.hid hK; clear hK
      go_simp
      go_at_call 158
      refine (HTI.out dk s _).mono ?_
      rintro e w9 ⟨rfl, hb9⟩
      have HB9 : Hid (Below wr.heap.size wr w9) := HB8.out.trans (hb9.mono HB8.out.size)
      clear hb9
      refine HK.out _ _ HB9.out ?_
      clear HK K hS; intro hS
      refine wpAnyG_take (i := 5) (oi := ?oic5) (v := .bool (e1 && e2)) ?hic5 (by kernel_rfl) (by kernel_rfl) (by kernel_rfl) ?hQc5 (fun _ _ => Iff.rfl) hc ?hyc5 hS ?restc5
      case hic5 => (simp only [List.getElem?_toArray, List.getElem?_cons_succ, List.getElem?_cons_zero]; exact rfl)
      case hQc5 => exact fun _ _ _ h => h
      case hyc5 => (refine Or.inl ⟨rfl, ?_⟩; (intro w _; go_simp; cases e1 <;> cases e2 <;> rfl))
      clear hc hS; intro hc hS
      simp only [Act.put, List.setIfInBounds_toArray, List.set_cons_zero, List.set_cons_succ]
      refine wpAnyG_take (i := 6) (oi := ?oic6) (v := ?vc6) ?hic6 (by kernel_rfl) (by kernel_rfl) (by kernel_rfl) ?hQc6 (fun _ _ => Iff.rfl) hc ?hyc6 hS ?restc6
      case hic6 => (simp only [List.getElem?_toArray, List.getElem?_cons_succ, List.getElem?_cons_zero]; exact rfl)
      case hQc6 => exact fun _ _ _ h => h
      case hyc6 => (refine Or.inl ⟨rfl, ?_⟩; (intro w _; go_simp; (try with_reducible rfl)))
      clear hc hS; intro hc hS
      simp only [Act.put, List.setIfInBounds_toArray, List.set_cons_zero, List.set_cons_succ]
      refine wpAnyG_done (by kernel_rfl) ?_ _
      refine HKO.out _ _ ?_
      go_wp2
      go_ret
      exact ⟨ret_bool HUF.out.symm, HBW.out.trans (HB9.out.mono HBW.out.size)⟩
end Go.Proofs.YtfnomiingelfaaaGreat
/- SameRatios, SameFit and SameFits of the answers, slices.Equal of fractions: contracts. -/
namespace Go.Proofs.YtfnomiingelfaaaGreat
open Go.RowKit Go.Shelf

set_option maxRecDepth 1000000 in
set_option maxHeartbeats 1600000 in
theorem sameRR_any (a : Option Addr) (ps : List (Int × Int)) (ca : Nat) (b : Option Addr) (qs : List (Int × Int)) (cb : Nat) (w : World) (hl : ps.length ≤ 1000) (_hl2 : qs.length ≤ 1000) (ha : Rr w a ps) (hb : Rr w b qs) :
    Calls Tryz.prog 22 #[.slice a ps.length ca, .slice b qs.length cb] w fun e w' => e = .returned (.bool (decide (ps = qs))) ∧ ∃ n, w' = w.drewN n := by
  have HA := Lib.hid ha; clear ha
  have HB := Lib.hid hb; clear hb
  obtain ⟨r, hr⟩ : ∃ r, decide (ps = qs) = r := ⟨_, rfl⟩
  have HR := Lib.hid hr
  rw [hr]
  obtain ⟨n, hn⟩ : ∃ n, ps.length = n := ⟨_, rfl⟩
  have HN := Lib.hid hn
  obtain ⟨n2, hn2⟩ : ∃ n2, qs.length = n2 := ⟨_, rfl⟩
  have HN2 := Lib.hid hn2
  rw [hn] at hl ⊢
  rw [hn2]
  clear hn hn2 hr
  by_cases hne : n = n2
  case neg =>
    have hF : Hid (r = false) := by
      show _ = _
      rw [← HR.out, decide_eq_false_iff_not]
      intro e
      exact hne (by rw [← HN.out, ← HN2.out, e])
    have hb : ((n : Int) == (n2 : Int)) = false := by simp; omega
    have hb' : ((n : Int) != (n2 : Int)) = true := by simp; omega
    clear hne
    go_enter Tryz.func22, Tryz.ntmps22
    go_wp2
    go_ret
    exact ⟨ret_bool hF.out.symm, 0, rfl⟩
  case pos =>
    have HNE := Lib.hid hne
    have hb : ((n : Int) == (n2 : Int)) = true := by simp; omega
    have hb' : ((n : Int) != (n2 : Int)) = false := by simp; omega
    clear hne
    go_enter Tryz.func22, Tryz.ntmps22
    go_wp2
    clear hb hb'
    go_loopw [13] (fun i wr => ∃ k nd : Nat, k ≤ n ∧ i = .int .i64 k ∧ wr = w.drewN nd ∧ ∀ j, j < k → ps[j]? = qs[j]?) (fun i _ => n - (intOf i).toNat)
    case atStart => exact ⟨0, 0, Nat.zero_le _, rfl, rfl, fun j h => by omega⟩
    case round =>
      obtain ⟨k, nd, hk, rfl, rfl, hsame⟩ := hrel
      have HS := Lib.hid hsame; clear hsame
      by_cases hlt : k < n
      · obtain ⟨p, hp⟩ : ∃ p, ps[k]? = some p := ⟨ps[k]'(by rw [HN.out]; exact hlt), by simp [HN.out, hlt]⟩
        have hlt2 : k < n2 := by rw [← HNE.out]; exact hlt
        obtain ⟨q, hq⟩ : ∃ q, qs[k]? = some q := ⟨qs[k]'(by rw [HN2.out]; exact hlt2), by simp [HN2.out, hlt2]⟩
        obtain ⟨b1, o1, rfl, a1, a2⟩ := HA.out k p hp
        obtain ⟨b2, o2, rfl, c1, c2⟩ := HB.out k q hq
        have a1 : (w.drewN nd).cell? ⟨b1, o1 + k * 2, none⟩ = some (.int .i64 p.1) := a1
        have a2 : (w.drewN nd).cell? ⟨b1, o1 + k * 2 + 1, none⟩ = some (.int .i64 p.2) := a2
        have c1 : (w.drewN nd).cell? ⟨b2, o2 + k * 2, none⟩ = some (.int .i64 q.1) := c1
        have c2 : (w.drewN nd).cell? ⟨b2, o2 + k * 2 + 1, none⟩ = some (.int .i64 q.2) := c2
        have HP := Lib.hid hp
        have HQ := Lib.hid hq
        clear hp hq
        obtain ⟨p1, p2⟩ := p
        obtain ⟨q1, q2⟩ := q
        dsimp only at a1 a2 c1 c2
        by_cases e1 : p1 = q1
        · by_cases e2 : p2 = q2
          · subst e1
            subst e2
            go_wp2
            go_quiet (fail)
            all_goals
              go_wp2
              go_roundw
              case rel => exact ⟨k + 1, _, by omega, by go_num, by first | rfl | exact World.drewN_drewN _ _ _, fun j hj => by
                by_cases e : j = k
                · subst e; rw [HP.out, HQ.out]
                · exact HS.out j (by omega)⟩
              case measure => simp [intOf]; omega
          · subst e1
            have hF : Hid (r = false) := by
              show _ = _
              rw [← HR.out, decide_eq_false_iff_not]
              intro e
              have h1 := HP.out
              rw [e, HQ.out] at h1
              exact e2 (by simpa using (Option.some.inj h1).symm)
            have z1 : (p2 == q2) = false := by simpa using e2
            have z2 : (p2 != q2) = true := by simpa using e2
            go_wp2
            go_quiet (fail)
            all_goals
              go_wp2
              go_ret
              exact ⟨ret_bool hF.out.symm, _, by first | rfl | exact World.drewN_drewN _ _ _⟩
        · have hF : Hid (r = false) := by
            show _ = _
            rw [← HR.out, decide_eq_false_iff_not]
            intro e
            have h1 := HP.out
            rw [e, HQ.out] at h1
            have h2 := Option.some.inj h1
            exact e1 (by simpa using (congrArg Prod.fst h2).symm)
          have z1 : (p1 == q1) = false := by simpa using e1
          have z2 : (p1 != q1) = true := by simpa using e1
          go_wp2
          go_quiet (fail)
          all_goals
            go_wp2
            go_ret
            exact ⟨ret_bool hF.out.symm, _, by first | rfl | exact World.drewN_drewN _ _ _⟩
      · obtain rfl : k = n := by omega
        have hT : Hid (r = true) := by
          show _ = _
          rw [← HR.out, decide_eq_true_iff]
          refine List.ext_getElem? fun j => ?_
          by_cases hj : j < k
          · exact HS.out j hj
          · rw [List.getElem?_eq_none (by rw [HN.out]; omega), List.getElem?_eq_none (by rw [HN2.out, ← HNE.out]; omega)]
        go_wp2
        go_ret
        exact ⟨ret_bool hT.out.symm, _, rfl⟩
set_option maxRecDepth 1000000 in
set_option maxHeartbeats 1600000 in
theorem equalRR_any (a : Option Addr) (ps : List (Int × Int)) (ca : Nat) (b : Option Addr) (qs : List (Int × Int)) (cb : Nat) (w : World) (hl : ps.length ≤ 1000) (_hl2 : qs.length ≤ 1000) (ha : Rr w a ps) (hb : Rr w b qs) :
    Calls Tryz.prog 39 #[.slice a ps.length ca, .slice b qs.length cb] w fun e w' => e = .returned (.bool (decide (ps = qs))) ∧ ∃ n, w' = w.drewN n := by
  have HA := Lib.hid ha; clear ha
  have HB := Lib.hid hb; clear hb
  obtain ⟨r, hr⟩ : ∃ r, decide (ps = qs) = r := ⟨_, rfl⟩
  have HR := Lib.hid hr
  rw [hr]
  obtain ⟨n, hn⟩ : ∃ n, ps.length = n := ⟨_, rfl⟩
  have HN := Lib.hid hn
  obtain ⟨n2, hn2⟩ : ∃ n2, qs.length = n2 := ⟨_, rfl⟩
  have HN2 := Lib.hid hn2
  rw [hn] at hl ⊢
  rw [hn2]
  clear hn hn2 hr
  by_cases hne : n = n2
  case neg =>
    have hF : Hid (r = false) := by
      show _ = _
      rw [← HR.out, decide_eq_false_iff_not]
      intro e
      exact hne (by rw [← HN.out, ← HN2.out, e])
    have hb : ((n : Int) == (n2 : Int)) = false := by simp; omega
    have hb' : ((n : Int) != (n2 : Int)) = true := by simp; omega
    clear hne
    go_enter Tryz.func39, Tryz.ntmps39
    go_wp2
    go_ret
    exact ⟨ret_bool hF.out.symm, 0, rfl⟩
  case pos =>
    have HNE := Lib.hid hne
    have hb : ((n : Int) == (n2 : Int)) = true := by simp; omega
    have hb' : ((n : Int) != (n2 : Int)) = false := by simp; omega
    clear hne
    go_enter Tryz.func39, Tryz.ntmps39
    go_wp2
    clear hb hb'
    go_loopw [13] (fun i wr => ∃ k nd : Nat, k ≤ n ∧ i = .int .i64 k ∧ wr = w.drewN nd ∧ ∀ j, j < k → ps[j]? = qs[j]?) (fun i _ => n - (intOf i).toNat)
    case atStart => exact ⟨0, 0, Nat.zero_le _, rfl, rfl, fun j h => by omega⟩
    case round =>
      obtain ⟨k, nd, hk, rfl, rfl, hsame⟩ := hrel
      have HS := Lib.hid hsame; clear hsame
      by_cases hlt : k < n
      · obtain ⟨p, hp⟩ : ∃ p, ps[k]? = some p := ⟨ps[k]'(by rw [HN.out]; exact hlt), by simp [HN.out, hlt]⟩
        have hlt2 : k < n2 := by rw [← HNE.out]; exact hlt
        obtain ⟨q, hq⟩ : ∃ q, qs[k]? = some q := ⟨qs[k]'(by rw [HN2.out]; exact hlt2), by simp [HN2.out, hlt2]⟩
        obtain ⟨b1, o1, rfl, a1, a2⟩ := HA.out k p hp
        obtain ⟨b2, o2, rfl, c1, c2⟩ := HB.out k q hq
        have a1 : (w.drewN nd).cell? ⟨b1, o1 + k * 2, none⟩ = some (.int .i64 p.1) := a1
        have a2 : (w.drewN nd).cell? ⟨b1, o1 + k * 2 + 1, none⟩ = some (.int .i64 p.2) := a2
        have c1 : (w.drewN nd).cell? ⟨b2, o2 + k * 2, none⟩ = some (.int .i64 q.1) := c1
        have c2 : (w.drewN nd).cell? ⟨b2, o2 + k * 2 + 1, none⟩ = some (.int .i64 q.2) := c2
        have HP := Lib.hid hp
        have HQ := Lib.hid hq
        clear hp hq
        obtain ⟨p1, p2⟩ := p
        obtain ⟨q1, q2⟩ := q
        dsimp only at a1 a2 c1 c2
        by_cases e1 : p1 = q1
        · by_cases e2 : p2 = q2
          · subst e1
            subst e2
            go_wp2
            go_quiet (fail)
            all_goals
              go_wp2
              go_roundw
              case rel => exact ⟨k + 1, _, by omega, by go_num, by first | rfl | exact World.drewN_drewN _ _ _, fun j hj => by
                by_cases e : j = k
                · subst e; rw [HP.out, HQ.out]
                · exact HS.out j (by omega)⟩
              case measure => simp [intOf]; omega
          · subst e1
            have hF : Hid (r = false) := by
              show _ = _
              rw [← HR.out, decide_eq_false_iff_not]
              intro e
              have h1 := HP.out
              rw [e, HQ.out] at h1
              exact e2 (by simpa using (Option.some.inj h1).symm)
            have z1 : (p2 == q2) = false := by simpa using e2
            have z2 : (p2 != q2) = true := by simpa using e2
            go_wp2
            go_quiet (fail)
            all_goals
              go_wp2
              go_ret
              exact ⟨ret_bool hF.out.symm, _, by first | rfl | exact World.drewN_drewN _ _ _⟩
        · have hF : Hid (r = false) := by
            show _ = _
            rw [← HR.out, decide_eq_false_iff_not]
            intro e
            have h1 := HP.out
            rw [e, HQ.out] at h1
            have h2 := Option.some.inj h1
            exact e1 (by simpa using (congrArg Prod.fst h2).symm)
          have z1 : (p1 == q1) = false := by simpa using e1
          have z2 : (p1 != q1) = true := by simpa using e1
          go_wp2
          go_quiet (fail)
          all_goals
            go_wp2
            go_ret
            exact ⟨ret_bool hF.out.symm, _, by first | rfl | exact World.drewN_drewN _ _ _⟩
      · obtain rfl : k = n := by omega
        have hT : Hid (r = true) := by
          show _ = _
          rw [← HR.out, decide_eq_true_iff]
          refine List.ext_getElem? fun j => ?_
          by_cases hj : j < k
          · exact HS.out j hj
          · rw [List.getElem?_eq_none (by rw [HN.out]; omega), List.getElem?_eq_none (by rw [HN2.out, ← HNE.out]; omega)]
        go_wp2
        go_ret
        exact ⟨ret_bool hT.out.symm, _, rfl⟩
set_option maxRecDepth 100000 in
set_option maxHeartbeats 1600000 in
theorem sameFitG_any (qa : Option Addr) (px : List Int) (qc : Nat) (va : Option Addr) (vs : List (Int × Int)) (vc : Nat) (qa2 : Option Addr) (px2 : List Int) (qc2 : Nat) (va2 : Option Addr) (vs2 : List (Int × Int)) (vc2 : Nat) (w : World) (hl : px.length ≤ 1000) (hlb : px2.length ≤ 1000) (hl2 : vs.length ≤ 1000) (hl2b : vs2.length ≤ 1000) (s1 : Sl w qa px) (s2 : Sl w qa2 px2) (r1 : Rr w va vs) (r2 : Rr w va2 vs2) :
    Calls Tryz.prog 25 #[.agg #[.slice qa px.length qc, .slice va vs.length vc], .agg #[.slice qa2 px2.length qc2, .slice va2 vs2.length vc2]] w fun e w' => e = .returned (.bool (decide (px = px2 ∧ vs = vs2))) ∧ Below w.heap.size w w' := by
  obtain ⟨V1, hV1⟩ : ∃ V1, w.alloc (.cells #[.slice qa px.length qc, .slice va vs.length vc] 27) = V1 := ⟨_, rfl⟩
  obtain ⟨V, hV⟩ : ∃ V, V1.alloc (.cells #[.slice qa2 px2.length qc2, .slice va2 vs2.length vc2] 27) = V := ⟨_, rfl⟩
  have hb1 : Below w.heap.size w V1 := by rw [← hV1]; exact (Below.refl _ _).alloc (Nat.le_refl _) _
  have hb2 : Below V1.heap.size V1 V := by rw [← hV]; exact (Below.refl _ _).alloc (Nat.le_refl _) _
  have hbv : Below w.heap.size w V := hb1.trans (hb2.mono hb1.size)
  have HBV := Lib.hid hbv
  have HQ : Hid (∀ n, (V.drewN n).cell? ⟨w.heap.size, 0, none⟩ = some (.slice qa px.length qc) ∧ (V.drewN n).cell? ⟨w.heap.size, 1, none⟩ = some (.slice va vs.length vc)) := fun n => by
    obtain ⟨q0, q1, _, _⟩ := box2 hV1 (V.drewN n) (below_drewN hb2 n)
    exact ⟨q0, q1⟩
  have HF : Hid (∀ n, (V.drewN n).cell? ⟨V1.heap.size, 0, none⟩ = some (.slice qa2 px2.length qc2) ∧ (V.drewN n).cell? ⟨V1.heap.size, 1, none⟩ = some (.slice va2 vs2.length vc2)) := fun n => by
    obtain ⟨q0, q1, _, _⟩ := box2 hV (V.drewN n) (below_drewN (Below.refl _ _) n)
    exact ⟨q0, q1⟩
  obtain ⟨f0, f1, _, _⟩ := box2 hV V (Below.refl _ _)
  obtain ⟨g0, g1, _, _⟩ := box2 hV1 V hb2
  obtain ⟨z1, hz1⟩ : ∃ z1, decide (px = px2) = z1 := ⟨_, rfl⟩
  obtain ⟨z2, hz2⟩ : ∃ z2, decide (vs = vs2) = z2 := ⟨_, rfl⟩
  have HZ : Hid (decide (px = px2 ∧ vs = vs2) = (z1 && z2)) := by rw [← hz1, ← hz2]; show _ = _; simp
  have HSI : Hid (Calls Tryz.prog 54 #[.slice qa px.length qc, .slice qa2 px2.length qc2] V fun e w' => e = .returned (.bool z1) ∧ ∃ n, w' = V.drewN n) := by rw [← hz1]; exact sameInts_any qa px qc qa2 px2 qc2 V (by omega) (by omega) (s1.below hbv) (s2.below hbv)
  have HSR : Hid (∀ n, Calls Tryz.prog 22 #[.slice va vs.length vc, .slice va2 vs2.length vc2] (V.drewN n) fun e w' => e = .returned (.bool z2) ∧ ∃ k, w' = (V.drewN n).drewN k) := fun n => by rw [← hz2]; exact sameRR_any va vs vc va2 vs2 vc2 (V.drewN n) hl2 hl2b ((r1.below hbv).below (below_drewN (Below.refl _ _) n)) ((r2.below hbv).below (below_drewN (Below.refl _ _) n))
  obtain ⟨pl, hpl⟩ : ∃ pl, px.length = pl := ⟨_, rfl⟩
  obtain ⟨vl, hvl⟩ : ∃ vl, vs.length = vl := ⟨_, rfl⟩
  obtain ⟨pl2, hpl2⟩ : ∃ pl2, px2.length = pl2 := ⟨_, rfl⟩
  obtain ⟨vl2, hvl2⟩ : ∃ vl2, vs2.length = vl2 := ⟨_, rfl⟩
  rw [hpl] at HQ g0 HSI hV1 ⊢
  rw [hvl] at HQ g1 HSR hV1 ⊢
  rw [hpl2] at HF f0 HSI hV ⊢
  rw [hvl2] at HF f1 HSR hV ⊢
  rw [HZ.out]
  clear s1 s2 r1 r2 hb1 hb2 hbv hpl hvl hpl2 hvl2 hz1 hz2 HZ hl hl2 hlb hl2b
  cases z1 with
  | true =>
    go_enter Tryz.func25, Tryz.ntmps25
    go_wp2_with (first
      | (go_at_call 54; refine HSI.out.mono ?_; rintro e w1 ⟨rfl, n1, rfl⟩; obtain ⟨f0, f1⟩ := HF.out n1; obtain ⟨g0, g1⟩ := HQ.out n1)
      | (go_at_call 22; refine (HSR.out _).mono ?_; rintro e w2 ⟨rfl, n2, rfl⟩))
    go_ret
    exact ⟨ret_bool (by simp), below_drewN HBV.out _⟩
  | false =>
    go_enter Tryz.func25, Tryz.ntmps25
    go_wp2_with (go_at_call 54; refine HSI.out.mono ?_; rintro e w1 ⟨rfl, n1, rfl⟩; obtain ⟨f0, f1⟩ := HF.out n1; obtain ⟨g0, g1⟩ := HQ.out n1)
    go_ret
    exact ⟨ret_bool (by simp), below_drewN HBV.out _⟩
set_option maxRecDepth 100000 in
set_option maxHeartbeats 1600000 in
theorem sameFits_any (a : Option Addr) (L : List (List Int × List (Int × Int))) (ca : Nat) (b : Option Addr) (cb : Nat) (w : World) (hl : L.length ≤ 100000) (hL : ∀ q ∈ L, q.1.length ≤ 1000 ∧ q.2.length ≤ 1000) (ha : Fs w a L) (hb : Fs w b L) :
    Calls Tryz.prog 15 #[.slice a L.length ca, .slice b L.length cb] w fun e w' => e = .returned (.bool true) ∧ Below w.heap.size w w' := by
  have HA := Lib.hid ha; clear ha
  have HB := Lib.hid hb; clear hb
  have HLL := Lib.hid hL; clear hL
  obtain ⟨n, hn⟩ : ∃ n, L.length = n := ⟨_, rfl⟩
  have HN := Lib.hid hn
  rw [hn] at hl ⊢
  clear hn
  go_enter Tryz.func15, Tryz.ntmps15
  go_wp2
  go_loopw [13] (fun i wr => ∃ k : Nat, k ≤ n ∧ i = .int .i64 k ∧ Below w.heap.size w wr) (fun i _ => n - (intOf i).toNat)
  case atStart => exact ⟨0, Nat.zero_le _, rfl, Below.refl _ _⟩
  case round =>
    obtain ⟨k, hk, rfl, hB⟩ := hrel
    have HW := Lib.hid hB; clear hB
    by_cases hlt : k < n
    · obtain ⟨p, hp⟩ : ∃ p, L[k]? = some p := ⟨L[k]'(by rw [HN.out]; exact hlt), by simp [HN.out, hlt]⟩
      obtain ⟨b1, qa, qc, va, vc, rfl, c1, c2, c3, c4⟩ := (HA.out.below HW.out) k p hp
      obtain ⟨b2, qa2, qc2, va2, vc2, rfl, d1, d2, d3, d4⟩ := (HB.out.below HW.out) k p hp
      obtain ⟨h1, h2⟩ := HLL.out p (List.mem_of_getElem? hp)
      have hbd : Below wr.heap.size wr wr.drew := ⟨rfl, rfl, rfl, Nat.le_refl _, fun _ _ => rfl⟩
      have HSF : Hid (Calls Tryz.prog 25 #[.agg #[.slice qa p.1.length qc, .slice va p.2.length vc], .agg #[.slice qa2 p.1.length qc2, .slice va2 p.2.length vc2]] wr.drew fun e w' => e = .returned (.bool true) ∧ Below wr.heap.size wr w') := by
        refine (sameFit_any qa p.1 qc va p.2 vc qa2 qc2 va2 vc2 wr.drew h1 h2 (c3.below hbd) (d3.below hbd) (c4.below hbd) (d4.below hbd)).mono ?_
        rintro e w' ⟨q1, q2⟩
        exact ⟨q1, hbd.trans q2⟩
      obtain ⟨pl, hpl⟩ : ∃ pl, p.1.length = pl := ⟨_, rfl⟩
      obtain ⟨vl, hvl⟩ : ∃ vl, p.2.length = vl := ⟨_, rfl⟩
      rw [hpl] at HSF c1 d1
      rw [hvl] at HSF c2 d2
      clear c3 c4 d3 d4 hp h1 h2 hbd hpl hvl
      have g1 := cell_lt c1
      have g2 := cell_lt d1
      go_wp2
      go_region_held_law (fun w' => (w'.cell? ⟨b1, k * 2, none⟩ = some (.slice qa pl qc) ∧ w'.cell? ⟨b1, k * 2 + 1, none⟩ = some (.slice va vl vc)) ∧ w'.cell? ⟨b2, k * 2, none⟩ = some (.slice qa2 pl qc2) ∧ w'.cell? ⟨b2, k * 2 + 1, none⟩ = some (.slice va2 vl vc2)) (first | exact ⟨⟨by assumption, by assumption⟩, by assumption, by assumption⟩ | go_keep) (first | (go_at_call 25; refine HSF.out.mono ?_; rintro e w1 ⟨rfl, hb1⟩; have e1 := (hb1.cell (p := ⟨b1, k * 2, none⟩) (cell_lt c1)).trans c1; have e2 := (hb1.cell (p := ⟨b1, k * 2 + 1, none⟩) (cell_lt c2)).trans c2; have e3 := (hb1.cell (p := ⟨b2, k * 2, none⟩) (cell_lt d1)).trans d1; have e4 := (hb1.cell (p := ⟨b2, k * 2 + 1, none⟩) (cell_lt d2)).trans d2))
      rename_i hHeld; clear hHeld c1 c2 d1 d2
      have HW2 : Hid (Below w.heap.size w w1) := HW.out.trans (hb1.mono HW.out.size)
      clear hb1
      go_wp2
      go_roundw
      case rel => exact ⟨k + 1, by omega, by go_num, HW2.out⟩
      case measure => simp [intOf]; omega
    · obtain rfl : k = n := by omega
      go_wp2
      go_ret
      exact ⟨rfl, HW.out⟩
end Go.Proofs.YtfnomiingelfaaaGreat
/- known of a reduction: a contract. -/
namespace Go.Proofs.YtfnomiingelfaaaGreat
open Go.RowKit

/-- All free columns of a row are 0. -/
def loneR (M : List (List Int)) (pz : List Int) (cols i : Nat) : Bool := (freeTo pz cols).all fun f => gt (rowL M i) f.toNat == 0
/-- The row in which a column stands alone, or -1. -/
def knownV (M : List (List Int)) (pz : List Int) (cols : Nat) (v : Int) : Int := if indexV pz v < 0 then -1 else if loneR M pz cols (indexV pz v).toNat = true then indexV pz v else -1
theorem indexV_at (pz : List Int) (v : Int) : indexV pz v = -1 ∨ ∃ i : Nat, indexV pz v = (i : Int) ∧ i < pz.length ∧ gt pz i = v := by
  have hm := indexV_mem (xs := pz) (v := v)
  by_cases h : v ∈ pz
  · have hex : ∃ k, k < pz.length ∧ gt pz k = v ∧ ∀ j, j < k → gt pz j ≠ v := by
      obtain ⟨k, hk, e⟩ := mem_gt.1 h
      induction k using Nat.strongRecOn with
      | _ k ih =>
        by_cases hj : ∃ j, j < k ∧ gt pz j = v
        · obtain ⟨j, j1, j2⟩ := hj
          exact ih j j1 (by omega) j2
        · exact ⟨k, hk, e, fun j j1 j2 => hj ⟨j, j1, j2⟩⟩
    obtain ⟨k, k1, k2, k3⟩ := hex
    exact .inr ⟨k, indexV_hit k1 k3 k2, k1, k2⟩
  · exact .inl (indexV_miss fun j hj e => h (mem_gt.2 ⟨j, hj, e⟩))
end Go.Proofs.YtfnomiingelfaaaGreat
/- What is known: the two sides agree. Plain words. Speaks of no program. -/
namespace Go.Proofs.YtfnomiingelfaaaGreat
open Go.RowKit

theorem short_zero {v : List Int} {c : Nat} (hc : c < v.length) (hg : gcdL v ≠ 0) : gt (shortL v) c = 0 ↔ gt v c = 0 := by
  have e := gt_short hc
  constructor
  · intro h; rw [e, h]; simp
  · intro h
    rw [h] at e
    rcases Int.mul_eq_zero.mp e.symm with e2 | e2
    · omega
    · exact e2
theorem known_same {m : List (List Int)} (hv : validM m = true) {j : Nat} (hj : j < colsM m) :
    (decide (0 ≤ knownV (redN m (upTo (colsM m))).rows (redN m (upTo (colsM m))).piv (colsM m) (j : Int)) = rknownB m j) := by
  obtain ⟨_, hm6, _, _, _⟩ := validM_of hv
  have h := basis_fin hv
  unfold rknownB basisM
  obtain ⟨r, hr⟩ : ∃ r, redN m (upTo (colsM m)) = r := ⟨_, rfl⟩
  rw [hr] at h ⊢
  obtain ⟨N, hN⟩ : ∃ N, colsM m = N := ⟨_, rfl⟩
  rw [hN] at h hj ⊢
  rw [Bool.eq_iff_iff, decide_eq_true_eq, List.all_eq_true]
  have hz : ∀ f, f < N → (f : Int) ∉ r.piv → (gt (shortL (kvec r N f)) j = 0 ↔ gt (kvec r N f) j = 0) := fun f hf hn => short_zero (by rw [kvec_len]; exact hj) (h.kvec_gcd hm6 (Nat.le_refl _) hf hn)
  have all : (∀ x ∈ (freeTo r.piv N).map (fun c => shortL (kvec r N c.toNat)), (gt x j == 0) = true) ↔ ∀ f, f < N → (f : Int) ∉ r.piv → gt (kvec r N f) j = 0 := by
    constructor
    · intro ha f hf hn
      have := ha _ (List.mem_map.2 ⟨(f : Int), (freeTo_mem _ _ _).2 ⟨f, hf, rfl, hn⟩, rfl⟩)
      rw [Int.toNat_natCast] at this
      exact (hz f hf hn).1 (by simpa using this)
    · intro ha x hx
      obtain ⟨c, hc, rfl⟩ := List.mem_map.1 hx
      obtain ⟨f, hf, rfl, hn⟩ := (freeTo_mem _ _ _).1 hc
      rw [Int.toNat_natCast]
      simpa using (hz f hf hn).2 (ha f hf hn)
  rw [all]
  rcases indexV_at r.piv (j : Int) with e | ⟨i, e, hi, hp⟩
  · have hn : (j : Int) ∉ r.piv := by
      have hm := indexV_mem (xs := r.piv) (v := (j : Int))
      rw [e] at hm
      intro hin
      rw [decide_eq_true hin] at hm
      exact absurd hm (by decide)
    unfold knownV
    rw [e, if_pos (by decide)]
    constructor
    · intro hh; omega
    · intro ha
      have := ha j hj hn
      rw [h.kvec_free hm6 (Nat.le_refl _) hj hn] at this
      have := h.pos; omega
  · have hpj : pivN r i = j := by have := h.pivN_eq hi; omega
    unfold knownV
    rw [e, if_neg (by omega), Int.toNat_natCast]
    have hl : loneR r.rows r.piv N i = true ↔ ∀ f, f < N → (f : Int) ∉ r.piv → gt (rowL r.rows i) f = 0 := by
      unfold loneR
      rw [List.all_eq_true]
      constructor
      · intro ha f hf hn
        have := ha _ ((freeTo_mem _ _ _).2 ⟨f, hf, rfl, hn⟩)
        rw [Int.toNat_natCast] at this
        simpa using this
      · intro ha x hx
        obtain ⟨f, hf, rfl, hn⟩ := (freeTo_mem _ _ _).1 hx
        rw [Int.toNat_natCast]
        simpa using ha f hf hn
    have hk : (∀ f, f < N → (f : Int) ∉ r.piv → gt (kvec r N f) j = 0) ↔ ∀ f, f < N → (f : Int) ∉ r.piv → gt (rowL r.rows i) f = 0 := by
      constructor <;> intro ha f hf hn <;> have h1 := h.kvec_piv hm6 (Nat.le_refl _) hf hn hi <;> rw [hpj] at h1 <;> have h2 := ha f hf hn <;> omega
    rw [hk, ← hl]
    cases loneR r.rows r.piv N i
    · simp
    · simp
end Go.Proofs.YtfnomiingelfaaaGreat
/- What is known does not hang on the numbers behind the rows; the row of a pivot as a sum of rows. Plain words. Speaks of no program. -/
namespace Go.Proofs.YtfnomiingelfaaaGreat
open Go.RowKit

variable {R N cols : Nat} {A0 : Nat → Nat → Int} {r : Rd}
theorem sum_cut {f w : Nat → Int} {cols N : Nat} (hc : cols ≤ N) : sumTo (fun c => f c * (if c < cols then w c else 0)) N = sumTo (fun c => f c * w c) cols := by
  obtain ⟨d, rfl⟩ : ∃ d, N = cols + d := ⟨N - cols, by omega⟩
  rw [sumTo_split, sumZ d fun c _ => by rw [if_neg (by omega), Int.mul_zero], Int.add_zero]
  exact sumTo_congr cols fun c hc => by rw [if_pos hc]
theorem RFin.ker_cols (h : RFin R N cols A0 r) (hc : cols ≤ N) (w : Nat → Int) : (∀ i, i < R → sumTo (fun c => A0 i c * w c) cols = 0) ↔ (∀ t, t < r.piv.length → sumTo (fun c => gt (rowL r.rows t) c * w c) cols = 0) := by
  have hk := h.ker (fun c => if c < cols then w c else 0)
  have hl := h.pl
  constructor
  · intro hw t ht
    have := hk.mp (fun i hi => by rw [sum_cut hc]; exact hw i hi) t (by omega)
    rwa [sum_cut hc] at this
  · intro hw i hi
    have := hk.mpr (fun x hx => by
      rw [sum_cut hc]
      by_cases e : x < r.piv.length
      · exact hw x e
      · exact sumZ cols fun c hc => by rw [h.low x (by omega) hx c hc, Int.zero_mul]) i hi
    rwa [sum_cut hc] at this
theorem RFin.kvec_cols (h : RFin R N cols A0 r) (hR : R ≤ 6) (hN : cols ≤ N) {f : Nat} (hf : f < cols) (hn : (f : Int) ∉ r.piv) : ∀ t, t < r.piv.length → sumTo (fun c => gt (rowL r.rows t) c * gt (kvec r cols f) c) cols = 0 := by
  intro t ht
  have hp := h.pivN_lt ht
  have hne : f ≠ pivN r t := fun e => hn (h.mem.mpr ⟨t, ht, e.symm⟩)
  have e0 : ∀ c, c < cols → c ≠ f → c ≠ pivN r t → gt (rowL r.rows t) c * gt (kvec r cols f) c = 0 := fun c hc e1 e2 => by
    by_cases hm : (c : Int) ∈ r.piv
    · obtain ⟨s, hs, e⟩ := h.mem.mp hm
      have := h.self s t hs ht
      rw [e, if_neg (fun e3 => e2 (by rw [e3]; exact e.symm))] at this
      rw [this, Int.zero_mul]
    · rw [h.kvec_else hR hN hf hn hc e1 hm, Int.mul_zero]
  have hs := h.self t t ht ht
  rw [if_pos rfl] at hs
  have goal : gt (rowL r.rows t) f * gt (kvec r cols f) f + gt (rowL r.rows t) (pivN r t) * gt (kvec r cols f) (pivN r t) = 0 := by
    rw [hs, h.kvec_free hR hN hf hn, h.kvec_piv hR hN hf hn ht]; grind
  rcases Nat.lt_or_ge f (pivN r t) with h1 | h1
  · rw [sumPair h1 cols (by omega) fun c hc a b => e0 c hc a b]; exact goal
  · rw [sumPair (s := pivN r t) (t := f) (by omega) cols (by omega) fun c hc a b => e0 c hc b a]; omega
theorem loneR_iff (M : List (List Int)) (pz : List Int) (cols i : Nat) : loneR M pz cols i = true ↔ ∀ f, f < cols → (f : Int) ∉ pz → gt (rowL M i) f = 0 := by
  unfold loneR
  rw [List.all_eq_true]
  constructor
  · intro ha f hf hn
    have := ha _ ((freeTo_mem _ _ _).2 ⟨f, hf, rfl, hn⟩)
    rw [Int.toNat_natCast] at this
    simpa using this
  · intro ha x hx
    obtain ⟨f, hf, rfl, hn⟩ := (freeTo_mem _ _ _).1 hx
    rw [Int.toNat_natCast]
    simpa using ha f hf hn
/-- Where a pixel is known, its row is 0 everywhere else. -/
theorem RFin.known_row (h : RFin R N cols A0 r) {v : Int} (hk : 0 ≤ knownV r.rows r.piv cols v) : ∃ i : Nat, knownV r.rows r.piv cols v = (i : Int) ∧ i < r.piv.length ∧ gt r.piv i = v ∧ ∀ c, c < cols → gt (rowL r.rows i) c = if (c : Int) = v then r.dv else 0 := by
  unfold knownV at hk ⊢
  rcases indexV_at r.piv v with e | ⟨i, e, hi, hp⟩
  · rw [e, if_pos (by decide)] at hk; exact absurd hk (by decide)
  · rw [e, if_neg (by omega), Int.toNat_natCast] at hk ⊢
    by_cases hl : loneR r.rows r.piv cols i = true
    · rw [if_pos hl]
      refine ⟨i, rfl, hi, hp, fun c hc => ?_⟩
      have hpe := h.pivN_eq hi
      by_cases hm : (c : Int) ∈ r.piv
      · obtain ⟨s, hs, e2⟩ := h.mem.mp hm
        have h1 := h.self s i hs hi
        rw [e2] at h1
        rw [h1]
        by_cases e3 : i = s
        · subst e3; rw [if_pos rfl, if_pos (by omega)]
        · rw [if_neg e3, if_neg]
          intro e4
          exact e3 (h.inj hi hs (by omega))
      · rw [(loneR_iff _ _ _ _).1 hl c hc hm, if_neg]
        intro e4
        exact hm (h.mem.mpr ⟨i, hi, by omega⟩)
    · rw [if_neg hl] at hk; exact absurd hk (by decide)
theorem RFin.known_iff (h : RFin R N cols A0 r) (hR : R ≤ 6) (hN : cols ≤ N) {j : Nat} (hj : j < cols) :
    0 ≤ knownV r.rows r.piv cols (j : Int) ↔ ∀ w : Nat → Int, (∀ i, i < R → sumTo (fun c => A0 i c * w c) cols = 0) → w j = 0 := by
  constructor
  · intro hk w hw
    obtain ⟨i, _, hi, _, hrow⟩ := h.known_row hk
    have hs := (h.ker_cols hN w).mp hw i hi
    rw [sumOne (s := j) cols hj fun c hc e => by rw [hrow c hc, if_neg (by omega), Int.zero_mul], hrow j hj, if_pos rfl] at hs
    have := h.pos
    rcases Int.mul_eq_zero.mp hs with e | e
    · omega
    · exact e
  · intro ha
    have hz : ∀ f, f < cols → (f : Int) ∉ r.piv → gt (kvec r cols f) j = 0 := fun f hf hn => ha _ ((h.ker_cols hN _).mpr (h.kvec_cols hR hN hf hn))
    rcases indexV_at r.piv (j : Int) with e | ⟨i, e, hi, hp⟩
    · have hn : (j : Int) ∉ r.piv := by
        have hm := indexV_mem (xs := r.piv) (v := (j : Int))
        rw [e] at hm
        intro hin
        rw [decide_eq_true hin] at hm
        exact absurd hm (by decide)
      have := hz j hj hn
      rw [h.kvec_free hR hN hj hn] at this
      have := h.pos; omega
    · have hpj : pivN r i = j := by have := h.pivN_eq hi; omega
      unfold knownV
      rw [e, if_neg (by omega), Int.toNat_natCast, if_pos]
      · omega
      · rw [loneR_iff]
        intro f hf hn
        have h1 := h.kvec_piv hR hN hf hn hi
        rw [hpj] at h1
        have h2 := hz f hf hn
        omega
/-- Two reductions of rows that begin alike know the same pixels. -/
theorem known_alike {N2 : Nat} {B0 : Nat → Nat → Int} {s : Rd} (h : RFin R N cols A0 r) (g : RFin R N2 cols B0 s) (hR : R ≤ 6) (hN : cols ≤ N) (hN2 : cols ≤ N2) (he : ∀ i, i < R → ∀ c, c < cols → A0 i c = B0 i c) {j : Nat} (hj : j < cols) :
    0 ≤ knownV r.rows r.piv cols (j : Int) ↔ 0 ≤ knownV s.rows s.piv cols (j : Int) := by
  rw [h.known_iff hR hN hj, g.known_iff hR hN2 hj]
  constructor <;> intro ha w hw <;> refine ha w fun i hi => ?_ <;> rw [← hw i hi] <;> refine sumTo_congr cols fun c hc => ?_ <;> rw [he i hi c hc]
/-- The numbers behind a row tell of which rows it is the sum. -/
theorem RFin.behind (h : RFin R N cols A0 r) {n : Nat} (hN : N = cols + n) (hR : R = n) (hw : ∀ i, i < R → ∀ k, k < n → A0 i (cols + k) = if k = i then 1 else 0) {x : Nat} (hx : x < R) {c : Nat} (hc : c < cols) :
    gt (rowL r.rows x) c = sumTo (fun k => gt (rowL r.rows x) (cols + k) * A0 k c) n := by
  subst hN hR
  have hk := (h.ker (fun q => if q < cols then (if q = c then 1 else 0) else -A0 (q - cols) c)).mp (fun i hi => by
    rw [sumTo_split, sumOne (s := c) cols hc fun q hq e => by rw [if_pos hq, if_neg e, Int.mul_zero], if_pos hc, if_pos rfl, sumOne (s := i) R hi fun q hq e => by rw [hw i hi q hq, if_neg e, Int.zero_mul], if_neg (by omega), hw i hi i hi, if_pos rfl, show cols + i - cols = i by omega]
    omega) x hx
  rw [sumTo_split, sumOne (s := c) cols hc fun q hq e => by rw [if_pos hq, if_neg e, Int.mul_zero], if_pos hc, if_pos rfl] at hk
  have e : sumTo (fun i => gt (rowL r.rows x) (cols + i) * (if cols + i < cols then (if cols + i = c then 1 else 0) else -A0 (cols + i - cols) c)) R = -1 * sumTo (fun k => gt (rowL r.rows x) (cols + k) * A0 k c) R := by
    rw [← sumTo_mul]
    refine sumTo_congr R fun k _ => ?_
    rw [if_neg (by omega), show cols + k - cols = k by omega]
    grind
  rw [e] at hk
  omega
/-- A solution's number at a pivot. -/
theorem RFin.sol_at (h : RFin R N cols A0 r) {i : Nat} (hi : i < r.piv.length) : (solL cols r.rows r.piv r.dv r.piv.length)[pivN r i]? = some (lowR (gt (rowL r.rows i) cols) r.dv) := by
  have key : ∀ t, t ≤ r.piv.length → i < t → (solL cols r.rows r.piv r.dv t)[pivN r i]? = some (lowR (gt (rowL r.rows i) cols) r.dv) := by
    intro t
    induction t with
    | zero => intro _ h0; omega
    | succ t ih =>
      intro ht hit
      unfold solL
      have hlen := solL_len cols r.rows r.piv r.dv t
      by_cases e : t = i
      · subst e
        show ((solL cols r.rows r.piv r.dv t).set (pivN r t) _)[pivN r t]? = _
        rw [List.getElem?_set_self (by rw [hlen]; exact h.pivN_lt hi)]
      · show ((solL cols r.rows r.piv r.dv t).set (pivN r t) _)[pivN r i]? = _
        rw [List.getElem?_set_ne (fun e2 => e (h.inj (by omega) hi e2))]
        exact ih (by omega) (by omega)
  exact key _ (Nat.le_refl _) hi
end Go.Proofs.YtfnomiingelfaaaGreat
/- whichOf: contracts. -/
namespace Go.Proofs.YtfnomiingelfaaaGreat
open Go.RowKit

/-- The i-th unit list. -/
def whichB (n i : Nat) : List Int := (List.replicate n (0 : Int)).set i 1
theorem whichB_ok {n : Nat} : ∀ i, i < n → (whichB n i).length = n ∧ ∀ x ∈ whichB n i, In64 x := by
  intro i _
  refine ⟨by simp [whichB], fun x hx => ?_⟩
  rcases List.mem_or_eq_of_mem_set hx with e | e
  · rw [List.eq_of_mem_replicate e]; unfold In64; decide
  · rw [e]; unfold In64; decide
end Go.Proofs.YtfnomiingelfaaaGreat
/- Read and Back of the answers of layer 2: contracts (as in the text of layer 2's statements, on their own). -/
namespace Go.Proofs.YtfnomiingelfaaaGreat
open Go.RowKit

end Go.Proofs.YtfnomiingelfaaaGreat
/- Weighs of layer 3 and of its answers: contracts. -/
namespace Go.Proofs.YtfnomiingelfaaaGreat
open Go.RowKit

/-- Whether sums are above 0 at a pixel and 0 elsewhere. -/
def lone (s : List Int) (p : Int) : Bool := (List.range s.length).all fun j => if (j : Int) = p then decide (0 < gt s j) else decide (gt s j = 0)
theorem lone_no {s : List Int} {p : Int} {j : Nat} (hj : j < s.length) (h : (if (j : Int) = p then decide (0 < gt s j) else decide (gt s j = 0)) = false) : lone s p = false := by
  unfold lone; rw [List.all_eq_false]; exact ⟨j, List.mem_range.2 hj, by simp [h]⟩
theorem lone_yes {s : List Int} {p : Int} (h : ∀ j, j < s.length → (if (j : Int) = p then decide (0 < gt s j) else decide (gt s j = 0)) = true) : lone s p = true := by
  unfold lone; rw [List.all_eq_true]; intro j hj; exact h j (List.mem_range.1 hj)
def weighsB (m : List (List Int)) (p : Int) (z : List Int) : Bool := decide ((backV m z).2 = 0) && allB 1000000 z && thereB m p && lone (backV m z).1 p
theorem backV_0 {m : List (List Int)} {z : List Int} (h : (backV m z).2 = 0) : validM m = true ∧ z.length = m.length ∧ allB 1000000000 z = true ∧ (backV m z).1 = backL m z := by
  unfold backV at h ⊢
  cases hv : validM m
  · rw [hv] at h; cases h
  · rw [hv] at h
    simp only [if_true] at h ⊢
    by_cases h0 : fitsV z m.length 1000000000 = 0
    · obtain ⟨h1, h2⟩ := fitsV_0 h0
      rw [if_pos h0]
      exact ⟨by trivial, by omega, h2, rfl⟩
    · rw [if_neg h0] at h; exact absurd h h0
theorem backV_len10 (m : List (List Int)) (z : List Int) : (backV m z).1.length ≤ 10 := by
  unfold backV
  split
  · rename_i hv
    split
    · show (backL m z).length ≤ 10
      rw [backL_length]; exact (validM_of hv).2.2.2.1
    · exact Nat.zero_le _
  · exact Nat.zero_le _
theorem allB_up {z : List Int} (h : allB 1000000 z = true) : allB 1000000000 z = true := by
  unfold allB at h ⊢
  rw [List.all_eq_true] at h ⊢
  intro x hx
  have := h x hx
  simp [outB] at this ⊢; omega
theorem thereB_range (m : List (List Int)) (p : Int) : thereB m p = rangeB p 0 ((colsM m : Int) - 1) := by
  unfold thereB rangeB
  by_cases h : p < colsM m
  · simp [h]; intro _; omega
  · simp [h]; intro _; omega
end Go.Proofs.YtfnomiingelfaaaGreat
/- Reading and reading back are adjoint, and reading is additive: plain mathematics on lists of whole numbers. Speaks of no program. -/
namespace Go.Proofs.YtfnomiingelfaaaGreat
open Go.RowKit

theorem sumTo_zero : ∀ n, sumTo (fun _ => 0) n = 0
  | 0 => rfl
  | n + 1 => by simp only [sumTo, sumTo_zero n]; rfl
theorem sumTo_swap (f : Nat → Nat → Int) (n : Nat) : ∀ m, sumTo (fun i => sumTo (fun j => f i j) n) m = sumTo (fun j => sumTo (fun i => f i j) m) n
  | 0 => by simp only [sumTo]; exact (sumTo_zero n).symm
  | m + 1 => by
    simp only [sumTo]
    rw [sumTo_swap f n m, sumTo_add (fun j => sumTo (fun i => f i j) m) (fun j => f m j)]
theorem gt_readL {m : List (List Int)} {x : List Int} {i : Nat} (hi : i < m.length) : gt (readL m x) i = dot (m[i]?.getD []) x := by
  unfold gt readL; simp [hi]
theorem gt_backL {m : List (List Int)} {y : List Int} {j : Nat} (hj : j < colsM m) : gt (backL m y) j = dot (colM m j) y := by
  unfold backL; exact gt_map_range _ hj
theorem gt_colM {m : List (List Int)} {i j : Nat} (hi : i < m.length) : gt (colM m j) i = gt (m[i]?.getD []) j := by
  unfold colM; unfold gt; simp [hi]
theorem adjoint {m : List (List Int)} {x y : List Int} (h : validM m = true) (_hx : x.length = colsM m) (hy : y.length = m.length) : dot y (readL m x) = dot (backL m y) x := by
  have e1 : dot y (readL m x) = sumTo (fun i => sumTo (fun j => gt (m[i]?.getD []) j * gt y i * gt x j) (colsM m)) m.length := by
    unfold dot
    rw [hy]
    refine sumTo_congr _ fun i hi => ?_
    rw [gt_readL hi]
    have hr : m[i]? = some (m[i]?.getD []) := by simp [hi]
    unfold dot
    rw [(validM_row h hr).1, ← sumTo_mul]
    refine sumTo_congr _ fun j _ => ?_
    rw [Int.mul_comm (gt (m[i]?.getD []) j) (gt y i), Int.mul_assoc]
  have e2 : dot (backL m y) x = sumTo (fun j => sumTo (fun i => gt (m[i]?.getD []) j * gt y i * gt x j) m.length) (colsM m) := by
    unfold dot
    rw [backL_length]
    refine sumTo_congr _ fun j hj => ?_
    rw [gt_backL hj, Int.mul_comm]
    unfold dot
    rw [colM_length, ← sumTo_mul]
    refine sumTo_congr _ fun i hi => ?_
    rw [gt_colM hi, Int.mul_comm]
  rw [e1, e2, sumTo_swap]
/-- The sums of two lists, place by place. -/
def addL (x z : List Int) : List Int := (List.range x.length).map fun j => gt x j + gt z j
theorem addL_length (x z : List Int) : (addL x z).length = x.length := by simp [addL]
theorem gt_addL {x z : List Int} {j : Nat} (hj : j < x.length) : gt (addL x z) j = gt x j + gt z j := by unfold addL; exact gt_map_range _ hj
theorem dot_add {r x z : List Int} (hx : r.length ≤ x.length) : dot r (addL x z) = dot r x + dot r z := by
  unfold dot
  rw [← sumTo_add]
  refine sumTo_congr _ fun j hj => ?_
  rw [gt_addL (by omega), Int.mul_add]
theorem read_add {m : List (List Int)} {x z : List Int} (h : validM m = true) (hx : x.length = colsM m) {i : Nat} (hi : i < m.length) : gt (readL m (addL x z)) i = gt (readL m x) i + gt (readL m z) i := by
  rw [gt_readL hi, gt_readL hi, gt_readL hi]
  have hr : m[i]? = some (m[i]?.getD []) := by simp [hi]
  exact dot_add (by rw [(validM_row h hr).1, hx]; exact Nat.le_refl _)
/-- What is read of a shown picture is within ten times its limit. -/
theorem read_bd {m : List (List Int)} {x : List Int} (h : validM m = true) (hx : x.length = colsM m) (ha : allB 1000000 x = true) {i : Nat} (hi : i < m.length) : -10000000 ≤ gt (readL m x) i ∧ gt (readL m x) i ≤ 10000000 := by
  rw [gt_readL hi]
  have hr : m[i]? = some (m[i]?.getD []) := by simp [hi]
  obtain ⟨h1, h2⟩ := validM_row h hr
  obtain ⟨_, _, _, h10, _⟩ := validM_of h
  have := dots_bd h2 ha (by omega) (Nat.le_refl _)
  unfold dot; omega
theorem back_bd {m : List (List Int)} {y : List Int} (h : validM m = true) (hy : y.length = m.length) (ha : allB 1000000000 y = true) {j : Nat} (hj : j < colsM m) : -10000000000 ≤ gt (backL m y) j ∧ gt (backL m y) j ≤ 10000000000 := by
  rw [gt_backL hj]
  obtain ⟨_, h6, _, h10, _⟩ := validM_of h
  have := dots_bd (colM_all h hj) ha (by rw [colM_length]; omega) (Nat.le_refl _)
  unfold dot; rw [colM_length] at *; omega
theorem allB_gt {xs : List Int} {M : Int} (h : ∀ i, i < xs.length → -M ≤ gt xs i ∧ gt xs i ≤ M) : allB M xs = true := by
  refine allB_yes fun j hj => ?_
  have h1 := h j hj
  unfold gt at h1
  simp [outB]; omega
theorem read_all {m : List (List Int)} {x : List Int} (h : validM m = true) (hx : x.length = colsM m) (ha : allB 1000000 x = true) : allB 10000000 (readL m x) = true :=
  allB_gt fun i hi => read_bd h hx ha (by rw [readL_length] at hi; exact hi)
theorem back_all {m : List (List Int)} {y : List Int} (h : validM m = true) (hy : y.length = m.length) (ha : allB 1000000000 y = true) : allB 10000000000 (backL m y) = true :=
  allB_gt fun i hi => back_bd h hy ha (by rw [backL_length] at hi; exact hi)
/-- The sums of two lists as the machine adds them. -/
def addW (x z : List Int) : List Int := (List.range x.length).map fun j => IntKind.i64.wrap (gt x j + gt z j)
theorem addW_length (x z : List Int) : (addW x z).length = x.length := by simp [addW]
theorem addW_next {x z : List Int} {k : Nat} (hk : k < x.length) : (addW x z).take (k + 1) = (addW x z).take k ++ [IntKind.i64.wrap (gt x k + gt z k)] := by
  rw [List.take_succ_eq_append_getElem (by rw [addW_length]; exact hk)]
  congr 2
  simp [addW]
theorem addW_eq {x z : List Int} (hl : z.length = x.length) (hx : allB 1000000 x = true) (hz : allB 1000000 z = true) : addW x z = addL x z := by
  refine list_ext_gt (by rw [addW_length, addL_length]) fun k hk => ?_
  rw [addW_length] at hk
  rw [gt_addL hk]
  unfold addW
  rw [gt_map_range _ hk]
  have h1 := gt_in hx hk
  have h2 := gt_in hz (k := k) (by omega)
  exact IntWalk.i64_in _ (by omega)
theorem shownM_of {m : List (List Int)} {x : List Int} (h : shownM m x = true) : validM m = true ∧ x.length = colsM m ∧ allB 1000000 x = true ∧ fitsV x (colsM m) 1000000 = 0 := by
  unfold shownM at h
  simp only [Bool.and_eq_true, decide_eq_true_eq] at h
  obtain ⟨h1, h2⟩ := h
  refine ⟨h1, ?_, ?_, h2⟩
  · unfold fitsV at h2; split at h2
    · omega
    · cases h2
  · unfold fitsV at h2; split at h2
    · split at h2
      · assumption
      · cases h2
    · cases h2
end Go.Proofs.YtfnomiingelfaaaGreat
/- The numbers behind a row are a weight. Plain words. Speaks of no program. -/
namespace Go.Proofs.YtfnomiingelfaaaGreat
open Go.RowKit

theorem rd_bd1 {R N cols : Nat} {M : List (List Int)} (h1 : M.length = R) (h2 : ∀ q ∈ M, q.length = N) (hR : R ≤ 6) (hN : cols ≤ N) (hb2 : ∀ i, i < R → ∀ c, c < N → -1 ≤ a0 M i c ∧ a0 M i c ≤ 1) :
    ∀ x, x < R → ∀ c, c < N → -720 ≤ gt (rowL (clearN { cols := cols, rows := M, piv := [], dv := 1 } cols).rows x) c ∧ gt (rowL (clearN { cols := cols, rows := M, piv := [], dv := 1 } cols).rows x) c ≤ 720 := by
  obtain ⟨A, h⟩ := bar_all h1 h2 hR hN (fun i hi c hc => hb2 i hi c (by omega)) (fun i hi c hc => by have := hb2 i hi c hc; omega) cols (Nat.le_refl _)
  obtain ⟨r, hr⟩ : ∃ r, clearN { cols := cols, rows := M, piv := [], dv := 1 } cols = r := ⟨_, rfl⟩
  rw [hr] at h ⊢
  have hpt : ∀ t, t < r.piv.length → pivN r t < cols := fun t ht => by have := h.pz t ht; unfold pivN; omega
  have hA2 : ∀ x, x < R → ∀ c, c < N → -1 ≤ A x c ∧ A x c ≤ 1 := fun x hx c hc => arr_bd h.arr (fun i hi => hb2 i hi c hc) x hx
  intro x hx c hc
  rw [h.val x hx c hc]
  exact mk_bd6 (Y := 1) (by decide) h.pl hR hx (fun i hi t ht => hA2 i hi _ (by have := hpt t ht; omega)) (fun i hi => hA2 i hi c hc)
theorem rowL_pixB {px : List Int} {m : List (List Int)} {bh : Nat → List Int} {i : Nat} (hi : i < m.length) : rowL (pixB px m bh) i = pixR px (rowL m i) ++ bh i := by unfold pixB rowL; simp [hi]
theorem gt_app_lt {xs ys : List Int} {k : Nat} (h : k < xs.length) : gt (xs ++ ys) k = gt xs k := by unfold gt; rw [List.getElem?_append_left h]
theorem gt_app_ge {xs ys : List Int} {k : Nat} : gt (xs ++ ys) (xs.length + k) = gt ys k := by unfold gt; rw [List.getElem?_append_right (by omega)]; congr 2; omega
/-- The first columns of rows with more behind them are the mask's. -/
theorem all_at {m : List (List Int)} {bh : Nat → List Int} {i c : Nat} (hi : i < m.length) (hc : c < colsM m) : a0 (pixB (upTo (colsM m)) m bh) i c = gt (rowL m i) c := by
  unfold a0
  rw [rowL_pixB hi, gt_app_lt (by rw [pixR_len, upTo_len]; exact hc), gt_pixR (by rw [upTo_len]; exact hc), gt_upTo hc, Int.toNat_natCast]
theorem whichB_at {n i k : Nat} (hk : k < n) : gt (whichB n i) k = if k = i then 1 else 0 := by
  unfold whichB gt
  by_cases e : k = i
  · subst e; rw [if_pos rfl, List.getElem?_set_self (by simpa using hk)]; rfl
  · rw [if_neg e, List.getElem?_set_ne (Ne.symm e)]; simp [hk]
theorem which_at {m : List (List Int)} {i k : Nat} (hi : i < m.length) (hk : k < m.length) : a0 (pixB (upTo (colsM m)) m (whichB m.length)) i (colsM m + k) = if k = i then 1 else 0 := by
  unfold a0
  have e : gt (pixR (upTo (colsM m)) (rowL m i) ++ whichB m.length i) ((pixR (upTo (colsM m)) (rowL m i)).length + k) = gt (whichB m.length i) k := gt_app_ge
  rw [pixR_len, upTo_len] at e
  rw [rowL_pixB hi, e, whichB_at hk]
/-- The reduction with the rows' numbers behind them. -/
def redW (m : List (List Int)) : Rd := redB m (upTo (colsM m)) (whichB m.length)
theorem redW_row {m : List (List Int)} : ∀ q ∈ pixB (upTo (colsM m)) m (whichB m.length), q.length = colsM m + m.length := fun q hq => by
  obtain ⟨i, hi, rfl⟩ := List.mem_map.1 hq
  rw [List.length_append, pixR_len, upTo_len, (whichB_ok i (List.mem_range.1 hi)).1]
theorem redW_b1 {m : List (List Int)} (hv : validM m = true) : ∀ i, i < m.length → ∀ c, c < colsM m + m.length → -1 ≤ a0 (pixB (upTo (colsM m)) m (whichB m.length)) i c ∧ a0 (pixB (upTo (colsM m)) m (whichB m.length)) i c ≤ 1 := by
  intro i hi c hc
  by_cases e : c < colsM m
  · rw [all_at hi e]; exact mask_bd hv i hi c e
  · obtain ⟨k, rfl⟩ : ∃ k, c = colsM m + k := ⟨c - colsM m, by omega⟩
    rw [which_at hi (by omega)]
    split <;> decide
theorem redW_fin {m : List (List Int)} (hv : validM m = true) : RFin m.length (colsM m + m.length) (colsM m) (a0 (pixB (upTo (colsM m)) m (whichB m.length))) (redW m) := by
  have h := rd_fin (cols := (upTo (colsM m)).length) (M := pixB (upTo (colsM m)) m (whichB m.length)) (pixB_len _ _ _) redW_row (validM_of hv).2.1 (by rw [upTo_len]; omega) (fun i hi c hc => redW_b1 hv i hi c (by rw [upTo_len] at hc; omega)) (fun i hi c hc => by have := redW_b1 hv i hi c hc; omega)
  rw [upTo_len] at h
  have e : redW m = clearN { cols := colsM m, rows := pixB (upTo (colsM m)) m (whichB m.length), piv := [], dv := 1 } (colsM m) := by unfold redW redB redBM; rw [upTo_len]
  rw [e]; exact h
theorem redW_bd {m : List (List Int)} (hv : validM m = true) : ∀ x, x < m.length → ∀ c, c < colsM m + m.length → -720 ≤ gt (rowL (redW m).rows x) c ∧ gt (rowL (redW m).rows x) c ≤ 720 := by
  have h := rd_bd1 (cols := colsM m) (M := pixB (upTo (colsM m)) m (whichB m.length)) (pixB_len _ _ _) redW_row (validM_of hv).2.1 (Nat.le_add_right _ _) (redW_b1 hv)
  have e : redW m = clearN { cols := colsM m, rows := pixB (upTo (colsM m)) m (whichB m.length), piv := [], dv := 1 } (colsM m) := by unfold redW redB redBM; rw [upTo_len]
  rw [e]; exact h
/-- What stands behind a row. -/
def behW (m : List (List Int)) (x : Nat) : List Int := (rowL (redW m).rows x).drop (colsM m)
theorem behW_len {m : List (List Int)} (hv : validM m = true) {x : Nat} (hx : x < m.length) : (behW m x).length = m.length := by
  have h := redW_fin hv
  unfold behW
  rw [List.length_drop, h.row _ (rowL_mem (by rw [h.len]; exact hx))]; omega
theorem gt_behW {m : List (List Int)} {x k : Nat} : gt (behW m x) k = gt (rowL (redW m).rows x) (colsM m + k) := by unfold behW gt; rw [List.getElem?_drop]
theorem behW_col {m : List (List Int)} (hv : validM m = true) {x c : Nat} (hx : x < m.length) (hc : c < colsM m) : gt (rowL (redW m).rows x) c = dot (colM m c) (behW m x) := by
  have h := (redW_fin hv).behind (n := m.length) rfl rfl (fun i hi k hk => which_at hi hk) hx hc
  rw [h]
  unfold dot
  rw [colM_length]
  refine sumTo_congr _ fun k hk => ?_
  rw [all_at hk hc, gt_behW, gt_colM hk, Int.mul_comm]; rfl
theorem short_dot {a z : List Int} (ha : a.length = z.length) : ((gcdL z : Nat) : Int) * dot a (shortL z) = dot a z := by
  unfold dot
  rw [← sumTo_mul]
  refine sumTo_congr _ fun k hk => ?_
  rw [gt_short (v := z) (c := k) (by omega)]; grind
theorem short_all {z : List Int} {B : Int} (hb : ∀ c, c < z.length → -B ≤ gt z c ∧ gt z c ≤ B) : allB B (shortL z) = true := by
  refine allB_all fun c hc => ?_
  rw [short_len] at hc
  have e : gt (shortL z) c = (gt z c).tdiv (gcdL z : Nat) := by unfold shortL gt; simp [hc]
  have := Int.natAbs_tdiv_le_natAbs (gt z c) ((gcdL z : Nat) : Int)
  have := hb c hc
  rw [e]; omega
theorem gcd_some {z : List Int} {c : Nat} (hc : c < z.length) (h : gt z c ≠ 0) : gcdL z ≠ 0 := fun e => h (gcdTo_zero _ e c hc)
theorem gcd_dot {a z : List Int} (ha : a.length = z.length) (h : dot a z ≠ 0) : gcdL z ≠ 0 := fun e => h (by
  unfold dot
  exact sumZ _ fun k hk => by rw [gcdTo_zero _ e k (by omega), Int.mul_zero])
theorem behW_all {m : List (List Int)} (hv : validM m = true) {x : Nat} (hx : x < m.length) : allB 1000000 (shortL (behW m x)) = true := by
  refine short_all fun c hc => ?_
  rw [behW_len hv hx] at hc
  have := redW_bd hv x hx (colsM m + c) (by omega)
  rw [gt_behW]; omega
theorem back_short {m : List (List Int)} (hv : validM m = true) {x : Nat} (hx : x < m.length) : backV m (shortL (behW m x)) = (backL m (shortL (behW m x)), 0) ∧ ∀ c, c < colsM m → ((gcdL (behW m x) : Nat) : Int) * gt (backL m (shortL (behW m x))) c = gt (rowL (redW m).rows x) c := by
  have hl := behW_len hv hx
  refine ⟨backV_ok hv ?_, fun c hc => ?_⟩
  · unfold fitsV
    rw [if_pos (by rw [short_len, hl]), if_pos (allB_up (behW_all hv hx))]
  · rw [gt_backL hc, short_dot (by rw [colM_length, hl]), behW_col hv hx hc]
/-- Which pixels are known, by the reduction with the rows' numbers. -/
theorem knownW {m : List (List Int)} (hv : validM m = true) {j : Nat} (hj : j < colsM m) : decide (0 ≤ knownV (redW m).rows (redW m).piv (colsM m) (j : Int)) = rknownB m j := by
  rw [← known_same hv hj]
  exact decide_eq_decide.2 (known_alike (redW_fin hv) (basis_fin hv) (validM_of hv).2.1 (Nat.le_add_right _ _) (Nat.le_refl _) (fun i hi c hc => all_at hi hc) hj)
/-- .. by that with the reading. -/
theorem knownO {m : List (List Int)} {y : List Int} (hv : validM m = true) (hy : y.length = m.length) (hb : allB 1000000 y = true) {j : Nat} (hj : j < colsM m) : decide (0 ≤ knownV (redB m (upTo (colsM m)) (oneB y)).rows (redB m (upTo (colsM m)) (oneB y)).piv (colsM m) (j : Int)) = rknownB m j := by
  rw [← known_same hv hj]
  have h := redB_fin (px := upTo (colsM m)) hv (fun j hj => upTo_in hj) hy hb
  rw [upTo_len] at h
  exact decide_eq_decide.2 (known_alike h (basis_fin hv) (validM_of hv).2.1 (Nat.le_succ _) (Nat.le_refl _) (fun i hi c hc => all_at hi hc) hj)
/-- What the numbers behind a known pixel's row tell. -/
theorem weigh_ok {m : List (List Int)} (hv : validM m = true) {j : Nat} (hj : j < colsM m) {x : Nat} (hk : knownV (redW m).rows (redW m).piv (colsM m) (j : Int) = (x : Int)) :
    x < m.length ∧ gcdL (behW m x) ≠ 0 ∧ weighsB m (j : Int) (shortL (behW m x)) = true := by
  have h := redW_fin hv
  obtain ⟨i, hi, hip, _, hrow⟩ := h.known_row (v := (j : Int)) (by omega)
  obtain rfl : i = x := by omega
  have hx : i < m.length := by have := h.pl; omega
  have hpos := h.pos
  have hj1 := behW_col hv hx hj
  have hg : gcdL (behW m i) ≠ 0 := gcd_dot (a := colM m j) (by rw [colM_length, behW_len hv hx]) (by rw [← hj1, hrow j hj, if_pos rfl]; omega)
  obtain ⟨b1, b2⟩ := back_short hv hx
  refine ⟨hx, hg, ?_⟩
  unfold weighsB
  rw [b1]
  have t1 : thereB m (j : Int) = true := by unfold thereB; simp; omega
  have t2 : lone (backL m (shortL (behW m i))) (j : Int) = true := lone_yes fun c hc => by
    rw [backL_length] at hc
    have e := b2 c hc
    rw [hrow c hc] at e
    by_cases ec : (c : Int) = j
    · rw [if_pos ec] at e ⊢
      rw [decide_eq_true_eq]
      have g1 : (0 : Int) < ((gcdL (behW m i) : Nat) : Int) := by omega
      have e2 : 0 < ((gcdL (behW m i) : Nat) : Int) * gt (backL m (shortL (behW m i))) c := by omega
      exact Int.pos_of_mul_pos_right e2 g1
    · rw [if_neg ec] at e ⊢
      rw [decide_eq_true_eq]
      rcases Int.mul_eq_zero.mp e with e | e
      · omega
      · exact e
  rw [behW_all hv hx, t1, t2]; rfl
end Go.Proofs.YtfnomiingelfaaaGreat
/- Possible, conflicts and solutions: what both reductions of a mask tell of a reading. Plain words. Speaks of no program. -/
namespace Go.Proofs.YtfnomiingelfaaaGreat
open Go.RowKit

/-- What Denies answers. -/
def deniesB (m : List (List Int)) (y z : List Int) : Bool := decide (readE m y = 0) && allB 1000000 z && decide ((backV m z).2 = 0) && allZ (backV m z).1 && decide (dot z y ≠ 0)
theorem dot_short {z y : List Int} : ((gcdL z : Nat) : Int) * dot (shortL z) y = dot z y := by
  unfold dot
  rw [← sumTo_mul, short_len]
  refine sumTo_congr _ fun k hk => ?_
  rw [gt_short (v := z) (c := k) hk]; grind
theorem conf_denies {m : List (List Int)} {y : List Int} (hr : readE m y = 0) {x : Nat} (hk : (redW m).piv.length ≤ x) (hx : x < m.length) (hd : dot (behW m x) y ≠ 0) : gcdL (behW m x) ≠ 0 ∧ deniesB m y (shortL (behW m x)) = true := by
  obtain ⟨hv, hyl, hyb⟩ := readE_ok hr
  have h := redW_fin hv
  have hl := behW_len hv hx
  have hg : gcdL (behW m x) ≠ 0 := fun e => hd (by
    unfold dot
    exact sumZ _ fun k hk => by rw [gcdTo_zero _ e k hk, Int.zero_mul])
  obtain ⟨b1, b2⟩ := back_short hv hx
  refine ⟨hg, ?_⟩
  unfold deniesB
  rw [b1, hr, behW_all hv hx]
  have t1 : allZ (backL m (shortL (behW m x))) = true := allZ_all fun c hc => by
    rw [backL_length] at hc
    have e := b2 c hc
    rw [h.low x hk hx c hc] at e
    rcases Int.mul_eq_zero.mp e with e | e
    · omega
    · exact e
  have t2 : dot (shortL (behW m x)) y ≠ 0 := fun e => hd (by rw [← dot_short, e, Int.mul_zero])
  rw [t1, decide_eq_true t2]; rfl
/-- Numbers at the pivots, 0 elsewhere. -/
def pivW (r : Rd) (v : Nat → Int) (c : Nat) : Int := sumTo (fun t => if pivN r t = c then v t else 0) r.piv.length
variable {R N cols : Nat} {A0 : Nat → Nat → Int} {r : Rd}
theorem pivW_at (h : RFin R N cols A0 r) (v : Nat → Int) {t : Nat} (ht : t < r.piv.length) : pivW r v (pivN r t) = v t := by
  unfold pivW
  rw [sumOne (s := t) _ ht fun i hi e => by rw [if_neg fun e2 => e (h.inj hi ht e2)], if_pos rfl]
theorem pivW_free (h : RFin R N cols A0 r) (v : Nat → Int) {c : Nat} (hc : (c : Int) ∉ r.piv) : pivW r v c = 0 := by
  unfold pivW
  exact sumZ _ fun t ht => by rw [if_neg fun e => hc (h.mem.mpr ⟨t, ht, e⟩)]
theorem row_pivW (h : RFin R N cols A0 r) (v : Nat → Int) {t : Nat} (ht : t < r.piv.length) : sumTo (fun c => gt (rowL r.rows t) c * pivW r v c) cols = r.dv * v t := by
  have hs := h.self t t ht ht
  rw [if_pos rfl] at hs
  rw [sumOne (s := pivN r t) cols (h.pivN_lt ht) fun c _ e => ?_, pivW_at h v ht, hs]
  by_cases hm : (c : Int) ∈ r.piv
  · obtain ⟨s, hs2, e2⟩ := h.mem.mp hm
    have h1 := h.self s t hs2 ht
    rw [e2, if_neg (fun e3 => e (by rw [e3]; exact e2.symm))] at h1
    rw [h1, Int.zero_mul]
  · rw [pivW_free h v hm, Int.mul_zero]
/-- The reduction with the reading. -/
def redO (m : List (List Int)) (y : List Int) : Rd := redB m (upTo (colsM m)) (oneB y)
theorem redO_fin {m : List (List Int)} {y : List Int} (hv : validM m = true) (hy : y.length = m.length) (hb : allB 1000000 y = true) : RFin m.length (colsM m + 1) (colsM m) (a0 (pixB (upTo (colsM m)) m (oneB y))) (redO m y) := by
  have h := redB_fin (px := upTo (colsM m)) hv (fun j hj => upTo_in hj) hy hb
  rw [upTo_len] at h
  exact h
theorem one_at {m : List (List Int)} {y : List Int} {i : Nat} (hi : i < m.length) : a0 (pixB (upTo (colsM m)) m (oneB y)) i (colsM m) = gt y i := by
  rw [pixB_at hi, upTo_len, if_neg (Nat.lt_irrefl _), if_pos rfl]
/-- A picture over a number makes the reading, just where its vector is read as 0. -/
theorem one_ker {m : List (List Int)} {y : List Int} (w : Nat → Int) (d : Int) {i : Nat} (hi : i < m.length) : sumTo (fun c => a0 (pixB (upTo (colsM m)) m (oneB y)) i c * (if c < colsM m then w c else -d)) (colsM m + 1) = sumTo (fun c => gt (rowL m i) c * w c) (colsM m) - d * gt y i := by
  rw [show sumTo (fun c => a0 (pixB (upTo (colsM m)) m (oneB y)) i c * (if c < colsM m then w c else -d)) (colsM m + 1) = sumTo (fun c => a0 (pixB (upTo (colsM m)) m (oneB y)) i c * (if c < colsM m then w c else -d)) (colsM m) + a0 (pixB (upTo (colsM m)) m (oneB y)) i (colsM m) * (if colsM m < colsM m then w (colsM m) else -d) from rfl, if_neg (Nat.lt_irrefl _), one_at hi, sumTo_congr (colsM m) fun c hc => by rw [if_pos hc, all_at hi hc]]
  grind
theorem one_row {m : List (List Int)} {y : List Int} (w : Nat → Int) (d : Int) (x : Nat) : sumTo (fun c => gt (rowL (redO m y).rows x) c * (if c < colsM m then w c else -d)) (colsM m + 1) = sumTo (fun c => gt (rowL (redO m y).rows x) c * w c) (colsM m) - d * gt (rowL (redO m y).rows x) (colsM m) := by
  rw [show sumTo (fun c => gt (rowL (redO m y).rows x) c * (if c < colsM m then w c else -d)) (colsM m + 1) = sumTo (fun c => gt (rowL (redO m y).rows x) c * (if c < colsM m then w c else -d)) (colsM m) + gt (rowL (redO m y).rows x) (colsM m) * (if colsM m < colsM m then w (colsM m) else -d) from rfl, if_neg (Nat.lt_irrefl _), sumTo_congr (colsM m) fun c hc => by rw [if_pos hc]]
  grind
theorem possB_iff {m : List (List Int)} {y : List Int} (hv : validM m = true) (hy : y.length = m.length) (hb : allB 1000000 y = true) : possB (redO m y).rows (redO m y).piv.length (colsM m) = true ↔ ∀ x, (redO m y).piv.length ≤ x → x < m.length → gt (rowL (redO m y).rows x) (colsM m) = 0 := by
  have h := redO_fin hv hy hb
  have hz0 : ∀ x, x < m.length → (allZ ((rowL (redO m y).rows x).drop (colsM m)) = true ↔ gt (rowL (redO m y).rows x) (colsM m) = 0) := fun x hx => by
    have hl := h.row _ (rowL_mem (show x < (redO m y).rows.length by rw [h.len]; exact hx))
    have hd : (rowL (redO m y).rows x).drop (colsM m) = [gt (rowL (redO m y).rows x) (colsM m)] := by
      refine list_gt (by rw [List.length_drop, hl]; simp) fun t ht => ?_
      rw [List.length_drop, hl] at ht
      obtain rfl : t = 0 := by omega
      show ((rowL (redO m y).rows x).drop (colsM m))[0]?.getD 0 = _
      rw [List.getElem?_drop, Nat.add_zero]; rfl
    rw [hd]; unfold allZ; simp
  have hlen := h.len
  unfold possB
  rw [List.all_eq_true]
  constructor
  · intro ha x h1 h2
    have := ha x (List.mem_range.2 (by omega))
    rw [Bool.or_eq_true, decide_eq_true_eq] at this
    rcases this with e | e
    · omega
    · exact (hz0 x h2).1 e
  · intro ha x hx
    have hx := List.mem_range.1 hx
    by_cases e : x < (redO m y).piv.length
    · simp [e]
    · rw [(hz0 x (by omega)).2 (ha x (by omega) (by omega)), Bool.or_true]
/-- The picture, over the divisor, that the reduction tells where the reading is possible. -/
def solW (m : List (List Int)) (y : List Int) : Nat → Int := pivW (redO m y) fun t => gt (rowL (redO m y).rows t) (colsM m)
theorem solW_makes {m : List (List Int)} {y : List Int} (hv : validM m = true) (hy : y.length = m.length) (hb : allB 1000000 y = true) (hp : possB (redO m y).rows (redO m y).piv.length (colsM m) = true) : ∀ i, i < m.length → sumTo (fun c => gt (rowL m i) c * solW m y c) (colsM m) = (redO m y).dv * gt y i := by
  have h := redO_fin hv hy hb
  have hp := (possB_iff hv hy hb).1 hp
  intro i hi
  have hk := (h.ker (fun c => if c < colsM m then solW m y c else -(redO m y).dv)).mpr (fun x hx => by
    rw [one_row]
    by_cases e : x < (redO m y).piv.length
    · rw [show sumTo (fun c => gt (rowL (redO m y).rows x) c * solW m y c) (colsM m) = (redO m y).dv * gt (rowL (redO m y).rows x) (colsM m) from row_pivW h _ e]; omega
    · rw [hp x (by omega) hx, sumZ (colsM m) fun c hc => by rw [h.low x (by omega) hx c hc, Int.zero_mul]]; omega) i hi
  rw [one_ker _ _ hi] at hk
  omega
theorem poss_conf {m : List (List Int)} {y : List Int} (hr : readE m y = 0) : possB (redO m y).rows (redO m y).piv.length (colsM m) = true ↔ ∀ x, (redW m).piv.length ≤ x → x < m.length → dot (behW m x) y = 0 := by
  obtain ⟨hv, hyl, hyb⟩ := readE_ok hr
  have h1 := redO_fin hv hyl hyb
  have h2 := redW_fin hv
  have p1 := h1.pos
  have p2 := h2.pos
  constructor
  · intro hp x hk hx
    have hm := solW_makes hv hyl hyb hp
    have hl := behW_len hv hx
    have e1 : sumTo (fun k => gt (behW m x) k * sumTo (fun c => gt (rowL m k) c * solW m y c) (colsM m)) m.length = (redO m y).dv * dot (behW m x) y := by
      unfold dot
      rw [hl, ← sumTo_mul]
      refine sumTo_congr _ fun k hk => ?_
      rw [hm k hk]; grind
    have e2 : sumTo (fun k => gt (behW m x) k * sumTo (fun c => gt (rowL m k) c * solW m y c) (colsM m)) m.length = 0 := by
      rw [sumTo_congr m.length fun k _ => (sumTo_mul (gt (behW m x) k) _ (colsM m)).symm, sumTo_swap]
      refine sumZ _ fun c hc => ?_
      have e3 := behW_col hv hx hc
      rw [h2.low x hk hx c hc] at e3
      have e4 : sumTo (fun k => gt (behW m x) k * (gt (rowL m k) c * solW m y c)) m.length = solW m y c * dot (colM m c) (behW m x) := by
        unfold dot
        rw [colM_length, ← sumTo_mul]
        refine sumTo_congr _ fun k hk => ?_
        rw [gt_colM hk]
        show _ = solW m y c * (gt (rowL m k) c * _)
        grind
      rw [e4, ← e3, Int.mul_zero]
    rw [e2] at e1
    rcases Int.mul_eq_zero.mp e1.symm with e | e
    · omega
    · exact e
  · intro ha
    refine (possB_iff hv hyl hyb).2 fun x hk hx => ?_
    have hbd : ∀ x, x < m.length → sumTo (fun k => gt (rowL (redW m).rows x) (colsM m + k) * (-(redW m).dv * gt y k)) m.length = -(redW m).dv * dot (behW m x) y := fun x hx => by
      unfold dot
      rw [behW_len hv hx, ← sumTo_mul]
      refine sumTo_congr _ fun k _ => ?_
      rw [gt_behW]; grind
    have hk2 : ∀ i, i < m.length → sumTo (fun c => gt (rowL m i) c * pivW (redW m) (fun t => dot (behW m t) y) c) (colsM m) - (redW m).dv * gt y i = 0 := fun i hi => by
      have hk := (h2.ker (fun c => if c < colsM m then pivW (redW m) (fun t => dot (behW m t) y) c else -(redW m).dv * gt y (c - colsM m))).mpr (fun x hx => by
        rw [sumTo_split, sumTo_congr (colsM m) fun c hc => by rw [if_pos hc], sumTo_congr m.length fun k _ => by rw [if_neg (by omega), show colsM m + k - colsM m = k by omega], hbd x hx]
        by_cases e : x < (redW m).piv.length
        · rw [row_pivW h2 _ e]; grind
        · rw [ha x (by omega) hx, sumZ (colsM m) fun c hc => by rw [h2.low x (by omega) hx c hc, Int.zero_mul]]; omega) i hi
      rw [sumTo_split, sumTo_congr (colsM m) fun c hc => by rw [if_pos hc, all_at hi hc], sumOne (s := i) m.length hi fun k hk e => by rw [which_at hi hk, if_neg e, Int.zero_mul], which_at hi hi, if_pos rfl, if_neg (by omega), show colsM m + i - colsM m = i by omega] at hk
      grind
    have hk3 := (h1.ker (fun c => if c < colsM m then pivW (redW m) (fun t => dot (behW m t) y) c else -(redW m).dv)).mp (fun i hi => by rw [one_ker _ _ hi]; exact hk2 i hi) x hx
    rw [one_row, sumZ (colsM m) fun c hc => by rw [h1.low x hk hx c hc, Int.zero_mul]] at hk3
    have e : (redW m).dv * gt (rowL (redO m y).rows x) (colsM m) = 0 := by omega
    rcases Int.mul_eq_zero.mp e with e | e
    · omega
    · exact e
theorem possV_of {m : List (List Int)} {y : List Int} (hr : readE m y = 0) : possV m y = (possB (redO m y).rows (redO m y).piv.length (colsM m), 0) := by
  have e : anyV m y = if possB (redO m y).rows (redO m y).piv.length (upTo (colsM m)).length = true then (solL (upTo (colsM m)).length (redO m y).rows (redO m y).piv (redO m y).dv (redO m y).piv.length, 0) else ([], 10) := by unfold anyV; rw [if_pos hr]; rfl
  unfold possV
  rw [e, upTo_len]
  cases possB (redO m y).rows (redO m y).piv.length (colsM m) <;> rfl
theorem anyV_of {m : List (List Int)} {y : List Int} (hr : readE m y = 0) (hp : possB (redO m y).rows (redO m y).piv.length (colsM m) = true) : anyV m y = (solL (colsM m) (redO m y).rows (redO m y).piv (redO m y).dv (redO m y).piv.length, 0) := by
  unfold anyV
  rw [if_pos hr]
  show (if possB (redO m y).rows (redO m y).piv.length (upTo (colsM m)).length = true then (solL (upTo (colsM m)).length (redO m y).rows (redO m y).piv (redO m y).dv (redO m y).piv.length, 0) else ([], 10)) = _
  rw [upTo_len, if_pos hp]
theorem lowR_val {n d : Int} : (lowR n d).1 * d = n * (lowR n d).2 := by
  unfold lowR
  dsimp only
  have g1 : gcd2 n d ∣ n := Int.ofNat_dvd_left.2 (Nat.gcd_dvd_left _ _)
  have g2 : gcd2 n d ∣ d := Int.ofNat_dvd_left.2 (Nat.gcd_dvd_right _ _)
  have e1 := Int.tdiv_mul_cancel g1
  have e2 := Int.tdiv_mul_cancel g2
  generalize n.tdiv (gcd2 n d) = a at *
  generalize d.tdiv (gcd2 n d) = b at *
  generalize gcd2 n d = g at *
  rw [← e1, ← e2]; grind
/-- A solution's number at a column, over the divisor. -/
theorem sol_val {m : List (List Int)} {y : List Int} (hr : readE m y = 0) {c : Nat} (hc : c < colsM m) : ∃ p, (solL (colsM m) (redO m y).rows (redO m y).piv (redO m y).dv (redO m y).piv.length)[c]? = some p ∧ (p = (0, 1) ∨ ∃ t, t < (redO m y).piv.length ∧ p = lowR (gt (rowL (redO m y).rows t) (colsM m)) (redO m y).dv) ∧ p.1 * (redO m y).dv = solW m y c * p.2 := by
  obtain ⟨hv, hyl, hyb⟩ := readE_ok hr
  have h := redO_fin hv hyl hyb
  by_cases hm : (c : Int) ∈ (redO m y).piv
  · obtain ⟨t, ht, e⟩ := h.mem.mp hm
    have hs := h.sol_at ht
    rw [e] at hs
    refine ⟨_, hs, .inr ⟨t, ht, rfl⟩, ?_⟩
    have e2 : solW m y c = gt (rowL (redO m y).rows t) (colsM m) := by rw [← e]; exact pivW_at h _ ht
    rw [e2]; exact lowR_val
  · refine ⟨(0, 1), ?_, .inl rfl, ?_⟩
    · have key : ∀ k, k ≤ (redO m y).piv.length → (solL (colsM m) (redO m y).rows (redO m y).piv (redO m y).dv k)[c]? = some (0, 1) := by
        intro k
        induction k with
        | zero => intro _; unfold solL; simp [hc]
        | succ k ih =>
          intro hk
          unfold solL
          show ((solL (colsM m) (redO m y).rows (redO m y).piv (redO m y).dv k).set (pivN (redO m y) k) _)[c]? = _
          rw [List.getElem?_set_ne (fun e => hm (h.mem.mpr ⟨k, by omega, e⟩))]
          exact ih (by omega)
      exact key _ (Nat.le_refl _)
    · have e2 : solW m y c = 0 := pivW_free h _ hm
      rw [e2]; show (0 : Int) * _ = 0 * 1; omega
end Go.Proofs.YtfnomiingelfaaaGreat
/- product and Denies of layer 3, Denies of the answers: contracts. -/
namespace Go.Proofs.YtfnomiingelfaaaGreat
open Go.RowKit

set_option maxRecDepth 100000 in
theorem lreading_any (ma : Option Addr) (m : List (List Int)) (mc : Nat) (a : Option Addr) (y : List Int) (cap : Nat) (w : World) (hm : MOk m) (hl : y.length ≤ 9223372036854775807) (hs : Ms w ma m) (hy : Sl w a y) :
    Calls Tryz.prog 140 #[.slice ma m.length mc, .slice a y.length cap] w fun e w' => e = .returned (.bool (decide (readE m y = 0))) ∧ Below w.heap.size w w' := by
  have HRE := Lib.hid (lread_any ma m mc a y cap w hm hl hs hy)
  obtain ⟨rv, hrv⟩ : ∃ rv, readE m y = rv := ⟨_, rfl⟩
  rw [hrv] at HRE ⊢
  clear hrv hs hy hm
  go_enter Tryz.func140, Tryz.ntmps140
  go_wp2_with (go_at_call 93; refine HRE.out.mono ?_; rintro e w1 ⟨rfl, hb1⟩)
  go_ret
  exact ⟨rfl, hb1⟩
set_option maxRecDepth 100000 in
theorem rreading3_any (ma : Option Addr) (m : List (List Int)) (mc : Nat) (a : Option Addr) (y : List Int) (cap : Nat) (w : World) (hm : MOk m) (hl : y.length ≤ 9223372036854775807) (hs : Ms w ma m) (hy : Sl w a y) :
    Calls Tryz.prog 40 #[.slice ma m.length mc, .slice a y.length cap] w fun e w' => e = .returned (.bool (decide (readE m y = 0))) ∧ w = w' := by
  have HRE := Lib.hid (rread3_any ma m mc a y cap w hm hl hs hy)
  obtain ⟨rv, hrv⟩ : ∃ rv, readE m y = rv := ⟨_, rfl⟩
  rw [hrv] at HRE ⊢
  clear hrv hs hy hm
  go_enter Tryz.func40, Tryz.ntmps40
  go_wp2_with (go_at_call 31; refine HRE.out.mono ?_; rintro e w1 ⟨rfl, rfl⟩)
  go_ret
  exact ⟨rfl, rfl⟩
theorem denies_dot {m : List (List Int)} {y z : List Int} (hr : readE m y = 0) (hz : allB 1000000 z = true) (hb : (backV m z).2 = 0) : z.length = m.length ∧ m.length ≤ 6 ∧ y.length = m.length ∧ PB z y := by
  obtain ⟨hv, hyl, hyb⟩ := readE_ok hr
  obtain ⟨_, hzl, _, _⟩ := backV_0 hb
  exact ⟨hzl, (validM_of hv).2.1, hyl, PB_of hz hyb (by omega) (by decide)⟩
end Go.Proofs.YtfnomiingelfaaaGreat
/- fit of layer 4 for any slice of pixels, askOf, Carries and IsFit of both sides: contracts. -/
namespace Go.Proofs.YtfnomiingelfaaaGreat
open Go.RowKit Go.Shelf

/-- Nothing appended to an own slice, whatever the empty slice is. -/
theorem run_append_owned_empty {w : World} (base : Nat) (t ty e : TypeId) (i : TypeInfo) (size : Nat) (ht : Tryz.prog.underlying t = some (.slice e)) (hi : Tryz.prog.info? e = some i)
    (v : Value) (n : Nat) (xs : List Value) (hown : w.ownsRow base e size v n xs) (q : Option Addr) (c : Nat) :
    (Builtin.append_ #[t, t] ty #[v, .slice q 0 c]).run Tryz.prog w = .ok v w := by
  cases q with
  | none =>
    rcases hown.2 with ⟨rfl, rfl⟩ | ⟨g, cap, cur, rfl, _, _, hnc, _⟩
    · simp [Builtin.append_, run_underlying ht, sizeOf, typeInfo, hi, Builtin.lenOf, Builtin.firstCells]
    · simp [Builtin.append_, run_underlying ht, sizeOf, typeInfo, hi, Builtin.lenOf, Builtin.firstCells, hnc, storeCells]
  | some b =>
    rcases hown.2 with ⟨rfl, rfl⟩ | ⟨g, cap, cur, rfl, _, _, hnc, _⟩
    · simp [Builtin.append_, run_underlying ht, sizeOf, typeInfo, hi, Builtin.lenOf, Builtin.firstCells, loadCells, loadCellsFrom]
    · simp [Builtin.append_, run_underlying ht, sizeOf, typeInfo, hi, Builtin.lenOf, Builtin.firstCells, hnc, storeCells, loadCells, loadCellsFrom]
theorem wpList_catE {ops : Array Oper} {rest : List Oper} {o : Oper} {a : Act} {Q : Exit → Act → World → Prop} (hgd : o.guard = none) (s x : Operand)
    (ho : o.op = .call { callee := .builtin .append, args := #[s, x], argTypes := #[24, 24] }) (base : Nat) (v : Value) (pa : Option Addr) (ys : List Int) (c : Nat) (V : World)
    (hs : a.eval s = v) (hx : a.eval x = .slice pa ys.length c) (hown : OwnI V base v []) (hsl : Sl V pa ys) (hl : ys.length ≤ 100000) (hbase : base ≤ V.heap.size)
    (h : ∀ v' w', OwnI w' base v' ys → Below base V w' → wpList Tryz.prog ops Q rest (a.put o.dst v') w') : wpList Tryz.prog ops Q (o :: rest) a V := by
  cases ys with
  | nil =>
    obtain ⟨i0, hi, hz0, hz1, hz2⟩ := info_parts Tryz.infoInt
    refine wpList_plain hgd fun K hK => ?_
    have hrun := run_append_owned_empty base 24 o.type 3 i0 1 Tryz.underlying24 hi v 0 [] hown pa c
    unfold Oper.wp
    simp [execOp, ho, resolve, invoke, builtin, hs, hx, hrun, Result.andThen]
    exact hK _ _ (h v V hown (Below.refl _ _))
  | cons y ys =>
    obtain ⟨b, off, rfl, _⟩ := hsl 0 (by simp)
    refine wpList_catS hgd s x ho base v [] b off (y :: ys) c V hs hx hown hsl (by simpa using hl) hbase ?_
    intro v' w' h1 h2
    exact h v' w' (by simpa using h1) h2
set_option maxHeartbeats 400000 in
/-- slices.Clone of any slice. -/
theorem cloneO_any (pa : Option Addr) (xs : List Int) (cap : Nat) (w : World) (hl : xs.length * 8 ≤ 140737488351232) (hs : Sl w pa xs) :
    Calls Tryz.prog 62 #[.slice pa xs.length cap] w fun e w' =>
      ∃ a c, e = .returned (.slice a xs.length c) ∧ Sl w' a xs ∧ Below w.heap.size w w' ∧ ∀ ad, a = some ad → w.heap.size ≤ ad.block ∧ ad.block < w'.heap.size := by
  cases pa with
  | some ad => exact cloneN_any ad xs cap w hl hs
  | none =>
    have hx : xs = [] := by
      cases xs with
      | nil => rfl
      | cons x t => obtain ⟨b, o, e, _⟩ := hs 0 (by simp); cases e
    subst hx
    have qT : ∀ (w : World) (a : Option Addr) (n c n' c' : Nat), (binOp .eql 24 (.slice a n c) (.slice none n' c')).run Tryz.prog w = .ok (.bool a.isNone) w := fun w a n c n' c' => Lib.run_eql_slice_nil w _ _ a n c n' c' Tryz.underlying24
    clear hs hl
    go_enter Tryz.func62, Tryz.ntmps62
    go_wp2
    go_ret
    exact ⟨none, 0, rfl, fun k hk => by simp at hk, Below.refl _ _, fun ad e => by cases e⟩
set_option maxRecDepth 1000000 in
set_option maxHeartbeats 1600000 in
theorem sfitO_any (wf : Value) (wr : Int × Int → Bool) (ma : Option Addr) (m : List (List Int)) (mc : Nat) (ya : Option Addr) (y : List Int) (yc : Nat) (pa : Option Addr) (px : List Int) (pc : Nat) (w : World) (hm : MOk m) (hl : px.length ≤ 1000) (hly : y.length ≤ 1000) (hs : Ms w ma m) (hp : Sl w pa px) (hy : Sl w ya y)
    (hw : ∀ W a vs cap, Below w.heap.size w W → vs.length ≤ 1000 → Rl W a vs → Calls Tryz.prog 61 #[.slice a vs.length cap, wf] W fun e w' => e = .returned (.bool (vs.any wr)) ∧ Below W.heap.size W w') :
    Calls Tryz.prog 29 #[.agg #[.slice ma m.length mc, .slice ya y.length yc], .slice pa px.length pc, wf] w (FitPost (fitO wr m y px) px w) := by
  obtain ⟨V1, hV1⟩ : ∃ V1, w.alloc (.cells #[.slice ma m.length mc, .slice ya y.length yc] 54) = V1 := ⟨_, rfl⟩
  obtain ⟨V, hV⟩ : ∃ V, V1.alloc (.cells #[.slice none 0 0, .slice none 0 0] 27) = V := ⟨_, rfl⟩
  have hs1 : V1.heap.size = w.heap.size + 1 := by rw [← hV1]; exact World.size_alloc _ _
  have hs2 : V.heap.size = w.heap.size + 2 := by rw [← hV, World.size_alloc]; omega
  have hb1 : Below w.heap.size w V1 := by rw [← hV1]; exact (Below.refl _ _).alloc (Nat.le_refl _) _
  have hb2 : Below V1.heap.size V1 V := by rw [← hV]; exact (Below.refl _ _).alloc (Nat.le_refl _) _
  have HBV : Hid (Below w.heap.size w V) := hb1.trans (hb2.mono (by omega))
  have HQ := Lib.hid (box2 hV1)
  have HF := Lib.hid (box2 hV)
  obtain ⟨q0, q1, _, _⟩ := HQ.out V hb2
  obtain ⟨f0, f1, f2, f3⟩ := HF.out V (Below.refl _ _)
  have HS2 := Lib.hid hs2
  have HS1 := Lib.hid hs1
  have HV1B : Hid (w.heap.size ≤ V1.heap.size) := hb1.size
  have HSO : Hid (Calls Tryz.prog 60 #[.slice ma m.length mc, .slice pa px.length pc, .slice ya y.length yc] V (RNPost (solveV m px y) V)) := lsolve_new ma m mc pa px pc ya y yc V hm hl hly (hs.below HBV.out) (hp.below HBV.out) (hy.below HBV.out)
  have HFO : Hid (fitO wr m y px = if (solveV m px y).2 = 0 then (if (solveV m px y).1.any wr = true then none else some (solveV m px y).1) else none) := rfl
  have hvl := solveV_len m px y
  obtain ⟨⟨vs, e0⟩, hsv⟩ : ∃ r, solveV m px y = r := ⟨_, rfl⟩
  rw [hsv] at HSO HFO hvl
  dsimp only at hvl HFO
  have HP := Lib.hid hp
  have HCL : Hid (∀ W, Below w.heap.size w W → Calls Tryz.prog 62 #[.slice pa px.length pc] W fun e w' => ∃ a c, e = .returned (.slice a px.length c) ∧ Sl w' a px ∧ Below W.heap.size W w' ∧ ∀ ad, a = some ad → W.heap.size ≤ ad.block ∧ ad.block < w'.heap.size) := fun W hb => cloneO_any pa px pc W (by omega) (HP.out.below hb)
  have HW := Lib.hid hw
  obtain ⟨pl, hpl⟩ : ∃ pl, px.length = pl := ⟨_, rfl⟩
  have HPL := Lib.hid hpl
  unfold FitPost
  rw [hpl] at HSO HCL hl hvl ⊢
  clear hm hs hp hy hw hs1 hs2 hb1 hb2 hsv hpl
  by_cases he0 : e0 = 0
  · subst he0
    rw [if_pos rfl] at HFO
    obtain ⟨z, hz⟩ : ∃ z, vs.any wr = z := ⟨_, rfl⟩
    rw [hz] at HFO
    have HCO : Hid (∀ W a cap, Below w.heap.size w W → Rl W a vs → Calls Tryz.prog 61 #[.slice a vs.length cap, wf] W fun e w' => e = .returned (.bool z) ∧ Below W.heap.size W w') := fun W a cap hb hr => by rw [← hz]; exact HW.out W a vs cap hb (by omega) hr
    clear hz HW
    cases z with
    | true =>
      have HFN : Hid (fitO wr m y px = none) := by show _ = _; rw [HFO.out]; rfl
      clear HFO
      go_enter Tryz.func29, Tryz.ntmps29
      go_wp2_with (first
        | (go_at_call 60; refine HSO.out.mono ?_; rintro e w2 ⟨hb2, va, vc, rfl, hrl, hnw⟩; dsimp only at hrl ⊢; have HB2 := Lib.hid hb2; have HBW2 : Hid (Below w.heap.size w w2) := HBV.out.trans (hb2.mono HBV.out.size); have HRL := Lib.hid hrl; clear hb2 hrl hnw)
        | (go_at_call 61; refine (HCO.out w2 va vc HBW2.out HRL.out).mono ?_; rintro e w3 ⟨rfl, hb3⟩; have HB3 : Hid (Below V.heap.size V w3) := HB2.out.trans (hb3.mono HB2.out.size); have HBW3 : Hid (Below w.heap.size w w3) := HBV.out.trans (HB3.out.mono HBV.out.size); obtain ⟨g0, g1, g2, g3⟩ := HF.out w3 HB3.out; clear hb3))
      refine bodyPost_ret (v := .tuple #[.agg #[.slice none 0 0, .slice none 0 0], .bool false]) ?_ rfl ⟨(HBW3.out.setCell (p := ⟨V1.heap.size, 0, none⟩) HV1B.out _).setCell (p := ⟨V1.heap.size, 1, none⟩) HV1B.out _, .inl ⟨HFN.out, rfl⟩⟩
      rw [results_cell_tmp rfl]; go_simp
    | false =>
      have HFS : Hid (fitO wr m y px = some vs) := by show _ = _; rw [HFO.out]; rfl
      clear HFO
      go_enter Tryz.func29, Tryz.ntmps29
      go_wp2_with (first
        | (go_at_call 60; refine HSO.out.mono ?_; rintro e w2 ⟨hb2, va, vc, rfl, hrl, hnw⟩; dsimp only at hrl ⊢; have HB2 := Lib.hid hb2; have HBW2 : Hid (Below w.heap.size w w2) := HBV.out.trans (hb2.mono HBV.out.size); have HRL := Lib.hid hrl; have HNW := Lib.hid hnw; clear hb2 hrl hnw)
        | (go_at_call 61; refine (HCO.out w2 va vc HBW2.out HRL.out).mono ?_; rintro e w3 ⟨rfl, hb3⟩; have HB3 : Hid (Below V.heap.size V w3) := HB2.out.trans (hb3.mono HB2.out.size); have HBW3 : Hid (Below w.heap.size w w3) := HBV.out.trans (HB3.out.mono HBV.out.size); have HRL3 := Lib.hid (HRL.out.below hb3); have HS3 : Hid (w2.heap.size ≤ w3.heap.size) := hb3.size; clear hb3)
        | (go_at_call 62; refine (HCL.out w3 HBW3.out).mono ?_; rintro e w4 ⟨qa, qc, rfl, hsl, hb4, hqn⟩; have HB4 : Hid (Below V.heap.size V w4) := HB3.out.trans (hb4.mono HB3.out.size); have HBW4 : Hid (Below w.heap.size w w4) := HBV.out.trans (HB4.out.mono HBV.out.size); have HRL4 := Lib.hid (HRL3.out.below hb4); have HS4 : Hid (w3.heap.size ≤ w4.heap.size) := hb4.size; have HSL := Lib.hid hsl; have HQN := Lib.hid hqn; obtain ⟨g0, g1, g2, g3⟩ := HF.out w4 HB4.out; clear hb4 hsl hqn))
      refine bodyPost_ret (v := .tuple #[.agg #[.slice qa pl qc, .slice va vs.length vc], .bool true]) ?_ rfl ⟨(HBW4.out.setCell (p := ⟨V1.heap.size, 0, none⟩) HV1B.out _).setCell (p := ⟨V1.heap.size, 1, none⟩) HV1B.out _, .inr ⟨vs, qa, qc, va, vc, HFS.out, rfl, ?_, ?_, ?_, ?_⟩⟩
      · rw [results_cell_tmp rfl]; go_simp
      · have h2 := HS2.out
        have h3 := HB3.out.size
        refine sl_apart (sl_apart HSL.out (fun ad e => ?_) _) (fun ad e => ?_) _
        · have := (HQN.out ad e).1; show ad.block ≠ V1.heap.size; have := HS1.out; omega
        · have := (HQN.out ad e).1; show ad.block ≠ V1.heap.size; have := HS1.out; omega
      · have h2 := HS2.out
        intro j p hj
        obtain ⟨b, e, c1, c2⟩ := HRL4.out j p hj
        have := (HNW.out _ e).1
        have hne : b ≠ V1.heap.size := by dsimp only at this; have := HS1.out; omega
        exact ⟨b, e, (cell_other _ _ _ _ hne).trans ((cell_other _ _ _ _ hne).trans c1), (cell_other _ _ _ _ hne).trans ((cell_other _ _ _ _ hne).trans c2)⟩
      · intro ad e
        have h1 := HQN.out ad e
        have h2 := HS2.out
        have h3 := HB3.out.size
        rw [World.size_setCell, World.size_setCell]
        omega
      · intro ad e
        have h1 := HNW.out ad e
        have h2 := HS2.out
        have h3 := HS3.out
        have h4 := HS4.out
        rw [World.size_setCell, World.size_setCell]
        omega
  · have HFN : Hid (fitO wr m y px = none) := by show _ = _; rw [HFO.out, if_neg he0]
    have y1 : (e0 == 0) = false := by simpa using he0
    have y2 : (e0 != 0) = true := by simpa using he0
    clear HFO he0 HW
    go_enter Tryz.func29, Tryz.ntmps29
    go_wp2_with (go_at_call 60; refine HSO.out.mono ?_; rintro e w2 ⟨hb2, va, vc, rfl, hrl, hnw⟩; dsimp only at hrl ⊢; have HB2 := Lib.hid hb2; have HBW2 : Hid (Below w.heap.size w w2) := HBV.out.trans (hb2.mono HBV.out.size); obtain ⟨g0, g1, g2, g3⟩ := HF.out w2 hb2; clear hb2 hrl hnw)
    refine bodyPost_ret (v := .tuple #[.agg #[.slice none 0 0, .slice none 0 0], .bool false]) ?_ rfl ⟨(HBW2.out.setCell (p := ⟨V1.heap.size, 0, none⟩) HV1B.out _).setCell (p := ⟨V1.heap.size, 1, none⟩) HV1B.out _, .inl ⟨HFN.out, rfl⟩⟩
    rw [results_cell_tmp rfl]; go_simp
set_option maxRecDepth 1000000 in
set_option maxHeartbeats 1600000 in
theorem rfitO_any (ma : Option Addr) (m : List (List Int)) (mc : Nat) (ya : Option Addr) (y : List Int) (yc : Nat) (pa : Option Addr) (px : List Int) (pc : Nat) (w : World) (hm : MOk m) (hl : px.length ≤ 1000) (hly : y.length ≤ 1000) (hs : Ms w ma m) (hp : Sl w pa px) (hy : Sl w ya y) :
    Calls Tryz.prog 33 #[.slice ma m.length mc, .slice ya y.length yc, .slice pa px.length pc] w (RFitPost (fitO zB m y px) px w) := by
  obtain ⟨V, hV⟩ : ∃ V, w.alloc (.cells #[.slice none 0 0, .slice none 0 0] 27) = V := ⟨_, rfl⟩
  have HVV := Lib.hid hV
  have HVW := Lib.hid (box2 hV)
  have hbv : Below w.heap.size w V := by rw [← hV]; exact (Below.refl _ _).alloc (Nat.le_refl _) _
  have HBV := Lib.hid hbv
  obtain ⟨t0, t1, t2, t3⟩ := HVW.out V (Below.refl _ _)
  have HSO : Hid (Calls Tryz.prog 65 #[.slice ma m.length mc, .slice pa px.length pc, .slice ya y.length yc] V (RLPost (solveV m px y) V)) := rsolve_any ma m mc pa px pc ya y yc V hm hl hly (hs.below hbv) (hp.below hbv) (hy.below hbv)
  have HFO : Hid (fitO zB m y px = if (solveV m px y).2 = 0 then (if (solveV m px y).1.any zB = true then none else some (solveV m px y).1) else none) := rfl
  have hvl := solveV_len m px y
  obtain ⟨⟨vs, e0⟩, hsv⟩ : ∃ r, solveV m px y = r := ⟨_, rfl⟩
  rw [hsv] at HSO HFO hvl
  dsimp only at hvl HFO
  have HP := Lib.hid hp
  obtain ⟨pl, hpl⟩ : ∃ pl, px.length = pl := ⟨_, rfl⟩
  have HPL := Lib.hid hpl
  obtain ⟨vl, hvl2⟩ : ∃ vl, vs.length = vl := ⟨_, rfl⟩
  have HVL := Lib.hid hvl2
  have HRL : Hid (Calls Tryz.prog 65 #[.slice ma m.length mc, .slice pa pl pc, .slice ya y.length yc] V fun e w' => Below V.heap.size V w' ∧ ∃ a cap, e = .returned (.tuple #[.slice a vl cap, .int .i64 e0]) ∧ Rl w' a vs) := by rw [← hpl, ← hvl2]; exact HSO.out
  unfold RFitPost
  rw [hpl] at hl hvl ⊢
  rw [hvl2] at hvl
  clear HSO hm hs hp hy hbv hsv hpl hvl2
  by_cases he0 : e0 = 0
  · subst he0
    rw [if_pos rfl] at HFO
    go_enter Tryz.func33, Tryz.ntmps33
    go_wp2_with (go_at_call 65; refine HRL.out.mono ?_; rintro e w2 ⟨hb2, va, vc, rfl, hrl⟩; have HB2 := Lib.hid hb2; have HRV := Lib.hid hrl; clear hb2 hrl)
    go_loopw [11, 24] (fun _ i wr => ∃ k : Nat, k ≤ vl ∧ i = .int .i64 k ∧ (vs.take k).any zB = false ∧ Below w2.heap.size w2 wr) (fun _ i _ => vl - (intOf i).toNat)
    case atStart => exact ⟨0, Nat.zero_le _, rfl, by simp, Below.refl _ _⟩
    case round =>
      obtain ⟨k, hk, rfl, hany, hB⟩ := hrel
      have HANY := Lib.hid hany
      have HB := Lib.hid hB
      clear hany hB
      have hVr : Below V.heap.size V wr := HB2.out.trans (HB.out.mono HB2.out.size)
      have HVR := Lib.hid hVr
      obtain ⟨u0, u1, u2, u3⟩ := HVW.out wr hVr
      have HBW : Hid (Below w.heap.size w wr) := HBV.out.trans (hVr.mono HBV.out.size)
      clear hVr
      by_cases hlt : k < vl
      · obtain ⟨p, hp⟩ : ∃ p, vs[k]? = some p := ⟨vs[k]'(by rw [HVL.out]; exact hlt), by simp [HVL.out, hlt]⟩
        obtain ⟨b1, rfl, a1, a2⟩ := (HRV.out.below HB.out) k p hp
        have HTK : Hid ((vs.take (k + 1)).any zB = zB p) := by
          show _ = _
          have hkl := (List.getElem?_eq_some_iff.1 hp).1
          rw [List.take_succ_eq_append_getElem hkl, List.any_append, HANY.out]
          obtain ⟨_, rfl⟩ := List.getElem?_eq_some_iff.1 hp
          simp
        have HMEM : Hid (p ∈ vs) := List.mem_of_getElem? hp
        obtain ⟨p1, p2⟩ := p
        dsimp only at a1 a2
        have hk0 : (k : Int) < (vl : Int) := by omega
        obtain ⟨wa, hwa⟩ : ∃ wa, wr.alloc (.cells #[.int .i64 p1, .int .i64 p2] 52) = wa := ⟨_, rfl⟩
        have wa0 : wa.cell? ⟨wr.heap.size, 0, none⟩ = some (.int .i64 p1) := by rw [← hwa]; exact alloc_cell _ _ _ _ _ rfl
        have HBA : Hid (Below wr.heap.size wr wa) := by rw [← hwa]; exact (Below.refl _ _).alloc (Nat.le_refl _) _
        have HVA : Hid (Below V.heap.size V wa) := HVR.out.trans (HBA.out.mono HVR.out.size)
        obtain ⟨g0, g1, g2, g3⟩ := HVW.out wa HVA.out
        clear hp
        by_cases hp1 : p1 = 0
        · subst hp1
          have HFN : Hid (fitO zB m y px = none) := by
            show _ = _
            rw [HFO.out, if_pos]
            exact List.any_eq_true.2 ⟨_, HMEM.out, rfl⟩
          clear HFO
          go_wp2
          refine bodyPost_ret (v := .tuple #[.agg #[.slice none 0 0, .slice none 0 0], .bool false]) ?_ rfl ⟨?_, .inl ⟨HFN.out, rfl⟩⟩
          · rw [results_cell_tmp rfl]; go_simp
          · exact ((HBV.out.trans (HVA.out.mono HBV.out.size)).setCell (p := ⟨w.heap.size, 0, none⟩) (Nat.le_refl _) _).setCell (p := ⟨w.heap.size, 1, none⟩) (Nat.le_refl _) _
        · have y1 : (p1 == 0) = false := by simpa using hp1
          have HTN : Hid ((vs.take (k + 1)).any zB = false) := by rw [HTK.out]; exact y1
          clear hp1
          go_wp2
          go_roundw
          case rel => exact ⟨k + 1, by omega, by go_num, HTN.out, HB.out.trans (HBA.out.mono HB.out.size)⟩
          case measure => simp [intOf]; omega
      · obtain rfl : vl = k := by omega
        have HFS : Hid (fitO zB m y px = some vs) := by
          show _ = _
          rw [HFO.out, if_neg]
          rw [← HVL.out, List.take_length] at HANY
          rw [HANY.out]; simp
        clear HFO
        have HPR : Hid (Sl wr pa px) := HP.out.below HBW.out
        have HRR : Hid (Rl wr va vs) := HRV.out.below HB.out
        have HOE := Lib.hid (own_lit0 wr)
        have HBE : Hid (Below wr.heap.size wr (wr.alloc (.cells #[] 3))) := (Below.refl _ _).alloc (Nat.le_refl _) _
        have HLP : Hid (px.length ≤ 100000) := by rw [HPL.out]; show _ ≤ _; omega
        go_wp2_with (at_builtin; go_must (refine wpList_catE rfl (.tmp 33) (.tmp 34) rfl wr.heap.size _ pa px pc _ rfl (by rw [HPL.out]; rfl) HOE.out (HPR.out.below HBE.out) HLP.out HBE.out.size ?_); intro v2 w6 ho2 hb2; obtain ⟨qa, qc, rfl, s2, l2⟩ := ho2.parts; have HQ0 := Lib.hid ho2.zero; have hb6 := HBE.out.trans hb2; obtain ⟨g0, g1, g2, g3⟩ := HVW.out w6 (HVR.out.trans (hb6.mono HVR.out.size)); have HB6 := Lib.hid hb6; have HS6 := Lib.hid s2; clear hb6 hb2 ho2 s2 l2; (try rw [HPL.out]))
        have hT := topPost_put (t := (px, vs)) (n := 0) HVV.out (HVR.out.trans (HB6.out.mono HVR.out.size)) HS6.out (HRR.out.below HB6.out) (qc := qc) (vc := vc) rfl
        dsimp only at hT
        rw [HPL.out, HVL.out] at hT
        obtain ⟨h1, qa', qc', va', vc', he, h2, h3⟩ := hT
        dsimp only at he h2 h3
        simp only [Ending.returned.injEq, Value.tuple.injEq, Array.mk.injEq, List.cons.injEq, Value.agg.injEq, Value.slice.injEq, and_true] at he
        rw [HPL.out, HVL.out] at he
        obtain ⟨⟨rfl, _, rfl⟩, rfl, _, rfl⟩ := he
        refine bodyPost_ret (v := .tuple #[.agg #[.slice qa pl qc, .slice va vl vc], .bool true]) ?_ rfl ⟨h1, .inr ⟨vs, qa, qc, va, vc, HFS.out, by rw [HVL.out], h2, h3, HQ0.out⟩⟩
        rw [results_cell_tmp rfl]; go_simp
  · have y1 : (e0 == 0) = false := by simpa using he0
    have y2 : (e0 != 0) = true := by simpa using he0
    have HFN : Hid (fitO zB m y px = none) := by show _ = _; rw [HFO.out, if_neg he0]
    clear HFO he0
    go_enter Tryz.func33, Tryz.ntmps33
    go_wp2_with (go_at_call 65; refine HRL.out.mono ?_; rintro e w2 ⟨hb2, va, vc, rfl, hrl⟩; obtain ⟨g0, g1, g2, g3⟩ := HVW.out w2 hb2; have HBW : Hid (Below w.heap.size w w2) := HBV.out.trans (hb2.mono HBV.out.size); clear hb2 hrl)
    refine bodyPost_ret (v := .tuple #[.agg #[.slice none 0 0, .slice none 0 0], .bool false]) ?_ rfl ⟨(HBW.out.setCell (p := ⟨w.heap.size, 0, none⟩) (Nat.le_refl _) _).setCell (p := ⟨w.heap.size, 1, none⟩) (Nat.le_refl _) _, .inl ⟨HFN.out, rfl⟩⟩
    rw [results_cell_tmp rfl]; go_simp
/-- The error of a question for pixels. -/
def ofE (m : List (List Int)) (y px : List Int) : Int := if readE m y = 0 then listV m px else readE m y
set_option maxRecDepth 100000 in
set_option maxHeartbeats 800000 in
theorem askOf_any (ma : Option Addr) (m : List (List Int)) (mc : Nat) (ya : Option Addr) (y : List Int) (yc : Nat) (pa : Option Addr) (px : List Int) (pc : Nat) (w : World) (hm : MOk m) (hl : px.length ≤ 1000) (hly : y.length ≤ 9223372036854775807) (hs : Ms w ma m) (hp : Sl w pa px) (hy : Sl w ya y) :
    Calls Tryz.prog 28 #[.slice ma m.length mc, .slice ya y.length yc, .slice pa px.length pc] w fun e w' => e = .returned (.tuple #[if ofE m y px = 0 then .agg #[.slice ma m.length mc, .slice ya y.length yc] else .agg #[.slice none 0 0, .slice none 0 0], .int .i64 (ofE m y px)]) ∧ Below w.heap.size w w' := by
  obtain ⟨V, hV⟩ : ∃ V, w.alloc (.cells #[.slice none 0 0, .slice none 0 0] 54) = V := ⟨_, rfl⟩
  have hbv : Below w.heap.size w V := by rw [← hV]; exact (Below.refl _ _).alloc (Nat.le_refl _) _
  have HBV := Lib.hid hbv
  have HVW := Lib.hid (box2 hV)
  obtain ⟨e0, he0⟩ : ∃ e0, readE m y = e0 := ⟨_, rfl⟩
  by_cases h0 : e0 = 0
  · subst h0
    have hv := (readE_ok he0).1
    have HAS := Lib.hid (ask_ok ma m mc ya y yc V he0 hm hly (hs.below hbv) (hy.below hbv))
    obtain ⟨e1, he1⟩ : ∃ e1, listV m px = e1 := ⟨_, rfl⟩
    have HIN : Hid (∀ W, Below w.heap.size w W → Calls Tryz.prog 59 #[.slice ma m.length mc, .slice pa px.length pc] W fun e w' => ∃ b, e = .returned (.tuple #[.bool b, .int .i64 e1]) ∧ Below W.heap.size W w') := fun W hb => by
      refine (lindep_any ma m mc pa px pc W hm hl (hs.below hb) (hp.below hb)).mono ?_
      rintro e w' ⟨q1, q2⟩
      have h2 : (indepV m px).2 = e1 := by
        unfold indepV
        rw [if_pos hv]
        split
        · rename_i h; rw [← he1, h]
        · exact he1
      rw [h2] at q1
      exact ⟨_, q1, q2⟩
    have HUE : Hid (ofE m y px = e1) := by show _ = _; unfold ofE; rw [if_pos he0, he1]
    rw [HUE.out]
    obtain ⟨pl, hpl⟩ : ∃ pl, px.length = pl := ⟨_, rfl⟩
    rw [hpl] at HIN ⊢
    clear hm hs hy hbv he0 he1 hp hv hpl hl
    by_cases h1 : e1 = 0
    · subst h1
      go_enter Tryz.func28, Tryz.ntmps28
      go_wp2_with (first
        | (go_at_call 58; refine HAS.out.mono ?_; rintro e w2 ⟨rfl, hb2⟩
           obtain ⟨x2, hx2⟩ : ∃ x2, w2.alloc (.cells #[.slice ma m.length mc, .slice ya y.length yc] 54) = x2 := ⟨_, rfl⟩
           have hbx : Below w2.heap.size w2 x2 := by rw [← hx2]; exact (Below.refl _ _).alloc (Nat.le_refl _) _
           have hbV : Below V.heap.size V x2 := hb2.trans (hbx.mono hb2.size)
           have HX2 := Lib.hid (box2 hx2)
           have HBX2 : Hid (Below V.heap.size V x2) := hbV
           have HBX : Hid (Below w.heap.size w x2) := HBV.out.trans (hbV.mono HBV.out.size); clear hb2 hbx hbV)
        | (go_at_call 59; refine (HIN.out x2 HBX.out).mono ?_; rintro e w3 ⟨ib, rfl, hb3⟩
           obtain ⟨u0, u1, u2, u3⟩ := HVW.out w3 (HBX2.out.trans (hb3.mono HBX2.out.size))
           obtain ⟨z0, z1, _, _⟩ := HX2.out w3 hb3
           have HB3 : Hid (Below w.heap.size w w3) := HBX.out.trans (hb3.mono HBX.out.size); clear hb3))
      refine bodyPost_ret (v := .tuple #[.agg #[.slice ma m.length mc, .slice ya y.length yc], .int .i64 0]) ?_ rfl ⟨rfl, (HB3.out.setCell (p := ⟨w.heap.size, 0, none⟩) (Nat.le_refl _) _).setCell (p := ⟨w.heap.size, 1, none⟩) (Nat.le_refl _) _⟩
      rw [results_cell_tmp rfl]; go_simp
    · rw [if_neg h1]
      have y1 : (e1 == 0) = false := by simpa using h1
      have y2 : (e1 != 0) = true := by simpa using h1
      clear h1
      go_enter Tryz.func28, Tryz.ntmps28
      go_wp2_with (first
        | (go_at_call 58; refine HAS.out.mono ?_; rintro e w2 ⟨rfl, hb2⟩
           obtain ⟨x2, hx2⟩ : ∃ x2, w2.alloc (.cells #[.slice ma m.length mc, .slice ya y.length yc] 54) = x2 := ⟨_, rfl⟩
           have hbx : Below w2.heap.size w2 x2 := by rw [← hx2]; exact (Below.refl _ _).alloc (Nat.le_refl _) _
           have hbV : Below V.heap.size V x2 := hb2.trans (hbx.mono hb2.size)
           have HBX2 : Hid (Below V.heap.size V x2) := hbV
           have HBX : Hid (Below w.heap.size w x2) := HBV.out.trans (hbV.mono HBV.out.size); clear hb2 hbx hbV)
        | (go_at_call 59; refine (HIN.out x2 HBX.out).mono ?_; rintro e w3 ⟨ib, rfl, hb3⟩
           obtain ⟨u0, u1, u2, u3⟩ := HVW.out w3 (HBX2.out.trans (hb3.mono HBX2.out.size))
           have HB3 : Hid (Below w.heap.size w w3) := HBX.out.trans (hb3.mono HBX.out.size); clear hb3))
      refine bodyPost_ret (v := .tuple #[.agg #[.slice none 0 0, .slice none 0 0], .int .i64 e1]) ?_ rfl ⟨rfl, (HB3.out.setCell (p := ⟨w.heap.size, 0, none⟩) (Nat.le_refl _) _).setCell (p := ⟨w.heap.size, 1, none⟩) (Nat.le_refl _) _⟩
      rw [results_cell_tmp rfl]; go_simp
  · have HUE : Hid (ofE m y px = e0) := by show _ = _; unfold ofE; rw [he0, if_neg h0]
    have HAS := Lib.hid (ask_no ma m mc ya y yc V e0 he0 h0 hm hly (hs.below hbv) (hy.below hbv))
    have y1 : (e0 == 0) = false := by simpa using h0
    have y2 : (e0 != 0) = true := by simpa using h0
    rw [HUE.out, if_neg h0]
    clear hm hs hy hbv he0 h0 hp
    go_enter Tryz.func28, Tryz.ntmps28
    go_wp2_with (go_at_call 58; refine HAS.out.mono ?_; rintro e w2 ⟨rfl, hb2⟩
                 have hbV : Below V.heap.size V (w2.alloc (.cells #[.slice none 0 0, .slice none 0 0] 54)) := hb2.alloc hb2.size _
                 have hbV2 := hbV.alloc hbV.size (.cells #[.slice none 0 0, .slice none 0 0] 54)
                 obtain ⟨u0, u1, u2, u3⟩ := HVW.out _ hbV
                 obtain ⟨u4, u5, u6, u7⟩ := HVW.out _ hbV2
                 have HBX : Hid (Below w.heap.size w (w2.alloc (.cells #[.slice none 0 0, .slice none 0 0] 54))) := HBV.out.trans (hbV.mono HBV.out.size); clear hb2 hbV hbV2)
    refine bodyPost_ret (v := .tuple #[.agg #[.slice none 0 0, .slice none 0 0], .int .i64 e0]) ?_ rfl ⟨rfl, (HBX.out.setCell (p := ⟨w.heap.size, 0, none⟩) (Nat.le_refl _) _).setCell (p := ⟨w.heap.size, 1, none⟩) (Nat.le_refl _) _⟩
    rw [results_cell_tmp rfl]; go_simp
theorem sfit_none {px : List Int} {w w' : World} {e : Ending} (h : FitPost none px w e w') : Below w.heap.size w w' ∧ e = .returned (.tuple #[.agg #[.slice none 0 0, .slice none 0 0], .bool false]) := by
  obtain ⟨h1, ⟨_, h2⟩ | ⟨_, _, _, _, _, q, _⟩⟩ := h
  · exact ⟨h1, h2⟩
  · cases q
theorem sfit_some {vs : List (Int × Int)} {px : List Int} {w w' : World} {e : Ending} (h : FitPost (some vs) px w e w') : Below w.heap.size w w' ∧ ∃ qa qc va vc, e = .returned (.tuple #[.agg #[.slice qa px.length qc, .slice va vs.length vc], .bool true]) ∧ FitAt w' w.heap.size qa px va vs := by
  obtain ⟨h1, ⟨q, _⟩ | ⟨vs', qa, qc, va, vc, q, h2⟩⟩ := h
  · cases q
  · obtain rfl : vs = vs' := by injection q
    exact ⟨h1, qa, qc, va, vc, h2⟩
/-- What Carries answers. -/
def carryV (m : List (List Int)) (y px : List Int) : Bool × Int := if ofE m y px = 0 then ((fitO zB m y px).isSome, 0) else (false, ofE m y px)
end Go.Proofs.YtfnomiingelfaaaGreat
/- All of the reference of layer 4: a contract. -/
namespace Go.Proofs.YtfnomiingelfaaaGreat
open Go.RowKit Go.Shelf

/-- A fit of the reference, as it lies in memory. -/
structure FitR (x : FitV) (W : World) : Prop where
  sl : Sl W x.qa x.px
  rl : Rl W x.va x.vs
  z : Zero x.qa
theorem FitR.below {x : FitV} {W W' : World} (h : FitR x W) (hb : Below W.heap.size W W') : FitR x W' := ⟨h.sl.below hb, h.rl.below hb, h.z⟩
/-- A row of fits shares no memory with what holds numbers. -/
theorem OwnF.no_int {W : World} {base b : Nat} {v : Value} {xs : List FitV} {k : Int} (h : OwnF W base v xs) (hx : v = .slice none 0 0 ∨ xs ≠ []) (hc : W.cell? ⟨b, 0, none⟩ = some (.int .i64 k)) : v.ownBlock ≠ some b := by
  intro e
  rcases hx with rfl | hx
  · cases e
  · rcases h.form with ⟨_, q⟩ | ⟨g, cap, rfl⟩
    · exact hx q
    · obtain rfl : g = b := by injection e
      cases xs with
      | nil => exact hx rfl
      | cons x xs =>
        have := (h.cell (j := 0) (x := x) rfl).1
        rw [Nat.zero_mul, hc] at this
        cases this
theorem FitR.turned {x : FitV} {W W' : World} {base : Nat} {v : Value} {xs : List FitV} (h : FitR x W) (ho : OwnF W base v xs) (hx : v = .slice none 0 0 ∨ xs ≠ []) (ht : Turned (fun b => v.ownBlock = some b) W W') : FitR x W' := by
  refine ⟨fun k hk => ?_, fun j p hj => ?_, h.z⟩
  · obtain ⟨b, off, e, hc⟩ := h.sl k hk
    refine ⟨b, off, e, ht.cell hc ?_⟩
    obtain ⟨b2, off2, e2, hc2⟩ := h.sl 0 (by omega)
    rw [e] at e2
    obtain ⟨rfl, rfl⟩ : b = b2 ∧ off = off2 := by simpa using e2
    have hoff : off = 0 := by
      rcases h.z with q | ⟨b3, q⟩
      · rw [e] at q; cases q
      · rw [e] at q; simpa using (by simpa using q : _ ∧ off = 0).2
    subst hoff
    exact ho.no_int hx hc2
  · obtain ⟨b, e, h1, h2⟩ := h.rl j p hj
    obtain ⟨p0, hp0⟩ : ∃ p0, x.vs[0]? = some p0 := ⟨x.vs[0]'(by have := (List.getElem?_eq_some_iff.1 hj).1; omega), by simp [show 0 < x.vs.length by have := (List.getElem?_eq_some_iff.1 hj).1; omega]⟩
    obtain ⟨b2, e2, h3, _⟩ := h.rl 0 p0 hp0
    rw [e] at e2
    obtain rfl : b = b2 := by simpa using e2
    rw [Nat.zero_mul] at h3
    exact ⟨b, e, ht.cell h1 (ho.no_int hx h3), ht.cell h2 (ho.no_int hx h3)⟩
theorem OwnF.fsR {W : World} {base : Nat} {v : Value} {xs : List FitV} (h : OwnF W base v xs) (hm : ∀ x ∈ xs, FitR x W) : ∃ a cap, v = .slice a xs.length cap ∧ Fs W a (xs.map keyF) := by
  rcases h.form with ⟨e, rfl⟩ | ⟨g, cap', rfl⟩
  · exact ⟨none, 0, e, fun k p hk => by simp at hk⟩
  · refine ⟨_, cap', rfl, fun k p hk => ?_⟩
    rw [List.getElem?_map] at hk
    obtain ⟨x, hx, rfl⟩ := Option.map_eq_some_iff.1 hk
    obtain ⟨c1, c2⟩ := h.cell hx
    have hf := hm x (List.mem_of_getElem? hx)
    exact ⟨g, x.qa, x.qc, x.va, x.vc, rfl, c1, c2, hf.sl, hf.rl⟩
/-- What the reference keeps: a row of fits of its own. -/
structure RowI (base : Nat) (v : Value) (xs : List FitV) (W : World) : Prop where
  own : OwnF W base v xs
  mem : ∀ x ∈ xs, FitR x W
  sh : v = .slice none 0 0 ∨ xs ≠ []
theorem RowI.nil (base : Nat) (W : World) : RowI base (.slice none 0 0) [] W := ⟨OwnF.nil _ _, fun x hx => (by cases hx), .inl rfl⟩
theorem RowI.below {base : Nat} {v : Value} {xs : List FitV} {W W' : World} (h : RowI base v xs W) (hb : Below W.heap.size W W') : RowI base v xs W' := ⟨h.own.below hb, fun x hx => (h.mem x hx).below hb, h.sh⟩
theorem RowI.push {base : Nat} {v : Value} {xs : List FitV} {V w' : World} {x : FitV} {g cap : Nat} (h : RowI base v xs V) (hx : FitR x V) (hp : PushedF V base v xs x g cap w') : RowI base (.slice (some ⟨g, 0, none⟩) (xs.length + 1) cap) (xs ++ [x]) w' := by
  obtain ⟨h1, h2, _⟩ := hp
  refine ⟨h1, fun z hz => ?_, .inr (by simp)⟩
  rcases List.mem_append.1 hz with hz | hz
  · exact (h.mem z hz).turned h.own h.sh h2
  · obtain rfl := List.mem_singleton.1 hz
    exact hx.turned h.own h.sh h2
theorem pushedF_below {base : Nat} {v : Value} {xs : List FitV} {V w' : World} {x : FitV} {g cap : Nat} (h : OwnF V base v xs) (hb : base ≤ V.heap.size) (hp : PushedF V base v xs x g cap w') : Below base V w' := hp.2.1.below hb fun b hb e => by have := (World.ownsRow.lt h b e).1; omega
theorem rfit_none {px : List Int} {w w' : World} {e : Ending} (h : RFitPost none px w e w') : Below w.heap.size w w' ∧ e = .returned (.tuple #[.agg #[.slice none 0 0, .slice none 0 0], .bool false]) := by
  obtain ⟨h1, ⟨_, h2⟩ | ⟨_, _, _, _, _, q, _⟩⟩ := h
  · exact ⟨h1, h2⟩
  · cases q
theorem rfit_some {vs : List (Int × Int)} {px : List Int} {w w' : World} {e : Ending} (h : RFitPost (some vs) px w e w') : Below w.heap.size w w' ∧ ∃ qa qc va vc, e = .returned (.tuple #[.agg #[.slice qa px.length qc, .slice va vs.length vc], .bool true]) ∧ Sl w' qa px ∧ Rl w' va vs ∧ Zero qa := by
  obtain ⟨h1, ⟨q, _⟩ | ⟨vs', qa, qc, va, vc, q, h2⟩⟩ := h
  · cases q
  · obtain rfl : vs = vs' := by injection q
    exact ⟨h1, qa, qc, va, vc, h2⟩
/-- All fits, as the reference finds them. -/
def fitsR (m : List (List Int)) (y : List Int) (k : Nat) : List (List Int × List (Int × Int)) := ((setsAll (colsM m)).take k).filterMap fun px => (fitO zB m y px).map fun vs => (px, vs)
theorem fitsR_succ {m : List (List Int)} {y : List Int} {k : Nat} {s : List Int} (h : (setsAll (colsM m))[k]? = some s) : fitsR m y (k + 1) = fitsR m y k ++ ((fitO zB m y s).map fun vs => (s, vs)).toList := by
  unfold fitsR
  obtain ⟨hk, rfl⟩ := List.getElem?_eq_some_iff.1 h
  rw [List.take_succ_eq_append_getElem hk, List.filterMap_append]
  congr 1
theorem fitsR_len (m : List (List Int)) (y : List Int) (k : Nat) : (fitsR m y k).length ≤ k := by
  unfold fitsR
  exact Nat.le_trans (List.length_filterMap_le _ _) (by rw [List.length_take]; omega)
set_option maxRecDepth 1000000 in
set_option maxHeartbeats 3200000 in
theorem rall_any (ma : Option Addr) (m : List (List Int)) (mc : Nat) (ya : Option Addr) (y : List Int) (yc : Nat) (w : World) (hm : MOk m) (hv : validM m = true) (hly : y.length ≤ 1000) (hs : Ms w ma m) (hy : Sl w ya y) :
    Calls Tryz.prog 38 #[.slice ma m.length mc, .slice ya y.length yc] w fun e w' => Below w.heap.size w w' ∧ ∃ base v xs, e = .returned v ∧ xs.map keyF = fitsR m y (setsAll (colsM m)).length ∧ RowI base v xs w' := by
  obtain ⟨hm1, hm6, hc1, hc10, hrows⟩ := validM_of hv
  have HM := Lib.hid hm
  have HS := Lib.hid hs
  have HY := Lib.hid hy
  have HLY := Lib.hid hly
  obtain ⟨b0, o0, a0, r0, c0, rfl, hcw, _, hr0⟩ := hs.at (i := 0) (by omega)
  obtain ⟨N, hN⟩ : ∃ N, colsM m = N := ⟨_, rfl⟩
  have HN := Lib.hid hN
  have hr0N : r0.length = N := by rw [← hN]; exact (hrows r0 (List.mem_of_getElem? hr0.out)).1
  rw [hr0N, Nat.add_zero] at hcw
  rw [hN] at hc1 hc10 ⊢
  have hml : 0 < m.length := by omega
  have HSE : Hid (∀ W, Calls Tryz.prog 70 #[.int .i64 N] W fun e w' => ∃ a c, e = .returned (.slice a (setsAll N).length c) ∧ MsN w' a (setsAll N) ∧ Below W.heap.size W w') := fun W => rsets_new N (by omega) W
  obtain ⟨AL, hAL⟩ : ∃ AL, (setsAll N).length = AL := ⟨_, rfl⟩
  have HALL := Lib.hid hAL
  have hAL1 : AL ≤ 1024 := by rw [← hAL]; exact setsAll_len N (by omega)
  rw [hAL] at HSE ⊢
  clear hm hs hy hly hrows hr0 hr0N hN hAL hm6 hm1
  go_enter Tryz.func38, Tryz.ntmps38
  go_wp2_with (go_at_call 70; refine (HSE.out w).mono ?_; rintro e w2 ⟨sa, sc, rfl, hms, hb1⟩; have HMS := Lib.hid hms; have HB1 := Lib.hid hb1; clear hms hb1)
  clear hcw HSE
  go_loopw [5, 7, 8, 9, 16] (fun v _ _ _ i wr => ∃ (k : Nat) (xs : List FitV), k ≤ AL ∧ i = .int .i64 k ∧ xs.map keyF = fitsR m y k ∧ RowI w2.heap.size v xs wr ∧ Below w2.heap.size w2 wr) (fun _ _ _ _ i _ => AL - (intOf i).toNat)
  case atStart => exact ⟨0, [], Nat.zero_le _, rfl, rfl, RowI.nil _ _, Below.refl _ _⟩
  case round =>
    obtain ⟨k, xs, hk, rfl, hxs, hO, hB⟩ := hrel
    have HXS := Lib.hid hxs; clear hxs
    have HO := Lib.hid hO; clear hO
    have HB := Lib.hid hB; clear hB
    have HRB : Hid (Below w.heap.size w wr) := HB1.out.trans (HB.out.mono HB1.out.size)
    by_cases hlt : k < AL
    · obtain ⟨s, hs0⟩ : ∃ s, (setsAll N)[k]? = some s := ⟨_, List.getElem?_eq_getElem (by rw [HALL.out]; exact hlt)⟩
      have hkM : k < (setsAll N).length := by rw [HALL.out]; exact hlt
      obtain ⟨b1, o1, a1, c1, rfl, hcell, hsl, hnil⟩ := HMS.out k hkM
      rw [hs0] at hnil
      rw [hs0, Option.getD_some] at hcell hsl
      have hSw : Sl wr a1 s := Sl.below hsl HB.out
      have hcell : wr.cell? ⟨b1, o1 + k, none⟩ = some (.slice a1 s.length c1) := (HB.out.cell (p := ⟨b1, o1 + k, none⟩) (cell_lt hcell)).trans hcell
      obtain ⟨hsN, _⟩ := setsAll_mem (List.mem_of_getElem? hs0)
      have HSU : Hid (fitsR m y (k + 1) = fitsR m y k ++ ((fitO zB m y s).map fun vs => (s, vs)).toList) := fitsR_succ (by rw [HN.out]; exact hs0)
      have HFI : Hid (Calls Tryz.prog 33 #[.slice (some ⟨b0, o0, none⟩) m.length mc, .slice ya y.length yc, .slice a1 s.length c1] wr (RFitPost (fitO zB m y s) s wr)) := rfit_any _ m mc ya y yc a1 s c1 wr HM.out (by omega) HLY.out (HS.out.below HRB.out) hSw (fun e => hnil (by rw [e])) (HY.out.below HRB.out)
      have HXL : Hid (xs.length ≤ 100000) := by
        have := congrArg List.length HXS.out
        rw [List.length_map] at this
        have h2 := fitsR_len m y k
        show _ ≤ _
        omega
      have hb0k : o1 + k = o1 + k := rfl
      have hk0 : (k : Int) < (AL : Int) := by omega
      clear hsl hs0 hkM hnil hSw hsN hb0k
      cases hfo : fitO zB m y s with
      | none =>
        rw [hfo] at HFI HSU
        have HNX : Hid (fitsR m y (k + 1) = fitsR m y k) := by show _ = _; rw [HSU.out]; simp
        clear hfo HSU
        go_wp2_with (go_at_call 33; refine HFI.out.mono ?_; intro e w5 h5; obtain ⟨hb5, rfl⟩ := rfit_none h5; have HB5 := Lib.hid hb5; clear hb5 h5)
        go_roundw
        case rel => exact ⟨k + 1, xs, by omega, by go_num, by rw [HNX.out]; exact HXS.out, HO.out.below (HB5.out.alloc HB5.out.size _), (Below.next HB.out HB5.out (Nat.le_refl _)).alloc (Nat.le_trans HB.out.size HB5.out.size) _⟩
        case measure => simp [intOf]; omega
      | some vs0 =>
        rw [hfo] at HFI HSU
        have HNX : Hid (fitsR m y (k + 1) = fitsR m y k ++ [(s, vs0)]) := by show _ = _; rw [HSU.out]; simp
        clear hfo HSU
        go_wp2_with (first
          | (go_at_call 33; refine HFI.out.mono ?_; intro e w5 h5; obtain ⟨hb5, qa, qc, va, vc, rfl, hsl5, hrl5, hz5⟩ := rfit_some h5; clear h5
             obtain ⟨wb, hwb⟩ : ∃ wb, w5.alloc (.cells #[.slice qa s.length qc, .slice va vs0.length vc] 27) = wb := ⟨_, rfl⟩
             have HBB : Hid (Below w5.heap.size w5 wb) := by rw [← hwb]; exact (Below.refl _ _).alloc (Nat.le_refl _) _
             have wb0 : wb.cell? ⟨w5.heap.size, 0, none⟩ = some (.slice qa s.length qc) := by rw [← hwb]; exact alloc_cell _ _ _ _ _ rfl
             have wb1 : wb.cell? ⟨w5.heap.size, 1, none⟩ = some (.slice va vs0.length vc) := by rw [← hwb]; exact alloc_cell _ _ _ _ _ rfl
             have HB5 := Lib.hid hb5; have HWB : Hid (Below wr.heap.size wr wb) := hb5.trans (HBB.out.mono hb5.size)
             have HFR : Hid (FitR ⟨qa, qc, s, va, vc, vs0⟩ wb) := FitR.below (W := w5) ⟨hsl5, hrl5, hz5⟩ HBB.out
             have HRI : Hid (RowI w2.heap.size _ xs wb) := HO.out.below HWB.out
             have HSZ : Hid (w2.heap.size ≤ wb.heap.size) := Nat.le_trans HB.out.size HWB.out.size
             clear hb5 hsl5 hrl5 hz5)
          | (at_builtin; go_must (refine wpList_pushF rfl (.tmp 28) (.tmp 30) rfl w2.heap.size _ xs ⟨qa, qc, s, va, vc, vs0⟩ wb _ _ rfl rfl rfl HRI.out.own HXL.out HSZ.out ?_); intro g gc w7 hp; have HP := Lib.hid (HRI.out.push HFR.out hp); have HB7 := Lib.hid (pushedF_below HRI.out.own HSZ.out hp); clear hp))
        go_roundw
        case rel => exact ⟨k + 1, xs ++ [⟨qa, qc, s, va, vc, vs0⟩], by omega, by go_num, by rw [HNX.out, List.map_append, HXS.out]; rfl, HP.out, (Below.next HB.out HWB.out (Nat.le_refl _)).trans HB7.out⟩
        case measure => simp [intOf]; omega
    · obtain rfl : AL = k := by omega
      obtain ⟨oa, oc, hov, hof⟩ := HO.out.own.fsR HO.out.mem
      subst hov
      clear hof
      go_wp2
      go_ret
      exact ⟨HRB.out, _, _, xs, rfl, HXS.out, HO.out⟩
end Go.Proofs.YtfnomiingelfaaaGreat
/- Carries and IsFit of layer 4, both sides: contracts. -/
namespace Go.Proofs.YtfnomiingelfaaaGreat
open Go.RowKit Go.Shelf

theorem ofE_read {m : List (List Int)} {y px : List Int} (h : ofE m y px = 0) : readE m y = 0 ∧ listV m px = 0 := by
  unfold ofE at h
  split at h
  · rename_i h1; exact ⟨h1, h⟩
  · rename_i h1; exact absurd h h1
theorem fitO_of {m : List (List Int)} {y px : List Int} (h : ofE m y px ≠ 0) : fitO zB m y px = none := by
  have h2 : (solveV m px y).2 ≠ 0 := by
    unfold ofE at h
    unfold solveV
    split
    · rename_i h1
      rw [if_pos h1] at h
      rw [if_neg h]
      exact h
    · rename_i h1
      rw [if_neg h1] at h
      exact h
  unfold fitO
  rw [if_neg h2]
/-- The fit of the program, with its zeros left out. -/
theorem sfitZ_any (ma : Option Addr) (m : List (List Int)) (mc : Nat) (ya : Option Addr) (y : List Int) (yc : Nat) (pa : Option Addr) (px : List Int) (pc : Nat) (w : World) (hm : MOk m) (hl : px.length ≤ 1000) (hly : y.length ≤ 1000) (hs : Ms w ma m) (hp : Sl w pa px) (hy : Sl w ya y) :
    ∀ V, Below w.heap.size w V → Calls Tryz.prog 29 #[.agg #[.slice ma m.length mc, .slice ya y.length yc], .slice pa px.length pc, .func (.func 30) #[] #[]] V (FitPost (fitO zB m y px) px V) := fun V hb =>
  sfitO_any _ zB ma m mc ya y yc pa px pc V hm hl hly (hs.below hb) (hp.below hb) (hy.below hb) fun W a vs cap _ h1 h2 => zfunc_any W a vs cap h1 h2
set_option maxRecDepth 100000 in
set_option maxHeartbeats 800000 in
theorem scarries_any (ma : Option Addr) (m : List (List Int)) (mc : Nat) (ya : Option Addr) (y : List Int) (yc : Nat) (pa : Option Addr) (px : List Int) (pc : Nat) (w : World) (hm : MOk m) (hl : px.length ≤ 1000) (hly : y.length ≤ 1000) (hs : Ms w ma m) (hp : Sl w pa px) (hy : Sl w ya y) :
    Calls Tryz.prog 9 #[.slice ma m.length mc, .slice ya y.length yc, .slice pa px.length pc] w fun e w' => e = .returned (.tuple #[.bool (carryV m y px).1, .int .i64 (carryV m y px).2]) ∧ Below w.heap.size w w' := by
  have HAO := Lib.hid (askOf_any ma m mc ya y yc pa px pc w hm hl (by omega) hs hp hy)
  have HFI := Lib.hid (sfitZ_any ma m mc ya y yc pa px pc w hm hl hly hs hp hy)
  obtain ⟨ml, hml⟩ : ∃ ml, m.length = ml := ⟨_, rfl⟩
  obtain ⟨yl, hyl⟩ : ∃ yl, y.length = yl := ⟨_, rfl⟩
  obtain ⟨e0, he0⟩ : ∃ e0, ofE m y px = e0 := ⟨_, rfl⟩
  rw [he0] at HAO
  by_cases h0 : e0 = 0
  · subst h0
    obtain ⟨r, hr⟩ : ∃ r, fitO zB m y px = r := ⟨_, rfl⟩
    have HC : Hid (carryV m y px = (r.isSome, 0)) := by show _ = _; unfold carryV; rw [if_pos he0, hr]
    rw [hr] at HFI
    rw [if_pos rfl] at HAO
    rw [HC.out]
    obtain ⟨pl, hpl⟩ : ∃ pl, px.length = pl := ⟨_, rfl⟩
    have HPL := Lib.hid hpl
    rw [hml, hyl] at HAO HFI
    rw [hpl] at HAO HFI
    rw [hml, hyl, hpl]
    clear hm hl hly hs hp hy he0 hr hml hyl hpl
    cases r with
    | none =>
      go_enter Tryz.func9, Tryz.ntmps9
      go_wp2_with (first
        | (go_at_call 28; refine HAO.out.mono ?_; rintro e w1 ⟨rfl, hb1⟩; have HB1 := Lib.hid hb1; clear hb1)
        | (go_at_call 29; refine (HFI.out _ (HB1.out.alloc HB1.out.size _)).mono ?_; intro e w2 h; obtain ⟨hb2, rfl⟩ := sfit_none h; have HB2 : Hid (Below w.heap.size w w2) := (HB1.out.alloc HB1.out.size _).trans (hb2.mono (HB1.out.alloc HB1.out.size _).size); clear hb2 h))
      go_ret2
      exact ⟨rfl, HB2.out.alloc HB2.out.size _⟩
    | some vs =>
      go_enter Tryz.func9, Tryz.ntmps9
      go_wp2_with (first
        | (go_at_call 28; refine HAO.out.mono ?_; rintro e w1 ⟨rfl, hb1⟩; have HB1 := Lib.hid hb1; clear hb1)
        | (go_at_call 29; refine (HFI.out _ (HB1.out.alloc HB1.out.size _)).mono ?_; intro e w2 h; obtain ⟨hb2, qa, qc, va, vc, rfl, _⟩ := sfit_some h; have HB2 : Hid (Below w.heap.size w w2) := (HB1.out.alloc HB1.out.size _).trans (hb2.mono (HB1.out.alloc HB1.out.size _).size); clear hb2 h))
      go_ret2
      exact ⟨rfl, HB2.out.alloc HB2.out.size _⟩
  · have HC : Hid (carryV m y px = (false, e0)) := by show _ = _; unfold carryV; rw [he0, if_neg h0]
    rw [HC.out]
    rw [if_neg h0] at HAO
    have y1 : (e0 == 0) = false := by simpa using h0
    have y2 : (e0 != 0) = true := by simpa using h0
    clear hm hl hly hs hp hy he0 h0 hml hyl
    go_enter Tryz.func9, Tryz.ntmps9
    go_wp2_with (go_at_call 28; refine HAO.out.mono ?_; rintro e w1 ⟨rfl, hb1⟩; have HB1 : Hid (Below w.heap.size w w1) := hb1; clear hb1)
    go_ret2
    exact ⟨rfl, HB1.out.alloc HB1.out.size _⟩
set_option maxRecDepth 100000 in
set_option maxHeartbeats 800000 in
theorem rcarries_any (ma : Option Addr) (m : List (List Int)) (mc : Nat) (ya : Option Addr) (y : List Int) (yc : Nat) (pa : Option Addr) (px : List Int) (pc : Nat) (w : World) (hm : MOk m) (hl : px.length ≤ 1000) (hly : y.length ≤ 1000) (hs : Ms w ma m) (hp : Sl w pa px) (hy : Sl w ya y) :
    Calls Tryz.prog 10 #[.slice ma m.length mc, .slice ya y.length yc, .slice pa px.length pc] w fun e w' => e = .returned (.tuple #[.bool (carryV m y px).1, .int .i64 (carryV m y px).2]) ∧ Below w.heap.size w w' := by
  obtain ⟨rv, hrv⟩ : ∃ rv, readE m y = rv := ⟨_, rfl⟩
  have HRE : Hid (Calls Tryz.prog 31 #[.slice ma m.length mc, .slice ya y.length yc] w fun e w' => e = .returned (.int .i64 rv) ∧ w = w') := by rw [← hrv]; exact rread3_any ma m mc ya y yc w hm (by omega) hs hy
  by_cases h0 : rv = 0
  · subst h0
    have hv := (readE_ok hrv).1
    obtain ⟨e1, he1⟩ : ∃ e1, listV m px = e1 := ⟨_, rfl⟩
    have HNA : Hid (Calls Tryz.prog 32 #[.slice ma m.length mc, .slice pa px.length pc] w fun e w' => e = .returned (.int .i64 e1) ∧ Below w.heap.size w w') := by rw [← he1]; exact rnamed_any ma m mc pa px pc w hv hl hs hp
    have HFI : Hid (∀ V, Below w.heap.size w V → Calls Tryz.prog 33 #[.slice ma m.length mc, .slice ya y.length yc, .slice pa px.length pc] V (RFitPost (fitO zB m y px) px V)) := fun V hb => rfitO_any ma m mc ya y yc pa px pc V hm hl hly (hs.below hb) (hp.below hb) (hy.below hb)
    by_cases h1 : e1 = 0
    · subst h1
      obtain ⟨r, hr⟩ : ∃ r, fitO zB m y px = r := ⟨_, rfl⟩
      have HC : Hid (carryV m y px = (r.isSome, 0)) := by show _ = _; unfold carryV ofE; rw [if_pos hrv, if_pos he1, hr]
      rw [hr] at HFI
      rw [HC.out]
      clear hm hl hly hs hp hy hrv he1 hr hv
      cases r with
      | none =>
        go_enter Tryz.func10, Tryz.ntmps10
        go_wp2_with (first
          | (go_at_call 31; refine HRE.out.mono ?_; rintro e w1 ⟨rfl, rfl⟩)
          | (go_at_call 32; refine HNA.out.mono ?_; rintro e w1 ⟨rfl, hb1⟩; have HB1 := Lib.hid hb1; clear hb1)
          | (go_at_call 33; refine (HFI.out _ HB1.out).mono ?_; intro e w2 h; obtain ⟨hb2, rfl⟩ := rfit_none h; have HB2 : Hid (Below w.heap.size w w2) := HB1.out.trans (hb2.mono HB1.out.size); clear hb2 h))
        go_ret2
        exact ⟨rfl, HB2.out.alloc HB2.out.size _⟩
      | some vs =>
        go_enter Tryz.func10, Tryz.ntmps10
        go_wp2_with (first
          | (go_at_call 31; refine HRE.out.mono ?_; rintro e w1 ⟨rfl, rfl⟩)
          | (go_at_call 32; refine HNA.out.mono ?_; rintro e w1 ⟨rfl, hb1⟩; have HB1 := Lib.hid hb1; clear hb1)
          | (go_at_call 33; refine (HFI.out _ HB1.out).mono ?_; intro e w2 h; obtain ⟨hb2, qa, qc, va, vc, rfl, _, _, _⟩ := rfit_some h; have HB2 : Hid (Below w.heap.size w w2) := HB1.out.trans (hb2.mono HB1.out.size); clear hb2 h))
        go_ret2
        exact ⟨rfl, HB2.out.alloc HB2.out.size _⟩
    · have HC : Hid (carryV m y px = (false, e1)) := by show _ = _; unfold carryV ofE; rw [if_pos hrv, he1, if_neg h1]
      rw [HC.out]
      have y1 : (e1 == 0) = false := by simpa using h1
      have y2 : (e1 != 0) = true := by simpa using h1
      clear hm hl hly hs hp hy hrv he1 h1 hv
      go_enter Tryz.func10, Tryz.ntmps10
      go_wp2_with (first
        | (go_at_call 31; refine HRE.out.mono ?_; rintro e w1 ⟨rfl, rfl⟩)
        | (go_at_call 32; refine HNA.out.mono ?_; rintro e w1 ⟨rfl, hb1⟩; have HB1 := Lib.hid hb1; clear hb1))
      go_ret2
      exact ⟨rfl, HB1.out⟩
  · have HC : Hid (carryV m y px = (false, rv)) := by show _ = _; unfold carryV ofE; rw [hrv, if_neg h0, if_neg h0]
    rw [HC.out]
    have y1 : (rv == 0) = false := by simpa using h0
    have y2 : (rv != 0) = true := by simpa using h0
    clear hm hl hly hs hp hy hrv h0
    go_enter Tryz.func10, Tryz.ntmps10
    go_wp2_with (go_at_call 31; refine HRE.out.mono ?_; rintro e w1 ⟨rfl, rfl⟩)
    go_ret2
    exact ⟨rfl, Below.refl _ _⟩
/-- What IsFit answers. -/
def isFitB (m : List (List Int)) (y px : List Int) (vs : List (Int × Int)) : Bool := decide (fitO zB m y px = some vs)
theorem isFitB_none {m : List (List Int)} {y px : List Int} {vs : List (Int × Int)} (h : fitO zB m y px = none) : isFitB m y px vs = false := by unfold isFitB; rw [h]; simp
theorem isFitB_some {m : List (List Int)} {y px : List Int} {vs us : List (Int × Int)} (h : fitO zB m y px = some us) : isFitB m y px vs = decide (us = vs) := by unfold isFitB; rw [h]; simp
theorem fitO_len {m : List (List Int)} {y px : List Int} {vs : List (Int × Int)} (h : fitO zB m y px = some vs) : vs.length ≤ px.length := by
  have h4 : vs = (solveV m px y).1 := by
    unfold fitO at h
    split at h
    · split at h
      · cases h
      · exact (Option.some.inj h).symm
    · cases h
  rw [h4]
  exact solveV_len m px y
set_option maxRecDepth 100000 in
set_option maxHeartbeats 1600000 in
theorem sisFit_any (ma : Option Addr) (m : List (List Int)) (mc : Nat) (ya : Option Addr) (y : List Int) (yc : Nat) (pa : Option Addr) (px : List Int) (pc : Nat) (va : Option Addr) (vs : List (Int × Int)) (vc : Nat) (w : World) (hm : MOk m) (hl : px.length ≤ 1000) (hly : y.length ≤ 1000) (hs : Ms w ma m) (hp : Sl w pa px) (hy : Sl w ya y) (hlv : vs.length ≤ 1000) (hv : Rr w va vs) :
    Calls Tryz.prog 13 #[.slice ma m.length mc, .slice ya y.length yc, .agg #[.slice pa px.length pc, .slice va vs.length vc]] w fun e w' => e = .returned (.bool (isFitB m y px vs)) ∧ Below w.heap.size w w' := by
  obtain ⟨V, hV⟩ : ∃ V, w.alloc (.cells #[.slice pa px.length pc, .slice va vs.length vc] 27) = V := ⟨_, rfl⟩
  have hbv : Below w.heap.size w V := by rw [← hV]; exact (Below.refl _ _).alloc (Nat.le_refl _) _
  have HBV := Lib.hid hbv
  have HVW := Lib.hid (box2 hV)
  obtain ⟨t0, t1, t2, t3⟩ := HVW.out V (Below.refl _ _)
  have HFI : Hid (Calls Tryz.prog 29 #[.agg #[.slice ma m.length mc, .slice ya y.length yc], .slice pa px.length pc, .func (.func 30) #[] #[]] V (FitPost (fitO zB m y px) px V)) := sfitZ_any ma m mc ya y yc pa px pc w hm hl hly hs hp hy V hbv
  have HRV := Lib.hid hv
  obtain ⟨r, hr⟩ : ∃ r, fitO zB m y px = r := ⟨_, rfl⟩
  have HR := Lib.hid hr
  rw [hr] at HFI
  obtain ⟨pl, hpl⟩ : ∃ pl, px.length = pl := ⟨_, rfl⟩
  obtain ⟨vl, hvl⟩ : ∃ vl, vs.length = vl := ⟨_, rfl⟩
  have HPL := Lib.hid hpl
  have HVL := Lib.hid hvl
  rw [hpl] at HFI HVW t0 hV hl ⊢
  rw [hvl] at HVW t1 hV hlv ⊢
  clear hm hly hs hp hy hbv hr hv hpl hvl
  cases r with
  | none =>
    have HE : Hid (isFitB m y px vs = false) := isFitB_none HR.out
    rw [HE.out]
    go_enter Tryz.func13, Tryz.ntmps13
    go_wp2_with (go_at_call 29; refine HFI.out.mono ?_; intro e w2 h; obtain ⟨hb2, rfl⟩ := sfit_none h; have HB2 : Hid (Below w.heap.size w w2) := HBV.out.trans (hb2.mono HBV.out.size); clear hb2 h)
    go_ret
    exact ⟨rfl, HB2.out.alloc HB2.out.size _⟩
  | some us =>
    have HE : Hid (isFitB m y px vs = decide (us = vs)) := isFitB_some HR.out
    have HUL : Hid (us.length ≤ 1000) := by have := fitO_len HR.out; have := HPL.out; show _ ≤ _; omega
    have HEQ : Hid (∀ W a c, Below w.heap.size w W → Rl W a us → Calls Tryz.prog 39 #[.slice a us.length c, .slice va vl vc] W fun e w' => e = .returned (.bool (decide (us = vs))) ∧ Below W.heap.size W w') := fun W a c hb hu => by
      have h := equalRR_any a us c va vs vc W HUL.out (by rw [HVL.out]; exact hlv) hu.rr (HRV.out.below hb)
      rw [HVL.out] at h
      refine h.mono ?_
      rintro e w' ⟨q1, n, rfl⟩
      exact ⟨q1, below_drewN (Below.refl _ _) _⟩
    obtain ⟨bb, hbb⟩ : ∃ bb, decide (us = vs) = bb := ⟨_, rfl⟩
    rw [hbb] at HE HEQ
    rw [HE.out]
    clear hbb
    go_enter Tryz.func13, Tryz.ntmps13
    go_wp2_with (first
      | (go_at_call 29; refine HFI.out.mono ?_; intro e w2 h; obtain ⟨hb2, qa, qc, va2, vc2, rfl, hfa⟩ := sfit_some h; rw [HPL.out]
         obtain ⟨wb, hwb⟩ : ∃ wb, w2.alloc (.cells #[.slice qa pl qc, .slice va2 us.length vc2] 27) = wb := ⟨_, rfl⟩
         have hbb : Below w2.heap.size w2 wb := by rw [← hwb]; exact (Below.refl _ _).alloc (Nat.le_refl _) _
         obtain ⟨x0, x1, _, _⟩ := box2 hwb wb (Below.refl _ _)
         have hbw : Below V.heap.size V wb := hb2.trans (hbb.mono hb2.size)
         obtain ⟨u0, u1, _, _⟩ := HVW.out wb hbw
         have HRU : Hid (Rl wb va2 us) := hfa.rl.below hbb
         have HB2 : Hid (Below w.heap.size w wb) := HBV.out.trans (hbw.mono HBV.out.size); clear hb2 h hfa hbb hbw)
      | (go_at_call 39; refine (HEQ.out _ _ _ HB2.out HRU.out).mono ?_; rintro e w3 ⟨rfl, hb3⟩; have HB3 : Hid (Below w.heap.size w w3) := HB2.out.trans (hb3.mono HB2.out.size); clear hb3))
    go_ret
    exact ⟨rfl, HB3.out⟩
set_option maxRecDepth 100000 in
set_option maxHeartbeats 1600000 in
theorem risFit_any (ma : Option Addr) (m : List (List Int)) (mc : Nat) (ya : Option Addr) (y : List Int) (yc : Nat) (pa : Option Addr) (px : List Int) (pc : Nat) (va : Option Addr) (vs : List (Int × Int)) (vc : Nat) (w : World) (hm : MOk m) (hl : px.length ≤ 1000) (hly : y.length ≤ 1000) (hs : Ms w ma m) (hp : Sl w pa px) (hy : Sl w ya y) (hlv : vs.length ≤ 1000) (hv : Rr w va vs) :
    Calls Tryz.prog 14 #[.slice ma m.length mc, .slice ya y.length yc, .agg #[.slice pa px.length pc, .slice va vs.length vc]] w fun e w' => e = .returned (.bool (isFitB m y px vs)) ∧ Below w.heap.size w w' := by
  obtain ⟨V, hV⟩ : ∃ V, w.alloc (.cells #[.slice pa px.length pc, .slice va vs.length vc] 27) = V := ⟨_, rfl⟩
  have hbv : Below w.heap.size w V := by rw [← hV]; exact (Below.refl _ _).alloc (Nat.le_refl _) _
  have HBV := Lib.hid hbv
  have HVW := Lib.hid (box2 hV)
  obtain ⟨t0, t1, t2, t3⟩ := HVW.out V (Below.refl _ _)
  obtain ⟨z, hz⟩ : ∃ z, decide (readE m y = 0) = z := ⟨_, rfl⟩
  have HRE : Hid (Calls Tryz.prog 40 #[.slice ma m.length mc, .slice ya y.length yc] V fun e w' => e = .returned (.bool z) ∧ V = w') := by rw [← hz]; exact rreading3_any ma m mc ya y yc V hm (by omega) (hs.below hbv) (hy.below hbv)
  cases z with
  | false =>
    have h0 : ¬ readE m y = 0 := by simpa using hz
    have HE : Hid (isFitB m y px vs = false) := isFitB_none (fitO_of (by unfold ofE; rw [if_neg h0]; exact h0))
    rw [HE.out]
    clear hm hl hly hs hp hy hz h0 hv hbv hlv
    go_enter Tryz.func14, Tryz.ntmps14
    go_wp2_with (go_at_call 40; refine HRE.out.mono ?_; rintro e w1 ⟨rfl, rfl⟩)
    go_ret
    exact ⟨rfl, HBV.out⟩
  | true =>
    have h0 : readE m y = 0 := by simpa using hz
    obtain ⟨e1, he1⟩ : ∃ e1, listV m px = e1 := ⟨_, rfl⟩
    have HNA : Hid (Calls Tryz.prog 32 #[.slice ma m.length mc, .slice pa px.length pc] V fun e w' => e = .returned (.int .i64 e1) ∧ Below V.heap.size V w') := by rw [← he1]; exact rnamed_any ma m mc pa px pc V (readE_ok h0).1 hl (hs.below hbv) (hp.below hbv)
    by_cases h1 : e1 = 0
    · subst h1
      have HFI : Hid (∀ W, Below w.heap.size w W → Calls Tryz.prog 33 #[.slice ma m.length mc, .slice ya y.length yc, .slice pa px.length pc] W (RFitPost (fitO zB m y px) px W)) := fun W hb => rfitO_any ma m mc ya y yc pa px pc W hm hl hly (hs.below hb) (hp.below hb) (hy.below hb)
      have HRV := Lib.hid hv
      have HPX := Lib.hid hp
      obtain ⟨r, hr⟩ : ∃ r, fitO zB m y px = r := ⟨_, rfl⟩
      have HR := Lib.hid hr
      rw [hr] at HFI
      obtain ⟨pl, hpl⟩ : ∃ pl, px.length = pl := ⟨_, rfl⟩
      obtain ⟨vl, hvl⟩ : ∃ vl, vs.length = vl := ⟨_, rfl⟩
      have HPL := Lib.hid hpl
      have HVL := Lib.hid hvl
      rw [hpl] at HFI HVW HNA t0 hV hl ⊢
      rw [hvl] at HVW t1 hV hlv ⊢
      clear hm hly hs hp hy hbv hr hv hpl hvl hz h0 he1
      cases r with
      | none =>
        have HE : Hid (isFitB m y px vs = false) := isFitB_none HR.out
        rw [HE.out]
        go_enter Tryz.func14, Tryz.ntmps14
        go_wp2_with (first
          | (go_at_call 40; refine HRE.out.mono ?_; rintro e w1 ⟨rfl, rfl⟩)
          | (go_at_call 32; refine HNA.out.mono ?_; rintro e w2 ⟨rfl, hb2⟩; obtain ⟨u0, u1, _, _⟩ := HVW.out w2 hb2; have HB2 : Hid (Below w.heap.size w w2) := HBV.out.trans (hb2.mono HBV.out.size); clear hb2)
          | (go_at_call 33; refine (HFI.out _ HB2.out).mono ?_; intro e w3 h; obtain ⟨hb3, rfl⟩ := rfit_none h; have HB3 : Hid (Below w.heap.size w w3) := HB2.out.trans (hb3.mono HB2.out.size); clear hb3 h))
        go_ret
        exact ⟨rfl, HB3.out.alloc HB3.out.size _⟩
      | some us =>
        have HE : Hid (isFitB m y px vs = decide (us = vs)) := isFitB_some HR.out
        have HUL : Hid (us.length ≤ 1000) := by have := fitO_len HR.out; have := HPL.out; show _ ≤ _; omega
        have HSF : Hid (∀ W qa2 qc2 va2 vc2, Below w.heap.size w W → Sl W qa2 px → Rl W va2 us → Calls Tryz.prog 25 #[.agg #[.slice pa pl pc, .slice va vl vc], .agg #[.slice qa2 pl qc2, .slice va2 us.length vc2]] W fun e w' => e = .returned (.bool (decide (us = vs))) ∧ Below W.heap.size W w') := fun W qa2 qc2 va2 vc2 hb hq hu => by
          have h := sameFitG_any pa px pc va vs vc qa2 px qc2 va2 us vc2 W (by rw [HPL.out]; exact hl) (by rw [HPL.out]; exact hl) (by rw [HVL.out]; exact hlv) HUL.out (HPX.out.below hb) hq (HRV.out.below hb) hu.rr
          rw [HPL.out, HVL.out] at h
          refine h.mono ?_
          rintro e w' ⟨q1, q2⟩
          refine ⟨?_, q2⟩
          rw [q1]
          congr 2
          simp [eq_comm]
        obtain ⟨bb, hbb⟩ : ∃ bb, decide (us = vs) = bb := ⟨_, rfl⟩
        rw [hbb] at HE HSF
        rw [HE.out]
        clear hbb
        go_enter Tryz.func14, Tryz.ntmps14
        go_wp2_with (first
          | (go_at_call 40; refine HRE.out.mono ?_; rintro e w1 ⟨rfl, rfl⟩)
          | (go_at_call 32; refine HNA.out.mono ?_; rintro e w2 ⟨rfl, hb2⟩; obtain ⟨u0, u1, _, _⟩ := HVW.out w2 hb2; have HBV2 := Lib.hid hb2; have HB2 : Hid (Below w.heap.size w w2) := HBV.out.trans (hb2.mono HBV.out.size); clear hb2)
          | (go_at_call 33; refine (HFI.out _ HB2.out).mono ?_; intro e w3 h; obtain ⟨hb3, qa, qc, va2, vc2, rfl, hsl, hrl, _⟩ := rfit_some h; rw [HPL.out]
             obtain ⟨wb, hwb⟩ : ∃ wb, w3.alloc (.cells #[.slice qa pl qc, .slice va2 us.length vc2] 27) = wb := ⟨_, rfl⟩
             have hbb : Below w3.heap.size w3 wb := by rw [← hwb]; exact (Below.refl _ _).alloc (Nat.le_refl _) _
             obtain ⟨x0, x1, _, _⟩ := box2 hwb wb (Below.refl _ _)
             have hbw : Below w2.heap.size w2 wb := hb3.trans (hbb.mono hb3.size)
             have hbV : Below V.heap.size V wb := HBV2.out.trans (hbw.mono HBV2.out.size)
             obtain ⟨v0, v1, _, _⟩ := HVW.out wb hbV
             have HSU : Hid (Sl wb qa px) := hsl.below hbb
             have HRU : Hid (Rl wb va2 us) := hrl.below hbb
             have HB3 : Hid (Below w.heap.size w wb) := HBV.out.trans (hbV.mono HBV.out.size); clear hb3 h hsl hrl hbb hbw hbV)
          | (go_at_call 25; refine (HSF.out _ _ _ _ _ HB3.out HSU.out HRU.out).mono ?_; rintro e w4 ⟨rfl, hb4⟩; have HB4 : Hid (Below w.heap.size w w4) := HB3.out.trans (hb4.mono HB3.out.size); clear hb4))
        go_ret
        exact ⟨rfl, HB4.out⟩
    · have HE : Hid (isFitB m y px vs = false) := isFitB_none (fitO_of (by unfold ofE; rw [if_pos h0, he1]; exact h1))
      rw [HE.out]
      have y1 : (e1 == 0) = false := by simpa using h1
      have y2 : (e1 != 0) = true := by simpa using h1
      clear hm hl hly hs hp hy hz h0 hv hbv he1 h1 hlv
      go_enter Tryz.func14, Tryz.ntmps14
      go_wp2_with (first
        | (go_at_call 40; refine HRE.out.mono ?_; rintro e w1 ⟨rfl, rfl⟩)
        | (go_at_call 32; refine HNA.out.mono ?_; rintro e w2 ⟨rfl, hb2⟩; have HB2 : Hid (Below w.heap.size w w2) := HBV.out.trans (hb2.mono HBV.out.size); clear hb2))
      go_ret
      exact ⟨rfl, HB2.out⟩
end Go.Proofs.YtfnomiingelfaaaGreat
/- askUpTo: a contract. -/
namespace Go.Proofs.YtfnomiingelfaaaGreat
open Go.RowKit Go.Shelf

theorem up_not {k : Int} (h : 10 < k) : decide (k < 0) = false := by simp; omega
/-- The error of a question up to a size. -/
def upE (m : List (List Int)) (y : List Int) (k : Int) : Int := if readE m y = 0 then (if rangeB k 0 10 = true then 0 else 7) else readE m y
set_option maxRecDepth 100000 in
set_option maxHeartbeats 800000 in
theorem askUp_any (ma : Option Addr) (m : List (List Int)) (mc : Nat) (ya : Option Addr) (y : List Int) (yc : Nat) (k : Int) (w : World) (hm : MOk m) (hly : y.length ≤ 9223372036854775807) (hs : Ms w ma m) (hy : Sl w ya y) :
    Calls Tryz.prog 34 #[.slice ma m.length mc, .slice ya y.length yc, .int .i64 k] w fun e w' => e = .returned (.tuple #[if upE m y k = 0 then .agg #[.slice ma m.length mc, .slice ya y.length yc] else .agg #[.slice none 0 0, .slice none 0 0], .int .i64 (upE m y k)]) ∧ Below w.heap.size w w' := by
  obtain ⟨V, hV⟩ : ∃ V, w.alloc (.cells #[.slice none 0 0, .slice none 0 0] 54) = V := ⟨_, rfl⟩
  have hbv : Below w.heap.size w V := by rw [← hV]; exact (Below.refl _ _).alloc (Nat.le_refl _) _
  have HBV := Lib.hid hbv
  have HVW := Lib.hid (box2 hV)
  obtain ⟨e0, he0⟩ : ∃ e0, readE m y = e0 := ⟨_, rfl⟩
  by_cases h0 : e0 = 0
  · subst h0
    have HAS := Lib.hid (ask_ok ma m mc ya y yc V he0 hm hly (hs.below hbv) (hy.below hbv))
    obtain ⟨rb, hrb⟩ : ∃ rb, rangeB k 0 10 = rb := ⟨_, rfl⟩
    have HRB := Lib.hid hrb
    have HUE : Hid (upE m y k = if rb = true then 0 else 7) := by show _ = _; unfold upE; rw [if_pos he0, hrb]
    clear hm hs hy hbv he0 hrb
    cases rb with
    | true =>
      have HE : Hid (upE m y k = 0) := HUE.out
      have hk0 : 0 ≤ k ∧ k ≤ 10 := by have := HRB.out; simpa [rangeB] using this
      have y1 : ¬ k < 0 := by omega
      have y2 : ¬ 10 < k := by omega
      rw [HE.out]
      clear hk0
      go_enter Tryz.func34, Tryz.ntmps34
      go_wp2_with (go_at_call 58; refine HAS.out.mono ?_; rintro e w2 ⟨rfl, hb2⟩
                   obtain ⟨x2, hx2⟩ : ∃ x2, w2.alloc (.cells #[.slice ma m.length mc, .slice ya y.length yc] 54) = x2 := ⟨_, rfl⟩
                   have hbx : Below w2.heap.size w2 x2 := by rw [← hx2]; exact (Below.refl _ _).alloc (Nat.le_refl _) _
                   have hbV : Below V.heap.size V x2 := hb2.trans (hbx.mono hb2.size)
                   obtain ⟨u0, u1, u2, u3⟩ := HVW.out x2 hbV
                   obtain ⟨z0, z1, _, _⟩ := box2 hx2 x2 (Below.refl _ _)
                   have HBX : Hid (Below w.heap.size w x2) := HBV.out.trans (hbV.mono HBV.out.size); clear hb2 hbx hbV)
      refine bodyPost_ret (v := .tuple #[.agg #[.slice ma m.length mc, .slice ya y.length yc], .int .i64 0]) ?_ rfl ⟨rfl, (HBX.out.setCell (p := ⟨w.heap.size, 0, none⟩) (Nat.le_refl _) _).setCell (p := ⟨w.heap.size, 1, none⟩) (Nat.le_refl _) _⟩
      rw [results_cell_tmp rfl]; go_simp
    | false =>
      have HE : Hid (upE m y k = 7) := HUE.out
      have hk0 : k < 0 ∨ 10 < k := by
        have := HRB.out
        simp only [rangeB, Bool.and_eq_false_iff, decide_eq_false_iff_not] at this
        omega
      rw [HE.out]
      rcases hk0 with y1 | y1
      all_goals
        (try have y2 := up_not y1)
        go_enter Tryz.func34, Tryz.ntmps34
        go_wp2_with (go_at_call 58; refine HAS.out.mono ?_; rintro e w2 ⟨rfl, hb2⟩
                     obtain ⟨x2, hx2⟩ : ∃ x2, w2.alloc (.cells #[.slice ma m.length mc, .slice ya y.length yc] 54) = x2 := ⟨_, rfl⟩
                     have hbx : Below w2.heap.size w2 x2 := by rw [← hx2]; exact (Below.refl _ _).alloc (Nat.le_refl _) _
                     have hbV : Below V.heap.size V x2 := hb2.trans (hbx.mono hb2.size)
                     obtain ⟨u0, u1, u2, u3⟩ := HVW.out x2 hbV
                     have HBX : Hid (Below w.heap.size w x2) := HBV.out.trans (hbV.mono HBV.out.size); clear hb2 hbx hbV)
        all_goals
          refine bodyPost_ret (v := .tuple #[.agg #[.slice none 0 0, .slice none 0 0], .int .i64 7]) ?_ rfl ?_
          · rw [results_cell_tmp rfl]; go_simp
          · exact ⟨rfl, (HBX.out.setCell (p := ⟨w.heap.size, 0, none⟩) (Nat.le_refl _) _).setCell (p := ⟨w.heap.size, 1, none⟩) (Nat.le_refl _) _⟩
  · have HUE : Hid (upE m y k = e0) := by show _ = _; unfold upE; rw [he0, if_neg h0]
    have HAS := Lib.hid (ask_no ma m mc ya y yc V e0 he0 h0 hm hly (hs.below hbv) (hy.below hbv))
    have y1 : (e0 == 0) = false := by simpa using h0
    have y2 : (e0 != 0) = true := by simpa using h0
    rw [HUE.out, if_neg h0]
    clear hm hs hy hbv he0 h0
    go_enter Tryz.func34, Tryz.ntmps34
    go_wp2_with (go_at_call 58; refine HAS.out.mono ?_; rintro e w2 ⟨rfl, hb2⟩
                 have hbV : Below V.heap.size V (w2.alloc (.cells #[.slice none 0 0, .slice none 0 0] 54)) := hb2.alloc hb2.size _
                 obtain ⟨u0, u1, u2, u3⟩ := HVW.out _ hbV
                 have HBX : Hid (Below w.heap.size w (w2.alloc (.cells #[.slice none 0 0, .slice none 0 0] 54))) := HBV.out.trans (hbV.mono HBV.out.size); clear hb2 hbV)
    refine bodyPost_ret (v := .tuple #[.agg #[.slice none 0 0, .slice none 0 0], .int .i64 e0]) ?_ rfl ⟨rfl, (HBX.out.setCell (p := ⟨w.heap.size, 0, none⟩) (Nat.le_refl _) _).setCell (p := ⟨w.heap.size, 1, none⟩) (Nat.le_refl _) _⟩
    rw [results_cell_tmp rfl]; go_simp
end Go.Proofs.YtfnomiingelfaaaGreat
/- The fits of the reference are those of the program: more columns than the rank carry no fit. -/
namespace Go.Proofs.YtfnomiingelfaaaGreat
open Go.RowKit

theorem rankB_le {m : List (List Int)} (hv : validM m = true) {px y : List Int} (hpx : pxOk m px) (hy : y.length = m.length) (hb : allB 1000000 y = true) : (redB m px (oneB y)).piv.length ≤ rankM m := by
  apply Nat.le_of_not_lt
  intro hlt
  have h := redB_fin hv hpx hy hb
  have g := basis_fin hv
  unfold rankM at hlt
  obtain ⟨r, hr⟩ : ∃ r, redB m px (oneB y) = r := ⟨_, rfl⟩
  obtain ⟨s, hs⟩ : ∃ s, redN m (upTo (colsM m)) = s := ⟨_, rfl⟩
  rw [hr] at h hlt
  rw [hs] at g hlt
  obtain ⟨w, ⟨j, hj, hw⟩, hsol⟩ := more_unknowns s.piv.length r.piv.length (fun t u => gt (rowL s.rows t) (gt px (pivN r u)).toNat) hlt
  have hcol : ∀ u, u < r.piv.length → (gt px (pivN r u)).toNat < colsM m := fun u hu => by
    have hp := h.pivN_lt hu
    have := hpx _ (mem_gt.2 ⟨pivN r u, hp, rfl⟩)
    omega
  have k1 : ∀ i, i < m.length → sumTo (fun c => a0 m i c * pushW (fun u => (gt px (pivN r u)).toNat) w r.piv.length c) (colsM m) = 0 :=
    (g.ker' g.low _).2 fun t ht => by rw [sum_push _ _ _ _ _ hcol]; exact hsol t ht
  have k2 : ∀ i, i < m.length → sumTo (fun c => a0 (pixB px m (oneB y)) i c * pushW (pivN r) w r.piv.length c) px.length = 0 := fun i hi => by
    have := k1 i hi
    rw [sum_push _ _ _ _ _ hcol] at this
    rw [sum_push _ _ _ _ _ fun u hu => h.pivN_lt hu, ← this]
    refine sumTo_congr _ fun u hu => ?_
    show a0 (pixB px m (oneB y)) i (pivN r u) * w u = a0 m i (gt px (pivN r u)).toNat * w u
    rw [pixB_at hi, if_pos (h.pivN_lt hu)]
    rfl
  have k3 := (h.ker_cols (Nat.le_succ _) _).1 k2 j hj
  rw [sum_push _ _ _ _ _ fun u hu => h.pivN_lt hu] at k3
  have k4 : sumTo (fun u => gt (rowL r.rows j) (pivN r u) * w u) r.piv.length = r.dv * w j := by
    have e := sum_one (fun _ => r.dv) j (w j) r.piv.length
    rw [if_pos hj] at e
    rw [← e]
    refine sumTo_congr _ fun u hu => ?_
    show gt (rowL r.rows j) (pivN r u) * w u = r.dv * (if j = u then w j else 0)
    rw [h.self u j hu hj]
    by_cases e : j = u
    · subst e; rw [if_pos rfl, if_pos rfl]
    · rw [if_neg e, if_neg e]; omega
  rw [k4] at k3
  have := h.pos
  rcases Int.mul_eq_zero.1 k3 with e | e
  · omega
  · exact hw e
theorem fitO_big {wr : Int × Int → Bool} {m : List (List Int)} {y px : List Int} (hr : readE m y = 0) (hpx : pxOk m px) (h : rankM m < px.length) : fitO wr m y px = none := by
  obtain ⟨hv, hy, hb⟩ := readE_ok hr
  have h1 := rankB_le hv hpx hy hb
  unfold fitO
  rw [if_neg]
  unfold solveV
  rw [if_pos hr]
  split
  · split
    · rw [if_pos (by omega)]; decide
    · decide
  · assumption
theorem fitsTo_const {wr : Int × Int → Bool} {m : List (List Int)} {y : List Int} {K : Nat} (h : ∀ j, K ≤ j → ∀ px ∈ compl (colsM m) j 0, fitO wr m y px = none) : ∀ d, fitsTo wr m y (K + d) = fitsTo wr m y K
  | 0 => rfl
  | d + 1 => by
    rw [← Nat.add_assoc, fitsTo_succ, fitsTo_const h d]
    rw [List.filterMap_eq_nil_iff.2 fun px hp => by rw [h (K + d) (by omega) px hp]; rfl, List.append_nil]
theorem compl_over (n d : Nat) : compl n (n + 1 + d) 0 = [] := by
  rw [show n + 1 + d = (n + d) + 1 by omega]
  show (List.range (n - (n + d) - 0)).flatMap _ = []
  rw [show n - (n + d) - 0 = 0 by omega]
  rfl
theorem fitsR_eq {m : List (List Int)} {y : List Int} (hr : readE m y = 0) : fitsR m y (setsAll (colsM m)).length = allFits m y := by
  obtain ⟨hv, hy, hb⟩ := readE_ok hr
  have h6 := (basis_fin hv).pl
  have hr6 : rankM m ≤ 6 := by have := (validM_of hv).2.1; show (redN m (upTo (colsM m))).piv.length ≤ 6; omega
  have e1 : fitsR m y (setsAll (colsM m)).length = fitsTo zB m y (colsM m + 1) := by
    unfold fitsR
    rw [List.take_length]
    unfold setsAll setsTo fitsTo
    rw [List.filterMap_flatMap]
  have e2 : allFits m y = fitsTo zB m y (rankM m + 1) := by unfold allFits; rw [show min 10 (rankM m) = rankM m by omega]
  rw [e1, e2]
  have c1 := fitsTo_const (wr := zB) (m := m) (y := y) (K := rankM m + 1) (fun j hj px hp => by
    obtain ⟨l1, l2⟩ := compl_mem hp
    exact fitO_big hr (fun i hi => by have := l2 i hi; omega) (by omega)) (colsM m)
  have c2 := fitsTo_const (wr := zB) (m := m) (y := y) (K := colsM m + 1) (fun j hj px hp => by
    obtain ⟨d, rfl⟩ : ∃ d, j = colsM m + 1 + d := ⟨j - (colsM m + 1), by omega⟩
    rw [compl_over] at hp
    cases hp) (rankM m)
  rw [← c1, ← c2]
  congr 1
  omega
/-- A further fit among the smallest ones. -/
def stepF (l : List (List Int × List (Int × Int))) (p : List Int × List (Int × Int)) : List (List Int × List (Int × Int)) := match l with
  | [] => [p]
  | q :: t => (q :: t) ++ if p.1.length = q.1.length then [p] else []
theorem leastF_snoc (Z : List (List Int × List (Int × Int))) (p : List Int × List (Int × Int)) : leastF (Z ++ [p]) = stepF (leastF Z) p := by
  cases Z with
  | nil => simp [leastF, stepF]
  | cons a Z =>
    have e1 : leastF (a :: Z) = a :: Z.filter fun q => q.1.length == a.1.length := by simp [leastF]
    rw [e1]
    have e2 : leastF (a :: Z ++ [p]) = a :: (Z ++ [p]).filter fun q => q.1.length == a.1.length := by simp [leastF]
    rw [e2, List.filter_append]
    show _ = (a :: List.filter _ Z) ++ if p.1.length = a.1.length then [p] else []
    by_cases h : p.1.length = a.1.length
    · simp [h]
    · simp [h]
end Go.Proofs.YtfnomiingelfaaaGreat
/- sparsest of the reference of layer 4: a contract. -/
namespace Go.Proofs.YtfnomiingelfaaaGreat
open Go.RowKit Go.Shelf

theorem RowI.at {base : Nat} {v : Value} {xs : List FitV} {W : World} (h : RowI base v xs W) : ∃ a cap, v = .slice a xs.length cap ∧ ∀ k x, xs[k]? = some x → ∃ g, a = some ⟨g, 0, none⟩ ∧ W.cell? ⟨g, k * 2, none⟩ = some (.slice x.qa x.px.length x.qc) ∧ W.cell? ⟨g, k * 2 + 1, none⟩ = some (.slice x.va x.vs.length x.vc) ∧ FitR x W := by
  rcases h.own.form with ⟨e, rfl⟩ | ⟨g, cap', rfl⟩
  · exact ⟨none, 0, e, fun k x hk => by simp at hk⟩
  · refine ⟨_, cap', rfl, fun k x hk => ?_⟩
    obtain ⟨c1, c2⟩ := h.own.cell hk
    exact ⟨g, rfl, c1, c2, h.mem x (List.mem_of_getElem? hk)⟩
theorem rowI_empty {base : Nat} {v : Value} {W : World} (h : RowI base v [] W) : v = .slice none 0 0 := h.sh.elim id fun e => absurd rfl e
theorem fs_of {base : Nat} {a : Option Addr} {n c : Nat} {xs : List FitV} {W : World} (h : RowI base (.slice a n c) xs W) : Fs W a (xs.map keyF) := by
  obtain ⟨a', c', e, hf⟩ := h.own.fsR h.mem
  obtain ⟨rfl, _, _⟩ : a = a' ∧ n = xs.length ∧ c = c' := by simpa using e
  exact hf
theorem least_take {Z : List (List Int × List (Int × Int))} {k : Nat} {p : List Int × List (Int × Int)} (h : Z[k]? = some p) : leastF (Z.take (k + 1)) = stepF (leastF (Z.take k)) p := by
  obtain ⟨hk, rfl⟩ := List.getElem?_eq_some_iff.1 h
  rw [List.take_succ_eq_append_getElem hk, leastF_snoc]
end Go.Proofs.YtfnomiingelfaaaGreat
/- Fits of the reference of layer 4: a contract. -/
namespace Go.Proofs.YtfnomiingelfaaaGreat
open Go.RowKit Go.Shelf

theorem rwithin4_any (n lo hi : Int) (w : World) :
    Calls Tryz.prog 37 #[.int .i64 n, .int .i64 lo, .int .i64 hi] w fun e w' => e = .returned (.bool (rangeB n lo hi)) ∧ w = w' := by
  go_enter Tryz.func37, Tryz.ntmps37
  go_wp2
  all_goals go_ret
  all_goals exact ⟨ret_bool (by first | (simp [rangeB, *]; done) | (simp [rangeB]; omega)), rfl⟩
/-- The fits with at most k pixels. -/
def shortF (k : Int) (Z : List (List Int × List (Int × Int))) : List (List Int × List (Int × Int)) := Z.filter fun q => decide ((q.1.length : Int) ≤ k)
theorem shortF_snoc (k : Int) (Z : List (List Int × List (Int × Int))) (p : List Int × List (Int × Int)) : shortF k (Z ++ [p]) = shortF k Z ++ if (p.1.length : Int) ≤ k then [p] else [] := by
  unfold shortF
  rw [List.filter_append]
  by_cases h : (p.1.length : Int) ≤ k
  · simp [h]
  · simp [h]
def fitsKV (m : List (List Int)) (y : List Int) (k : Int) : List (List Int × List (Int × Int)) × Int := if readE m y = 0 then (if rangeB k 0 10 = true then (shortF k (allFits m y), 0) else ([], 7)) else ([], readE m y)
/-- What Fits of the reference answers. -/
def RowPost (r : List (List Int × List (Int × Int)) × Int) (w : World) (e : Ending) (w' : World) : Prop := Below w.heap.size w w' ∧ ∃ base v xs, e = .returned (.tuple #[v, .int .i64 r.2]) ∧ xs.map keyF = r.1 ∧ RowI base v xs w'
set_option maxRecDepth 1000000 in
set_option maxHeartbeats 3200000 in
theorem rfits_any (ma : Option Addr) (m : List (List Int)) (mc : Nat) (ya : Option Addr) (y : List Int) (yc : Nat) (kk : Int) (w : World) (hm : MOk m) (hly : y.length ≤ 1000) (hs : Ms w ma m) (hy : Sl w ya y) :
    Calls Tryz.prog 12 #[.slice ma m.length mc, .slice ya y.length yc, .int .i64 kk] w (RowPost (fitsKV m y kk) w) := by
  obtain ⟨rv, hrv⟩ : ∃ rv, readE m y = rv := ⟨_, rfl⟩
  have HRE : Hid (Calls Tryz.prog 31 #[.slice ma m.length mc, .slice ya y.length yc] w fun e w' => e = .returned (.int .i64 rv) ∧ w = w') := by rw [← hrv]; exact rread3_any ma m mc ya y yc w hm (by omega) hs hy
  by_cases hr0 : rv = 0
  · subst hr0
    have hv := (readE_ok hrv).1
    have HAL : Hid (Calls Tryz.prog 38 #[.slice ma m.length mc, .slice ya y.length yc] w fun e w' => Below w.heap.size w w' ∧ ∃ base v xs, e = .returned v ∧ xs.map keyF = allFits m y ∧ RowI base v xs w') := by
      have := rall_any ma m mc ya y yc w hm hv hly hs hy
      rw [fitsR_eq hrv] at this
      exact this
    obtain ⟨Z, hZ⟩ : ∃ Z, allFits m y = Z := ⟨_, rfl⟩
    obtain ⟨rb, hrb⟩ : ∃ rb, rangeB kk 0 10 = rb := ⟨_, rfl⟩
    have HWI : Hid (Calls Tryz.prog 37 #[.int .i64 kk, .int .i64 0, .int .i64 10] w fun e w' => e = .returned (.bool rb) ∧ w = w') := by rw [← hrb]; exact rwithin4_any kk 0 10 w
    have HSV : Hid (fitsKV m y kk = if rb = true then (shortF kk Z, 0) else ([], 7)) := by show _ = _; unfold fitsKV; rw [if_pos hrv, hZ, hrb]
    have HZL : Hid (Z.length ≤ 3300) := by
      rw [← hZ]
      have := allFits_len hv y zB (min 10 (rankM m) + 1) (by omega)
      show (fitsTo _ _ _ _).length ≤ _
      omega
    rw [hZ] at HAL
    clear hm hs hy hly hrv hv hZ hrb
    cases rb with
    | false =>
      have HR : Hid (fitsKV m y kk = ([], 7)) := HSV.out
      rw [HR.out]
      go_enter Tryz.func12, Tryz.ntmps12
      go_wp2_with (first
        | (go_at_call 31; refine HRE.out.mono ?_; rintro e w1 ⟨rfl, rfl⟩)
        | (go_at_call 37; refine HWI.out.mono ?_; rintro e w1 ⟨rfl, rfl⟩))
      go_ret2
      exact ⟨Below.refl _ _, w.heap.size, _, [], rfl, rfl, RowI.nil _ _⟩
    | true =>
      have HR : Hid (fitsKV m y kk = (shortF kk Z, 0)) := HSV.out
      rw [HR.out]
      go_enter Tryz.func12, Tryz.ntmps12
      go_wp2_with (first
        | (go_at_call 31; refine HRE.out.mono ?_; rintro e w1 ⟨rfl, rfl⟩)
        | (go_at_call 37; refine HWI.out.mono ?_; rintro e w1 ⟨rfl, rfl⟩)
        | (go_at_call 38; refine HAL.out.mono ?_; rintro e w2 ⟨hb1, base, v0, xs, rfl, hxs, hrow⟩; obtain ⟨xa, xc, rfl, hat⟩ := hrow.at; have HXA := Lib.hid hat; have HXS := Lib.hid hxs; have HB1 := Lib.hid hb1; clear hrow hat hxs hb1
           obtain ⟨L, hL⟩ : ∃ L, xs.length = L := ⟨_, rfl⟩; have HL := Lib.hid hL; have hL1 : L ≤ 3300 := (by have h1 := congrArg List.length HXS.out; rw [List.length_map, hL] at h1; have := HZL.out; omega); rw [hL]; clear hL))
      go_loopw [9, 11, 25] (fun v _ i wr => ∃ (k : Nat) (zs : List FitV), k ≤ L ∧ i = .int .i64 k ∧ zs.map keyF = shortF kk (Z.take k) ∧ zs.length ≤ k ∧ RowI w2.heap.size v zs wr ∧ Below w2.heap.size w2 wr) (fun _ _ i _ => L - (intOf i).toNat)
      case atStart => exact ⟨0, [], Nat.zero_le _, rfl, rfl, Nat.le_refl _, RowI.nil _ _, Below.refl _ _⟩
      case round =>
        obtain ⟨k, zs, hk, rfl, hzs, hzl, hO, hB⟩ := hrel
        have HZS := Lib.hid hzs; clear hzs
        have HO := Lib.hid hO; clear hO
        have HB := Lib.hid hB; clear hB
        by_cases hlt : k < L
        · obtain ⟨x, hx⟩ : ∃ x, xs[k]? = some x := ⟨xs[k]'(by rw [HL.out]; exact hlt), by simp [HL.out, hlt]⟩
          have HTK : Hid (shortF kk (Z.take (k + 1)) = shortF kk (Z.take k) ++ if (x.px.length : Int) ≤ kk then [keyF x] else []) := by
            have h : Z[k]? = some (keyF x) := by rw [← HXS.out, List.getElem?_map, hx]; rfl
            obtain ⟨hk, e⟩ := List.getElem?_eq_some_iff.1 h
            show _ = _
            rw [List.take_succ_eq_append_getElem hk, shortF_snoc, e]
          obtain ⟨b1, rfl, a1, a2, hfr⟩ := HXA.out k x hx
          have a1 : wr.cell? ⟨b1, k * 2, none⟩ = some (.slice x.qa x.px.length x.qc) := (HB.out.cell (p := ⟨b1, k * 2, none⟩) (cell_lt a1)).trans a1
          have a2 : wr.cell? ⟨b1, k * 2 + 1, none⟩ = some (.slice x.va x.vs.length x.vc) := (HB.out.cell (p := ⟨b1, k * 2 + 1, none⟩) (cell_lt a2)).trans a2
          obtain ⟨wb, hwb⟩ : ∃ wb, wr.alloc (.cells #[.slice x.qa x.px.length x.qc, .slice x.va x.vs.length x.vc] 27) = wb := ⟨_, rfl⟩
          have hbb : Below wr.heap.size wr wb := by rw [← hwb]; exact (Below.refl _ _).alloc (Nat.le_refl _) _
          have wb0 : wb.cell? ⟨wr.heap.size, 0, none⟩ = some (.slice x.qa x.px.length x.qc) := by rw [← hwb]; exact alloc_cell _ _ _ _ _ rfl
          have wb1 : wb.cell? ⟨wr.heap.size, 1, none⟩ = some (.slice x.va x.vs.length x.vc) := by rw [← hwb]; exact alloc_cell _ _ _ _ _ rfl
          have HWB : Hid (Below w2.heap.size w2 wb) := HB.out.trans (hbb.mono HB.out.size)
          have HFR : Hid (FitR x wb) := (hfr.below HB.out).below hbb
          have HRI := Lib.hid (HO.out.below hbb)
          have HXL : Hid (zs.length ≤ 100000) := by show _ ≤ _; omega
          have hk0 : (k : Int) < (L : Int) := by omega
          clear hx hfr hbb
          by_cases hq : (x.px.length : Int) ≤ kk
          · have HNX : Hid (shortF kk (Z.take (k + 1)) = (zs ++ [x]).map keyF) := by show _ = _; rw [HTK.out, if_pos hq, List.map_append, HZS.out]; rfl
            clear HTK
            go_wp2_with (at_builtin; go_must (refine wpList_pushF rfl (.tmp 34) (.tmp 36) rfl w2.heap.size _ zs x _ _ _ rfl rfl rfl HRI.out.own HXL.out HWB.out.size ?_); intro g gc w7 hp; have HP := Lib.hid (HRI.out.push HFR.out hp); have HB7 := Lib.hid (pushedF_below HRI.out.own HWB.out.size hp); clear hp)
            go_roundw
            case rel => exact ⟨k + 1, zs ++ [x], by omega, by go_num, HNX.out.symm, by rw [List.length_append]; simpa using hzl, HP.out, HWB.out.trans HB7.out⟩
            case measure => simp [intOf]; omega
          · have HNX : Hid (shortF kk (Z.take (k + 1)) = zs.map keyF) := by show _ = _; rw [HTK.out, if_neg hq, List.append_nil, HZS.out]
            clear HTK
            go_wp2
            go_roundw
            case rel => exact ⟨k + 1, zs, by omega, by go_num, HNX.out.symm, by omega, HRI.out, HWB.out⟩
            case measure => simp [intOf]; omega
        · obtain rfl : L = k := by omega
          have HZE : Hid (zs.map keyF = shortF kk Z) := by
            show _ = _
            have h1 := congrArg List.length HXS.out
            rw [List.length_map, HL.out] at h1
            rw [HZS.out, h1, List.take_length]
          have HBW : Hid (Below w.heap.size w wr) := HB1.out.trans (HB.out.mono HB1.out.size)
          obtain ⟨oa, oc, hv0, _⟩ := HO.out.at
          subst hv0
          go_wp2
          go_ret2
          exact ⟨HBW.out, _, _, zs, rfl, HZE.out, HO.out⟩
  · have HSV : Hid (fitsKV m y kk = ([], rv)) := by show _ = _; unfold fitsKV; rw [hrv, if_neg hr0]
    have y1 : (rv == 0) = false := by simpa using hr0
    have y2 : (rv != 0) = true := by simpa using hr0
    rw [HSV.out]
    clear hm hs hy hly hrv hr0
    go_enter Tryz.func12, Tryz.ntmps12
    go_wp2_with (go_at_call 31; refine HRE.out.mono ?_; rintro e w1 ⟨rfl, rfl⟩)
    go_ret2
    exact ⟨Below.refl _ _, w.heap.size, _, [], rfl, rfl, RowI.nil _ _⟩
end Go.Proofs.YtfnomiingelfaaaGreat
/- The values that are no whole numbers within a million: contracts of the closure and of ContainsFunc over it. -/
namespace Go.Proofs.YtfnomiingelfaaaGreat
open Go.RowKit Go.Shelf

def whB (p : Int × Int) : Bool := (p.1 == 0) || decide (1 < p.2) || decide (p.1 < -1000000) || decide (1000000 < p.1)
/-- The place of the first such fraction, or -1. -/
def ixP (wr : Int × Int → Bool) (vs : List (Int × Int)) : Int := if vs.any wr = true then (vs.findIdx wr : Int) else -1
theorem ixP_hit {wr : Int × Int → Bool} {vs : List (Int × Int)} {k : Nat} {p : Int × Int} (h : ∀ j, j < k → ∀ q, vs[j]? = some q → wr q = false) (hp : vs[k]? = some p) (h0 : wr p = true) : ixP wr vs = k := by
  obtain ⟨hk, e⟩ := List.getElem?_eq_some_iff.1 hp
  have ha : vs.any wr = true := List.any_eq_true.2 ⟨p, List.mem_of_getElem? hp, h0⟩
  unfold ixP
  rw [if_pos ha]
  congr 1
  rw [List.findIdx_eq hk]
  exact ⟨by rw [e]; exact h0, fun j hj => h j hj _ (List.getElem?_eq_getElem (by omega))⟩
theorem ixP_no {wr : Int × Int → Bool} {vs : List (Int × Int)} (h : ∀ j, j < vs.length → ∀ q, vs[j]? = some q → wr q = false) : ixP wr vs = -1 := by
  have ha : vs.any wr = false := by
    rw [List.any_eq_false]
    intro q hq
    obtain ⟨j, hj, e⟩ := List.getElem_of_mem hq
    have := h j hj q (by rw [List.getElem?_eq_getElem hj, e])
    simp [this]
  unfold ixP; rw [ha]; rfl
end Go.Proofs.YtfnomiingelfaaaGreat
