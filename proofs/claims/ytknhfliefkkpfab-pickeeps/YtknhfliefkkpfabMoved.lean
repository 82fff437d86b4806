
/- moved of layer 1: a contract. -/
import Derived.Test.YtknhfliefkkpfabMot
import Derived.Laws.ResultCell
import Derived.Deep.QuietTactic
import Derived.BigQuiet
namespace Go.Proofs.Ytknhfliefkkpfab
open Go.RowKit

theorem results_cell_one {fn : Func} {p : Tmp} {ty : TypeId} (h : fn.results = #[.cell p ty]) (tmps : Array Value) (P : Program) (w : World) :
    (results fn tmps).run P w = ((asAddr (tmps.getD p undef)).run P w).andThen fun a w₁ => ((loadVar ty a).run P w₁).andThen fun v w₂ => .ok v w₂ := by
  simp only [results, h]
  simp [Sem.run_bind, Result.andThen]
  split <;> first | rfl | (split <;> rfl) | (split <;> simp_all)
/-- The boxes of a picture that is moved and of its result. -/
structure MvBox (w : World) (v0 v1 v2 : Value) (V : World) : Prop where
  c0 : V.cell? ⟨w.heap.size, 0, none⟩ = some v0
  c1 : V.cell? ⟨w.heap.size, 1, none⟩ = some v1
  c2 : V.cell? ⟨w.heap.size, 2, none⟩ = some v2
  e0 : V.cell? ⟨w.heap.size + 1, 0, none⟩ = some (.int .i64 0)
  e1 : V.cell? ⟨w.heap.size + 1, 1, none⟩ = some (.int .i64 0)
  e2 : V.cell? ⟨w.heap.size + 1, 2, none⟩ = some (.slice none 0 0)
  f0 : V.frozen? ⟨w.heap.size + 1, 0, none⟩ = false
  f1 : V.frozen? ⟨w.heap.size + 1, 1, none⟩ = false
  f2 : V.frozen? ⟨w.heap.size + 1, 2, none⟩ = false
  sz : w.heap.size + 2 ≤ V.heap.size
theorem MvBox.mk0 (w : World) (v0 v1 v2 : Value) (t s : TypeId) : MvBox w v0 v1 v2 ((w.alloc (.cells #[v0, v1, v2] t)).alloc (.cells #[.int .i64 0, .int .i64 0, .slice none 0 0] s)) := by
  have h : (w.alloc (.cells #[v0, v1, v2] t)).heap.size = w.heap.size + 1 := World.size_alloc _ _
  refine ⟨(alloc_old _ _ _ _ (by omega)).trans (alloc_cell _ _ _ _ _ rfl), (alloc_old _ _ _ _ (by omega)).trans (alloc_cell _ _ _ _ _ rfl), (alloc_old _ _ _ _ (by omega)).trans (alloc_cell _ _ _ _ _ rfl), ?_, ?_, ?_, ?_, ?_, ?_, by rw [World.size_alloc, h]; omega⟩
  · rw [← h]; exact alloc_cell _ _ _ _ _ rfl
  · rw [← h]; exact alloc_cell _ _ _ _ _ rfl
  · rw [← h]; exact alloc_cell _ _ _ _ _ rfl
  · simp
  · simp
  · simp
theorem MvBox.next {w V V' : World} {v0 v1 v2 : Value} (h : MvBox w v0 v1 v2 V) {B : Nat} (hb : Below B V V') (hB : w.heap.size + 2 ≤ B) : MvBox w v0 v1 v2 V' :=
  have k : ∀ b o, b < w.heap.size + 2 → V'.cell? ⟨b, o, none⟩ = V.cell? ⟨b, o, none⟩ := fun b o hlt => hb.cell (p := ⟨b, o, none⟩) (by show b < B; omega)
  have f : ∀ b o, b < w.heap.size + 2 → V'.frozen? ⟨b, o, none⟩ = V.frozen? ⟨b, o, none⟩ := fun b o hlt => hb.frozen (p := ⟨b, o, none⟩) (by show b < B; omega)
  ⟨(k _ _ (by omega)).trans h.c0, (k _ _ (by omega)).trans h.c1, (k _ _ (by omega)).trans h.c2, (k _ _ (by omega)).trans h.e0, (k _ _ (by omega)).trans h.e1, (k _ _ (by omega)).trans h.e2, (f _ _ (by omega)).trans h.f0, (f _ _ (by omega)).trans h.f1, (f _ _ (by omega)).trans h.f2, Nat.le_trans h.sz hb.size⟩
/-- What moved returns: a picture whose pixels are the call's own. -/
def VPost (wd hg : Int) (ys : List Int) (w : World) (e : Ending) (w' : World) : Prop := Below w.heap.size w w' ∧ ∃ base a n cap, e = .returned (.agg #[.int .i64 wd, .int .i64 hg, .slice a n cap]) ∧ n = ys.length ∧ w.heap.size ≤ base ∧ OwnI w' base (.slice a n cap) ys

set_option maxRecDepth 100000 in
set_option maxHeartbeats 400000 in
theorem moved0_any (W H R B : Nat) (h1W : 1 ≤ W) (hW : W ≤ 16) (h1H : 1 ≤ H) (hH : H ≤ 16) (a : Option Addr) (xs : List Int) (ca : Nat) (hg : Int) (w : World) (hl : xs.length = W * H) (hs : Sl w a xs) (hc : Caps W H R B w) (hR : R < w.heap.size) (hBB : B < w.heap.size) :
    Calls Try.prog 52 #[.agg #[.int .i64 W, .int .i64 H, .slice a xs.length ca], .int .i64 (wideQ 0 W H : Nat), .int .i64 hg, .func (.func 81) #[] #[]] w (VPost (wideQ 0 W H : Nat) hg (movedL 0 W H xs) w) := by
  have HS := Lib.hid hs; clear hs
  have HC := Lib.hid hc; clear hc
  have HRB := Lib.hid (And.intro hR hBB); clear hR hBB
  obtain ⟨i0, hi, hz0, hz1, hz2⟩ := info_parts Try.infoInt
  have h256 : xs.length ≤ 256 := by
    rw [hl]; exact Nat.mul_le_mul hW hH
  have HL := Lib.hid hl; clear hl
  obtain ⟨wd, hwd⟩ : ∃ wd, wideQ 0 W H = wd := ⟨_, rfl⟩
  have hwd16 : wd ≤ 16 := by rw [← hwd]; unfold wideQ; split <;> omega
  rw [hwd]
  have HWD := Lib.hid hwd; clear hwd
  go_enter Try.func52, Try.ntmps52
  have M0 := Lib.hid (MvBox.mk0 w (.int .i64 W) (.int .i64 H) (.slice a xs.length ca) 24 24)
  have HB0 : Hid (Below w.heap.size w ((w.alloc (.cells #[.int .i64 W, .int .i64 H, .slice a xs.length ca] 24)).alloc (.cells #[.int .i64 0, .int .i64 0, .slice none 0 0] 24))) := ((Below.refl _ _).alloc (Nat.le_refl _) _).alloc (by simp) _
  go_wp2_with (with_reducible refine wpList_make_full _ rfl (.tmp 16) (.tmp 16) 22 rfl ((w.alloc (.cells #[.int .i64 W, .int .i64 H, .slice a xs.length ca] 24)).alloc (.cells #[.int .i64 0, .int .i64 0, .slice none 0 0] 24)).heap.size 3 i0 (.int .i64 0) 1 Try.underlying22 hi hz0 hz1 .i64 .i64 (xs.length : Int) (xs.length : Int) xs.length rfl rfl rfl rfl (by rw [hz2]; omega) (by unfold maxLen; omega) (Nat.le_refl _) ?_)
  rotate_left
  intro w4 hown hgrow
  have hsz0 : ((w.alloc (.cells #[.int .i64 W, .int .i64 H, .slice a xs.length ca] 24)).alloc (.cells #[.int .i64 0, .int .i64 0, .slice none 0 0] 24)).heap.size = w.heap.size + 1 + 1 := by rw [World.size_alloc, World.size_alloc]
  generalize (w.alloc (.cells #[.int .i64 W, .int .i64 H, .slice a xs.length ca] 24)).alloc (.cells #[.int .i64 0, .int .i64 0, .slice none 0 0] 24) = V0 at *
  obtain ⟨G, hG⟩ : ∃ G, w.heap.size + 1 + 1 = G := ⟨_, rfl⟩
  rw [hG] at hsz0 hown
  rw [hG]
  have HV0 := Lib.hid hsz0
  have HG : Hid (w.heap.size + 2 ≤ G) := by show _ ≤ _; omega
  clear hG
  have HO4 : Hid (OwnI w4 G (.slice (some ⟨G, 0, none⟩) xs.length xs.length) (List.replicate xs.length 0)) := by
    have z := zeros_are xs.length
    rw [Nat.mul_one] at z
    show w4.ownsRow _ _ _ _ _ _
    rw [List.length_replicate, ← z]; exact hown
  have HB4 : Hid (Below G V0 w4) := (Below.refl _ _).grown hgrow (Nat.le_of_eq hsz0.symm) (fun k e => by cases e)
  clear hown hgrow hsz0
  obtain ⟨c0, c1, c2, e0, e1, e2, f0, f1, f2, sz⟩ := (M0.out.next HB4.out HG.out)
  go_wp2
  clear c0 c1 c2 e0 e1 e2 f0 f1 f2 sz
  go_loopw [21] (fun i wr => ∃ (k : Nat) (zs : List Int), k ≤ xs.length ∧ i = .int .i64 k ∧ OwnI wr G (.slice (some ⟨G, 0, none⟩) xs.length xs.length) zs ∧ MovK 0 W H xs k zs ∧ Below G V0 wr) (fun i _ => xs.length - (intOf i).toNat)
  case atStart => exact ⟨0, _, Nat.zero_le _, rfl, HO4.out, ⟨by simp [HL.out], fun j h => absurd h (by omega)⟩, HB4.out⟩
  case round =>
    obtain ⟨k, zs, hk, rfl, hO, hM, hB⟩ := hrel
    have HO := Lib.hid hO; clear hO
    have HM := Lib.hid hM; clear hM
    have HB := Lib.hid hB; clear hB
    have HBw : Hid (Below w.heap.size w wr) := Below.trans HB0.out (HB.out.mono (Nat.le_trans (Nat.le_add_right _ 2) HG.out))
    by_cases hlt : k < xs.length
    · obtain ⟨c0, c1, c2, e0, e1, e2, f0, f1, f2, sz⟩ := (M0.out.next HB.out HG.out)
      clear e0 e1 e2 f0 f1 f2 sz
      obtain ⟨b1, o1, v, rfl, hcx, HX⟩ := (HS.out.below HBw.out).at hlt
      have HCw := Lib.hid (HC.out.below HBw.out HRB.out.1 HRB.out.2)
      have hkWH : k < W * H := by rw [← HL.out]; exact hlt
      obtain ⟨hxW, hyH, hxy⟩ := place_of hkWH
      have HD : Hid (dstQ 0 W H k < xs.length) := by show _ < _; rw [HL.out]; exact dst_lt (by omega) hkWH
      have HDE : Hid (dstQ 0 W H k = motX 0 W H (k % W) (k / W) + wd * motY 0 W H (k % W) (k / W)) := by show _ = _; rw [← HWD.out]; rfl
      have HMN := Lib.hid (HM.out.next (q := 0) (by omega) hkWH (gt_some' HX.out).symm)
      have t1 : (k : Int).tmod (W : Int) = ((k % W : Nat) : Int) := by simp [Int.tmod_eq_emod_of_nonneg]
      have t2 : (k : Int).tdiv (W : Int) = ((k / W : Nat) : Int) := by simp [Int.tdiv_eq_ediv_of_nonneg]
      have t3 : (k : Int) % (W : Int) = ((k % W : Nat) : Int) := by simp
      have t4 : (k : Int) / (W : Int) = ((k / W : Nat) : Int) := by simp
      obtain ⟨D, hD⟩ : ∃ D, dstQ 0 W H k = D := ⟨_, rfl⟩
      rw [hD] at HD HDE HMN
      clear hD
      obtain ⟨x, hx⟩ : ∃ x, k % W = x := ⟨_, rfl⟩
      obtain ⟨y, hy⟩ : ∃ y, k / W = y := ⟨_, rfl⟩
      rw [hx] at hxW HDE t1 t3
      rw [hy] at hyH HDE t2 t4
      clear hx hy hxy hkWH
      have y0 : ((W : Int) == 0) = false := by rw [beq_eq_false_iff_ne]; omega
      have y1 : ((W : Int) != 0) = true := by rw [bne_iff_ne]; omega
      have m1 : IntKind.i64.wrap (y : Int) = (y : Int) := IntWalk.i64_in _ (by omega)
      have m2 : IntKind.i64.wrap (x : Int) = (x : Int) := IntWalk.i64_in _ (by omega)
      go_wp2
      go_quiet ((go_at_call 81; exact Calls.quiet_of (mot0_any x y _)))
      clear m1 m2 t1 t2 t3 t4 y0 y1 c0 c1 c2 hcx
      have HDV : Hid (D = x + wd * (y)) := by show _ = _; rw [HDE.out]; simp [motX, motY]
      obtain ⟨X, hX⟩ : ∃ X, x = X := ⟨_, rfl⟩
      obtain ⟨Y, hY⟩ : ∃ Y, y = Y := ⟨_, rfl⟩
      skip
      rw [hX, hY] at HDV
      rw [hX, hY]
      have hX16 : X ≤ 16 := by omega
      have hY16 : Y ≤ 16 := by omega
      obtain ⟨P, hP⟩ : ∃ P, wd * Y = P := ⟨_, rfl⟩
      have hP256 : P ≤ 256 := by rw [← hP]; exact Nat.mul_le_mul hwd16 hY16
      have hPI : (wd : Int) * (Y : Int) = (P : Int) := by rw [← hP]; simp
      have hDX : (X : Int) + (P : Int) = (D : Int) := by have := HDV.out; rw [hP] at this; omega
      have hDL : D < xs.length := HD.out
      clear hX hY hP
      have HBd : Hid (Below G V0 (wr.drewN nq)) := below_drewN HB.out _
      have HOd : Hid (OwnI (wr.drewN nq) G (.slice (some ⟨G, 0, none⟩) xs.length xs.length) zs) := HO.out.drewN nq
      generalize wr.drewN nq = wq at *
      obtain ⟨hcz, hfz⟩ := HOd.out.cell (j := D) (by rw [HM.out.len, ← HL.out]; exact hDL)
      have hgV := HOd.out.lt
      go_wp2
      go_roundw
      case rel => exact ⟨k + 1, zs.set D v, by omega, by go_num, HOd.out.stored D _, HMN.out, HBd.out.setCell (Nat.le_refl _) _⟩
      case measure => simp [intOf]; omega
    · obtain rfl : k = xs.length := by omega
      have HZ : Hid (zs = movedL 0 W H xs) := by
        have := HM.out
        rw [HL.out] at this
        exact this.all (by omega)
      obtain ⟨c0, c1, c2, e0, e1, e2, f0, f1, f2, sz⟩ := (M0.out.next HB.out HG.out)
      have HSZ := Lib.hid HG.out
      go_wp2
      have hsl := HO.out.sl
      refine bodyPost_ret (v := .agg #[.int .i64 wd, .int .i64 hg, .slice (some ⟨G, 0, none⟩) xs.length xs.length]) ?_ rfl ?_
      · (rw [results_cell_one rfl]; go_simp)
      · have hlen : (movedL 0 W H xs).length = xs.length := by rw [← HZ.out, HM.out.len, HL.out]
        refine ⟨set3 HBw.out (Nat.le_add_right _ 1) _ _ _, G, _, _, _, rfl, hlen.symm, Nat.le_trans (Nat.le_add_right _ 2) HSZ.out, ?_⟩
        rw [← HZ.out]
        exact HO.out.sameBlock (set3_heap _ (by have := HSZ.out; omega) _ _ _)
set_option maxRecDepth 100000 in
set_option maxHeartbeats 400000 in
theorem moved1_any (W H R B : Nat) (h1W : 1 ≤ W) (hW : W ≤ 16) (h1H : 1 ≤ H) (hH : H ≤ 16) (a : Option Addr) (xs : List Int) (ca : Nat) (hg : Int) (w : World) (hl : xs.length = W * H) (hs : Sl w a xs) (hc : Caps W H R B w) (hR : R < w.heap.size) (hBB : B < w.heap.size) :
    Calls Try.prog 52 #[.agg #[.int .i64 W, .int .i64 H, .slice a xs.length ca], .int .i64 (wideQ 1 W H : Nat), .int .i64 hg, .func (.func 82) #[] #[.pointer (some ⟨B, 0, none⟩)]] w (VPost (wideQ 1 W H : Nat) hg (movedL 1 W H xs) w) := by
  have HS := Lib.hid hs; clear hs
  have HC := Lib.hid hc; clear hc
  have HRB := Lib.hid (And.intro hR hBB); clear hR hBB
  obtain ⟨i0, hi, hz0, hz1, hz2⟩ := info_parts Try.infoInt
  have h256 : xs.length ≤ 256 := by
    rw [hl]; exact Nat.mul_le_mul hW hH
  have HL := Lib.hid hl; clear hl
  obtain ⟨wd, hwd⟩ : ∃ wd, wideQ 1 W H = wd := ⟨_, rfl⟩
  have hwd16 : wd ≤ 16 := by rw [← hwd]; unfold wideQ; split <;> omega
  rw [hwd]
  have HWD := Lib.hid hwd; clear hwd
  go_enter Try.func52, Try.ntmps52
  have M0 := Lib.hid (MvBox.mk0 w (.int .i64 W) (.int .i64 H) (.slice a xs.length ca) 24 24)
  have HB0 : Hid (Below w.heap.size w ((w.alloc (.cells #[.int .i64 W, .int .i64 H, .slice a xs.length ca] 24)).alloc (.cells #[.int .i64 0, .int .i64 0, .slice none 0 0] 24))) := ((Below.refl _ _).alloc (Nat.le_refl _) _).alloc (by simp) _
  go_wp2_with (with_reducible refine wpList_make_full _ rfl (.tmp 16) (.tmp 16) 22 rfl ((w.alloc (.cells #[.int .i64 W, .int .i64 H, .slice a xs.length ca] 24)).alloc (.cells #[.int .i64 0, .int .i64 0, .slice none 0 0] 24)).heap.size 3 i0 (.int .i64 0) 1 Try.underlying22 hi hz0 hz1 .i64 .i64 (xs.length : Int) (xs.length : Int) xs.length rfl rfl rfl rfl (by rw [hz2]; omega) (by unfold maxLen; omega) (Nat.le_refl _) ?_)
  rotate_left
  intro w4 hown hgrow
  have hsz0 : ((w.alloc (.cells #[.int .i64 W, .int .i64 H, .slice a xs.length ca] 24)).alloc (.cells #[.int .i64 0, .int .i64 0, .slice none 0 0] 24)).heap.size = w.heap.size + 1 + 1 := by rw [World.size_alloc, World.size_alloc]
  generalize (w.alloc (.cells #[.int .i64 W, .int .i64 H, .slice a xs.length ca] 24)).alloc (.cells #[.int .i64 0, .int .i64 0, .slice none 0 0] 24) = V0 at *
  obtain ⟨G, hG⟩ : ∃ G, w.heap.size + 1 + 1 = G := ⟨_, rfl⟩
  rw [hG] at hsz0 hown
  rw [hG]
  have HV0 := Lib.hid hsz0
  have HG : Hid (w.heap.size + 2 ≤ G) := by show _ ≤ _; omega
  clear hG
  have HO4 : Hid (OwnI w4 G (.slice (some ⟨G, 0, none⟩) xs.length xs.length) (List.replicate xs.length 0)) := by
    have z := zeros_are xs.length
    rw [Nat.mul_one] at z
    show w4.ownsRow _ _ _ _ _ _
    rw [List.length_replicate, ← z]; exact hown
  have HB4 : Hid (Below G V0 w4) := (Below.refl _ _).grown hgrow (Nat.le_of_eq hsz0.symm) (fun k e => by cases e)
  clear hown hgrow hsz0
  obtain ⟨c0, c1, c2, e0, e1, e2, f0, f1, f2, sz⟩ := (M0.out.next HB4.out HG.out)
  go_wp2
  clear c0 c1 c2 e0 e1 e2 f0 f1 f2 sz
  go_loopw [21] (fun i wr => ∃ (k : Nat) (zs : List Int), k ≤ xs.length ∧ i = .int .i64 k ∧ OwnI wr G (.slice (some ⟨G, 0, none⟩) xs.length xs.length) zs ∧ MovK 1 W H xs k zs ∧ Below G V0 wr) (fun i _ => xs.length - (intOf i).toNat)
  case atStart => exact ⟨0, _, Nat.zero_le _, rfl, HO4.out, ⟨by simp [HL.out], fun j h => absurd h (by omega)⟩, HB4.out⟩
  case round =>
    obtain ⟨k, zs, hk, rfl, hO, hM, hB⟩ := hrel
    have HO := Lib.hid hO; clear hO
    have HM := Lib.hid hM; clear hM
    have HB := Lib.hid hB; clear hB
    have HBw : Hid (Below w.heap.size w wr) := Below.trans HB0.out (HB.out.mono (Nat.le_trans (Nat.le_add_right _ 2) HG.out))
    by_cases hlt : k < xs.length
    · obtain ⟨c0, c1, c2, e0, e1, e2, f0, f1, f2, sz⟩ := (M0.out.next HB.out HG.out)
      clear e0 e1 e2 f0 f1 f2 sz
      obtain ⟨b1, o1, v, rfl, hcx, HX⟩ := (HS.out.below HBw.out).at hlt
      have HCw := Lib.hid (HC.out.below HBw.out HRB.out.1 HRB.out.2)
      have hkWH : k < W * H := by rw [← HL.out]; exact hlt
      obtain ⟨hxW, hyH, hxy⟩ := place_of hkWH
      have HD : Hid (dstQ 1 W H k < xs.length) := by show _ < _; rw [HL.out]; exact dst_lt (by omega) hkWH
      have HDE : Hid (dstQ 1 W H k = motX 1 W H (k % W) (k / W) + wd * motY 1 W H (k % W) (k / W)) := by show _ = _; rw [← HWD.out]; rfl
      have HMN := Lib.hid (HM.out.next (q := 1) (by omega) hkWH (gt_some' HX.out).symm)
      have t1 : (k : Int).tmod (W : Int) = ((k % W : Nat) : Int) := by simp [Int.tmod_eq_emod_of_nonneg]
      have t2 : (k : Int).tdiv (W : Int) = ((k / W : Nat) : Int) := by simp [Int.tdiv_eq_ediv_of_nonneg]
      have t3 : (k : Int) % (W : Int) = ((k % W : Nat) : Int) := by simp
      have t4 : (k : Int) / (W : Int) = ((k / W : Nat) : Int) := by simp
      obtain ⟨D, hD⟩ : ∃ D, dstQ 1 W H k = D := ⟨_, rfl⟩
      rw [hD] at HD HDE HMN
      clear hD
      obtain ⟨x, hx⟩ : ∃ x, k % W = x := ⟨_, rfl⟩
      obtain ⟨y, hy⟩ : ∃ y, k / W = y := ⟨_, rfl⟩
      rw [hx] at hxW HDE t1 t3
      rw [hy] at hyH HDE t2 t4
      clear hx hy hxy hkWH
      have y0 : ((W : Int) == 0) = false := by rw [beq_eq_false_iff_ne]; omega
      have y1 : ((W : Int) != 0) = true := by rw [bne_iff_ne]; omega
      have m1 : IntKind.i64.wrap (y : Int) = (y : Int) := IntWalk.i64_in _ (by omega)
      have m2 : IntKind.i64.wrap (x : Int) = (x : Int) := IntWalk.i64_in _ (by omega)
      go_wp2
      go_quiet ((go_at_call 82; exact Calls.quiet_of (mot1_any W H R B x y hxW hyH hW hH _ (HCw.out.drewN _))))
      clear m1 m2 t1 t2 t3 t4 y0 y1 c0 c1 c2 hcx
      have HDV : Hid (D = H - 1 - y + wd * (x)) := by show _ = _; rw [HDE.out]; simp [motX, motY]
      obtain ⟨X, hX⟩ : ∃ X, H - 1 - y = X := ⟨_, rfl⟩
      obtain ⟨Y, hY⟩ : ∃ Y, x = Y := ⟨_, rfl⟩
      skip
      rw [hX, hY] at HDV
      rw [hX, hY]
      have hX16 : X ≤ 16 := by omega
      have hY16 : Y ≤ 16 := by omega
      obtain ⟨P, hP⟩ : ∃ P, wd * Y = P := ⟨_, rfl⟩
      have hP256 : P ≤ 256 := by rw [← hP]; exact Nat.mul_le_mul hwd16 hY16
      have hPI : (wd : Int) * (Y : Int) = (P : Int) := by rw [← hP]; simp
      have hDX : (X : Int) + (P : Int) = (D : Int) := by have := HDV.out; rw [hP] at this; omega
      have hDL : D < xs.length := HD.out
      clear hX hY hP
      have HBd : Hid (Below G V0 (wr.drewN nq)) := below_drewN HB.out _
      have HOd : Hid (OwnI (wr.drewN nq) G (.slice (some ⟨G, 0, none⟩) xs.length xs.length) zs) := HO.out.drewN nq
      generalize wr.drewN nq = wq at *
      obtain ⟨hcz, hfz⟩ := HOd.out.cell (j := D) (by rw [HM.out.len, ← HL.out]; exact hDL)
      have hgV := HOd.out.lt
      go_wp2
      go_roundw
      case rel => exact ⟨k + 1, zs.set D v, by omega, by go_num, HOd.out.stored D _, HMN.out, HBd.out.setCell (Nat.le_refl _) _⟩
      case measure => simp [intOf]; omega
    · obtain rfl : k = xs.length := by omega
      have HZ : Hid (zs = movedL 1 W H xs) := by
        have := HM.out
        rw [HL.out] at this
        exact this.all (by omega)
      obtain ⟨c0, c1, c2, e0, e1, e2, f0, f1, f2, sz⟩ := (M0.out.next HB.out HG.out)
      have HSZ := Lib.hid HG.out
      go_wp2
      have hsl := HO.out.sl
      refine bodyPost_ret (v := .agg #[.int .i64 wd, .int .i64 hg, .slice (some ⟨G, 0, none⟩) xs.length xs.length]) ?_ rfl ?_
      · (rw [results_cell_one rfl]; go_simp)
      · have hlen : (movedL 1 W H xs).length = xs.length := by rw [← HZ.out, HM.out.len, HL.out]
        refine ⟨set3 HBw.out (Nat.le_add_right _ 1) _ _ _, G, _, _, _, rfl, hlen.symm, Nat.le_trans (Nat.le_add_right _ 2) HSZ.out, ?_⟩
        rw [← HZ.out]
        exact HO.out.sameBlock (set3_heap _ (by have := HSZ.out; omega) _ _ _)
set_option maxRecDepth 100000 in
set_option maxHeartbeats 400000 in
theorem moved2_any (W H R B : Nat) (h1W : 1 ≤ W) (hW : W ≤ 16) (h1H : 1 ≤ H) (hH : H ≤ 16) (a : Option Addr) (xs : List Int) (ca : Nat) (hg : Int) (w : World) (hl : xs.length = W * H) (hs : Sl w a xs) (hc : Caps W H R B w) (hR : R < w.heap.size) (hBB : B < w.heap.size) :
    Calls Try.prog 52 #[.agg #[.int .i64 W, .int .i64 H, .slice a xs.length ca], .int .i64 (wideQ 2 W H : Nat), .int .i64 hg, .func (.func 83) #[] #[.pointer (some ⟨R, 0, none⟩), .pointer (some ⟨B, 0, none⟩)]] w (VPost (wideQ 2 W H : Nat) hg (movedL 2 W H xs) w) := by
  have HS := Lib.hid hs; clear hs
  have HC := Lib.hid hc; clear hc
  have HRB := Lib.hid (And.intro hR hBB); clear hR hBB
  obtain ⟨i0, hi, hz0, hz1, hz2⟩ := info_parts Try.infoInt
  have h256 : xs.length ≤ 256 := by
    rw [hl]; exact Nat.mul_le_mul hW hH
  have HL := Lib.hid hl; clear hl
  obtain ⟨wd, hwd⟩ : ∃ wd, wideQ 2 W H = wd := ⟨_, rfl⟩
  have hwd16 : wd ≤ 16 := by rw [← hwd]; unfold wideQ; split <;> omega
  rw [hwd]
  have HWD := Lib.hid hwd; clear hwd
  go_enter Try.func52, Try.ntmps52
  have M0 := Lib.hid (MvBox.mk0 w (.int .i64 W) (.int .i64 H) (.slice a xs.length ca) 24 24)
  have HB0 : Hid (Below w.heap.size w ((w.alloc (.cells #[.int .i64 W, .int .i64 H, .slice a xs.length ca] 24)).alloc (.cells #[.int .i64 0, .int .i64 0, .slice none 0 0] 24))) := ((Below.refl _ _).alloc (Nat.le_refl _) _).alloc (by simp) _
  go_wp2_with (with_reducible refine wpList_make_full _ rfl (.tmp 16) (.tmp 16) 22 rfl ((w.alloc (.cells #[.int .i64 W, .int .i64 H, .slice a xs.length ca] 24)).alloc (.cells #[.int .i64 0, .int .i64 0, .slice none 0 0] 24)).heap.size 3 i0 (.int .i64 0) 1 Try.underlying22 hi hz0 hz1 .i64 .i64 (xs.length : Int) (xs.length : Int) xs.length rfl rfl rfl rfl (by rw [hz2]; omega) (by unfold maxLen; omega) (Nat.le_refl _) ?_)
  rotate_left
  intro w4 hown hgrow
  have hsz0 : ((w.alloc (.cells #[.int .i64 W, .int .i64 H, .slice a xs.length ca] 24)).alloc (.cells #[.int .i64 0, .int .i64 0, .slice none 0 0] 24)).heap.size = w.heap.size + 1 + 1 := by rw [World.size_alloc, World.size_alloc]
  generalize (w.alloc (.cells #[.int .i64 W, .int .i64 H, .slice a xs.length ca] 24)).alloc (.cells #[.int .i64 0, .int .i64 0, .slice none 0 0] 24) = V0 at *
  obtain ⟨G, hG⟩ : ∃ G, w.heap.size + 1 + 1 = G := ⟨_, rfl⟩
  rw [hG] at hsz0 hown
  rw [hG]
  have HV0 := Lib.hid hsz0
  have HG : Hid (w.heap.size + 2 ≤ G) := by show _ ≤ _; omega
  clear hG
  have HO4 : Hid (OwnI w4 G (.slice (some ⟨G, 0, none⟩) xs.length xs.length) (List.replicate xs.length 0)) := by
    have z := zeros_are xs.length
    rw [Nat.mul_one] at z
    show w4.ownsRow _ _ _ _ _ _
    rw [List.length_replicate, ← z]; exact hown
  have HB4 : Hid (Below G V0 w4) := (Below.refl _ _).grown hgrow (Nat.le_of_eq hsz0.symm) (fun k e => by cases e)
  clear hown hgrow hsz0
  obtain ⟨c0, c1, c2, e0, e1, e2, f0, f1, f2, sz⟩ := (M0.out.next HB4.out HG.out)
  go_wp2
  clear c0 c1 c2 e0 e1 e2 f0 f1 f2 sz
  go_loopw [21] (fun i wr => ∃ (k : Nat) (zs : List Int), k ≤ xs.length ∧ i = .int .i64 k ∧ OwnI wr G (.slice (some ⟨G, 0, none⟩) xs.length xs.length) zs ∧ MovK 2 W H xs k zs ∧ Below G V0 wr) (fun i _ => xs.length - (intOf i).toNat)
  case atStart => exact ⟨0, _, Nat.zero_le _, rfl, HO4.out, ⟨by simp [HL.out], fun j h => absurd h (by omega)⟩, HB4.out⟩
  case round =>
    obtain ⟨k, zs, hk, rfl, hO, hM, hB⟩ := hrel
    have HO := Lib.hid hO; clear hO
    have HM := Lib.hid hM; clear hM
    have HB := Lib.hid hB; clear hB
    have HBw : Hid (Below w.heap.size w wr) := Below.trans HB0.out (HB.out.mono (Nat.le_trans (Nat.le_add_right _ 2) HG.out))
    by_cases hlt : k < xs.length
    · obtain ⟨c0, c1, c2, e0, e1, e2, f0, f1, f2, sz⟩ := (M0.out.next HB.out HG.out)
      clear e0 e1 e2 f0 f1 f2 sz
      obtain ⟨b1, o1, v, rfl, hcx, HX⟩ := (HS.out.below HBw.out).at hlt
      have HCw := Lib.hid (HC.out.below HBw.out HRB.out.1 HRB.out.2)
      have hkWH : k < W * H := by rw [← HL.out]; exact hlt
      obtain ⟨hxW, hyH, hxy⟩ := place_of hkWH
      have HD : Hid (dstQ 2 W H k < xs.length) := by show _ < _; rw [HL.out]; exact dst_lt (by omega) hkWH
      have HDE : Hid (dstQ 2 W H k = motX 2 W H (k % W) (k / W) + wd * motY 2 W H (k % W) (k / W)) := by show _ = _; rw [← HWD.out]; rfl
      have HMN := Lib.hid (HM.out.next (q := 2) (by omega) hkWH (gt_some' HX.out).symm)
      have t1 : (k : Int).tmod (W : Int) = ((k % W : Nat) : Int) := by simp [Int.tmod_eq_emod_of_nonneg]
      have t2 : (k : Int).tdiv (W : Int) = ((k / W : Nat) : Int) := by simp [Int.tdiv_eq_ediv_of_nonneg]
      have t3 : (k : Int) % (W : Int) = ((k % W : Nat) : Int) := by simp
      have t4 : (k : Int) / (W : Int) = ((k / W : Nat) : Int) := by simp
      obtain ⟨D, hD⟩ : ∃ D, dstQ 2 W H k = D := ⟨_, rfl⟩
      rw [hD] at HD HDE HMN
      clear hD
      obtain ⟨x, hx⟩ : ∃ x, k % W = x := ⟨_, rfl⟩
      obtain ⟨y, hy⟩ : ∃ y, k / W = y := ⟨_, rfl⟩
      rw [hx] at hxW HDE t1 t3
      rw [hy] at hyH HDE t2 t4
      clear hx hy hxy hkWH
      have y0 : ((W : Int) == 0) = false := by rw [beq_eq_false_iff_ne]; omega
      have y1 : ((W : Int) != 0) = true := by rw [bne_iff_ne]; omega
      have m1 : IntKind.i64.wrap (y : Int) = (y : Int) := IntWalk.i64_in _ (by omega)
      have m2 : IntKind.i64.wrap (x : Int) = (x : Int) := IntWalk.i64_in _ (by omega)
      go_wp2
      go_quiet ((go_at_call 83; exact Calls.quiet_of (mot2_any W H R B x y hxW hyH hW hH _ (HCw.out.drewN _))))
      clear m1 m2 t1 t2 t3 t4 y0 y1 c0 c1 c2 hcx
      have HDV : Hid (D = W - 1 - x + wd * (H - 1 - y)) := by show _ = _; rw [HDE.out]; simp [motX, motY]
      obtain ⟨X, hX⟩ : ∃ X, W - 1 - x = X := ⟨_, rfl⟩
      obtain ⟨Y, hY⟩ : ∃ Y, H - 1 - y = Y := ⟨_, rfl⟩
      skip
      rw [hX, hY] at HDV
      rw [hX, hY]
      have hX16 : X ≤ 16 := by omega
      have hY16 : Y ≤ 16 := by omega
      obtain ⟨P, hP⟩ : ∃ P, wd * Y = P := ⟨_, rfl⟩
      have hP256 : P ≤ 256 := by rw [← hP]; exact Nat.mul_le_mul hwd16 hY16
      have hPI : (wd : Int) * (Y : Int) = (P : Int) := by rw [← hP]; simp
      have hDX : (X : Int) + (P : Int) = (D : Int) := by have := HDV.out; rw [hP] at this; omega
      have hDL : D < xs.length := HD.out
      clear hX hY hP
      have HBd : Hid (Below G V0 (wr.drewN nq)) := below_drewN HB.out _
      have HOd : Hid (OwnI (wr.drewN nq) G (.slice (some ⟨G, 0, none⟩) xs.length xs.length) zs) := HO.out.drewN nq
      generalize wr.drewN nq = wq at *
      obtain ⟨hcz, hfz⟩ := HOd.out.cell (j := D) (by rw [HM.out.len, ← HL.out]; exact hDL)
      have hgV := HOd.out.lt
      go_wp2
      go_roundw
      case rel => exact ⟨k + 1, zs.set D v, by omega, by go_num, HOd.out.stored D _, HMN.out, HBd.out.setCell (Nat.le_refl _) _⟩
      case measure => simp [intOf]; omega
    · obtain rfl : k = xs.length := by omega
      have HZ : Hid (zs = movedL 2 W H xs) := by
        have := HM.out
        rw [HL.out] at this
        exact this.all (by omega)
      obtain ⟨c0, c1, c2, e0, e1, e2, f0, f1, f2, sz⟩ := (M0.out.next HB.out HG.out)
      have HSZ := Lib.hid HG.out
      go_wp2
      have hsl := HO.out.sl
      refine bodyPost_ret (v := .agg #[.int .i64 wd, .int .i64 hg, .slice (some ⟨G, 0, none⟩) xs.length xs.length]) ?_ rfl ?_
      · (rw [results_cell_one rfl]; go_simp)
      · have hlen : (movedL 2 W H xs).length = xs.length := by rw [← HZ.out, HM.out.len, HL.out]
        refine ⟨set3 HBw.out (Nat.le_add_right _ 1) _ _ _, G, _, _, _, rfl, hlen.symm, Nat.le_trans (Nat.le_add_right _ 2) HSZ.out, ?_⟩
        rw [← HZ.out]
        exact HO.out.sameBlock (set3_heap _ (by have := HSZ.out; omega) _ _ _)
set_option maxRecDepth 100000 in
set_option maxHeartbeats 400000 in
theorem moved3_any (W H R B : Nat) (h1W : 1 ≤ W) (hW : W ≤ 16) (h1H : 1 ≤ H) (hH : H ≤ 16) (a : Option Addr) (xs : List Int) (ca : Nat) (hg : Int) (w : World) (hl : xs.length = W * H) (hs : Sl w a xs) (hc : Caps W H R B w) (hR : R < w.heap.size) (hBB : B < w.heap.size) :
    Calls Try.prog 52 #[.agg #[.int .i64 W, .int .i64 H, .slice a xs.length ca], .int .i64 (wideQ 3 W H : Nat), .int .i64 hg, .func (.func 84) #[] #[.pointer (some ⟨R, 0, none⟩)]] w (VPost (wideQ 3 W H : Nat) hg (movedL 3 W H xs) w) := by
  have HS := Lib.hid hs; clear hs
  have HC := Lib.hid hc; clear hc
  have HRB := Lib.hid (And.intro hR hBB); clear hR hBB
  obtain ⟨i0, hi, hz0, hz1, hz2⟩ := info_parts Try.infoInt
  have h256 : xs.length ≤ 256 := by
    rw [hl]; exact Nat.mul_le_mul hW hH
  have HL := Lib.hid hl; clear hl
  obtain ⟨wd, hwd⟩ : ∃ wd, wideQ 3 W H = wd := ⟨_, rfl⟩
  have hwd16 : wd ≤ 16 := by rw [← hwd]; unfold wideQ; split <;> omega
  rw [hwd]
  have HWD := Lib.hid hwd; clear hwd
  go_enter Try.func52, Try.ntmps52
  have M0 := Lib.hid (MvBox.mk0 w (.int .i64 W) (.int .i64 H) (.slice a xs.length ca) 24 24)
  have HB0 : Hid (Below w.heap.size w ((w.alloc (.cells #[.int .i64 W, .int .i64 H, .slice a xs.length ca] 24)).alloc (.cells #[.int .i64 0, .int .i64 0, .slice none 0 0] 24))) := ((Below.refl _ _).alloc (Nat.le_refl _) _).alloc (by simp) _
  go_wp2_with (with_reducible refine wpList_make_full _ rfl (.tmp 16) (.tmp 16) 22 rfl ((w.alloc (.cells #[.int .i64 W, .int .i64 H, .slice a xs.length ca] 24)).alloc (.cells #[.int .i64 0, .int .i64 0, .slice none 0 0] 24)).heap.size 3 i0 (.int .i64 0) 1 Try.underlying22 hi hz0 hz1 .i64 .i64 (xs.length : Int) (xs.length : Int) xs.length rfl rfl rfl rfl (by rw [hz2]; omega) (by unfold maxLen; omega) (Nat.le_refl _) ?_)
  rotate_left
  intro w4 hown hgrow
  have hsz0 : ((w.alloc (.cells #[.int .i64 W, .int .i64 H, .slice a xs.length ca] 24)).alloc (.cells #[.int .i64 0, .int .i64 0, .slice none 0 0] 24)).heap.size = w.heap.size + 1 + 1 := by rw [World.size_alloc, World.size_alloc]
  generalize (w.alloc (.cells #[.int .i64 W, .int .i64 H, .slice a xs.length ca] 24)).alloc (.cells #[.int .i64 0, .int .i64 0, .slice none 0 0] 24) = V0 at *
  obtain ⟨G, hG⟩ : ∃ G, w.heap.size + 1 + 1 = G := ⟨_, rfl⟩
  rw [hG] at hsz0 hown
  rw [hG]
  have HV0 := Lib.hid hsz0
  have HG : Hid (w.heap.size + 2 ≤ G) := by show _ ≤ _; omega
  clear hG
  have HO4 : Hid (OwnI w4 G (.slice (some ⟨G, 0, none⟩) xs.length xs.length) (List.replicate xs.length 0)) := by
    have z := zeros_are xs.length
    rw [Nat.mul_one] at z
    show w4.ownsRow _ _ _ _ _ _
    rw [List.length_replicate, ← z]; exact hown
  have HB4 : Hid (Below G V0 w4) := (Below.refl _ _).grown hgrow (Nat.le_of_eq hsz0.symm) (fun k e => by cases e)
  clear hown hgrow hsz0
  obtain ⟨c0, c1, c2, e0, e1, e2, f0, f1, f2, sz⟩ := (M0.out.next HB4.out HG.out)
  go_wp2
  clear c0 c1 c2 e0 e1 e2 f0 f1 f2 sz
  go_loopw [21] (fun i wr => ∃ (k : Nat) (zs : List Int), k ≤ xs.length ∧ i = .int .i64 k ∧ OwnI wr G (.slice (some ⟨G, 0, none⟩) xs.length xs.length) zs ∧ MovK 3 W H xs k zs ∧ Below G V0 wr) (fun i _ => xs.length - (intOf i).toNat)
  case atStart => exact ⟨0, _, Nat.zero_le _, rfl, HO4.out, ⟨by simp [HL.out], fun j h => absurd h (by omega)⟩, HB4.out⟩
  case round =>
    obtain ⟨k, zs, hk, rfl, hO, hM, hB⟩ := hrel
    have HO := Lib.hid hO; clear hO
    have HM := Lib.hid hM; clear hM
    have HB := Lib.hid hB; clear hB
    have HBw : Hid (Below w.heap.size w wr) := Below.trans HB0.out (HB.out.mono (Nat.le_trans (Nat.le_add_right _ 2) HG.out))
    by_cases hlt : k < xs.length
    · obtain ⟨c0, c1, c2, e0, e1, e2, f0, f1, f2, sz⟩ := (M0.out.next HB.out HG.out)
      clear e0 e1 e2 f0 f1 f2 sz
      obtain ⟨b1, o1, v, rfl, hcx, HX⟩ := (HS.out.below HBw.out).at hlt
      have HCw := Lib.hid (HC.out.below HBw.out HRB.out.1 HRB.out.2)
      have hkWH : k < W * H := by rw [← HL.out]; exact hlt
      obtain ⟨hxW, hyH, hxy⟩ := place_of hkWH
      have HD : Hid (dstQ 3 W H k < xs.length) := by show _ < _; rw [HL.out]; exact dst_lt (by omega) hkWH
      have HDE : Hid (dstQ 3 W H k = motX 3 W H (k % W) (k / W) + wd * motY 3 W H (k % W) (k / W)) := by show _ = _; rw [← HWD.out]; rfl
      have HMN := Lib.hid (HM.out.next (q := 3) (by omega) hkWH (gt_some' HX.out).symm)
      have t1 : (k : Int).tmod (W : Int) = ((k % W : Nat) : Int) := by simp [Int.tmod_eq_emod_of_nonneg]
      have t2 : (k : Int).tdiv (W : Int) = ((k / W : Nat) : Int) := by simp [Int.tdiv_eq_ediv_of_nonneg]
      have t3 : (k : Int) % (W : Int) = ((k % W : Nat) : Int) := by simp
      have t4 : (k : Int) / (W : Int) = ((k / W : Nat) : Int) := by simp
      obtain ⟨D, hD⟩ : ∃ D, dstQ 3 W H k = D := ⟨_, rfl⟩
      rw [hD] at HD HDE HMN
      clear hD
      obtain ⟨x, hx⟩ : ∃ x, k % W = x := ⟨_, rfl⟩
      obtain ⟨y, hy⟩ : ∃ y, k / W = y := ⟨_, rfl⟩
      rw [hx] at hxW HDE t1 t3
      rw [hy] at hyH HDE t2 t4
      clear hx hy hxy hkWH
      have y0 : ((W : Int) == 0) = false := by rw [beq_eq_false_iff_ne]; omega
      have y1 : ((W : Int) != 0) = true := by rw [bne_iff_ne]; omega
      have m1 : IntKind.i64.wrap (y : Int) = (y : Int) := IntWalk.i64_in _ (by omega)
      have m2 : IntKind.i64.wrap (x : Int) = (x : Int) := IntWalk.i64_in _ (by omega)
      go_wp2
      go_quiet ((go_at_call 84; exact Calls.quiet_of (mot3_any W H R B x y hxW hyH hW hH _ (HCw.out.drewN _))))
      clear m1 m2 t1 t2 t3 t4 y0 y1 c0 c1 c2 hcx
      have HDV : Hid (D = y + wd * (W - 1 - x)) := by show _ = _; rw [HDE.out]; simp [motX, motY]
      obtain ⟨X, hX⟩ : ∃ X, y = X := ⟨_, rfl⟩
      obtain ⟨Y, hY⟩ : ∃ Y, W - 1 - x = Y := ⟨_, rfl⟩
      skip
      rw [hX, hY] at HDV
      rw [hX, hY]
      have hX16 : X ≤ 16 := by omega
      have hY16 : Y ≤ 16 := by omega
      obtain ⟨P, hP⟩ : ∃ P, wd * Y = P := ⟨_, rfl⟩
      have hP256 : P ≤ 256 := by rw [← hP]; exact Nat.mul_le_mul hwd16 hY16
      have hPI : (wd : Int) * (Y : Int) = (P : Int) := by rw [← hP]; simp
      have hDX : (X : Int) + (P : Int) = (D : Int) := by have := HDV.out; rw [hP] at this; omega
      have hDL : D < xs.length := HD.out
      clear hX hY hP
      have HBd : Hid (Below G V0 (wr.drewN nq)) := below_drewN HB.out _
      have HOd : Hid (OwnI (wr.drewN nq) G (.slice (some ⟨G, 0, none⟩) xs.length xs.length) zs) := HO.out.drewN nq
      generalize wr.drewN nq = wq at *
      obtain ⟨hcz, hfz⟩ := HOd.out.cell (j := D) (by rw [HM.out.len, ← HL.out]; exact hDL)
      have hgV := HOd.out.lt
      go_wp2
      go_roundw
      case rel => exact ⟨k + 1, zs.set D v, by omega, by go_num, HOd.out.stored D _, HMN.out, HBd.out.setCell (Nat.le_refl _) _⟩
      case measure => simp [intOf]; omega
    · obtain rfl : k = xs.length := by omega
      have HZ : Hid (zs = movedL 3 W H xs) := by
        have := HM.out
        rw [HL.out] at this
        exact this.all (by omega)
      obtain ⟨c0, c1, c2, e0, e1, e2, f0, f1, f2, sz⟩ := (M0.out.next HB.out HG.out)
      have HSZ := Lib.hid HG.out
      go_wp2
      have hsl := HO.out.sl
      refine bodyPost_ret (v := .agg #[.int .i64 wd, .int .i64 hg, .slice (some ⟨G, 0, none⟩) xs.length xs.length]) ?_ rfl ?_
      · (rw [results_cell_one rfl]; go_simp)
      · have hlen : (movedL 3 W H xs).length = xs.length := by rw [← HZ.out, HM.out.len, HL.out]
        refine ⟨set3 HBw.out (Nat.le_add_right _ 1) _ _ _, G, _, _, _, rfl, hlen.symm, Nat.le_trans (Nat.le_add_right _ 2) HSZ.out, ?_⟩
        rw [← HZ.out]
        exact HO.out.sameBlock (set3_heap _ (by have := HSZ.out; omega) _ _ _)
set_option maxRecDepth 100000 in
set_option maxHeartbeats 400000 in
theorem moved4_any (W H R B : Nat) (h1W : 1 ≤ W) (hW : W ≤ 16) (h1H : 1 ≤ H) (hH : H ≤ 16) (a : Option Addr) (xs : List Int) (ca : Nat) (hg : Int) (w : World) (hl : xs.length = W * H) (hs : Sl w a xs) (hc : Caps W H R B w) (hR : R < w.heap.size) (hBB : B < w.heap.size) :
    Calls Try.prog 52 #[.agg #[.int .i64 W, .int .i64 H, .slice a xs.length ca], .int .i64 (wideQ 4 W H : Nat), .int .i64 hg, .func (.func 85) #[] #[.pointer (some ⟨R, 0, none⟩)]] w (VPost (wideQ 4 W H : Nat) hg (movedL 4 W H xs) w) := by
  have HS := Lib.hid hs; clear hs
  have HC := Lib.hid hc; clear hc
  have HRB := Lib.hid (And.intro hR hBB); clear hR hBB
  obtain ⟨i0, hi, hz0, hz1, hz2⟩ := info_parts Try.infoInt
  have h256 : xs.length ≤ 256 := by
    rw [hl]; exact Nat.mul_le_mul hW hH
  have HL := Lib.hid hl; clear hl
  obtain ⟨wd, hwd⟩ : ∃ wd, wideQ 4 W H = wd := ⟨_, rfl⟩
  have hwd16 : wd ≤ 16 := by rw [← hwd]; unfold wideQ; split <;> omega
  rw [hwd]
  have HWD := Lib.hid hwd; clear hwd
  go_enter Try.func52, Try.ntmps52
  have M0 := Lib.hid (MvBox.mk0 w (.int .i64 W) (.int .i64 H) (.slice a xs.length ca) 24 24)
  have HB0 : Hid (Below w.heap.size w ((w.alloc (.cells #[.int .i64 W, .int .i64 H, .slice a xs.length ca] 24)).alloc (.cells #[.int .i64 0, .int .i64 0, .slice none 0 0] 24))) := ((Below.refl _ _).alloc (Nat.le_refl _) _).alloc (by simp) _
  go_wp2_with (with_reducible refine wpList_make_full _ rfl (.tmp 16) (.tmp 16) 22 rfl ((w.alloc (.cells #[.int .i64 W, .int .i64 H, .slice a xs.length ca] 24)).alloc (.cells #[.int .i64 0, .int .i64 0, .slice none 0 0] 24)).heap.size 3 i0 (.int .i64 0) 1 Try.underlying22 hi hz0 hz1 .i64 .i64 (xs.length : Int) (xs.length : Int) xs.length rfl rfl rfl rfl (by rw [hz2]; omega) (by unfold maxLen; omega) (Nat.le_refl _) ?_)
  rotate_left
  intro w4 hown hgrow
  have hsz0 : ((w.alloc (.cells #[.int .i64 W, .int .i64 H, .slice a xs.length ca] 24)).alloc (.cells #[.int .i64 0, .int .i64 0, .slice none 0 0] 24)).heap.size = w.heap.size + 1 + 1 := by rw [World.size_alloc, World.size_alloc]
  generalize (w.alloc (.cells #[.int .i64 W, .int .i64 H, .slice a xs.length ca] 24)).alloc (.cells #[.int .i64 0, .int .i64 0, .slice none 0 0] 24) = V0 at *
  obtain ⟨G, hG⟩ : ∃ G, w.heap.size + 1 + 1 = G := ⟨_, rfl⟩
  rw [hG] at hsz0 hown
  rw [hG]
  have HV0 := Lib.hid hsz0
  have HG : Hid (w.heap.size + 2 ≤ G) := by show _ ≤ _; omega
  clear hG
  have HO4 : Hid (OwnI w4 G (.slice (some ⟨G, 0, none⟩) xs.length xs.length) (List.replicate xs.length 0)) := by
    have z := zeros_are xs.length
    rw [Nat.mul_one] at z
    show w4.ownsRow _ _ _ _ _ _
    rw [List.length_replicate, ← z]; exact hown
  have HB4 : Hid (Below G V0 w4) := (Below.refl _ _).grown hgrow (Nat.le_of_eq hsz0.symm) (fun k e => by cases e)
  clear hown hgrow hsz0
  obtain ⟨c0, c1, c2, e0, e1, e2, f0, f1, f2, sz⟩ := (M0.out.next HB4.out HG.out)
  go_wp2
  clear c0 c1 c2 e0 e1 e2 f0 f1 f2 sz
  go_loopw [21] (fun i wr => ∃ (k : Nat) (zs : List Int), k ≤ xs.length ∧ i = .int .i64 k ∧ OwnI wr G (.slice (some ⟨G, 0, none⟩) xs.length xs.length) zs ∧ MovK 4 W H xs k zs ∧ Below G V0 wr) (fun i _ => xs.length - (intOf i).toNat)
  case atStart => exact ⟨0, _, Nat.zero_le _, rfl, HO4.out, ⟨by simp [HL.out], fun j h => absurd h (by omega)⟩, HB4.out⟩
  case round =>
    obtain ⟨k, zs, hk, rfl, hO, hM, hB⟩ := hrel
    have HO := Lib.hid hO; clear hO
    have HM := Lib.hid hM; clear hM
    have HB := Lib.hid hB; clear hB
    have HBw : Hid (Below w.heap.size w wr) := Below.trans HB0.out (HB.out.mono (Nat.le_trans (Nat.le_add_right _ 2) HG.out))
    by_cases hlt : k < xs.length
    · obtain ⟨c0, c1, c2, e0, e1, e2, f0, f1, f2, sz⟩ := (M0.out.next HB.out HG.out)
      clear e0 e1 e2 f0 f1 f2 sz
      obtain ⟨b1, o1, v, rfl, hcx, HX⟩ := (HS.out.below HBw.out).at hlt
      have HCw := Lib.hid (HC.out.below HBw.out HRB.out.1 HRB.out.2)
      have hkWH : k < W * H := by rw [← HL.out]; exact hlt
      obtain ⟨hxW, hyH, hxy⟩ := place_of hkWH
      have HD : Hid (dstQ 4 W H k < xs.length) := by show _ < _; rw [HL.out]; exact dst_lt (by omega) hkWH
      have HDE : Hid (dstQ 4 W H k = motX 4 W H (k % W) (k / W) + wd * motY 4 W H (k % W) (k / W)) := by show _ = _; rw [← HWD.out]; rfl
      have HMN := Lib.hid (HM.out.next (q := 4) (by omega) hkWH (gt_some' HX.out).symm)
      have t1 : (k : Int).tmod (W : Int) = ((k % W : Nat) : Int) := by simp [Int.tmod_eq_emod_of_nonneg]
      have t2 : (k : Int).tdiv (W : Int) = ((k / W : Nat) : Int) := by simp [Int.tdiv_eq_ediv_of_nonneg]
      have t3 : (k : Int) % (W : Int) = ((k % W : Nat) : Int) := by simp
      have t4 : (k : Int) / (W : Int) = ((k / W : Nat) : Int) := by simp
      obtain ⟨D, hD⟩ : ∃ D, dstQ 4 W H k = D := ⟨_, rfl⟩
      rw [hD] at HD HDE HMN
      clear hD
      obtain ⟨x, hx⟩ : ∃ x, k % W = x := ⟨_, rfl⟩
      obtain ⟨y, hy⟩ : ∃ y, k / W = y := ⟨_, rfl⟩
      rw [hx] at hxW HDE t1 t3
      rw [hy] at hyH HDE t2 t4
      clear hx hy hxy hkWH
      have y0 : ((W : Int) == 0) = false := by rw [beq_eq_false_iff_ne]; omega
      have y1 : ((W : Int) != 0) = true := by rw [bne_iff_ne]; omega
      have m1 : IntKind.i64.wrap (y : Int) = (y : Int) := IntWalk.i64_in _ (by omega)
      have m2 : IntKind.i64.wrap (x : Int) = (x : Int) := IntWalk.i64_in _ (by omega)
      go_wp2
      go_quiet ((go_at_call 85; exact Calls.quiet_of (mot4_any W H R B x y hxW hyH hW hH _ (HCw.out.drewN _))))
      clear m1 m2 t1 t2 t3 t4 y0 y1 c0 c1 c2 hcx
      have HDV : Hid (D = W - 1 - x + wd * (y)) := by show _ = _; rw [HDE.out]; simp [motX, motY]
      obtain ⟨X, hX⟩ : ∃ X, W - 1 - x = X := ⟨_, rfl⟩
      obtain ⟨Y, hY⟩ : ∃ Y, y = Y := ⟨_, rfl⟩
      skip
      rw [hX, hY] at HDV
      rw [hX, hY]
      have hX16 : X ≤ 16 := by omega
      have hY16 : Y ≤ 16 := by omega
      obtain ⟨P, hP⟩ : ∃ P, wd * Y = P := ⟨_, rfl⟩
      have hP256 : P ≤ 256 := by rw [← hP]; exact Nat.mul_le_mul hwd16 hY16
      have hPI : (wd : Int) * (Y : Int) = (P : Int) := by rw [← hP]; simp
      have hDX : (X : Int) + (P : Int) = (D : Int) := by have := HDV.out; rw [hP] at this; omega
      have hDL : D < xs.length := HD.out
      clear hX hY hP
      have HBd : Hid (Below G V0 (wr.drewN nq)) := below_drewN HB.out _
      have HOd : Hid (OwnI (wr.drewN nq) G (.slice (some ⟨G, 0, none⟩) xs.length xs.length) zs) := HO.out.drewN nq
      generalize wr.drewN nq = wq at *
      obtain ⟨hcz, hfz⟩ := HOd.out.cell (j := D) (by rw [HM.out.len, ← HL.out]; exact hDL)
      have hgV := HOd.out.lt
      go_wp2
      go_roundw
      case rel => exact ⟨k + 1, zs.set D v, by omega, by go_num, HOd.out.stored D _, HMN.out, HBd.out.setCell (Nat.le_refl _) _⟩
      case measure => simp [intOf]; omega
    · obtain rfl : k = xs.length := by omega
      have HZ : Hid (zs = movedL 4 W H xs) := by
        have := HM.out
        rw [HL.out] at this
        exact this.all (by omega)
      obtain ⟨c0, c1, c2, e0, e1, e2, f0, f1, f2, sz⟩ := (M0.out.next HB.out HG.out)
      have HSZ := Lib.hid HG.out
      go_wp2
      have hsl := HO.out.sl
      refine bodyPost_ret (v := .agg #[.int .i64 wd, .int .i64 hg, .slice (some ⟨G, 0, none⟩) xs.length xs.length]) ?_ rfl ?_
      · (rw [results_cell_one rfl]; go_simp)
      · have hlen : (movedL 4 W H xs).length = xs.length := by rw [← HZ.out, HM.out.len, HL.out]
        refine ⟨set3 HBw.out (Nat.le_add_right _ 1) _ _ _, G, _, _, _, rfl, hlen.symm, Nat.le_trans (Nat.le_add_right _ 2) HSZ.out, ?_⟩
        rw [← HZ.out]
        exact HO.out.sameBlock (set3_heap _ (by have := HSZ.out; omega) _ _ _)
end Go.Proofs.Ytknhfliefkkpfab
