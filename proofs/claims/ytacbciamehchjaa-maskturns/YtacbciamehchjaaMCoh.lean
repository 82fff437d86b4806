
/- Coherence of layer 2: a contract. -/
import Derived.Test.YtacbciamehchjaaMPairs
import Derived.Test.YtacbciamehchjaaCohMath
import Derived.Test.YtacbciamehchjaaUntil
import Derived.Test.YtacbciamehchjaaMarks
namespace Go.Proofs.Ytacbciamehchjaa
open Go.RowKit Go.Shelf
attribute [local go_sem] Oper.semAt_some

def likeP (m : List (List Int)) {N : Nat} (x : PN N) : (Int × Int) × Int := likeC (colM m x.1.1) (colM m x.1.2)
def badP (m : List (List Int)) (N : Nat) : Bool := (upPN N N).any fun x => (likeP m x).2 != 0
def cohV (m : List (List Int)) : (Int × Int) × Int :=
  if validM m = true then (if colsM m < 2 then ((0, 0), 8) else if badP m (colsM m) = true then ((0, 0), 8) else (bestL ((upPN (colsM m) (colsM m)).map fun x => (likeP m x).1), 0)) else ((0, 0), 1)
theorem frozen_alloc (V : World) (o : Obj) {b k : Nat} (h : b < V.heap.size) : (V.alloc o).frozen? ⟨b, k, none⟩ = V.frozen? ⟨b, k, none⟩ := ((Below.refl V.heap.size V).alloc (Nat.le_refl _) o).frozen (p := ⟨b, k, none⟩) h
theorem frozen_new (V : World) (vs : Array Value) (t : TypeId) (k : Nat) : (V.alloc (.cells vs t)).frozen? ⟨V.heap.size, k, none⟩ = false := by simp
/-- The boxes of Coherence's frame. -/
structure CohB (w : World) (a : Option Addr) (n cap : Nat) (V : World) : Prop where
  box : V.cell? ⟨w.heap.size, 0, none⟩ = some (.slice a n cap)
  r0 : V.cell? ⟨w.heap.size + 1, 0, none⟩ = some (.int .i64 0)
  r1 : V.cell? ⟨w.heap.size + 1, 1, none⟩ = some (.int .i64 0)
  e0 : V.cell? ⟨w.heap.size + 2, 0, none⟩ = some (.int .i64 0)
  f0 : V.frozen? ⟨w.heap.size + 1, 0, none⟩ = false
  f1 : V.frozen? ⟨w.heap.size + 1, 1, none⟩ = false
  f2 : V.frozen? ⟨w.heap.size + 2, 0, none⟩ = false
  sz : w.heap.size + 3 ≤ V.heap.size
  below : Below w.heap.size w V
theorem CohB.mk0 (w : World) (a : Option Addr) (n cap : Nat) (t s r : TypeId) : CohB w a n cap (((w.alloc (.cells #[.slice a n cap] t)).alloc (.cells #[.int .i64 0, .int .i64 0] s)).alloc (.cells #[.int .i64 0] r)) := by
  have h1 : (w.alloc (.cells #[.slice a n cap] t)).heap.size = w.heap.size + 1 := World.size_alloc _ _
  have h2 : ((w.alloc (.cells #[.slice a n cap] t)).alloc (.cells #[.int .i64 0, .int .i64 0] s)).heap.size = w.heap.size + 2 := by rw [World.size_alloc, h1]
  refine ⟨(alloc_old _ _ _ _ (by omega)).trans ((alloc_old _ _ _ _ (by omega)).trans (alloc_cell _ _ _ _ _ rfl)), (alloc_old _ _ _ _ (by omega)).trans ?_, (alloc_old _ _ _ _ (by omega)).trans ?_, ?_, ?_, ?_, ?_, by rw [World.size_alloc, h2]; exact Nat.le_refl _, (((Below.refl _ _).alloc (Nat.le_refl _) _).alloc (by omega) _).alloc (by omega) _⟩
  · rw [← h1]; exact alloc_cell _ _ _ _ _ rfl
  · rw [← h1]; exact alloc_cell _ _ _ _ _ rfl
  · rw [← h2]; exact alloc_cell _ _ _ _ _ rfl
  · rw [frozen_alloc _ _ (by omega), ← h1]; simp
  · rw [frozen_alloc _ _ (by omega), ← h1]; simp
  · rw [← h2]; exact frozen_new _ _ _ _
theorem CohB.next {w : World} {a : Option Addr} {n cap : Nat} {V V' : World} (h : CohB w a n cap V) (hb : Below V.heap.size V V') : CohB w a n cap V' :=
  have s := h.sz
  have k : ∀ b o, b < w.heap.size + 3 → V'.cell? ⟨b, o, none⟩ = V.cell? ⟨b, o, none⟩ := fun b o hlt => hb.cell (p := ⟨b, o, none⟩) (by show b < _; omega)
  have f : ∀ b o, b < w.heap.size + 3 → V'.frozen? ⟨b, o, none⟩ = V.frozen? ⟨b, o, none⟩ := fun b o hlt => hb.frozen (p := ⟨b, o, none⟩) (by show b < _; omega)
  ⟨(k _ _ (by omega)).trans h.box, (k _ _ (by omega)).trans h.r0, (k _ _ (by omega)).trans h.r1, (k _ _ (by omega)).trans h.e0, (f _ _ (by omega)).trans h.f0, (f _ _ (by omega)).trans h.f1, (f _ _ (by omega)).trans h.f2, Nat.le_trans s hb.size, h.below.trans (hb.mono (by omega))⟩
/-- What the results' cells hold as the call returns. -/
structure ResB (w : World) (x y z : Int) (V : World) : Prop where
  r0 : V.cell? ⟨w.heap.size + 1, 0, none⟩ = some (.int .i64 x)
  r1 : V.cell? ⟨w.heap.size + 1, 1, none⟩ = some (.int .i64 y)
  e0 : V.cell? ⟨w.heap.size + 2, 0, none⟩ = some (.int .i64 z)
  below : Below w.heap.size w V
theorem CohB.stored {w : World} {a : Option Addr} {n cap : Nat} {V : World} (h : CohB w a n cap V) (x y z : Int) : ResB w x y z (((V.setCell ⟨w.heap.size + 1, 0, none⟩ (.int .i64 x)).setCell ⟨w.heap.size + 1, 1, none⟩ (.int .i64 y)).setCell ⟨w.heap.size + 2, 0, none⟩ (.int .i64 z)) := by
  obtain ⟨b0, r0, r1, e0, f0, f1, f2, sz, hb⟩ := h
  refine ⟨?_, ?_, ?_, ((hb.setCell (p := ⟨w.heap.size + 1, 0, none⟩) (Nat.le_succ _) _).setCell (p := ⟨w.heap.size + 1, 1, none⟩) (Nat.le_succ _) _).setCell (p := ⟨w.heap.size + 2, 0, none⟩) (by show w.heap.size ≤ w.heap.size + 2; omega) _⟩ <;> go_simp
theorem ResB.put {w V : World} {x y z : Int} {D : Nat} (h : ResB w x y z V) (hD : w.heap.size + 3 ≤ D) (o : Obj) : ResB w x y z (V.putObj D o) :=
  have k : ∀ b c, b < w.heap.size + 3 → (V.putObj D o).cell? ⟨b, c, none⟩ = V.cell? ⟨b, c, none⟩ := fun b c hlt => World.cell?_of_block (World.putObj_heap_other (by show b ≠ D; omega))
  ⟨(k _ _ (by omega)).trans h.r0, (k _ _ (by omega)).trans h.r1, (k _ _ (by omega)).trans h.e0, h.below.grown (grownBy_putObj' V D _) h.below.size (fun r e => by cases e; omega)⟩
theorem keepsOthers_below {V V' : World} (h : Below V.heap.size V V') : KeepsOthers V V' := ⟨h.size, fun k _ hk _ => (h.block k (Array.getElem?_eq_some_iff.1 hk).1).trans hk⟩
/-- At the return. -/
theorem coh_leaves {F : Fence} {n : Nat} {w : World} {r : (Int × Int) × Int} {fn : Func} {tmps : Array Value} {ms : List Nat} {V : World}
    (hres : ∀ W : World, W.cell? ⟨w.heap.size + 1, 0, none⟩ = some (.int .i64 r.1.1) → W.cell? ⟨w.heap.size + 1, 1, none⟩ = some (.int .i64 r.1.2) → W.cell? ⟨w.heap.size + 2, 0, none⟩ = some (.int .i64 r.2) → (results fn tmps).run Try.prog W = .ok (.tuple #[.agg #[.int .i64 r.1.1, .int .i64 r.1.2], .int .i64 r.2]) W)
    (hM : Marks (w.heap.size + 3) ms V) (hR : ResB w r.1.1 r.1.2 r.2 V) : LeavesInM F n Try.prog fn tmps (QPost r w) (ms.map mark) .returning V :=
  leaves_marks (B := w.heap.size + 3) (fun W => ResB w r.1.1 r.1.2 r.2 W) (fun _ _ hD _ h => h.put hD _) (fun W h => ⟨_, hres W h.r0 h.r1 h.e0, h.below, rfl⟩) ms V hM hR
/-- One of two comes up next: each is carried out. -/
theorem wpAnyG_two {P : Program} {ops : Array Oper} {Q : Exit → Act → World → Prop} {md : Region.Mode} {S : Array Bool → World → Prop} {i j : Nat} {o p : Oper} {fuel : Nat} {listed : Array Bool} {a : Act} {w : World} (hr : Region.ready md ops listed = [i, j]) (ho : ops[i]? = some o) (hp : ops[j]? = some p) (hc : Shutdown md ops listed)
    (h : Shutdown md ops (listed.setIfInBounds i true) → ∀ K : Act → World → Prop, (∀ a' w', S (listed.setIfInBounds i true) w' → (S (listed.setIfInBounds i true) w' → wpAnyG P md ops Q S fuel (listed.setIfInBounds i true) a' w') → K a' w') → if Region.wanted o (yielded ops a.tmps) = true then Oper.wp P o a w K Q else K (a.put o.dst undef) w)
    (k : Shutdown md ops (listed.setIfInBounds j true) → ∀ K : Act → World → Prop, (∀ a' w', S (listed.setIfInBounds j true) w' → (S (listed.setIfInBounds j true) w' → wpAnyG P md ops Q S fuel (listed.setIfInBounds j true) a' w') → K a' w') → if Region.wanted p (yielded ops a.tmps) = true then Oper.wp P p a w K Q else K (a.put p.dst undef) w) : wpAnyG P md ops Q S (fuel + 1) listed a w :=
  ⟨fun h0 => (by rw [hr] at h0; cases h0), fun x hx => by
    rw [hr] at hx
    rcases List.mem_cons.1 hx with rfl | hx
    · exact wpOp_step ho (fun K hK => h (hc.set (by rw [hr]; simp)) K (fun a' w' hS hW => hK a' w' ⟨hS, hW hS⟩))
    · obtain rfl : x = j := by simpa using hx
      exact wpOp_step hp (fun K hK => k (hc.set (by rw [hr]; simp)) K (fun a' w' hS hW => hK a' w' ⟨hS, hW hS⟩))⟩
/-- A fraction in its box. -/
structure FBox (G : Nat) (x y : Int) (V : World) : Prop where
  c0 : V.cell? ⟨G, 0, none⟩ = some (.int .i64 x)
  c1 : V.cell? ⟨G, 1, none⟩ = some (.int .i64 y)
  f0 : V.frozen? ⟨G, 0, none⟩ = false
  f1 : V.frozen? ⟨G, 1, none⟩ = false
theorem FBox.made (V : World) (x y : Int) (t : TypeId) {G : Nat} (hG : G = V.heap.size) : FBox G x y (V.alloc (.cells #[.int .i64 x, .int .i64 y] t)) := by
  subst hG; exact ⟨alloc_cell _ _ _ _ _ rfl, alloc_cell _ _ _ _ _ rfl, frozen_new _ _ _ _, frozen_new _ _ _ _⟩
theorem FBox.later {G : Nat} {x y : Int} {V V' : World} (h : FBox G x y V) {n : Nat} (hb : Below n V V') (hG : G < n) : FBox G x y V' :=
  ⟨(hb.cell (p := ⟨G, 0, none⟩) hG).trans h.c0, (hb.cell (p := ⟨G, 1, none⟩) hG).trans h.c1, (hb.frozen (p := ⟨G, 0, none⟩) hG).trans h.f0, (hb.frozen (p := ⟨G, 1, none⟩) hG).trans h.f1⟩
theorem FBox.over {G : Nat} {x y : Int} {V : World} (h : FBox G x y V) (x' y' : Int) : FBox G x' y' ((V.setCell ⟨G, 0, none⟩ (.int .i64 x')).setCell ⟨G, 1, none⟩ (.int .i64 y')) := by
  obtain ⟨c0, c1, f0, f1⟩ := h
  refine ⟨?_, ?_, ?_, ?_⟩ <;> go_simp
/-- What holds of the world ahead of each round. -/
structure CohI (w : World) (a : Option Addr) (m : List (List Int)) (cap G : Nat) (pre : List (PN (colsM m))) (V : World) : Prop where
  good : ∀ x ∈ pre, (likeP m x).2 = 0
  best : FBox G (bestL (pre.map fun x => (likeP m x).1)).1 (bestL (pre.map fun x => (likeP m x).1)).2 V
  boxes : CohB w a m.length cap V
  box2 : V.cell? ⟨G + 1, 0, none⟩ = some (.slice a m.length cap)
  gw : w.heap.size + 3 ≤ G
  gv : G + 2 ≤ V.heap.size
theorem CohB.later {w : World} {a : Option Addr} {n cap : Nat} {V V' : World} (h : CohB w a n cap V) {B : Nat} (hb : Below B V V') (hB : w.heap.size + 3 ≤ B) : CohB w a n cap V' :=
  have s := h.sz
  have k : ∀ b o, b < w.heap.size + 3 → V'.cell? ⟨b, o, none⟩ = V.cell? ⟨b, o, none⟩ := fun b o hlt => hb.cell (p := ⟨b, o, none⟩) (by show b < _; omega)
  have f : ∀ b o, b < w.heap.size + 3 → V'.frozen? ⟨b, o, none⟩ = V.frozen? ⟨b, o, none⟩ := fun b o hlt => hb.frozen (p := ⟨b, o, none⟩) (by show b < _; omega)
  ⟨(k _ _ (by omega)).trans h.box, (k _ _ (by omega)).trans h.r0, (k _ _ (by omega)).trans h.r1, (k _ _ (by omega)).trans h.e0, (f _ _ (by omega)).trans h.f0, (f _ _ (by omega)).trans h.f1, (f _ _ (by omega)).trans h.f2, Nat.le_trans s hb.size, h.below.trans (hb.mono (by omega))⟩
theorem CohI.later {w : World} {a : Option Addr} {m : List (List Int)} {cap G : Nat} {pre : List (PN (colsM m))} {V V' : World} (h : CohI w a m cap G pre V) {B : Nat} (hb : Below B V V') (hB : G + 2 ≤ B) : CohI w a m cap G pre V' :=
  have g := h.gw
  ⟨h.good, h.best.later hb (by omega), h.boxes.later hb (by omega), (hb.cell (p := ⟨G + 1, 0, none⟩) (by show G + 1 < B; omega)).trans h.box2, h.gw, Nat.le_trans h.gv hb.size⟩
theorem ResB.later {w V V' : World} {x y z : Int} (h : ResB w x y z V) {B : Nat} (hb : Below B V V') (hB : w.heap.size + 3 ≤ B) : ResB w x y z V' :=
  ⟨(hb.cell (p := ⟨w.heap.size + 1, 0, none⟩) (by show w.heap.size + 1 < B; omega)).trans h.r0, (hb.cell (p := ⟨w.heap.size + 1, 1, none⟩) (by show w.heap.size + 1 < B; omega)).trans h.r1, (hb.cell (p := ⟨w.heap.size + 2, 0, none⟩) (by show w.heap.size + 2 < B; omega)).trans h.e0, h.below.trans (hb.mono (by omega))⟩
theorem grown_from {V V' : World} {row : Option Nat} {B : Nat} (hg : V.grownBy V' row) (hB : B ≤ V.heap.size) (hr : ∀ r, row = some r → B ≤ r) : Below B V V' := (Below.refl B V).grown hg hB hr
theorem likeC_err {a b : List Int} (h : (likeC a b).2 ≠ 0) : likeC a b = ((0, 0), 8) := by
  unfold likeC at h ⊢; split
  · rfl
  · rename_i g; rw [if_neg g] at h; exact absurd rfl h
theorem likeC_in {a b : List Int} (ha : allB 1 a = true) (hb : allB 1 b = true) (hl : a.length = b.length) (h10 : a.length ≤ 10) (h : (likeC a b).2 = 0) : Red (likeC a b).1 ∧ (likeC a b).1.1 ≤ 10000 ∧ (likeC a b).1.2 ≤ 10000 ∧ (likeC a b).1.1 ≤ (likeC a b).1.2 := by
  unfold likeC at h ⊢
  split at h
  · cases h
  · rename_i g
    rw [if_neg g]
    have cs := dot_cs hl
    have haa := dots_bd ha ha (Nat.le_refl _) (Nat.le_refl _)
    have hbb := dots_bd hb hb (Nat.le_refl _) (Nat.le_refl _)
    have hab := dots_bd ha hb (Nat.le_of_eq hl) (Nat.le_refl _)
    have h1 : 0 ≤ dot a a := sumTo_nonneg _ fun i _ => sq_pos' _
    have h2 : 0 ≤ dot b b := sumTo_nonneg _ fun i _ => sq_pos' _
    have h3 : 0 ≤ dot a b * dot a b := sq_pos' _
    have l1 : dot a a ≤ 10 := by show sumTo _ _ ≤ 10; omega
    have l2 : dot b b ≤ 10 := by show sumTo _ _ ≤ 10; omega
    have l3 : dot a a * dot b b ≤ 10 * 10 := Int.mul_le_mul l1 l2 h2 (by omega)
    have h4 : 0 ≤ dot a a * dot b b := Int.mul_nonneg h1 h2
    obtain ⟨n, hn⟩ := Int.eq_ofNat_of_zero_le h3
    obtain ⟨d, hd⟩ := Int.eq_ofNat_of_zero_le h4
    rw [hn, hd] at cs
    rw [hd] at g l3
    rw [hn, hd]
    have e1 : (Int.ofNat n).toNat = n := rfl
    simp only [Int.toNat_natCast]
    have hd0 : 0 < d := by omega
    have hg0 : 0 < Nat.gcd n d := Nat.gcd_pos_of_pos_right _ hd0
    have q1 : n / Nat.gcd n d ≤ n := Nat.div_le_self _ _
    have q2 : d / Nat.gcd n d ≤ d := Nat.div_le_self _ _
    have q3 : 1 ≤ d / Nat.gcd n d := Nat.div_pos (Nat.le_of_dvd hd0 (Nat.gcd_dvd_right n d)) hg0
    have q4 : n / Nat.gcd n d ≤ d / Nat.gcd n d := Nat.div_le_div_right (by omega)
    refine ⟨⟨Int.natCast_nonneg _, by show (1 : Int) ≤ ((d / Nat.gcd n d : Nat) : Int); omega, ?_⟩, by show ((n / Nat.gcd n d : Nat) : Int) ≤ 10000; omega, by show ((d / Nat.gcd n d : Nat) : Int) ≤ 10000; omega, by show ((n / Nat.gcd n d : Nat) : Int) ≤ ((d / Nat.gcd n d : Nat) : Int); omega⟩
    show Nat.gcd ((n / Nat.gcd n d : Nat) : Int).toNat ((d / Nat.gcd n d : Nat) : Int).toNat = 1
    simp only [Int.toNat_natCast]
    exact Nat.coprime_div_gcd_div_gcd hg0
theorem likeP_in {m : List (List Int)} (hv : validM m = true) (x : PN (colsM m)) (h : (likeP m x).2 = 0) : Red (likeP m x).1 ∧ (likeP m x).1.1 ≤ 10000 ∧ (likeP m x).1.2 ≤ 10000 ∧ (likeP m x).1.1 ≤ (likeP m x).1.2 :=
  likeC_in (colM_all hv (Nat.lt_trans x.2.1 x.2.2)) (colM_all hv x.2.2) (by rw [colM_length, colM_length]) (by rw [colM_length]; have := (validM_of hv).2.1; omega) h
theorem best_in {m : List (List Int)} (hv : validM m = true) (pre : List (PN (colsM m))) (hg : ∀ x ∈ pre, (likeP m x).2 = 0) :
    0 ≤ (bestL (pre.map fun x => (likeP m x).1)).1 ∧ (bestL (pre.map fun x => (likeP m x).1)).1 ≤ 10000 ∧ 1 ≤ (bestL (pre.map fun x => (likeP m x).1)).2 ∧ (bestL (pre.map fun x => (likeP m x).1)).2 ≤ 10000 := by
  obtain ⟨a1, a2, a3, a4⟩ := bestL_is (pre.map fun x => (likeP m x).1) (fun r hr => by
    obtain ⟨x, hx, rfl⟩ := List.mem_map.1 hr
    exact (likeP_in hv x (hg x hx)).1.2.1) (0, 1) (by decide)
  rcases a2 with e | e
  · have e' : bestL (pre.map fun x => (likeP m x).1) = (0, 1) := e
    rw [e']; decide
  · have e' : bestL (pre.map fun x => (likeP m x).1) ∈ pre.map fun x => (likeP m x).1 := e
    obtain ⟨x, hx, e2⟩ := List.mem_map.1 e'
    obtain ⟨q1, q2, q3, _⟩ := likeP_in hv x (hg x hx)
    rw [← e2]
    exact ⟨q1.1, q2, q1.2.1, q3⟩
theorem bestL_snoc (L : List (Int × Int)) (r : Int × Int) : bestL (L ++ [r]) = bestF (bestL L) r := by simp [bestL]
theorem mul_in {a b : Int} (ha : 0 ≤ a ∧ a ≤ 10000) (hb : 0 ≤ b ∧ b ≤ 10000) : 0 ≤ a * b ∧ a * b ≤ 100000000 := by
  have := mul_le (show -10000 ≤ a ∧ a ≤ 10000 by omega) (show -10000 ≤ b ∧ b ≤ 10000 by omega)
  exact ⟨Int.mul_nonneg ha.1 hb.1, by omega⟩
set_option maxRecDepth 100000 in
set_option maxHeartbeats 2000000 in
theorem coherence_in (a : Option Addr) (m : List (List Int)) (cap : Nat) (w : World) (n : Nat) (hn : 4 ≤ n) (hm : MOk m) (hs : Ms w a m) :
    CallsIn Fence.wide n Try.prog 23 #[.slice a m.length cap] w (QPost (cohV m) w) := by
  have HM := Lib.hid hm; clear hm
  have HS := Lib.hid hs; clear hs
  have h1 : 1 ≤ n := by omega
  have C0 := Lib.hid (CohB.mk0 w a m.length cap 39 44 27)
  cases hv : validM m
  case false =>
    have HV := Lib.hid hv
    have HC : Hid (cohV m = ((0, 0), 1)) := by show cohV m = _; simp [cohV, hv]
    clear hv
    refine callsIn_of_wp_marks Try.func23 rfl trivial ?_ rfl
    simp only [Try.ntmps23, List.size_toArray, List.length_cons, List.length_nil, Nat.reduceAdd, Nat.reduceSub, Array.replicate_succ, Array.replicate_zero, List.push_toArray, List.append_toArray, List.nil_append, List.cons_append]
    gi_wp2_with (refine ⟨trivial, ?_⟩; gi_at_call 43; refine (callsIn_wide.2 (mvalid_any a m cap _ HM.out (HS.out.below C0.out.below))).mono ?_; rintro e w1 ⟨rfl, hb⟩; rw [HV.out]; have C1 := Lib.hid (C0.out.next hb); clear hb C0; obtain ⟨k0, k1, k2, k3, k4, k5, k6, k7, -⟩ := C1.out)
    rw [HC.out]
    exact coh_leaves (r := ((0, 0), 1)) (ms := []) (by intro W q0 q1 q2; simp [results, Try.results23, go_sem, q0, q1, q2]) ⟨List.nodup_nil, fun D hD => by cases hD⟩ (C1.out.stored 0 0 1)
  case true =>
  obtain ⟨hm1, hm6, hc1, hc10, hrows⟩ := validM_of hv
  obtain ⟨b, o, a0, c0, rfl, hcell⟩ := row0 HS.out hm1
  have HV := Lib.hid hv
  have hbw := cell_lt hcell
  have HCELL := Lib.hid hcell; clear hcell
  by_cases h2 : colsM m < 2
  · have HC : Hid (cohV m = ((0, 0), 8)) := by show cohV m = _; simp [cohV, hv, h2]
    clear hv
    refine callsIn_of_wp_marks Try.func23 rfl trivial ?_ rfl
    simp only [Try.ntmps23, List.size_toArray, List.length_cons, List.length_nil, Nat.reduceAdd, Nat.reduceSub, Array.replicate_succ, Array.replicate_zero, List.push_toArray, List.append_toArray, List.nil_append, List.cons_append]
    gi_wp2_with (refine ⟨trivial, ?_⟩; gi_at_call 43; refine (callsIn_wide.2 (mvalid_any _ m cap _ HM.out (HS.out.below C0.out.below))).mono ?_; rintro e w1 ⟨rfl, hb⟩; rw [HV.out]; have C1 := Lib.hid (C0.out.next hb); clear hb C0; obtain ⟨k0, k1, k2, k3, k4, k5, k6, k7, -⟩ := C1.out; have kc := (C1.out.below.cell (p := ⟨b, o, none⟩) hbw).trans HCELL.out)
    rw [HC.out]
    exact coh_leaves (r := ((0, 0), 8)) (ms := []) (by intro W q0 q1 q2; simp [results, Try.results23, go_sem, q0, q1, q2]) ⟨List.nodup_nil, fun D hD => by cases hD⟩ (C1.out.stored 0 0 8)
  refine callsIn_of_wp_marks Try.func23 rfl trivial ?_ rfl
  simp only [Try.ntmps23, List.size_toArray, List.length_cons, List.length_nil, Nat.reduceAdd, Nat.reduceSub, Array.replicate_succ, Array.replicate_zero, List.push_toArray, List.append_toArray, List.nil_append, List.cons_append]
  gi_wp2_with (first | (refine ⟨trivial, ?_⟩; gi_at_call 43; refine (callsIn_wide.2 (mvalid_any _ m cap _ HM.out (HS.out.below C0.out.below))).mono ?_; rintro e w1 ⟨rfl, hb⟩; rw [HV.out]; have C1 := Lib.hid (C0.out.next hb); clear hb C0; obtain ⟨k0, k1, k2, k3, k4, k5, k6, k7, -⟩ := C1.out; have kc := (C1.out.below.cell (p := ⟨b, o, none⟩) hbw).trans HCELL.out; have kal : ∀ ob, (w1.alloc ob).cell? ⟨w.heap.size, 0, none⟩ = some (.slice (some ⟨b, o, none⟩) m.length cap) := fun ob => (alloc_old _ _ _ _ (by omega)).trans k0) | (refine ⟨trivial, ?_⟩; gi_at_call 46; refine (callsIn_wide.2 (mpairs_any _ m.length cap _)).mono ?_; rintro e w2 ⟨rfl, rfl⟩))
  obtain ⟨V0, hV0⟩ : ∃ V0, (w1.alloc (.cells #[.int .i64 0, .int .i64 1] 44)).alloc (.cells #[.slice (some ⟨b, o, none⟩) m.length cap] 39) = V0 := ⟨_, rfl⟩
  have hg1 : (w1.alloc (.cells #[.int .i64 0, .int .i64 1] 44)).heap.size = w1.heap.size + 1 := World.size_alloc _ _
  have hsz : V0.heap.size = w1.heap.size + 2 := by rw [← hV0, World.size_alloc, hg1]
  have hBV : Below w1.heap.size w1 V0 := by rw [← hV0]; exact ((Below.refl _ _).alloc (Nat.le_refl _) _).alloc (by omega) _
  have hI0 : CohI w (some ⟨b, o, none⟩) m cap w1.heap.size [] V0 := by
    refine ⟨(fun x hx => by cases hx), ?_, C1.out.next hBV, ?_, C1.out.sz, by omega⟩
    · rw [← hV0]
      exact (FBox.made w1 0 1 _ rfl).later ((Below.refl (w1.heap.size + 1) _).alloc (by omega) _) (Nat.lt_succ_self _)
    · rw [← hV0, ← hg1]; exact alloc_cell _ _ _ _ _ rfl
  rw [hV0]
  have hb2 := hI0.box2
  have hkc := (hBV.cell (p := ⟨b, o, none⟩) (cell_lt kc)).trans kc
  have HKC := Lib.hid hkc
  have HI0 := Lib.hid hI0
  have HBV := Lib.hid hBV
  have HSZ := Lib.hid hsz
  have HG := Lib.hid C1.out.sz
  have HHV := Lib.hid hv
  refine wpIn_rangeFunc_ownF rfl h1 (gf := 70) (lb := #[.pointer (some ⟨w1.heap.size + 1, 0, none⟩)]) rfl trivial (enters_of Try.func70 (by kernel_rfl) rfl)
    (mpairs_stops Fence.wide (n - 1) trivial rfl (by omega) (w1.heap.size + 1) b o m.length cap (colsM m) c0 a0 hm1 hc10 V0 hb2 hkc) keepM_t (keepM_b (by omega) (by have := C1.out.below.size; omega)) (Below.refl _ _) (fun _ => rfl)
    (fun pre V => CohI w (some ⟨b, o, none⟩) m cap w1.heap.size pre V)
    (fun c pre V => c = .ret ∧ ResB w 0 0 8 V ∧ w.heap.size + 3 ≤ V.heap.size ∧ badP m (colsM m) = true) ?hI ?hIx hI0
    (fun x => { tmps := #[.slice (some ⟨b, o, none⟩) m.length cap, .pointer (some ⟨w.heap.size, 0, none⟩), .pointer (some ⟨w.heap.size + 1, 0, none⟩), .pointer (some ⟨w.heap.size + 1 + 1, 0, none⟩), .pointer (some ⟨w1.heap.size, 0, none⟩), .int .i64 (x.1.1 : Int), .int .i64 (x.1.2 : Int), undef, undef, .slice (some ⟨b, o, none⟩) m.length cap, .bool true, .bool false, undef, .slice (some ⟨b, o, none⟩) m.length cap, .pointer (some ⟨b, o, none⟩), .slice a0 (colsM m) c0, .int .i64 (colsM m : Nat), .bool (decide ((colsM m : Int) < 2)), undef, .agg #[.int .i64 0, .int .i64 1], .slice (some ⟨b, o, none⟩) m.length cap, .func (.func 70) #[] #[.pointer (some ⟨w1.heap.size + 1, 0, none⟩)], .int .i64 (x.1.1 : Int), .int .i64 (x.1.2 : Int), undef, undef, undef, undef, undef, undef, undef, undef, undef, undef, undef, undef, undef, undef, undef, undef, undef, undef, undef, undef, undef, undef, undef, undef, undef, undef, undef], defers := [] }) ?assign ?body ?done ?stop
  case hI =>
    intro pre V V' row h hg hr
    exact h.later (grown_from hg (B := w1.heap.size + 2) h.gv (fun r e => by have := (hr r e).1; omega)) (Nat.le_refl _)
  case hIx =>
    intro c pre V V' row h hg hr
    obtain ⟨q1, q2, q3, q4⟩ := h
    exact ⟨q1, q2.later (grown_from hg (B := w.heap.size + 3) q3 (fun r e => by have := (hr r e).1; have := HG.out; omega)) (Nat.le_refl _), Nat.le_trans q3 hg.size, q4⟩
  case assign =>
    intro l x V K hK
    gi_wp2
    exact hK
  case stop =>
    rintro D c pre V hD _ ⟨rfl, q2, q3, q4⟩ hK
    have HC : Hid (cohV m = ((0, 0), 8)) := by show cohV m = _; simp [cohV, HHV.out, h2, q4]
    gi_wp2
    rw [HC.out]
    exact coh_leaves (r := ((0, 0), 8)) (ms := [D]) (by intro W q0 q1 q2; simp [results, Try.results23, go_sem, q0, q1, q2]) ⟨by simp, fun E hE => by
      obtain rfl : E = D := by simpa using hE
      exact ⟨by have := HG.out; omega, hK⟩⟩ q2
  case done =>
    rintro D ys V hD rfl h hK
    have hnb : badP m (colsM m) = false := by
      unfold badP
      rw [List.any_eq_false]
      intro x hx
      simp [h.good x hx]
    have HC : Hid (cohV m = (bestL ((upPN (colsM m) (colsM m)).map fun x => (likeP m x).1), 0)) := by show cohV m = _; simp [cohV, HHV.out, h2, hnb]
    have HH := Lib.hid h
    obtain ⟨q0, q1, -, -⟩ := h.best
    obtain ⟨z0, z1, z2, z3, z4, z5, z6, z7, -⟩ := h.boxes
    have HK := Lib.hid hK
    clear h hK hb2 hkc hV0 hBV hI0 k0 k1 k2 k3 k4 k5 k6 kc kal
    obtain ⟨⟨gn, gd⟩, hbest⟩ : ∃ r, bestL ((upPN (colsM m) (colsM m)).map fun x => (likeP m x).1) = r := ⟨_, rfl⟩
    rw [hbest] at q0 q1
    dsimp only at q0 q1
    have HBE := Lib.hid hbest; clear hbest
    gi_wp2
    rw [HC.out, HBE.out]
    exact coh_leaves (r := ((gn, gd), 0)) (ms := [D]) (by intro W q0 q1 q2; simp [results, Try.results23, go_sem, q0, q1, q2]) ⟨by simp, fun E hE => by
      obtain rfl : E = D := by simpa using hE
      exact ⟨by have := HG.out; omega, (Below.heap_setCell _ _ _ _ (by show E ≠ w.heap.size + 2; have := HG.out; omega)).trans ((Below.heap_setCell _ _ _ _ (by show E ≠ w.heap.size + 1; have := HG.out; omega)).trans ((Below.heap_setCell _ _ _ _ (by show E ≠ w.heap.size + 1; have := HG.out; omega)).trans HK.out))⟩⟩ (HH.out.boxes.stored gn gd 0)
  case body =>
    intro l pre x V hI hlen
    obtain ⟨⟨i, j⟩, hij, hj⟩ := x
    have hjl : j < colsM m := hj
    have hil : i < colsM m := Nat.lt_trans hij hj
    have HI := Lib.hid hI
    obtain ⟨R, hR⟩ : ∃ R, likeC (colM m i) (colM m j) = R := ⟨_, rfl⟩
    have HR := Lib.hid hR
    have HRR : Hid (likeP m (⟨(i, j), hij, hj⟩ : PN (colsM m)) = R) := hR
    have hwV : w.heap.size < V.heap.size := by have := hI.boxes.sz; omega
    have HK0 := Lib.hid hI.boxes.box
    have HBW := Lib.hid hI.boxes.below
    have k0' := hI.boxes.box
    clear hI hR hb2 hkc hV0 hBV hI0 k0 k1 k2 k3 k4 k5 k6 kc kal
    dsimp only
    gi_wp2
    rename_i K' hK'
    refine (fun (key : ∀ (W : World) (T : Nat) (v27 v30 : Value), Hid (FBox T R.1.1 R.1.2 W ∧ V.heap.size ≤ T ∧ T < W.heap.size ∧ Below V.heap.size V W) → K' { tmps := #[.slice (some ⟨b, o, none⟩) m.length cap, .pointer (some ⟨w.heap.size, 0, none⟩), .pointer (some ⟨w.heap.size + 1, 0, none⟩), .pointer (some ⟨w.heap.size + 1 + 1, 0, none⟩), .pointer (some ⟨w1.heap.size, 0, none⟩), .int .i64 (i : Int), .int .i64 (j : Int), .pointer (some ⟨T, 0, none⟩), .int .i64 R.2, .slice (some ⟨b, o, none⟩) m.length cap, .bool true, .bool false, undef, .slice (some ⟨b, o, none⟩) m.length cap, .pointer (some ⟨b, o, none⟩), .slice a0 (colsM m) c0, .int .i64 (colsM m : Nat), .bool (decide ((colsM m : Int) < 2)), undef, .agg #[.int .i64 0, .int .i64 1], .slice (some ⟨b, o, none⟩) m.length cap, .func (.func 70) #[] #[.pointer (some ⟨w1.heap.size + 1, 0, none⟩)], .int .i64 (i : Int), .int .i64 (j : Int), .tuple #[.agg #[.int .i64 R.1.1, .int .i64 R.1.2], .int .i64 R.2], .slice (some ⟨b, o, none⟩) m.length cap, .int .i64 (i : Int), v27, .slice (some ⟨b, o, none⟩) m.length cap, .int .i64 (j : Int), v30, .tuple #[.agg #[.int .i64 R.1.1, .int .i64 R.1.2], .int .i64 R.2], .agg #[.int .i64 R.1.1, .int .i64 R.1.2], .int .i64 R.2, undef, undef, undef, undef, undef, undef, undef, undef, undef, undef, undef, undef, undef, undef, undef, undef, undef], defers := [] } W) => ?main) ?keyg
    case main =>
      have BB : Hid (Below V.heap.size V V.drew) := (Below.refl _ _).drew
      refine wpIn_region_G_round (S := untilS 99 (fun w' => w'.cell? ⟨w.heap.size, 0, none⟩ = some (.slice (some ⟨b, o, none⟩) m.length cap)) (fun _ => True)) (by kernel_rfl) (by kernel_rfl) ?hq (untilS_all ⟨k0', trivial⟩ _) (fun hc hS => ?_)
      case hq => rintro ⟨_, _, h⟩; exact h
      refine wpAnyG_take (i := 0) (oi := ?oi0) (v := ?v0) ?hi0 (by kernel_rfl) (by kernel_rfl) (by kernel_rfl) ?hQ0 (untilS_set (by decide)) hc ?hy0 hS ?rest0
      case hi0 => (simp only [List.getElem?_toArray, List.getElem?_cons_zero]; exact rfl)
      case hQ0 => exact fun _ _ _ h => h
      case hy0 => (refine Or.inl ⟨rfl, ?_⟩; (rintro w ⟨L, hsd, hL, hA, hB⟩; clear hsd hL hB; (try dsimp only at hA); go_simp; (try with_reducible rfl)))
      clear hc hS; intro hc hS
      simp only [Act.put, List.setIfInBounds_toArray, List.set_cons_zero, List.set_cons_succ]
      refine wpAnyG_take (i := 1) (oi := ?oi1) (v := ?v1) ?hi1 (by kernel_rfl) (by kernel_rfl) (by kernel_rfl) ?hQ1 (untilS_set (by decide)) hc ?hy1 hS ?rest1
      case hi1 => (simp only [List.getElem?_toArray, List.getElem?_cons_succ, List.getElem?_cons_zero]; exact rfl)
      case hQ1 => exact fun _ _ _ h => h
      case hy1 => (refine Or.inl ⟨rfl, ?_⟩; (intro w _; go_simp; (try with_reducible rfl)))
      clear hc hS; intro hc hS
      simp only [Act.put, List.setIfInBounds_toArray, List.set_cons_zero, List.set_cons_succ]
      refine wpAnyG_take (i := 3) (oi := ?oi3) (v := ?v3) ?hi3 (by kernel_rfl) (by kernel_rfl) (by kernel_rfl) ?hQ3 (untilS_set (by decide)) hc ?hy3 hS ?rest3
      case hi3 => (simp only [List.getElem?_toArray, List.getElem?_cons_succ, List.getElem?_cons_zero]; exact rfl)
      case hQ3 => exact fun _ _ _ h => h
      case hy3 => (refine Or.inl ⟨rfl, ?_⟩; (rintro w ⟨L, hsd, hL, hA, hB⟩; clear hsd hL hB; (try dsimp only at hA); go_simp; (try with_reducible rfl)))
      clear hc hS; intro hc hS
      simp only [Act.put, List.setIfInBounds_toArray, List.set_cons_zero, List.set_cons_succ]
      refine wpAnyG_take (i := 4) (oi := ?oi4) (v := ?v4) ?hi4 (by kernel_rfl) (by kernel_rfl) (by kernel_rfl) ?hQ4 (untilS_set (by decide)) hc ?hy4 hS ?rest4
      case hi4 => (simp only [List.getElem?_toArray, List.getElem?_cons_succ, List.getElem?_cons_zero]; exact rfl)
      case hQ4 => exact fun _ _ _ h => h
      case hy4 => (refine Or.inl ⟨rfl, ?_⟩; (intro w _; go_simp; (try with_reducible rfl)))
      clear hc hS; intro hc hS
      simp only [Act.put, List.setIfInBounds_toArray, List.set_cons_zero, List.set_cons_succ]
      refine wpAnyG_two (i := 2) (j := 10) (o := ?oz) (p := ?pz) (by kernel_rfl) ?hiz ?hjz hc ?fz ?gz
      case hiz => (simp only [List.getElem?_toArray, List.getElem?_cons_succ, List.getElem?_cons_zero]; exact rfl)
      case hjz => (simp only [List.getElem?_toArray, List.getElem?_cons_succ, List.getElem?_cons_zero]; exact rfl)
      case fz =>
        clear hc; intro hc K hK; have HK := Lib.hid hK; clear hK
        go_simp
        refine (mcolumn_any (some ⟨b, o, none⟩) m cap i _ HHV.out hil (HS.out.below (HBW.out.trans (BB.out.mono HBW.out.size)))).mono ?_
        rintro e wA ⟨hb, aA, cA, rfl, sl⟩
        (try dsimp only)
        have SLA := Lib.hid sl
        have BB := Lib.hid (BB.out.trans (hb.mono BB.out.size))
        clear hb sl
        refine HK.out _ _ (untilS_all ⟨(BB.out.cell (p := ⟨w.heap.size, 0, none⟩) hwV).trans HK0.out, trivial⟩ _) ?_
        clear HK K hS; intro hS
        (try simp only [Act.put, List.setIfInBounds_toArray, List.set_cons_zero, List.set_cons_succ])
        refine wpAnyG_two (i := 5) (j := 10) (o := ?ocz) (p := ?pcz) (by kernel_rfl) ?hicz ?hjcz hc ?fcz ?gcz
        case hicz => (simp only [List.getElem?_toArray, List.getElem?_cons_succ, List.getElem?_cons_zero]; exact rfl)
        case hjcz => (simp only [List.getElem?_toArray, List.getElem?_cons_succ, List.getElem?_cons_zero]; exact rfl)
        case fcz =>
          clear hc; intro hc K hK; have HK := Lib.hid hK; clear hK
          go_simp
          refine (mcolumn_any (some ⟨b, o, none⟩) m cap j _ HHV.out hjl (HS.out.below (HBW.out.trans (BB.out.mono HBW.out.size)))).mono ?_
          rintro e wB ⟨hb, aB, cB, rfl, sl⟩
          (try dsimp only)
          have SLA := Lib.hid (SLA.out.below hb)
          have SLB := Lib.hid sl
          have BB := Lib.hid (BB.out.trans (hb.mono BB.out.size))
          clear hb sl
          refine HK.out _ _ (untilS_all ⟨(BB.out.cell (p := ⟨w.heap.size, 0, none⟩) hwV).trans HK0.out, trivial⟩ _) ?_
          clear HK K hS; intro hS
          (try simp only [Act.put, List.setIfInBounds_toArray, List.set_cons_zero, List.set_cons_succ])
          refine wpAnyG_two (i := 6) (j := 10) (o := ?occz) (p := ?pccz) (by kernel_rfl) ?hiccz ?hjccz hc ?fccz ?gccz
          case hiccz => (simp only [List.getElem?_toArray, List.getElem?_cons_succ, List.getElem?_cons_zero]; exact rfl)
          case hjccz => (simp only [List.getElem?_toArray, List.getElem?_cons_succ, List.getElem?_cons_zero]; exact rfl)
          case fccz =>
            clear hc; intro hc K hK; have HK := Lib.hid hK; clear hK
            go_simp
            refine (likeness_any aA (colM m i) cA aB (colM m j) cB _ (colM_all HHV.out hil) (colM_all HHV.out hjl) (by rw [colM_length, colM_length]) (by rw [colM_length]; omega) SLA.out SLB.out).mono ?_
            rintro e wC ⟨hb, rfl⟩
            (try dsimp only)
            rw [HR.out]
            have BB := Lib.hid (BB.out.trans (hb.mono BB.out.size))
            clear hb
            refine HK.out _ _ (untilS_all ⟨(BB.out.cell (p := ⟨w.heap.size, 0, none⟩) hwV).trans HK0.out, trivial⟩ _) ?_
            clear HK K hS; intro hS
            (try simp only [Act.put, List.setIfInBounds_toArray, List.set_cons_zero, List.set_cons_succ])
            refine wpAnyG_take (i := 7) (oi := ?oi7ccc) (v := ?v7ccc) ?hi7ccc (by kernel_rfl) (by kernel_rfl) (by kernel_rfl) ?hQ7ccc (untilS_set (by decide)) hc ?hy7ccc hS ?rest7ccc
            case hi7ccc => (simp only [List.getElem?_toArray, List.getElem?_cons_succ, List.getElem?_cons_zero]; exact rfl)
            case hQ7ccc => exact fun _ _ _ h => h
            case hy7ccc => (refine Or.inl ⟨rfl, ?_⟩; (intro w _; go_simp; (try with_reducible rfl)))
            clear hc hS; intro hc hS
            simp only [Act.put, List.setIfInBounds_toArray, List.set_cons_zero, List.set_cons_succ]
            refine wpAnyG_take (i := 8) (oi := ?oi8ccc) (v := ?v8ccc) ?hi8ccc (by kernel_rfl) (by kernel_rfl) (by kernel_rfl) ?hQ8ccc (untilS_set (by decide)) hc ?hy8ccc hS ?rest8ccc
            case hi8ccc => (simp only [List.getElem?_toArray, List.getElem?_cons_succ, List.getElem?_cons_zero]; exact rfl)
            case hQ8ccc => exact fun _ _ _ h => h
            case hy8ccc => (refine Or.inl ⟨rfl, ?_⟩; (intro w _; go_simp; (try with_reducible rfl)))
            clear hc hS; intro hc hS
            simp only [Act.put, List.setIfInBounds_toArray, List.set_cons_zero, List.set_cons_succ]
            refine wpAnyG_take (i := 9) (oi := ?oi9ccc) (v := ?v9ccc) ?hi9ccc (by kernel_rfl) (by kernel_rfl) (by kernel_rfl) ?hQ9ccc (untilS_set (by decide)) hc ?hy9ccc hS ?rest9ccc
            case hi9ccc => (simp only [List.getElem?_toArray, List.getElem?_cons_succ, List.getElem?_cons_zero]; exact rfl)
            case hQ9ccc => exact fun _ _ _ h => h
            case hy9ccc => (refine Or.inl ⟨rfl, ?_⟩; (intro w _; go_simp; (try with_reducible rfl)))
            clear hc hS; intro hc hS
            simp only [Act.put, List.setIfInBounds_toArray, List.set_cons_zero, List.set_cons_succ]
            refine wpAnyG_only (i := 10) (o := ?oi10ccca) (by kernel_rfl) ?hi10ccca hc ?rest10ccca
            case hi10ccca => (simp only [List.getElem?_toArray, List.getElem?_cons_succ, List.getElem?_cons_zero]; exact rfl)
            clear hc; intro hc K hK; have HK := Lib.hid hK; clear hK
            go_simp
            have BBp := BB
            have RT : Hid (FBox wC.heap.size 0 0 (wC.alloc (.cells #[.int .i64 0, .int .i64 0] 44)) ∧ V.heap.size ≤ wC.heap.size ∧ wC.heap.size < (wC.alloc (.cells #[.int .i64 0, .int .i64 0] 44)).heap.size) := ⟨FBox.made wC 0 0 _ rfl, BB.out.size, by rw [World.size_alloc]; exact Nat.lt_succ_self _⟩
            have SLA := Lib.hid (SLA.out.alloc (.cells #[.int .i64 0, .int .i64 0] 44))
            have SLB := Lib.hid (SLB.out.alloc (.cells #[.int .i64 0, .int .i64 0] 44))
            have BB : Hid (Below V.heap.size V (wC.alloc (.cells #[.int .i64 0, .int .i64 0] 44))) := BB.out.alloc BB.out.size _
            refine HK.out _ _ (untilS_all ⟨(BB.out.cell (p := ⟨w.heap.size, 0, none⟩) hwV).trans HK0.out, trivial⟩ _) ?_
            clear HK K hS; intro hS
            (try simp only [Act.put, List.setIfInBounds_toArray, List.set_cons_zero, List.set_cons_succ])
            refine wpAnyG_only (i := 11) (o := ?oi11ccca) (by kernel_rfl) ?hi11ccca hc ?rest11ccca
            case hi11ccca => (simp only [List.getElem?_toArray, List.getElem?_cons_succ, List.getElem?_cons_zero]; exact rfl)
            clear hc; intro hc K hK; have HK := Lib.hid hK; clear hK
            obtain ⟨q0, q1, q2, q3⟩ := RT.out.1
            go_simp
            have BT := Lib.hid (FBox.made wC R.1.1 R.1.2 44 rfl)
            have BB : Hid (Below V.heap.size V (wC.alloc (.cells #[.int .i64 R.1.1, .int .i64 R.1.2] 44))) := BBp.out.alloc BBp.out.size _
            refine HK.out _ _ (untilS_all ⟨(BB.out.cell (p := ⟨w.heap.size, 0, none⟩) hwV).trans HK0.out, trivial⟩ _) ?_
            clear HK K hS; intro hS
            (try simp only [Act.put, List.setIfInBounds_toArray, List.set_cons_zero, List.set_cons_succ])
            refine wpAnyG_take (i := 12) (oi := ?oi12ccca) (v := ?v12ccca) ?hi12ccca (by kernel_rfl) (by kernel_rfl) (by kernel_rfl) ?hQ12ccca (untilS_set (by decide)) hc ?hy12ccca hS ?rest12ccca
            case hi12ccca => (simp only [List.getElem?_toArray, List.getElem?_cons_succ, List.getElem?_cons_zero]; exact rfl)
            case hQ12ccca => exact fun _ _ _ h => h
            case hy12ccca => (refine Or.inl ⟨rfl, ?_⟩; (intro w _; go_simp; (try with_reducible rfl)))
            clear hc hS; intro hc hS
            simp only [Act.put, List.setIfInBounds_toArray, List.set_cons_zero, List.set_cons_succ]
            refine wpAnyG_done (by kernel_rfl) ?_ _
            clear hc hS
            exact key _ _ _ _ ⟨BT.out, RT.out.2.1, by rw [World.size_alloc]; exact Nat.lt_succ_self _, BB.out⟩
          case gccz =>
            clear hc; intro hc K hK; have HK := Lib.hid hK; clear hK
            go_simp
            have BBp := BB
            have RT : Hid (FBox wB.heap.size 0 0 (wB.alloc (.cells #[.int .i64 0, .int .i64 0] 44)) ∧ V.heap.size ≤ wB.heap.size ∧ wB.heap.size < (wB.alloc (.cells #[.int .i64 0, .int .i64 0] 44)).heap.size) := ⟨FBox.made wB 0 0 _ rfl, BB.out.size, by rw [World.size_alloc]; exact Nat.lt_succ_self _⟩
            have SLA := Lib.hid (SLA.out.alloc (.cells #[.int .i64 0, .int .i64 0] 44))
            have SLB := Lib.hid (SLB.out.alloc (.cells #[.int .i64 0, .int .i64 0] 44))
            have BB : Hid (Below V.heap.size V (wB.alloc (.cells #[.int .i64 0, .int .i64 0] 44))) := BB.out.alloc BB.out.size _
            refine HK.out _ _ (untilS_all ⟨(BB.out.cell (p := ⟨w.heap.size, 0, none⟩) hwV).trans HK0.out, trivial⟩ _) ?_
            clear HK K hS; intro hS
            (try simp only [Act.put, List.setIfInBounds_toArray, List.set_cons_zero, List.set_cons_succ])
            refine wpAnyG_only (i := 6) (o := ?oi6ccac) (by kernel_rfl) ?hi6ccac hc ?rest6ccac
            case hi6ccac => (simp only [List.getElem?_toArray, List.getElem?_cons_succ, List.getElem?_cons_zero]; exact rfl)
            clear hc; intro hc K hK; have HK := Lib.hid hK; clear hK
            go_simp
            refine (likeness_any aA (colM m i) cA aB (colM m j) cB _ (colM_all HHV.out hil) (colM_all HHV.out hjl) (by rw [colM_length, colM_length]) (by rw [colM_length]; omega) SLA.out SLB.out).mono ?_
            rintro e wC ⟨hb, rfl⟩
            (try dsimp only)
            rw [HR.out]
            have RT := Lib.hid (And.intro (RT.out.1.later hb RT.out.2.2) (And.intro RT.out.2.1 (Nat.lt_of_lt_of_le RT.out.2.2 hb.size)))
            have BB := Lib.hid (BB.out.trans (hb.mono BB.out.size))
            clear hb
            refine HK.out _ _ (untilS_all ⟨(BB.out.cell (p := ⟨w.heap.size, 0, none⟩) hwV).trans HK0.out, trivial⟩ _) ?_
            clear HK K hS; intro hS
            (try simp only [Act.put, List.setIfInBounds_toArray, List.set_cons_zero, List.set_cons_succ])
            refine wpAnyG_take (i := 7) (oi := ?oi7ccac) (v := ?v7ccac) ?hi7ccac (by kernel_rfl) (by kernel_rfl) (by kernel_rfl) ?hQ7ccac (untilS_set (by decide)) hc ?hy7ccac hS ?rest7ccac
            case hi7ccac => (simp only [List.getElem?_toArray, List.getElem?_cons_succ, List.getElem?_cons_zero]; exact rfl)
            case hQ7ccac => exact fun _ _ _ h => h
            case hy7ccac => (refine Or.inl ⟨rfl, ?_⟩; (intro w _; go_simp; (try with_reducible rfl)))
            clear hc hS; intro hc hS
            simp only [Act.put, List.setIfInBounds_toArray, List.set_cons_zero, List.set_cons_succ]
            refine wpAnyG_take (i := 8) (oi := ?oi8ccac) (v := ?v8ccac) ?hi8ccac (by kernel_rfl) (by kernel_rfl) (by kernel_rfl) ?hQ8ccac (untilS_set (by decide)) hc ?hy8ccac hS ?rest8ccac
            case hi8ccac => (simp only [List.getElem?_toArray, List.getElem?_cons_succ, List.getElem?_cons_zero]; exact rfl)
            case hQ8ccac => exact fun _ _ _ h => h
            case hy8ccac => (refine Or.inl ⟨rfl, ?_⟩; (intro w _; go_simp; (try with_reducible rfl)))
            clear hc hS; intro hc hS
            simp only [Act.put, List.setIfInBounds_toArray, List.set_cons_zero, List.set_cons_succ]
            refine wpAnyG_take (i := 9) (oi := ?oi9ccac) (v := ?v9ccac) ?hi9ccac (by kernel_rfl) (by kernel_rfl) (by kernel_rfl) ?hQ9ccac (untilS_set (by decide)) hc ?hy9ccac hS ?rest9ccac
            case hi9ccac => (simp only [List.getElem?_toArray, List.getElem?_cons_succ, List.getElem?_cons_zero]; exact rfl)
            case hQ9ccac => exact fun _ _ _ h => h
            case hy9ccac => (refine Or.inl ⟨rfl, ?_⟩; (intro w _; go_simp; (try with_reducible rfl)))
            clear hc hS; intro hc hS
            simp only [Act.put, List.setIfInBounds_toArray, List.set_cons_zero, List.set_cons_succ]
            refine wpAnyG_only (i := 11) (o := ?oi11ccac) (by kernel_rfl) ?hi11ccac hc ?rest11ccac
            case hi11ccac => (simp only [List.getElem?_toArray, List.getElem?_cons_succ, List.getElem?_cons_zero]; exact rfl)
            clear hc; intro hc K hK; have HK := Lib.hid hK; clear hK
            obtain ⟨q0, q1, q2, q3⟩ := RT.out.1
            go_simp
            have BT := Lib.hid (RT.out.1.over R.1.1 R.1.2)
            have BB := Lib.hid ((BB.out.setCell (p := ⟨wB.heap.size, 0, none⟩) RT.out.2.1 (.int .i64 R.1.1)).setCell (p := ⟨wB.heap.size, 1, none⟩) RT.out.2.1 (.int .i64 R.1.2))
            refine HK.out _ _ (untilS_all ⟨(BB.out.cell (p := ⟨w.heap.size, 0, none⟩) hwV).trans HK0.out, trivial⟩ _) ?_
            clear HK K hS; intro hS
            (try simp only [Act.put, List.setIfInBounds_toArray, List.set_cons_zero, List.set_cons_succ])
            refine wpAnyG_take (i := 12) (oi := ?oi12ccac) (v := ?v12ccac) ?hi12ccac (by kernel_rfl) (by kernel_rfl) (by kernel_rfl) ?hQ12ccac (untilS_set (by decide)) hc ?hy12ccac hS ?rest12ccac
            case hi12ccac => (simp only [List.getElem?_toArray, List.getElem?_cons_succ, List.getElem?_cons_zero]; exact rfl)
            case hQ12ccac => exact fun _ _ _ h => h
            case hy12ccac => (refine Or.inl ⟨rfl, ?_⟩; (intro w _; go_simp; (try with_reducible rfl)))
            clear hc hS; intro hc hS
            simp only [Act.put, List.setIfInBounds_toArray, List.set_cons_zero, List.set_cons_succ]
            refine wpAnyG_done (by kernel_rfl) ?_ _
            clear hc hS
            exact key _ _ _ _ ⟨BT.out, RT.out.2.1, by rw [World.size_setCell, World.size_setCell]; exact RT.out.2.2, BB.out⟩
        case gcz =>
          clear hc; intro hc K hK; have HK := Lib.hid hK; clear hK
          go_simp
          have BBp := BB
          have RT : Hid (FBox wA.heap.size 0 0 (wA.alloc (.cells #[.int .i64 0, .int .i64 0] 44)) ∧ V.heap.size ≤ wA.heap.size ∧ wA.heap.size < (wA.alloc (.cells #[.int .i64 0, .int .i64 0] 44)).heap.size) := ⟨FBox.made wA 0 0 _ rfl, BB.out.size, by rw [World.size_alloc]; exact Nat.lt_succ_self _⟩
          have SLA := Lib.hid (SLA.out.alloc (.cells #[.int .i64 0, .int .i64 0] 44))
          have BB : Hid (Below V.heap.size V (wA.alloc (.cells #[.int .i64 0, .int .i64 0] 44))) := BB.out.alloc BB.out.size _
          refine HK.out _ _ (untilS_all ⟨(BB.out.cell (p := ⟨w.heap.size, 0, none⟩) hwV).trans HK0.out, trivial⟩ _) ?_
          clear HK K hS; intro hS
          (try simp only [Act.put, List.setIfInBounds_toArray, List.set_cons_zero, List.set_cons_succ])
          refine wpAnyG_only (i := 5) (o := ?oi5cac) (by kernel_rfl) ?hi5cac hc ?rest5cac
          case hi5cac => (simp only [List.getElem?_toArray, List.getElem?_cons_succ, List.getElem?_cons_zero]; exact rfl)
          clear hc; intro hc K hK; have HK := Lib.hid hK; clear hK
          go_simp
          refine (mcolumn_any (some ⟨b, o, none⟩) m cap j _ HHV.out hjl (HS.out.below (HBW.out.trans (BB.out.mono HBW.out.size)))).mono ?_
          rintro e wB ⟨hb, aB, cB, rfl, sl⟩
          (try dsimp only)
          have RT := Lib.hid (And.intro (RT.out.1.later hb RT.out.2.2) (And.intro RT.out.2.1 (Nat.lt_of_lt_of_le RT.out.2.2 hb.size)))
          have SLA := Lib.hid (SLA.out.below hb)
          have SLB := Lib.hid sl
          have BB := Lib.hid (BB.out.trans (hb.mono BB.out.size))
          clear hb sl
          refine HK.out _ _ (untilS_all ⟨(BB.out.cell (p := ⟨w.heap.size, 0, none⟩) hwV).trans HK0.out, trivial⟩ _) ?_
          clear HK K hS; intro hS
          (try simp only [Act.put, List.setIfInBounds_toArray, List.set_cons_zero, List.set_cons_succ])
          refine wpAnyG_only (i := 6) (o := ?oi6cacc) (by kernel_rfl) ?hi6cacc hc ?rest6cacc
          case hi6cacc => (simp only [List.getElem?_toArray, List.getElem?_cons_succ, List.getElem?_cons_zero]; exact rfl)
          clear hc; intro hc K hK; have HK := Lib.hid hK; clear hK
          go_simp
          refine (likeness_any aA (colM m i) cA aB (colM m j) cB _ (colM_all HHV.out hil) (colM_all HHV.out hjl) (by rw [colM_length, colM_length]) (by rw [colM_length]; omega) SLA.out SLB.out).mono ?_
          rintro e wC ⟨hb, rfl⟩
          (try dsimp only)
          rw [HR.out]
          have RT := Lib.hid (And.intro (RT.out.1.later hb RT.out.2.2) (And.intro RT.out.2.1 (Nat.lt_of_lt_of_le RT.out.2.2 hb.size)))
          have BB := Lib.hid (BB.out.trans (hb.mono BB.out.size))
          clear hb
          refine HK.out _ _ (untilS_all ⟨(BB.out.cell (p := ⟨w.heap.size, 0, none⟩) hwV).trans HK0.out, trivial⟩ _) ?_
          clear HK K hS; intro hS
          (try simp only [Act.put, List.setIfInBounds_toArray, List.set_cons_zero, List.set_cons_succ])
          refine wpAnyG_take (i := 7) (oi := ?oi7cacc) (v := ?v7cacc) ?hi7cacc (by kernel_rfl) (by kernel_rfl) (by kernel_rfl) ?hQ7cacc (untilS_set (by decide)) hc ?hy7cacc hS ?rest7cacc
          case hi7cacc => (simp only [List.getElem?_toArray, List.getElem?_cons_succ, List.getElem?_cons_zero]; exact rfl)
          case hQ7cacc => exact fun _ _ _ h => h
          case hy7cacc => (refine Or.inl ⟨rfl, ?_⟩; (intro w _; go_simp; (try with_reducible rfl)))
          clear hc hS; intro hc hS
          simp only [Act.put, List.setIfInBounds_toArray, List.set_cons_zero, List.set_cons_succ]
          refine wpAnyG_take (i := 8) (oi := ?oi8cacc) (v := ?v8cacc) ?hi8cacc (by kernel_rfl) (by kernel_rfl) (by kernel_rfl) ?hQ8cacc (untilS_set (by decide)) hc ?hy8cacc hS ?rest8cacc
          case hi8cacc => (simp only [List.getElem?_toArray, List.getElem?_cons_succ, List.getElem?_cons_zero]; exact rfl)
          case hQ8cacc => exact fun _ _ _ h => h
          case hy8cacc => (refine Or.inl ⟨rfl, ?_⟩; (intro w _; go_simp; (try with_reducible rfl)))
          clear hc hS; intro hc hS
          simp only [Act.put, List.setIfInBounds_toArray, List.set_cons_zero, List.set_cons_succ]
          refine wpAnyG_take (i := 9) (oi := ?oi9cacc) (v := ?v9cacc) ?hi9cacc (by kernel_rfl) (by kernel_rfl) (by kernel_rfl) ?hQ9cacc (untilS_set (by decide)) hc ?hy9cacc hS ?rest9cacc
          case hi9cacc => (simp only [List.getElem?_toArray, List.getElem?_cons_succ, List.getElem?_cons_zero]; exact rfl)
          case hQ9cacc => exact fun _ _ _ h => h
          case hy9cacc => (refine Or.inl ⟨rfl, ?_⟩; (intro w _; go_simp; (try with_reducible rfl)))
          clear hc hS; intro hc hS
          simp only [Act.put, List.setIfInBounds_toArray, List.set_cons_zero, List.set_cons_succ]
          refine wpAnyG_only (i := 11) (o := ?oi11cacc) (by kernel_rfl) ?hi11cacc hc ?rest11cacc
          case hi11cacc => (simp only [List.getElem?_toArray, List.getElem?_cons_succ, List.getElem?_cons_zero]; exact rfl)
          clear hc; intro hc K hK; have HK := Lib.hid hK; clear hK
          obtain ⟨q0, q1, q2, q3⟩ := RT.out.1
          go_simp
          have BT := Lib.hid (RT.out.1.over R.1.1 R.1.2)
          have BB := Lib.hid ((BB.out.setCell (p := ⟨wA.heap.size, 0, none⟩) RT.out.2.1 (.int .i64 R.1.1)).setCell (p := ⟨wA.heap.size, 1, none⟩) RT.out.2.1 (.int .i64 R.1.2))
          refine HK.out _ _ (untilS_all ⟨(BB.out.cell (p := ⟨w.heap.size, 0, none⟩) hwV).trans HK0.out, trivial⟩ _) ?_
          clear HK K hS; intro hS
          (try simp only [Act.put, List.setIfInBounds_toArray, List.set_cons_zero, List.set_cons_succ])
          refine wpAnyG_take (i := 12) (oi := ?oi12cacc) (v := ?v12cacc) ?hi12cacc (by kernel_rfl) (by kernel_rfl) (by kernel_rfl) ?hQ12cacc (untilS_set (by decide)) hc ?hy12cacc hS ?rest12cacc
          case hi12cacc => (simp only [List.getElem?_toArray, List.getElem?_cons_succ, List.getElem?_cons_zero]; exact rfl)
          case hQ12cacc => exact fun _ _ _ h => h
          case hy12cacc => (refine Or.inl ⟨rfl, ?_⟩; (intro w _; go_simp; (try with_reducible rfl)))
          clear hc hS; intro hc hS
          simp only [Act.put, List.setIfInBounds_toArray, List.set_cons_zero, List.set_cons_succ]
          refine wpAnyG_done (by kernel_rfl) ?_ _
          clear hc hS
          exact key _ _ _ _ ⟨BT.out, RT.out.2.1, by rw [World.size_setCell, World.size_setCell]; exact RT.out.2.2, BB.out⟩
      case gz =>
        clear hc; intro hc K hK; have HK := Lib.hid hK; clear hK
        go_simp
        have BBp := BB
        have RT : Hid (FBox V.heap.size 0 0 (V.drew.alloc (.cells #[.int .i64 0, .int .i64 0] 44)) ∧ V.heap.size ≤ V.heap.size ∧ V.heap.size < (V.drew.alloc (.cells #[.int .i64 0, .int .i64 0] 44)).heap.size) := ⟨FBox.made V.drew 0 0 _ rfl, BB.out.size, by rw [World.size_alloc]; exact Nat.lt_succ_self _⟩
        have BB : Hid (Below V.heap.size V (V.drew.alloc (.cells #[.int .i64 0, .int .i64 0] 44))) := BB.out.alloc BB.out.size _
        refine HK.out _ _ (untilS_all ⟨(BB.out.cell (p := ⟨w.heap.size, 0, none⟩) hwV).trans HK0.out, trivial⟩ _) ?_
        clear HK K hS; intro hS
        (try simp only [Act.put, List.setIfInBounds_toArray, List.set_cons_zero, List.set_cons_succ])
        refine wpAnyG_only (i := 2) (o := ?oi2ac) (by kernel_rfl) ?hi2ac hc ?rest2ac
        case hi2ac => (simp only [List.getElem?_toArray, List.getElem?_cons_succ, List.getElem?_cons_zero]; exact rfl)
        clear hc; intro hc K hK; have HK := Lib.hid hK; clear hK
        go_simp
        refine (mcolumn_any (some ⟨b, o, none⟩) m cap i _ HHV.out hil (HS.out.below (HBW.out.trans (BB.out.mono HBW.out.size)))).mono ?_
        rintro e wA ⟨hb, aA, cA, rfl, sl⟩
        (try dsimp only)
        have RT := Lib.hid (And.intro (RT.out.1.later hb RT.out.2.2) (And.intro RT.out.2.1 (Nat.lt_of_lt_of_le RT.out.2.2 hb.size)))
        have SLA := Lib.hid sl
        have BB := Lib.hid (BB.out.trans (hb.mono BB.out.size))
        clear hb sl
        refine HK.out _ _ (untilS_all ⟨(BB.out.cell (p := ⟨w.heap.size, 0, none⟩) hwV).trans HK0.out, trivial⟩ _) ?_
        clear HK K hS; intro hS
        (try simp only [Act.put, List.setIfInBounds_toArray, List.set_cons_zero, List.set_cons_succ])
        refine wpAnyG_only (i := 5) (o := ?oi5acc) (by kernel_rfl) ?hi5acc hc ?rest5acc
        case hi5acc => (simp only [List.getElem?_toArray, List.getElem?_cons_succ, List.getElem?_cons_zero]; exact rfl)
        clear hc; intro hc K hK; have HK := Lib.hid hK; clear hK
        go_simp
        refine (mcolumn_any (some ⟨b, o, none⟩) m cap j _ HHV.out hjl (HS.out.below (HBW.out.trans (BB.out.mono HBW.out.size)))).mono ?_
        rintro e wB ⟨hb, aB, cB, rfl, sl⟩
        (try dsimp only)
        have RT := Lib.hid (And.intro (RT.out.1.later hb RT.out.2.2) (And.intro RT.out.2.1 (Nat.lt_of_lt_of_le RT.out.2.2 hb.size)))
        have SLA := Lib.hid (SLA.out.below hb)
        have SLB := Lib.hid sl
        have BB := Lib.hid (BB.out.trans (hb.mono BB.out.size))
        clear hb sl
        refine HK.out _ _ (untilS_all ⟨(BB.out.cell (p := ⟨w.heap.size, 0, none⟩) hwV).trans HK0.out, trivial⟩ _) ?_
        clear HK K hS; intro hS
        (try simp only [Act.put, List.setIfInBounds_toArray, List.set_cons_zero, List.set_cons_succ])
        refine wpAnyG_only (i := 6) (o := ?oi6accc) (by kernel_rfl) ?hi6accc hc ?rest6accc
        case hi6accc => (simp only [List.getElem?_toArray, List.getElem?_cons_succ, List.getElem?_cons_zero]; exact rfl)
        clear hc; intro hc K hK; have HK := Lib.hid hK; clear hK
        go_simp
        refine (likeness_any aA (colM m i) cA aB (colM m j) cB _ (colM_all HHV.out hil) (colM_all HHV.out hjl) (by rw [colM_length, colM_length]) (by rw [colM_length]; omega) SLA.out SLB.out).mono ?_
        rintro e wC ⟨hb, rfl⟩
        (try dsimp only)
        rw [HR.out]
        have RT := Lib.hid (And.intro (RT.out.1.later hb RT.out.2.2) (And.intro RT.out.2.1 (Nat.lt_of_lt_of_le RT.out.2.2 hb.size)))
        have BB := Lib.hid (BB.out.trans (hb.mono BB.out.size))
        clear hb
        refine HK.out _ _ (untilS_all ⟨(BB.out.cell (p := ⟨w.heap.size, 0, none⟩) hwV).trans HK0.out, trivial⟩ _) ?_
        clear HK K hS; intro hS
        (try simp only [Act.put, List.setIfInBounds_toArray, List.set_cons_zero, List.set_cons_succ])
        refine wpAnyG_take (i := 7) (oi := ?oi7accc) (v := ?v7accc) ?hi7accc (by kernel_rfl) (by kernel_rfl) (by kernel_rfl) ?hQ7accc (untilS_set (by decide)) hc ?hy7accc hS ?rest7accc
        case hi7accc => (simp only [List.getElem?_toArray, List.getElem?_cons_succ, List.getElem?_cons_zero]; exact rfl)
        case hQ7accc => exact fun _ _ _ h => h
        case hy7accc => (refine Or.inl ⟨rfl, ?_⟩; (intro w _; go_simp; (try with_reducible rfl)))
        clear hc hS; intro hc hS
        simp only [Act.put, List.setIfInBounds_toArray, List.set_cons_zero, List.set_cons_succ]
        refine wpAnyG_take (i := 8) (oi := ?oi8accc) (v := ?v8accc) ?hi8accc (by kernel_rfl) (by kernel_rfl) (by kernel_rfl) ?hQ8accc (untilS_set (by decide)) hc ?hy8accc hS ?rest8accc
        case hi8accc => (simp only [List.getElem?_toArray, List.getElem?_cons_succ, List.getElem?_cons_zero]; exact rfl)
        case hQ8accc => exact fun _ _ _ h => h
        case hy8accc => (refine Or.inl ⟨rfl, ?_⟩; (intro w _; go_simp; (try with_reducible rfl)))
        clear hc hS; intro hc hS
        simp only [Act.put, List.setIfInBounds_toArray, List.set_cons_zero, List.set_cons_succ]
        refine wpAnyG_take (i := 9) (oi := ?oi9accc) (v := ?v9accc) ?hi9accc (by kernel_rfl) (by kernel_rfl) (by kernel_rfl) ?hQ9accc (untilS_set (by decide)) hc ?hy9accc hS ?rest9accc
        case hi9accc => (simp only [List.getElem?_toArray, List.getElem?_cons_succ, List.getElem?_cons_zero]; exact rfl)
        case hQ9accc => exact fun _ _ _ h => h
        case hy9accc => (refine Or.inl ⟨rfl, ?_⟩; (intro w _; go_simp; (try with_reducible rfl)))
        clear hc hS; intro hc hS
        simp only [Act.put, List.setIfInBounds_toArray, List.set_cons_zero, List.set_cons_succ]
        refine wpAnyG_only (i := 11) (o := ?oi11accc) (by kernel_rfl) ?hi11accc hc ?rest11accc
        case hi11accc => (simp only [List.getElem?_toArray, List.getElem?_cons_succ, List.getElem?_cons_zero]; exact rfl)
        clear hc; intro hc K hK; have HK := Lib.hid hK; clear hK
        obtain ⟨q0, q1, q2, q3⟩ := RT.out.1
        go_simp
        have BT := Lib.hid (RT.out.1.over R.1.1 R.1.2)
        have BB := Lib.hid ((BB.out.setCell (p := ⟨V.heap.size, 0, none⟩) RT.out.2.1 (.int .i64 R.1.1)).setCell (p := ⟨V.heap.size, 1, none⟩) RT.out.2.1 (.int .i64 R.1.2))
        refine HK.out _ _ (untilS_all ⟨(BB.out.cell (p := ⟨w.heap.size, 0, none⟩) hwV).trans HK0.out, trivial⟩ _) ?_
        clear HK K hS; intro hS
        (try simp only [Act.put, List.setIfInBounds_toArray, List.set_cons_zero, List.set_cons_succ])
        refine wpAnyG_take (i := 12) (oi := ?oi12accc) (v := ?v12accc) ?hi12accc (by kernel_rfl) (by kernel_rfl) (by kernel_rfl) ?hQ12accc (untilS_set (by decide)) hc ?hy12accc hS ?rest12accc
        case hi12accc => (simp only [List.getElem?_toArray, List.getElem?_cons_succ, List.getElem?_cons_zero]; exact rfl)
        case hQ12accc => exact fun _ _ _ h => h
        case hy12accc => (refine Or.inl ⟨rfl, ?_⟩; (intro w _; go_simp; (try with_reducible rfl)))
        clear hc hS; intro hc hS
        simp only [Act.put, List.setIfInBounds_toArray, List.set_cons_zero, List.set_cons_succ]
        refine wpAnyG_done (by kernel_rfl) ?_ _
        clear hc hS
        exact key _ _ _ _ ⟨BT.out, RT.out.2.1, by rw [World.size_setCell, World.size_setCell]; exact RT.out.2.2, BB.out⟩
    case keyg =>
      intro W T v27 v30 HF
      have HIW := Lib.hid (HI.out.later HF.out.2.2.2 HI.out.gv)
      have KO := Lib.hid (keepsOthers_below HF.out.2.2.2)
      have HKM : Hid (keepM (w1.heap.size + 1) b o V W) := ⟨HF.out.2.2.2.cell (p := ⟨w1.heap.size + 1, 0, none⟩) (by show w1.heap.size + 1 < _; have := HI.out.gv; omega), HF.out.2.2.2.cell (p := ⟨b, o, none⟩) (by show b < _; omega)⟩
      have HGB := Lib.hid (best_in HHV.out pre HI.out.good)
      have HBG : Hid (b < w1.heap.size) := by show b < _; have := HG.out; omega
      have HTG : Hid (w1.heap.size < T) := by show _ < T; have h1 := HF.out.2.1; have h2 := HI.out.gv; omega
      obtain ⟨z0, z1, z2, z3, z4, z5, z6, z7, -⟩ := HIW.out.boxes
      by_cases hre : R.2 = 0
      · have hin := likeC_in (colM_all HHV.out hil) (colM_all HHV.out hjl) (by rw [colM_length, colM_length]) (by rw [colM_length]; omega) (by rw [HR.out]; exact hre)
        rw [HR.out] at hin
        obtain ⟨⟨rn, rd⟩, re⟩ := R
        dsimp only at hre hin
        subst hre
        obtain ⟨⟨gn, gd⟩, hbest⟩ : ∃ g, bestL (pre.map fun x => (likeP m x).1) = g := ⟨_, rfl⟩
        have hgb := HGB.out
        rw [hbest] at hgb
        dsimp only at hgb
        have HBE := Lib.hid hbest
        obtain ⟨q0, q1, q2, q3⟩ := HF.out.1
        obtain ⟨p0, p1, p2, p3⟩ := HIW.out.best
        rw [hbest] at p0 p1
        dsimp only at p0 p1 q0 q1
        clear hbest
        have hm1' := mul_in (a := rn) (b := gd) ⟨hin.1.1, hin.2.1⟩ ⟨by omega, hgb.2.2.2⟩
        have hm2' := mul_in (a := gn) (b := rd) ⟨hgb.1, hgb.2.1⟩ ⟨by have h : 1 ≤ rd := hin.1.2.1; omega, hin.2.2.1⟩
        have M1 : Hid (wrap64 (rn * gd) = rn * gd) := IntWalk.wrap64_in _ (by omega)
        have M2 : Hid (wrap64 (gn * rd) = gn * rd) := IntWalk.wrap64_in _ (by omega)
        clear hin hgb hm1' hm2' HGB
        have HSN : Hid (bestL ((pre ++ [(⟨(i, j), hij, hj⟩ : PN (colsM m))]).map fun x => (likeP m x).1) = if gn * rd < rn * gd then (rn, rd) else (gn, gd)) := by
          show _ = _
          rw [List.map_append, List.map_singleton, bestL_snoc, HBE.out, HRR.out]; rfl
        have HGD : Hid (∀ x ∈ pre ++ [(⟨(i, j), hij, hj⟩ : PN (colsM m))], (likeP m x).2 = 0) := fun x hx => by
          rcases List.mem_append.1 hx with h | h
          · exact HI.out.good x h
          · obtain rfl : x = ⟨(i, j), hij, hj⟩ := by simpa using h
            rw [HRR.out]
        have m1' := M1.out
        have m2' := M2.out
        by_cases hlt : gn * rd < rn * gd
        · gi_wp2
          refine ⟨KO.out.trans ((KeepsOthers.setCell _ _ _).trans (KeepsOthers.setCell _ _ _)), ⟨(cell_other _ _ _ _ (by show w1.heap.size + 1 ≠ w1.heap.size; omega)).trans ((cell_other _ _ _ _ (by show w1.heap.size + 1 ≠ w1.heap.size; omega)).trans HKM.out.1), (cell_other _ _ _ _ (by show b ≠ w1.heap.size; have := HBG.out; omega)).trans ((cell_other _ _ _ _ (by show b ≠ w1.heap.size; have := HBG.out; omega)).trans HKM.out.2)⟩, HGD.out, ?_, HIW.out.boxes.later (((Below.refl (w.heap.size + 3) W).setCell (p := ⟨w1.heap.size, 0, none⟩) HG.out _).setCell (p := ⟨w1.heap.size, 1, none⟩) HG.out _) (Nat.le_refl _), (cell_other _ _ _ _ (by show w1.heap.size + 1 ≠ w1.heap.size; omega)).trans ((cell_other _ _ _ _ (by show w1.heap.size + 1 ≠ w1.heap.size; omega)).trans HIW.out.box2), HG.out, by rw [World.size_setCell, World.size_setCell]; exact HIW.out.gv⟩
          rw [HSN.out, if_pos hlt]
          exact HIW.out.best.over rn rd
        · gi_wp2
          refine ⟨KO.out, HKM.out, HGD.out, ?_, HIW.out.boxes, HIW.out.box2, HG.out, HIW.out.gv⟩
          rw [HSN.out, if_neg (Int.not_lt.2 hlt)]
          have h := HIW.out.best
          rw [HBE.out] at h
          exact h
      · obtain rfl : R = ((0, 0), 8) := by
          have h := likeC_err (a := colM m i) (b := colM m j) (by rw [HR.out]; exact hre)
          rw [HR.out] at h; exact h
        have HBD : Hid (badP m (colsM m) = true) := by
          show badP m (colsM m) = true
          unfold badP
          rw [List.any_eq_true]
          exact ⟨⟨(i, j), hij, hj⟩, mem_upPN _, by rw [HRR.out]; rfl⟩
        clear hre
        gi_wp2
        exact ⟨KO.out.trans ((KeepsOthers.setCell _ _ _).trans ((KeepsOthers.setCell _ _ _).trans (KeepsOthers.setCell _ _ _))), rfl, HIW.out.boxes.stored 0 0 8, by rw [World.size_setCell, World.size_setCell, World.size_setCell]; exact z7, HBD.out⟩

/-- **Coherence**: what layer 2 returns; nothing older is written. -/
theorem coherence_any (a : Option Addr) (m : List (List Int)) (cap : Nat) (w : World) (hm : MOk m) (hs : Ms w a m) :
    Calls Try.prog 23 #[.slice a m.length cap] w (QPost (cohV m) w) := callsIn_wide.1 (coherence_in a m cap w 4 (Nat.le_refl _) hm hs)
end Go.Proofs.Ytacbciamehchjaa
