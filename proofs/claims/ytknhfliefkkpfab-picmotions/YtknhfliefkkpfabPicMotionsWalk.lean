
/- PicMotions returns true: the walk. -/
import Derived.Test.YtknhfliefkkpfabOpen
import Derived.Test.YtknhfliefkkpfabRTur
import Derived.Test.YtknhfliefkkpfabHalf
import Derived.Test.YtknhfliefkkpfabRHalf
import Derived.Test.YtknhfliefkkpfabAwk
import Derived.Test.YtknhfliefkkpfabLong
import Derived.Test.YtknhfliefkkpfabSums1
namespace Go.Proofs.Ytknhfliefkkpfab
open Go.RowKit

theorem turnV_len (q : Nat) (wide high : Int) (xs : List Int) : (turnV q wide high xs).1.2.2.length ≤ 256 := by
  unfold turnV
  split
  · exact Nat.zero_le _
  · rename_i h
    have hv : validPicB wide high xs = true := by simpa using h
    obtain ⟨w0, w1, g0, g1, _, _⟩ := validPic_of hv
    show (movedL _ _ _ _).length ≤ 256
    rw [movedL_len]
    exact Nat.mul_le_mul (show wide.toNat ≤ 16 by omega) (show high.toNat ≤ 16 by omega)
theorem halfV_len (wide high : Int) (xs : List Int) : (halfV wide high xs).1.2.2.length ≤ 256 := by
  unfold halfV
  split
  · exact Nat.zero_le _
  · rename_i h
    have hv : validPicB wide high xs = true := by simpa using h
    obtain ⟨w0, w1, g0, g1, _, _⟩ := validPic_of hv
    split
    · exact Nat.zero_le _
    · show (halfL _ _ _).length ≤ 256
      rw [halfL_len]
      exact Nat.mul_le_mul (show wide.toNat / 2 ≤ 16 by omega) (show high.toNat / 2 ≤ 16 by omega)
theorem sl_far3 {w : World} {a : Option Addr} {xs : List Int} (h : Sl w a xs) {A : Nat} (hA : ∀ ad, a = some ad → ad.block ≠ A) (x y z : Value) : Sl (((w.setCell ⟨A, 0, none⟩ x).setCell ⟨A, 1, none⟩ y).setCell ⟨A, 2, none⟩ z) a xs := by
  intro k hk
  obtain ⟨b, off, rfl, hc⟩ := h k hk
  have hb : b ≠ A := hA _ rfl
  exact ⟨b, off, rfl, (cell_other _ _ _ _ hb).trans ((cell_other _ _ _ _ hb).trans ((cell_other _ _ _ _ hb).trans hc))⟩
theorem frozen_set (w : World) (p a : Addr) (v : Value) : (w.setCell p v).frozen? a = w.frozen? a := by simp
theorem PBox.far3 {O A : Nat} {wd hg : Int} {v : Value} {W : World} (h : PBox O wd hg v W) (hA : O ≠ A) (x y z : Value) : PBox O wd hg v (((W.setCell ⟨A, 0, none⟩ x).setCell ⟨A, 1, none⟩ y).setCell ⟨A, 2, none⟩ z) :=
  have k : ∀ o, (((W.setCell ⟨A, 0, none⟩ x).setCell ⟨A, 1, none⟩ y).setCell ⟨A, 2, none⟩ z).cell? ⟨O, o, none⟩ = W.cell? ⟨O, o, none⟩ := fun o => (cell_other _ _ _ _ hA).trans ((cell_other _ _ _ _ hA).trans (cell_other _ _ _ _ hA))
  have f : ∀ o, (((W.setCell ⟨A, 0, none⟩ x).setCell ⟨A, 1, none⟩ y).setCell ⟨A, 2, none⟩ z).frozen? ⟨O, o, none⟩ = W.frozen? ⟨O, o, none⟩ := fun o => by rw [frozen_set, frozen_set, frozen_set]
  ⟨(k 0).trans h.o0, (k 1).trans h.o1, (k 2).trans h.o2, (f 0).trans h.f0, (f 1).trans h.f1, (f 2).trans h.f2⟩
theorem size_far3 (W : World) (A : Nat) (x y z : Value) : (((W.setCell ⟨A, 0, none⟩ x).setCell ⟨A, 1, none⟩ y).setCell ⟨A, 2, none⟩ z).heap.size = W.heap.size := by
  rw [World.size_setCell, World.size_setCell, World.size_setCell]
/-- The argument's box, and those of two pictures that were made. -/
structure TwoP (w : World) (wd hg : Int) (v : Value) (A B : Nat) (V : World) : Prop where
  arg : PBox w.heap.size wd hg v V
  below : Below w.heap.size w V
  a0 : w.heap.size < A
  ab : A < B
  size : B < V.heap.size
theorem TwoP.next {w V V' : World} {wd hg : Int} {v : Value} {A B : Nat} (h : TwoP w wd hg v A B V) (hb : Below V.heap.size V V') : TwoP w wd hg v A B V' :=
  have h1 := h.a0
  have h2 := h.ab
  have h3 := h.size
  ⟨h.arg.later hb (by omega), h.below.trans (hb.mono (by omega)), h1, h2, Nat.lt_of_lt_of_le h3 hb.size⟩
end Go.Proofs.Ytknhfliefkkpfab
namespace Go.Proofs.Ytknhfliefkkpfab.picMotions
open Go.RowKit
set_option linter.unusedVariables false

set_option maxRecDepth 100000 in
set_option maxHeartbeats 1000000 in
theorem walk (wd0 hg0 : Int) (b0 : Option Addr) (xs0 : List Int) (c0 : Nat) (m1 : Int) (w : World) (rw0 : I64 wd0) (rh0 : I64 hg0) (h0 : Sl w b0 xs0) (l0 : xs0.length ≤ 9223372036854775807) (r0 : ∀ x ∈ xs0, I64 x) (r1 : I64 m1) :
    Calls Try.prog 4 #[.agg #[.int .i64 wd0, .int .i64 hg0, .slice b0 xs0.length c0], .int .i64 m1] w fun e w' => e = .returned (.bool true) ∧ Below w.heap.size w w' := by
  have H0 := Lib.hid h0; clear h0
  have R1 := Lib.hid r1; clear r0 r1
  have hsz : (w.alloc (.cells #[.int .i64 wd0, .int .i64 hg0, .slice b0 xs0.length c0] 24)).heap.size = w.heap.size + 1 := World.size_alloc _ _
  have KP : Hid (PBox w.heap.size wd0 hg0 (.slice b0 xs0.length c0) ((w.alloc (.cells #[.int .i64 wd0, .int .i64 hg0, .slice b0 xs0.length c0] 24)).alloc (.cells #[.slice b0 xs0.length c0] 22)) ∧ Below w.heap.size w ((w.alloc (.cells #[.int .i64 wd0, .int .i64 hg0, .slice b0 xs0.length c0] 24)).alloc (.cells #[.slice b0 xs0.length c0] 22)) ∧ w.heap.size + 2 ≤ ((w.alloc (.cells #[.int .i64 wd0, .int .i64 hg0, .slice b0 xs0.length c0] 24)).alloc (.cells #[.slice b0 xs0.length c0] 22)).heap.size) :=
    ⟨(PBox.made _ _ _ _ _ rfl).later (.alloc (Below.refl (w.heap.size + 1) _) (by rw [hsz]; exact Nat.le_refl _) _) (Nat.lt_succ_self _), .alloc (.alloc (Below.refl _ _) (Nat.le_refl _) _) (by rw [hsz]; exact Nat.le_succ _) _, by rw [World.size_alloc, hsz]; exact Nat.le_refl _⟩
  clear hsz
  cases hL : decide (600 < xs0.length)
  case true =>
    have HL := Lib.hid hL; clear hL
    go_enter Try.func4, Try.ntmps4
    go_wp2_with fail
    refine (long1 b0 xs0.length c0 _ _ (by simp) _ l0).mono ?_
    rintro e w1 ⟨rfl, rfl⟩
    rw [HL.out]
    go_wp2_with (go_at_call 10; refine (awake_any _).mono ?_; rintro e w1 ⟨rfl, hb⟩)
    go_ret
    exact ⟨rfl, KP.out.2.1.trans (hb.mono KP.out.2.1.size)⟩
  case false =>
    have hs0 : xs0.length ≤ 600 := by simpa using hL
    have HL := Lib.hid hL; clear hL
    go_enter Try.func4, Try.ntmps4
    go_wp2_with fail
    refine (long1 b0 xs0.length c0 _ _ (by simp) _ l0).mono ?_
    rintro e w1 ⟨rfl, rfl⟩
    rw [HL.out]
    generalize (w.alloc (.cells #[.int .i64 wd0, .int .i64 hg0, .slice b0 xs0.length c0] 24)).alloc (.cells #[.slice b0 xs0.length c0] 22) = V at *
    obtain ⟨p0, p1, p2, _, _, _⟩ := KP.out.1
    go_wp2_with fail
    -- a, e := Turned
    refine (turned_any wd0 hg0 b0 xs0 c0 m1 R1.out.1 R1.out.2 _ (by omega) (H0.out.below KP.out.2.1)).mono ?_
    rintro e v1 ⟨hb1, a1, k1, rfl, s1, -⟩
    have la := turnV_len (m1 % 4).toNat wd0 hg0 xs0
    obtain ⟨⟨⟨p, q, r⟩, f⟩, hr⟩ : ∃ r, turnV (m1 % 4).toNat wd0 hg0 xs0 = r := ⟨_, rfl⟩
    rw [hr] at s1 la ⊢
    dsimp only at s1 la ⊢
    have HR := Lib.hid hr; clear hr
    have K1 : Hid (PBox w.heap.size wd0 hg0 (.slice b0 xs0.length c0) v1 ∧ Below w.heap.size w v1 ∧ w.heap.size + 2 ≤ v1.heap.size) := ⟨KP.out.1.later hb1 (by have := KP.out.2.2; omega), KP.out.2.1.trans (hb1.mono KP.out.2.1.size), Nat.le_trans KP.out.2.2 hb1.size⟩
    have S1 := Lib.hid s1; clear s1 hb1 p0 p1 p2 KP
    have UA : Hid (PBox v1.heap.size p q (.slice a1 r.length k1) (v1.alloc (.cells #[.int .i64 p, .int .i64 q, .slice a1 r.length k1] 24)) ∧ PBox w.heap.size wd0 hg0 (.slice b0 xs0.length c0) (v1.alloc (.cells #[.int .i64 p, .int .i64 q, .slice a1 r.length k1] 24)) ∧ Below w.heap.size w (v1.alloc (.cells #[.int .i64 p, .int .i64 q, .slice a1 r.length k1] 24)) ∧ v1.heap.size + 1 ≤ (v1.alloc (.cells #[.int .i64 p, .int .i64 q, .slice a1 r.length k1] 24)).heap.size ∧ Sl (v1.alloc (.cells #[.int .i64 p, .int .i64 q, .slice a1 r.length k1] 24)) a1 r) :=
      ⟨PBox.made _ _ _ _ _ rfl, K1.out.1.later (.alloc (Below.refl v1.heap.size v1) (Nat.le_refl _) _) (by have := K1.out.2.2; omega), K1.out.2.1.trans (.alloc (Below.refl _ _) K1.out.2.1.size _), by rw [World.size_alloc]; exact Nat.le_refl _, S1.out.alloc _⟩
    obtain ⟨p0, p1, p2, _, _, _⟩ := UA.out.2.1
    go_wp2_with fail
    generalize v1.alloc (.cells #[.int .i64 p, .int .i64 q, .slice a1 r.length k1] 24) = U1 at *
    -- b, f := the answers' Turned
    refine (rturned_any wd0 hg0 b0 xs0 c0 m1 R1.out.1 R1.out.2 _ (by omega) (H0.out.below UA.out.2.2.1)).mono ?_
    rintro e v2 ⟨hb2, a2, k2, rfl, s2, -⟩
    rw [HR.out] at s2 ⊢
    dsimp only at s2 ⊢
    have KA2 := Lib.hid (UA.out.1.later hb2 UA.out.2.2.2.1)
    have S1' := Lib.hid (UA.out.2.2.2.2.below hb2)
    have K2 : Hid (PBox w.heap.size wd0 hg0 (.slice b0 xs0.length c0) v2 ∧ Below w.heap.size w v2 ∧ v1.heap.size + 1 ≤ v2.heap.size ∧ w.heap.size + 2 ≤ v1.heap.size) := ⟨UA.out.2.1.later hb2 (by have := UA.out.2.2.2.1; have := K1.out.2.2; omega), UA.out.2.2.1.trans (hb2.mono UA.out.2.2.1.size), Nat.le_trans UA.out.2.2.2.1 hb2.size, K1.out.2.2⟩
    have S2 := Lib.hid s2; clear s2 hb2 p0 p1 p2 UA K1 S1
    have UB : Hid (PBox v2.heap.size p q (.slice a2 r.length k2) (v2.alloc (.cells #[.int .i64 p, .int .i64 q, .slice a2 r.length k2] 24)) ∧ PBox v1.heap.size p q (.slice a1 r.length k1) (v2.alloc (.cells #[.int .i64 p, .int .i64 q, .slice a2 r.length k2] 24)) ∧ TwoP w wd0 hg0 (.slice b0 xs0.length c0) v1.heap.size v2.heap.size (v2.alloc (.cells #[.int .i64 p, .int .i64 q, .slice a2 r.length k2] 24)) ∧ Sl (v2.alloc (.cells #[.int .i64 p, .int .i64 q, .slice a2 r.length k2] 24)) a1 r ∧ Sl (v2.alloc (.cells #[.int .i64 p, .int .i64 q, .slice a2 r.length k2] 24)) a2 r) := by
      have hk := K2.out.2.2
      have hbl : Below v2.heap.size v2 (v2.alloc (.cells #[.int .i64 p, .int .i64 q, .slice a2 r.length k2] 24)) := .alloc (Below.refl v2.heap.size v2) (Nat.le_refl _) _
      exact ⟨PBox.made _ _ _ _ _ rfl, KA2.out.later hbl (by omega), ⟨K2.out.1.later hbl (by omega), K2.out.2.1.trans (hbl.mono (by omega)), by omega, by omega, by rw [World.size_alloc]; exact Nat.lt_succ_self _⟩, S1'.out.alloc _, S2.out.alloc _⟩
    obtain ⟨p0, p1, p2, _, _, _⟩ := UB.out.2.2.1.arg
    obtain ⟨g0, g1, g2, g3, g4, g5⟩ := UB.out.2.1
    obtain ⟨h0, h1, h2, h3, h4, h5⟩ := UB.out.1
    go_wp2_with fail
    generalize v2.alloc (.cells #[.int .i64 p, .int .i64 q, .slice a2 r.length k2] 24) = U2 at *
    obtain ⟨A, hA⟩ : ∃ A, v1.heap.size = A := ⟨_, rfl⟩
    obtain ⟨B, hB⟩ : ∃ B, v2.heap.size = B := ⟨_, rfl⟩
    rw [hA, hB] at UB
    rw [hA, hB]
    clear KA2 S1' K2 S2 p0 p1 p2 g0 g1 g2 g3 g4 g5 h0 h1 h2 h3 h4 h5 hA hB
    refine (same_any p q a1 r k1 a2 k2 _ (by omega) UB.out.2.2.2.1 UB.out.2.2.2.2).mono ?_
    rintro e v3 ⟨rfl, hb3⟩
    have KK : Hid (TwoP w wd0 hg0 (.slice b0 xs0.length c0) A B v3 ∧ PBox A p q (.slice a1 r.length k1) v3 ∧ PBox B p q (.slice a2 r.length k2) v3) := ⟨UB.out.2.2.1.next hb3, UB.out.2.1.later hb3 (by have := UB.out.2.2.1; have := this.ab; have := UB.out.2.2.1.size; omega), UB.out.1.later hb3 UB.out.2.2.1.size⟩
    clear UB hb3
    have E1 : (f == f) = true := by simp
    have E2 : (f != f) = false := by simp
    obtain ⟨p0, p1, p2, _, _, _⟩ := KK.out.1.arg
    go_wp2_with fail
    clear E1 E2
    refine (mirrored_any wd0 hg0 b0 xs0 c0 _ (by omega) (H0.out.below KK.out.1.below)).mono ?_
    rintro e x3 ⟨hb, a3, k3, rfl, s1, fr1⟩
    have la := turnV_len 4 wd0 hg0 xs0
    obtain ⟨⟨⟨p3, q3, r3⟩, f3⟩, hr⟩ : ∃ r, turnV 4 wd0 hg0 xs0 = r := ⟨_, rfl⟩
    rw [hr] at s1 la ⊢
    dsimp only at s1 la ⊢
    have HR3 := Lib.hid hr; clear hr
    have KK3 : Hid (TwoP w wd0 hg0 (.slice b0 xs0.length c0) A B x3 ∧ PBox A p q (.slice a1 r.length k1) x3 ∧ PBox B p q (.slice a2 r.length k2) x3) := ⟨KK.out.1.next hb, KK.out.2.1.later hb (Nat.lt_trans KK.out.1.ab KK.out.1.size), KK.out.2.2.later hb KK.out.1.size⟩
    have hfr : ∀ ad, a3 = some ad → ad.block ≠ A ∧ ad.block ≠ B := fun ad e => by have h1 := fr1 ad e; have h2 := KK.out.1.ab; have h3 := KK.out.1.size; omega
    have S1 := Lib.hid s1
    have HFR := Lib.hid hfr
    clear s1 fr1 hfr hb p0 p1 p2 KK
    have QA : Hid (TwoP w wd0 hg0 (.slice b0 xs0.length c0) A B (((x3.setCell ⟨A, 0, none⟩ (.int .i64 p3)).setCell ⟨A, 1, none⟩ (.int .i64 q3)).setCell ⟨A, 2, none⟩ (.slice a3 r3.length k3)) ∧ PBox A p3 q3 (.slice a3 r3.length k3) (((x3.setCell ⟨A, 0, none⟩ (.int .i64 p3)).setCell ⟨A, 1, none⟩ (.int .i64 q3)).setCell ⟨A, 2, none⟩ (.slice a3 r3.length k3)) ∧ PBox B p q (.slice a2 r.length k2) (((x3.setCell ⟨A, 0, none⟩ (.int .i64 p3)).setCell ⟨A, 1, none⟩ (.int .i64 q3)).setCell ⟨A, 2, none⟩ (.slice a3 r3.length k3)) ∧ Sl (((x3.setCell ⟨A, 0, none⟩ (.int .i64 p3)).setCell ⟨A, 1, none⟩ (.int .i64 q3)).setCell ⟨A, 2, none⟩ (.slice a3 r3.length k3)) a3 r3) := by
      have h1 := KK3.out.1.a0
      have h2 := KK3.out.1.ab
      refine ⟨⟨KK3.out.1.arg.far3 (by omega) _ _ _, ((KK3.out.1.below.setCell (p := ⟨A, 0, none⟩) (by show _ ≤ A; omega) _).setCell (p := ⟨A, 1, none⟩) (by show _ ≤ A; omega) _).setCell (p := ⟨A, 2, none⟩) (by show _ ≤ A; omega) _, h1, h2, by rw [size_far3]; exact KK3.out.1.size⟩, KK3.out.2.1.over _ _ _, KK3.out.2.2.far3 (by omega) _ _ _, sl_far3 S1.out (fun ad e => (HFR.out ad e).1) _ _ _⟩
    obtain ⟨g0, g1, g2, g3, g4, g5⟩ := KK3.out.2.1
    obtain ⟨p0, p1, p2, _, _, _⟩ := QA.out.1.arg
    go_wp2_with fail
    generalize ((x3.setCell ⟨A, 0, none⟩ (.int .i64 p3)).setCell ⟨A, 1, none⟩ (.int .i64 q3)).setCell ⟨A, 2, none⟩ (.slice a3 r3.length k3) = W3 at *
    clear g0 g1 g2 g3 g4 g5 KK3 S1
    refine (rmirrored_any wd0 hg0 b0 xs0 c0 _ (by omega) (H0.out.below QA.out.1.below)).mono ?_
    rintro e y3 ⟨hb, b3, l3, rfl, s2, fr2⟩
    rw [HR3.out] at s2 ⊢
    dsimp only at s2 ⊢
    have KL3 : Hid (TwoP w wd0 hg0 (.slice b0 xs0.length c0) A B y3 ∧ PBox A p3 q3 (.slice a3 r3.length k3) y3 ∧ PBox B p q (.slice a2 r.length k2) y3 ∧ Sl y3 a3 r3) := ⟨QA.out.1.next hb, QA.out.2.1.later hb (Nat.lt_trans QA.out.1.ab QA.out.1.size), QA.out.2.2.1.later hb QA.out.1.size, QA.out.2.2.2.below hb⟩
    have hfr2 : ∀ ad, b3 = some ad → ad.block ≠ B := fun ad e => by have h1 := fr2 ad e; have h3 := QA.out.1.size; omega
    have S2 := Lib.hid s2
    have HFR2 := Lib.hid hfr2
    clear s2 fr2 hfr2 hb p0 p1 p2 QA
    have QB : Hid (TwoP w wd0 hg0 (.slice b0 xs0.length c0) A B (((y3.setCell ⟨B, 0, none⟩ (.int .i64 p3)).setCell ⟨B, 1, none⟩ (.int .i64 q3)).setCell ⟨B, 2, none⟩ (.slice b3 r3.length l3)) ∧ PBox A p3 q3 (.slice a3 r3.length k3) (((y3.setCell ⟨B, 0, none⟩ (.int .i64 p3)).setCell ⟨B, 1, none⟩ (.int .i64 q3)).setCell ⟨B, 2, none⟩ (.slice b3 r3.length l3)) ∧ PBox B p3 q3 (.slice b3 r3.length l3) (((y3.setCell ⟨B, 0, none⟩ (.int .i64 p3)).setCell ⟨B, 1, none⟩ (.int .i64 q3)).setCell ⟨B, 2, none⟩ (.slice b3 r3.length l3)) ∧ Sl (((y3.setCell ⟨B, 0, none⟩ (.int .i64 p3)).setCell ⟨B, 1, none⟩ (.int .i64 q3)).setCell ⟨B, 2, none⟩ (.slice b3 r3.length l3)) a3 r3 ∧ Sl (((y3.setCell ⟨B, 0, none⟩ (.int .i64 p3)).setCell ⟨B, 1, none⟩ (.int .i64 q3)).setCell ⟨B, 2, none⟩ (.slice b3 r3.length l3)) b3 r3) := by
      have h1 := KL3.out.1.a0
      have h2 := KL3.out.1.ab
      exact ⟨⟨KL3.out.1.arg.far3 (by omega) _ _ _, ((KL3.out.1.below.setCell (p := ⟨B, 0, none⟩) (by show _ ≤ B; omega) _).setCell (p := ⟨B, 1, none⟩) (by show _ ≤ B; omega) _).setCell (p := ⟨B, 2, none⟩) (by show _ ≤ B; omega) _, h1, h2, by rw [size_far3]; exact KL3.out.1.size⟩, KL3.out.2.1.far3 (by omega) _ _ _, KL3.out.2.2.1.over _ _ _, sl_far3 KL3.out.2.2.2 (fun ad e => (HFR.out ad e).2) _ _ _, sl_far3 S2.out (fun ad e => HFR2.out ad e) _ _ _⟩
    obtain ⟨g0, g1, g2, g3, g4, g5⟩ := KL3.out.2.2.1
    obtain ⟨h0, h1, h2, h3, h4, h5⟩ := QB.out.2.1
    obtain ⟨i0, i1, i2, i3, i4, i5⟩ := QB.out.2.2.1
    go_wp2_with fail
    generalize ((y3.setCell ⟨B, 0, none⟩ (.int .i64 p3)).setCell ⟨B, 1, none⟩ (.int .i64 q3)).setCell ⟨B, 2, none⟩ (.slice b3 r3.length l3) = Y3 at *
    clear g0 g1 g2 g3 g4 g5 h0 h1 h2 h3 h4 h5 i0 i1 i2 i3 i4 i5 KL3 S2 HFR HFR2 HR3
    refine (same_any p3 q3 a3 r3 k3 b3 l3 _ (by omega) QB.out.2.2.2.1 QB.out.2.2.2.2).mono ?_
    rintro e z3 ⟨rfl, hb⟩
    have KK : Hid (TwoP w wd0 hg0 (.slice b0 xs0.length c0) A B z3 ∧ PBox A p3 q3 (.slice a3 r3.length k3) z3 ∧ PBox B p3 q3 (.slice b3 r3.length l3) z3) := ⟨QB.out.1.next hb, QB.out.2.1.later hb (Nat.lt_trans QB.out.1.ab QB.out.1.size), QB.out.2.2.1.later hb QB.out.1.size⟩
    clear QB hb la
    have E1 : (f3 == f3) = true := by simp
    have E2 : (f3 != f3) = false := by simp
    obtain ⟨p0, p1, p2, _, _, _⟩ := KK.out.1.arg
    go_wp2_with fail
    clear E1 E2
    refine (halved_any wd0 hg0 b0 xs0 c0 _ (by omega) (H0.out.below KK.out.1.below)).mono ?_
    rintro e x5 ⟨hb, a5, k5, rfl, s1, fr1⟩
    have la := halfV_len wd0 hg0 xs0
    obtain ⟨⟨⟨p5, q5, r5⟩, f5⟩, hr⟩ : ∃ r, halfV wd0 hg0 xs0 = r := ⟨_, rfl⟩
    rw [hr] at s1 la ⊢
    dsimp only at s1 la ⊢
    have HR5 := Lib.hid hr; clear hr
    have KK5 : Hid (TwoP w wd0 hg0 (.slice b0 xs0.length c0) A B x5 ∧ PBox A p3 q3 (.slice a3 r3.length k3) x5 ∧ PBox B p3 q3 (.slice b3 r3.length l3) x5) := ⟨KK.out.1.next hb, KK.out.2.1.later hb (Nat.lt_trans KK.out.1.ab KK.out.1.size), KK.out.2.2.later hb KK.out.1.size⟩
    have hfr : ∀ ad, a5 = some ad → ad.block ≠ A ∧ ad.block ≠ B := fun ad e => by have h1 := fr1 ad e; have h2 := KK.out.1.ab; have h3 := KK.out.1.size; omega
    have S1 := Lib.hid s1
    have HFR := Lib.hid hfr
    clear s1 fr1 hfr hb p0 p1 p2 KK
    have QA : Hid (TwoP w wd0 hg0 (.slice b0 xs0.length c0) A B (((x5.setCell ⟨A, 0, none⟩ (.int .i64 p5)).setCell ⟨A, 1, none⟩ (.int .i64 q5)).setCell ⟨A, 2, none⟩ (.slice a5 r5.length k5)) ∧ PBox A p5 q5 (.slice a5 r5.length k5) (((x5.setCell ⟨A, 0, none⟩ (.int .i64 p5)).setCell ⟨A, 1, none⟩ (.int .i64 q5)).setCell ⟨A, 2, none⟩ (.slice a5 r5.length k5)) ∧ PBox B p3 q3 (.slice b3 r3.length l3) (((x5.setCell ⟨A, 0, none⟩ (.int .i64 p5)).setCell ⟨A, 1, none⟩ (.int .i64 q5)).setCell ⟨A, 2, none⟩ (.slice a5 r5.length k5)) ∧ Sl (((x5.setCell ⟨A, 0, none⟩ (.int .i64 p5)).setCell ⟨A, 1, none⟩ (.int .i64 q5)).setCell ⟨A, 2, none⟩ (.slice a5 r5.length k5)) a5 r5) := by
      have h1 := KK5.out.1.a0
      have h2 := KK5.out.1.ab
      refine ⟨⟨KK5.out.1.arg.far3 (by omega) _ _ _, ((KK5.out.1.below.setCell (p := ⟨A, 0, none⟩) (by show _ ≤ A; omega) _).setCell (p := ⟨A, 1, none⟩) (by show _ ≤ A; omega) _).setCell (p := ⟨A, 2, none⟩) (by show _ ≤ A; omega) _, h1, h2, by rw [size_far3]; exact KK5.out.1.size⟩, KK5.out.2.1.over _ _ _, KK5.out.2.2.far3 (by omega) _ _ _, sl_far3 S1.out (fun ad e => (HFR.out ad e).1) _ _ _⟩
    obtain ⟨g0, g1, g2, g3, g4, g5⟩ := KK5.out.2.1
    obtain ⟨p0, p1, p2, _, _, _⟩ := QA.out.1.arg
    go_wp2_with fail
    generalize ((x5.setCell ⟨A, 0, none⟩ (.int .i64 p5)).setCell ⟨A, 1, none⟩ (.int .i64 q5)).setCell ⟨A, 2, none⟩ (.slice a5 r5.length k5) = W5 at *
    clear g0 g1 g2 g3 g4 g5 KK5 S1
    refine (rhalved_any wd0 hg0 b0 xs0 c0 _ (by omega) (H0.out.below QA.out.1.below)).mono ?_
    rintro e y5 ⟨hb, b5, l5, rfl, s2, fr2⟩
    rw [HR5.out] at s2 ⊢
    dsimp only at s2 ⊢
    have KL5 : Hid (TwoP w wd0 hg0 (.slice b0 xs0.length c0) A B y5 ∧ PBox A p5 q5 (.slice a5 r5.length k5) y5 ∧ PBox B p3 q3 (.slice b3 r3.length l3) y5 ∧ Sl y5 a5 r5) := ⟨QA.out.1.next hb, QA.out.2.1.later hb (Nat.lt_trans QA.out.1.ab QA.out.1.size), QA.out.2.2.1.later hb QA.out.1.size, QA.out.2.2.2.below hb⟩
    have hfr2 : ∀ ad, b5 = some ad → ad.block ≠ B := fun ad e => by have h1 := fr2 ad e; have h3 := QA.out.1.size; omega
    have S2 := Lib.hid s2
    have HFR2 := Lib.hid hfr2
    clear s2 fr2 hfr2 hb p0 p1 p2 QA
    have QB : Hid (TwoP w wd0 hg0 (.slice b0 xs0.length c0) A B (((y5.setCell ⟨B, 0, none⟩ (.int .i64 p5)).setCell ⟨B, 1, none⟩ (.int .i64 q5)).setCell ⟨B, 2, none⟩ (.slice b5 r5.length l5)) ∧ PBox A p5 q5 (.slice a5 r5.length k5) (((y5.setCell ⟨B, 0, none⟩ (.int .i64 p5)).setCell ⟨B, 1, none⟩ (.int .i64 q5)).setCell ⟨B, 2, none⟩ (.slice b5 r5.length l5)) ∧ PBox B p5 q5 (.slice b5 r5.length l5) (((y5.setCell ⟨B, 0, none⟩ (.int .i64 p5)).setCell ⟨B, 1, none⟩ (.int .i64 q5)).setCell ⟨B, 2, none⟩ (.slice b5 r5.length l5)) ∧ Sl (((y5.setCell ⟨B, 0, none⟩ (.int .i64 p5)).setCell ⟨B, 1, none⟩ (.int .i64 q5)).setCell ⟨B, 2, none⟩ (.slice b5 r5.length l5)) a5 r5 ∧ Sl (((y5.setCell ⟨B, 0, none⟩ (.int .i64 p5)).setCell ⟨B, 1, none⟩ (.int .i64 q5)).setCell ⟨B, 2, none⟩ (.slice b5 r5.length l5)) b5 r5) := by
      have h1 := KL5.out.1.a0
      have h2 := KL5.out.1.ab
      exact ⟨⟨KL5.out.1.arg.far3 (by omega) _ _ _, ((KL5.out.1.below.setCell (p := ⟨B, 0, none⟩) (by show _ ≤ B; omega) _).setCell (p := ⟨B, 1, none⟩) (by show _ ≤ B; omega) _).setCell (p := ⟨B, 2, none⟩) (by show _ ≤ B; omega) _, h1, h2, by rw [size_far3]; exact KL5.out.1.size⟩, KL5.out.2.1.far3 (by omega) _ _ _, KL5.out.2.2.1.over _ _ _, sl_far3 KL5.out.2.2.2 (fun ad e => (HFR.out ad e).2) _ _ _, sl_far3 S2.out (fun ad e => HFR2.out ad e) _ _ _⟩
    obtain ⟨g0, g1, g2, g3, g4, g5⟩ := KL5.out.2.2.1
    obtain ⟨h0, h1, h2, h3, h4, h5⟩ := QB.out.2.1
    obtain ⟨i0, i1, i2, i3, i4, i5⟩ := QB.out.2.2.1
    go_wp2_with fail
    generalize ((y5.setCell ⟨B, 0, none⟩ (.int .i64 p5)).setCell ⟨B, 1, none⟩ (.int .i64 q5)).setCell ⟨B, 2, none⟩ (.slice b5 r5.length l5) = Y5 at *
    clear g0 g1 g2 g3 g4 g5 h0 h1 h2 h3 h4 h5 i0 i1 i2 i3 i4 i5 KL5 S2 HFR HFR2 HR5
    refine (same_any p5 q5 a5 r5 k5 b5 l5 _ (by omega) QB.out.2.2.2.1 QB.out.2.2.2.2).mono ?_
    rintro e z5 ⟨rfl, hb⟩
    have KK : Hid (TwoP w wd0 hg0 (.slice b0 xs0.length c0) A B z5 ∧ PBox A p5 q5 (.slice a5 r5.length k5) z5 ∧ PBox B p5 q5 (.slice b5 r5.length l5) z5) := ⟨QB.out.1.next hb, QB.out.2.1.later hb (Nat.lt_trans QB.out.1.ab QB.out.1.size), QB.out.2.2.1.later hb QB.out.1.size⟩
    clear QB hb la
    have E1 : (f5 == f5) = true := by simp
    have E2 : (f5 != f5) = false := by simp
    obtain ⟨p0, p1, p2, _, _, _⟩ := KK.out.1.arg
    go_wp2_with (go_at_call 10; refine (awake_any _).mono ?_; rintro e v7 ⟨rfl, hb⟩)
    go_ret
    exact ⟨rfl, KK.out.1.below.trans (hb.mono KK.out.1.below.size)⟩
end Go.Proofs.Ytknhfliefkkpfab.picMotions
