/- PicValid returns true: the walk. -/
import Derived.Test.YtibopjfmcdcgbaaOpen
import Derived.Test.YtibopjfmcdcgbaaLong
import Derived.Test.YtibopjfmcdcgbaaRound
import Derived.Test.YtibopjfmcdcgbaaAwk
namespace Go.Proofs.Ytibopjfmcdcgbaa.picValid
open Go.RowKit
set_option linter.unusedVariables false

set_option maxRecDepth 100000 in
theorem walk (wd0 hg0 : Int) (b0 : Option Addr) (xs0 : List Int) (c0 : Nat) (b1 : Option Addr) (xs1 : List Int) (c1 : Nat) (x2 y2 : Int) (w : World) (rw0 : I64 wd0) (rh0 : I64 hg0) (h0 : Sl w b0 xs0) (l0 : xs0.length ≤ 9223372036854775807) (r0 : ∀ x ∈ xs0, I64 x) (h1 : Sl w b1 xs1) (l1 : xs1.length ≤ 9223372036854775807) (r1 : ∀ x ∈ xs1, I64 x) (rx2 : I64 x2) (ry2 : I64 y2) :
    Calls Try.prog 3 #[.agg #[.int .i64 wd0, .int .i64 hg0, .slice b0 xs0.length c0], .slice b1 xs1.length c1, .agg #[.int .i64 x2, .int .i64 y2]] w fun e w' => e = .returned (.bool true) ∧ Below w.heap.size w w' := by
  have H0 := Lib.hid h0; clear h0
  have H1 := Lib.hid h1; clear h1
  have R0 := Lib.hid r0; clear r0
  have R1 := Lib.hid r1; clear r1
  have RW := Lib.hid rw0; clear rw0
  have RH := Lib.hid rh0; clear rh0
  have RX := Lib.hid rx2; clear rx2
  have RY := Lib.hid ry2; clear ry2
  cases hL : (decide (600 < xs0.length) || decide (600 < xs1.length))
  case true =>
    have HL := Lib.hid hL; clear hL
    go_enter Try.func3, Try.ntmps3
    go_wp2_with fail
    refine (long2 b0 xs0.length c0 b1 xs1.length c1 _ _ (by simp) _ l0 l1).mono ?_
    rintro e w1 ⟨rfl, rfl⟩
    rw [HL.out]
    go_wp2_with (go_at_call 14; refine (awake_any _).mono ?_; rintro e w1 ⟨rfl, hb⟩)
    go_ret
    refine ⟨rfl, (Below.trans (.alloc (.alloc (.alloc (Below.refl w.heap.size w) (Nat.le_refl _) _) ?_ _) ?_ _) (hb.mono ?_))⟩ <;> simp <;> omega
  case false =>
    have hs : xs0.length ≤ 600 ∧ xs1.length ≤ 600 := by simp at hL; omega
    have hs0 := hs.1
    have hs1 := hs.2
    clear hs
    have HL := Lib.hid hL; clear hL
    obtain ⟨rx0, rx1⟩ := RX.out
    obtain ⟨ry0, ry1⟩ := RY.out
    go_enter Try.func3, Try.ntmps3
    go_wp2_with fail
    refine (long2 b0 xs0.length c0 b1 xs1.length c1 _ _ (by simp) _ l0 l1).mono ?_
    rintro e w1 ⟨rfl, rfl⟩
    rw [HL.out]
    go_wp2_with fail
    obtain ⟨hx0, hx1, hx2⟩ := two_boxes w #[.int .i64 wd0, .int .i64 hg0, .slice b0 xs0.length c0] #[.int .i64 x2, .int .i64 y2] #[.slice b0 xs0.length c0, .slice b1 xs1.length c1] 24 25 22
    generalize hV : (((w.alloc (.cells #[.int .i64 wd0, .int .i64 hg0, .slice b0 xs0.length c0] 24)).alloc (.cells #[.int .i64 x2, .int .i64 y2] 25)).alloc (.cells #[.slice b0 xs0.length c0, .slice b1 xs1.length c1] 22)) = V at *
    clear hV
    refine (at_any wd0 hg0 b0 xs0 c0 x2 y2 _ (by omega) (H0.out.below hx2) rx0 rx1 ry0 ry1).mono ?_
    rintro e V1 ⟨rfl, hb⟩
    have hp := (PicIn.mk hx0 hx2).next hb
    have hy := hx1.next hb
    clear hx0 hx1 hx2 hb V
    obtain ⟨p0, p1, p2, hp3⟩ := hp
    have p3 := hy.2 0 _ rfl
    have p4 := hy.2 1 _ rfl
    have HY := Lib.hid hy; clear hy
    have HL := HL; have RX := RX
    go_wp2_with fail
    refine (rat_any wd0 hg0 b0 xs0 c0 x2 y2 _ (by omega) (H0.out.below hp3.out.2) rx0 rx1 ry0 ry1).mono ?_
    rintro e V2 ⟨rfl, hb⟩
    have hp := (PicIn.mk hp3.out.1 hp3.out.2).next hb
    clear p0 p1 p2 p3 p4 HY hb hp3 V1
    go_wp2_with fail
    generalize atV wd0 hg0 xs0 x2 y2 = at0
    refine wp_region_G (S := fun _ V => PicIn w w.heap.size (.int .i64 wd0) (.int .i64 hg0) (.slice b0 xs0.length c0) V) (by kernel_rfl) hp.drew ?_
    clear hp
    intro hc hS
    refine wpAnyG_take (i := 0) (oi := ?oi5x0) (v := ?v5x0) ?hi5x0 (by kernel_rfl) (by kernel_rfl) (by kernel_rfl) ?hQ5x0 (fun _ _ => Iff.rfl) hc ?hy5x0 hS ?rest5x0
    case hi5x0 => (simp only [List.getElem?_toArray, List.getElem?_cons_zero]; exact rfl)
    case hQ5x0 => exact fun _ _ _ h => h
    case hy5x0 => (refine Or.inl ⟨rfl, ?_⟩; (rintro w ⟨L, _, _, q0, q1, q2, q3⟩; go_simp; (try with_reducible rfl)))
    clear hc hS; intro hc hS
    simp only [Act.put, List.setIfInBounds_toArray, List.set_cons_zero, List.set_cons_succ]
    refine wpAnyG_take (i := 2) (oi := ?oi5x2) (v := ?v5x2) ?hi5x2 (by kernel_rfl) (by kernel_rfl) (by kernel_rfl) ?hQ5x2 (fun _ _ => Iff.rfl) hc ?hy5x2 hS ?rest5x2
    case hi5x2 => (simp only [List.getElem?_toArray, List.getElem?_cons_succ, List.getElem?_cons_zero]; exact rfl)
    case hQ5x2 => exact fun _ _ _ h => h
    case hy5x2 => (refine Or.inl ⟨rfl, ?_⟩; (rintro w ⟨L, _, _, q0, q1, q2, q3⟩; go_simp; (try with_reducible rfl)))
    clear hc hS; intro hc hS
    simp only [Act.put, List.setIfInBounds_toArray, List.set_cons_zero, List.set_cons_succ]
    refine wpAnyG_only (i := 1) (o := ?oi1) (by kernel_rfl) ?hi1 hc ?rest1
    case hi1 => (simp only [List.getElem?_toArray, List.getElem?_cons_succ, List.getElem?_cons_zero]; exact rfl)
    clear hc; intro hc K hK; have HK := Lib.hid hK; clear hK
    go_simp
    refine (valid_any wd0 hg0 b0 xs0 c0 _ (by omega) (H0.out.below hS.below)).mono ?_
    rintro e w4 ⟨rfl, hb⟩
    refine HK.out _ _ (hS.next hb) ?_
    clear HK K hS hb; intro hS
    refine wpAnyG_only (i := 3) (o := ?oi3) (by kernel_rfl) ?hi3 hc ?rest3
    case hi3 => (simp only [List.getElem?_toArray, List.getElem?_cons_succ, List.getElem?_cons_zero]; exact rfl)
    clear hc; intro hc K hK; have HK := Lib.hid hK; clear hK
    go_simp
    refine (rvalid_any wd0 hg0 b0 xs0 c0 _ (by omega) (H0.out.below hS.below)).mono ?_
    rintro e w4 ⟨rfl, hb⟩
    refine HK.out _ _ (hS.next hb) ?_
    clear HK K hS hb; intro hS
    refine wpAnyG_take (i := 4) (oi := ?oi5x4) (v := ?v5x4) ?hi5x4 (by kernel_rfl) (by kernel_rfl) (by kernel_rfl) ?hQ5x4 (fun _ _ => Iff.rfl) hc ?hy5x4 hS ?rest5x4
    case hi5x4 => (simp only [List.getElem?_toArray, List.getElem?_cons_succ, List.getElem?_cons_zero]; exact rfl)
    case hQ5x4 => exact fun _ _ _ h => h
    case hy5x4 => (refine Or.inl ⟨rfl, ?_⟩; (intro w _; go_simp; (try with_reducible rfl)))
    clear hc hS; intro hc hS
    simp only [Act.put, List.setIfInBounds_toArray, List.set_cons_zero, List.set_cons_succ]
    refine wpAnyG_take (i := 5) (oi := ?oi5x5) (v := ?v5x5) ?hi5x5 (by kernel_rfl) (by kernel_rfl) (by kernel_rfl) ?hQ5x5 (fun _ _ => Iff.rfl) hc ?hy5x5 hS ?rest5x5
    case hi5x5 => (simp only [List.getElem?_toArray, List.getElem?_cons_succ, List.getElem?_cons_zero]; exact rfl)
    case hQ5x5 => exact fun _ _ _ h => h
    case hy5x5 => (refine Or.inl ⟨rfl, ?_⟩; (intro w _; go_simp; (try with_reducible rfl)))
    clear hc hS; intro hc hS
    simp only [Act.put, List.setIfInBounds_toArray, List.set_cons_zero, List.set_cons_succ]
    refine wpAnyG_take (i := 6) (oi := ?oi5x6) (v := ?v5x6) ?hi5x6 (by kernel_rfl) (by kernel_rfl) (by kernel_rfl) ?hQ5x6 (fun _ _ => Iff.rfl) hc ?hy5x6 hS ?rest5x6
    case hi5x6 => (simp only [List.getElem?_toArray, List.getElem?_cons_succ, List.getElem?_cons_zero]; exact rfl)
    case hQ5x6 => exact fun _ _ _ h => h
    case hy5x6 => (refine Or.inl ⟨rfl, ?_⟩; (intro w _; go_simp; (try with_reducible rfl)))
    clear hc hS; intro hc hS
    simp only [Act.put, List.setIfInBounds_toArray, List.set_cons_zero, List.set_cons_succ]
    refine wpAnyG_take (i := 8) (oi := ?oi5x8) (v := ?v5x8) ?hi5x8 (by kernel_rfl) (by kernel_rfl) (by kernel_rfl) ?hQ5x8 (fun _ _ => Iff.rfl) hc ?hy5x8 hS ?rest5x8
    case hi5x8 => (simp only [List.getElem?_toArray, List.getElem?_cons_succ, List.getElem?_cons_zero]; exact rfl)
    case hQ5x8 => exact fun _ _ _ h => h
    case hy5x8 => (refine Or.inl ⟨rfl, ?_⟩; (intro w _; go_simp; (try with_reducible rfl)))
    clear hc hS; intro hc hS
    simp only [Act.put, List.setIfInBounds_toArray, List.set_cons_zero, List.set_cons_succ]
    refine wpAnyG_only (i := 7) (o := ?oi7) (by kernel_rfl) ?hi7 hc ?rest7
    case hi7 => (simp only [List.getElem?_toArray, List.getElem?_cons_succ, List.getElem?_cons_zero]; exact rfl)
    clear hc; intro hc K hK; have HK := Lib.hid hK; clear hK
    go_simp
    refine (validList_any b1 xs1 c1 _ (by omega) (H1.out.below hS.below)).mono ?_
    rintro e w4 ⟨rfl, hb⟩
    refine HK.out _ _ (hS.next hb) ?_
    clear HK K hS hb; intro hS
    refine wpAnyG_only (i := 9) (o := ?oi9) (by kernel_rfl) ?hi9 hc ?rest9
    case hi9 => (simp only [List.getElem?_toArray, List.getElem?_cons_succ, List.getElem?_cons_zero]; exact rfl)
    clear hc; intro hc K hK; have HK := Lib.hid hK; clear hK
    go_simp
    refine (rvalidList_any b1 xs1 c1 _ (by omega) (H1.out.below hS.below)).mono ?_
    rintro e w4 ⟨rfl, rfl⟩
    refine HK.out _ _ (hS) ?_
    clear HK K hS ; intro hS
    refine wpAnyG_take (i := 10) (oi := ?oi5x10) (v := ?v5x10) ?hi5x10 (by kernel_rfl) (by kernel_rfl) (by kernel_rfl) ?hQ5x10 (fun _ _ => Iff.rfl) hc ?hy5x10 hS ?rest5x10
    case hi5x10 => (simp only [List.getElem?_toArray, List.getElem?_cons_succ, List.getElem?_cons_zero]; exact rfl)
    case hQ5x10 => exact fun _ _ _ h => h
    case hy5x10 => (refine Or.inl ⟨rfl, ?_⟩; (intro w _; go_simp; (try with_reducible rfl)))
    clear hc hS; intro hc hS
    simp only [Act.put, List.setIfInBounds_toArray, List.set_cons_zero, List.set_cons_succ]
    refine wpAnyG_take (i := 11) (oi := ?oi5x11) (v := ?v5x11) ?hi5x11 (by kernel_rfl) (by kernel_rfl) (by kernel_rfl) ?hQ5x11 (fun _ _ => Iff.rfl) hc ?hy5x11 hS ?rest5x11
    case hi5x11 => (simp only [List.getElem?_toArray, List.getElem?_cons_succ, List.getElem?_cons_zero]; exact rfl)
    case hQ5x11 => exact fun _ _ _ h => h
    case hy5x11 => (refine Or.inl ⟨rfl, ?_⟩; (intro w _; go_simp; (try with_reducible rfl)))
    clear hc hS; intro hc hS
    simp only [Act.put, List.setIfInBounds_toArray, List.set_cons_zero, List.set_cons_succ]
    refine wpAnyG_take (i := 12) (oi := ?oi5x12) (v := ?v5x12) ?hi5x12 (by kernel_rfl) (by kernel_rfl) (by kernel_rfl) ?hQ5x12 (fun _ _ => Iff.rfl) hc ?hy5x12 hS ?rest5x12
    case hi5x12 => (simp only [List.getElem?_toArray, List.getElem?_cons_succ, List.getElem?_cons_zero]; exact rfl)
    case hQ5x12 => exact fun _ _ _ h => h
    case hy5x12 => (refine Or.inl ⟨rfl, ?_⟩; (intro w _; go_simp; (try with_reducible rfl)))
    clear hc hS; intro hc hS
    simp only [Act.put, List.setIfInBounds_toArray, List.set_cons_zero, List.set_cons_succ]
    refine wpAnyG_take (i := 13) (oi := ?oi5x13) (v := ?v5x13) ?hi5x13 (by kernel_rfl) (by kernel_rfl) (by kernel_rfl) ?hQ5x13 (fun _ _ => Iff.rfl) hc ?hy5x13 hS ?rest5x13
    case hi5x13 => (simp only [List.getElem?_toArray, List.getElem?_cons_succ, List.getElem?_cons_zero]; exact rfl)
    case hQ5x13 => exact fun _ _ _ h => h
    case hy5x13 => (refine Or.inl ⟨rfl, ?_⟩; (intro w _; go_simp; (try with_reducible rfl)))
    clear hc hS; intro hc hS
    simp only [Act.put, List.setIfInBounds_toArray, List.set_cons_zero, List.set_cons_succ]
    refine wpAnyG_take (i := 15) (oi := ?oi5x15) (v := ?v5x15) ?hi5x15 (by kernel_rfl) (by kernel_rfl) (by kernel_rfl) ?hQ5x15 (fun _ _ => Iff.rfl) hc ?hy5x15 hS ?rest5x15
    case hi5x15 => (simp only [List.getElem?_toArray, List.getElem?_cons_succ, List.getElem?_cons_zero]; exact rfl)
    case hQ5x15 => exact fun _ _ _ h => h
    case hy5x15 => (refine Or.inl ⟨rfl, ?_⟩; (intro w _; go_simp; (try with_reducible rfl)))
    clear hc hS; intro hc hS
    simp only [Act.put, List.setIfInBounds_toArray, List.set_cons_zero, List.set_cons_succ]
    refine wpAnyG_only (i := 14) (o := ?oi14) (by kernel_rfl) ?hi14 hc ?rest14
    case hi14 => (simp only [List.getElem?_toArray, List.getElem?_cons_succ, List.getElem?_cons_zero]; exact rfl)
    clear hc; intro hc K hK; have HK := Lib.hid hK; clear hK
    go_simp
    refine (power_any b1 xs1 c1 _ (by omega) (H1.out.below hS.below)).mono ?_
    rintro e w4 ⟨rfl, hb⟩
    refine HK.out _ _ (hS.next hb) ?_
    clear HK K hS hb; intro hS
    refine wpAnyG_only (i := 16) (o := ?oi16) (by kernel_rfl) ?hi16 hc ?rest16
    case hi16 => (simp only [List.getElem?_toArray, List.getElem?_cons_succ, List.getElem?_cons_zero]; exact rfl)
    clear hc; intro hc K hK; have HK := Lib.hid hK; clear hK
    go_simp
    refine (rPower_any b1 xs1 c1 _ (by omega) (H1.out.below hS.below)).mono ?_
    rintro e w4 ⟨rfl, rfl⟩
    refine HK.out _ _ (hS) ?_
    clear HK K hS ; intro hS
    refine wpAnyG_take (i := 17) (oi := ?oi5x17) (v := ?v5x17) ?hi5x17 (by kernel_rfl) (by kernel_rfl) (by kernel_rfl) ?hQ5x17 (fun _ _ => Iff.rfl) hc ?hy5x17 hS ?rest5x17
    case hi5x17 => (simp only [List.getElem?_toArray, List.getElem?_cons_succ, List.getElem?_cons_zero]; exact rfl)
    case hQ5x17 => exact fun _ _ _ h => h
    case hy5x17 => (refine Or.inl ⟨rfl, ?_⟩; (intro w _; go_simp; (try with_reducible rfl)))
    clear hc hS; intro hc hS
    simp only [Act.put, List.setIfInBounds_toArray, List.set_cons_zero, List.set_cons_succ]
    refine wpAnyG_take (i := 18) (oi := ?oi5x18) (v := ?v5x18) ?hi5x18 (by kernel_rfl) (by kernel_rfl) (by kernel_rfl) ?hQ5x18 (fun _ _ => Iff.rfl) hc ?hy5x18 hS ?rest5x18
    case hi5x18 => (simp only [List.getElem?_toArray, List.getElem?_cons_succ, List.getElem?_cons_zero]; exact rfl)
    case hQ5x18 => exact fun _ _ _ h => h
    case hy5x18 => (refine Or.inl ⟨rfl, ?_⟩; (intro w _; go_simp; (try with_reducible rfl)))
    clear hc hS; intro hc hS
    simp only [Act.put, List.setIfInBounds_toArray, List.set_cons_zero, List.set_cons_succ]
    refine wpAnyG_take (i := 19) (oi := ?oi5x19) (v := ?v5x19) ?hi5x19 (by kernel_rfl) (by kernel_rfl) (by kernel_rfl) ?hQ5x19 (fun _ _ => Iff.rfl) hc ?hy5x19 hS ?rest5x19
    case hi5x19 => (simp only [List.getElem?_toArray, List.getElem?_cons_succ, List.getElem?_cons_zero]; exact rfl)
    case hQ5x19 => exact fun _ _ _ h => h
    case hy5x19 => (refine Or.inl ⟨rfl, ?_⟩; (intro w _; go_simp; (try with_reducible rfl)))
    clear hc hS; intro hc hS
    simp only [Act.put, List.setIfInBounds_toArray, List.set_cons_zero, List.set_cons_succ]
    refine wpAnyG_take (i := 20) (oi := ?oi5x20) (v := ?v5x20) ?hi5x20 (by kernel_rfl) (by kernel_rfl) (by kernel_rfl) ?hQ5x20 (fun _ _ => Iff.rfl) hc ?hy5x20 hS ?rest5x20
    case hi5x20 => (simp only [List.getElem?_toArray, List.getElem?_cons_succ, List.getElem?_cons_zero]; exact rfl)
    case hQ5x20 => exact fun _ _ _ h => h
    case hy5x20 => (refine Or.inl ⟨rfl, ?_⟩; (intro w _; go_simp; (try with_reducible rfl)))
    clear hc hS; intro hc hS
    simp only [Act.put, List.setIfInBounds_toArray, List.set_cons_zero, List.set_cons_succ]
    refine wpAnyG_take (i := 21) (oi := ?oi5x21) (v := ?v5x21) ?hi5x21 (by kernel_rfl) (by kernel_rfl) (by kernel_rfl) ?hQ5x21 (fun _ _ => Iff.rfl) hc ?hy5x21 hS ?rest5x21
    case hi5x21 => (simp only [List.getElem?_toArray, List.getElem?_cons_succ, List.getElem?_cons_zero]; exact rfl)
    case hQ5x21 => exact fun _ _ _ h => h
    case hy5x21 => (refine Or.inl ⟨rfl, ?_⟩; (intro w _; go_simp; (try with_reducible rfl)))
    clear hc hS; intro hc hS
    simp only [Act.put, List.setIfInBounds_toArray, List.set_cons_zero, List.set_cons_succ]
    refine wpAnyG_take (i := 22) (oi := ?oi5x22) (v := ?v5x22) ?hi5x22 (by kernel_rfl) (by kernel_rfl) (by kernel_rfl) ?hQ5x22 (fun _ _ => Iff.rfl) hc ?hy5x22 hS ?rest5x22
    case hi5x22 => (simp only [List.getElem?_toArray, List.getElem?_cons_succ, List.getElem?_cons_zero]; exact rfl)
    case hQ5x22 => exact fun _ _ _ h => h
    case hy5x22 => (refine Or.inl ⟨rfl, ?_⟩; (intro w _; go_simp; (try with_reducible rfl)))
    clear hc hS; intro hc hS
    simp only [Act.put, List.setIfInBounds_toArray, List.set_cons_zero, List.set_cons_succ]
    refine wpAnyG_take (i := 23) (oi := ?oi5x23) (v := ?v5x23) ?hi5x23 (by kernel_rfl) (by kernel_rfl) (by kernel_rfl) ?hQ5x23 (fun _ _ => Iff.rfl) hc ?hy5x23 hS ?rest5x23
    case hi5x23 => (simp only [List.getElem?_toArray, List.getElem?_cons_succ, List.getElem?_cons_zero]; exact rfl)
    case hQ5x23 => exact fun _ _ _ h => h
    case hy5x23 => (refine Or.inl ⟨rfl, ?_⟩; (intro w _; go_simp; (try with_reducible rfl)))
    clear hc hS; intro hc hS
    simp only [Act.put, List.setIfInBounds_toArray, List.set_cons_zero, List.set_cons_succ]
    refine wpAnyG_take (i := 24) (oi := ?oi5x24) (v := ?v5x24) ?hi5x24 (by kernel_rfl) (by kernel_rfl) (by kernel_rfl) ?hQ5x24 (fun _ _ => Iff.rfl) hc ?hy5x24 hS ?rest5x24
    case hi5x24 => (simp only [List.getElem?_toArray, List.getElem?_cons_succ, List.getElem?_cons_zero]; exact rfl)
    case hQ5x24 => exact fun _ _ _ h => h
    case hy5x24 => (refine Or.inl ⟨rfl, ?_⟩; (intro w _; go_simp; (try with_reducible rfl)))
    clear hc hS; intro hc hS
    simp only [Act.put, List.setIfInBounds_toArray, List.set_cons_zero, List.set_cons_succ]
    refine wpAnyG_take (i := 25) (oi := ?oi5x25) (v := ?v5x25) ?hi5x25 (by kernel_rfl) (by kernel_rfl) (by kernel_rfl) ?hQ5x25 (fun _ _ => Iff.rfl) hc ?hy5x25 hS ?rest5x25
    case hi5x25 => (simp only [List.getElem?_toArray, List.getElem?_cons_succ, List.getElem?_cons_zero]; exact rfl)
    case hQ5x25 => exact fun _ _ _ h => h
    case hy5x25 => (refine Or.inl ⟨rfl, ?_⟩; (intro w _; go_simp; (try with_reducible rfl)))
    clear hc hS; intro hc hS
    simp only [Act.put, List.setIfInBounds_toArray, List.set_cons_zero, List.set_cons_succ]
    refine wpAnyG_take (i := 26) (oi := ?oi5x26) (v := ?v5x26) ?hi5x26 (by kernel_rfl) (by kernel_rfl) (by kernel_rfl) ?hQ5x26 (fun _ _ => Iff.rfl) hc ?hy5x26 hS ?rest5x26
    case hi5x26 => (simp only [List.getElem?_toArray, List.getElem?_cons_succ, List.getElem?_cons_zero]; exact rfl)
    case hQ5x26 => exact fun _ _ _ h => h
    case hy5x26 => (refine Or.inl ⟨rfl, ?_⟩; (intro w _; go_simp; (try with_reducible rfl)))
    clear hc hS; intro hc hS
    simp only [Act.put, List.setIfInBounds_toArray, List.set_cons_zero, List.set_cons_succ]
    refine wpAnyG_take (i := 27) (oi := ?oi5x27) (v := ?v5x27) ?hi5x27 (by kernel_rfl) (by kernel_rfl) (by kernel_rfl) ?hQ5x27 (fun _ _ => Iff.rfl) hc ?hy5x27 hS ?rest5x27
    case hi5x27 => (simp only [List.getElem?_toArray, List.getElem?_cons_succ, List.getElem?_cons_zero]; exact rfl)
    case hQ5x27 => exact fun _ _ _ h => h
    case hy5x27 => (refine Or.inl ⟨rfl, ?_⟩; (intro w _; go_simp; (try with_reducible rfl)))
    clear hc hS; intro hc hS
    simp only [Act.put, List.setIfInBounds_toArray, List.set_cons_zero, List.set_cons_succ]
    refine wpAnyG_take (i := 28) (oi := ?oi5x28) (v := ?v5x28) ?hi5x28 (by kernel_rfl) (by kernel_rfl) (by kernel_rfl) ?hQ5x28 (fun _ _ => Iff.rfl) hc ?hy5x28 hS ?rest5x28
    case hi5x28 => (simp only [List.getElem?_toArray, List.getElem?_cons_succ, List.getElem?_cons_zero]; exact rfl)
    case hQ5x28 => exact fun _ _ _ h => h
    case hy5x28 => (refine Or.inl ⟨rfl, ?_⟩; (intro w _; go_simp; (try with_reducible rfl)))
    clear hc hS; intro hc hS
    simp only [Act.put, List.setIfInBounds_toArray, List.set_cons_zero, List.set_cons_succ]
    refine wpAnyG_take (i := 29) (oi := ?oi5x29) (v := ?v5x29) ?hi5x29 (by kernel_rfl) (by kernel_rfl) (by kernel_rfl) ?hQ5x29 (fun _ _ => Iff.rfl) hc ?hy5x29 hS ?rest5x29
    case hi5x29 => (simp only [List.getElem?_toArray, List.getElem?_cons_succ, List.getElem?_cons_zero]; exact rfl)
    case hQ5x29 => exact fun _ _ _ h => h
    case hy5x29 => (refine Or.inl ⟨rfl, ?_⟩; (intro w _; go_simp; (try with_reducible rfl)))
    clear hc hS; intro hc hS
    simp only [Act.put, List.setIfInBounds_toArray, List.set_cons_zero, List.set_cons_succ]
    refine wpAnyG_only (i := 30) (o := ?oi30) (by kernel_rfl) ?hi30 hc ?rest30
    case hi30 => (simp only [List.getElem?_toArray, List.getElem?_cons_succ, List.getElem?_cons_zero]; exact rfl)
    clear hc; intro hc K hK; have HK := Lib.hid hK; clear hK
    go_simp
    refine (awake_any _).mono ?_
    rintro e w4 ⟨rfl, hb⟩
    refine HK.out _ _ (hS.next hb) ?_
    clear HK K hS hb; intro hS
    refine wpAnyG_take (i := 31) (oi := ?oi5x31) (v := ?v5x31) ?hi5x31 (by kernel_rfl) (by kernel_rfl) (by kernel_rfl) ?hQ5x31 (fun _ _ => Iff.rfl) hc ?hy5x31 hS ?rest5x31
    case hi5x31 => (simp only [List.getElem?_toArray, List.getElem?_cons_succ, List.getElem?_cons_zero]; exact rfl)
    case hQ5x31 => exact fun _ _ _ h => h
    case hy5x31 => (refine Or.inl ⟨rfl, ?_⟩; (intro w _; go_simp; (try with_reducible rfl)))
    clear hc hS; intro hc hS
    simp only [Act.put, List.setIfInBounds_toArray, List.set_cons_zero, List.set_cons_succ]
    refine wpAnyG_take (i := 32) (oi := ?oi5x32) (v := ?v5x32) ?hi5x32 (by kernel_rfl) (by kernel_rfl) (by kernel_rfl) ?hQ5x32 (fun _ _ => Iff.rfl) hc ?hy5x32 hS ?rest5x32
    case hi5x32 => (simp only [List.getElem?_toArray, List.getElem?_cons_succ, List.getElem?_cons_zero]; exact rfl)
    case hQ5x32 => exact fun _ _ _ h => h
    case hy5x32 => (refine Or.inl ⟨rfl, ?_⟩; (intro w _; go_simp; (try with_reducible rfl)))
    clear hc hS; intro hc hS
    simp only [Act.put, List.setIfInBounds_toArray, List.set_cons_zero, List.set_cons_succ]
    refine wpAnyG_done (by kernel_rfl) ?_ _
    clear hc
    go_wp2
    go_ret
    exact ⟨rfl, hS.below⟩
end Go.Proofs.Ytibopjfmcdcgbaa.picValid
