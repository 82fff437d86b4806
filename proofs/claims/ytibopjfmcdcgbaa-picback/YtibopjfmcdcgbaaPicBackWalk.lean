/- PicBack returns true: the walk. -/
import Derived.Test.YtibopjfmcdcgbaaOpen
import Derived.Test.YtibopjfmcdcgbaaBackMath
import Derived.Test.YtibopjfmcdcgbaaSums3
import Derived.Test.YtibopjfmcdcgbaaAwk
namespace Go.Proofs.Ytibopjfmcdcgbaa.picBack
open Go.RowKit
set_option linter.unusedVariables false
theorem drew_alloc' (V : World) (o : Obj) : (V.alloc o).drew = V.drew.alloc o := rfl
theorem twoS {ba bb oa ob n : Nat} {x y : Value} {W W' : World} (h : W.cell? ⟨ba, oa, none⟩ = some x ∧ W.cell? ⟨bb, ob, none⟩ = some y) (hb : Below n W W') (h1 : ba < n) (h2 : bb < n) : W'.cell? ⟨ba, oa, none⟩ = some x ∧ W'.cell? ⟨bb, ob, none⟩ = some y :=
  ⟨(hb.cell (p := ⟨ba, oa, none⟩) h1).trans h.1, (hb.cell (p := ⟨bb, ob, none⟩) h2).trans h.2⟩
theorem sum_powers {xs ys : List Int} (hp : powerB xs = true) (hl : ys.length = xs.length) (hv : validListB ys = true) : powerB ys = true := by
  have := (powerB_of hp).2
  unfold powerB; rw [hv, hl, this]; rfl

set_option maxRecDepth 100000 in
set_option maxHeartbeats 1000000 in
theorem walk (b0 : Option Addr) (xs0 : List Int) (c0 : Nat) (b1 : Option Addr) (xs1 : List Int) (c1 : Nat) (w : World) (h0 : Sl w b0 xs0) (l0 : xs0.length ≤ 9223372036854775807) (r0 : ∀ x ∈ xs0, I64 x) (h1 : Sl w b1 xs1) (l1 : xs1.length ≤ 9223372036854775807) (r1 : ∀ x ∈ xs1, I64 x) :
    Calls Try.prog 9 #[.slice b0 xs0.length c0, .slice b1 xs1.length c1] w fun e w' => e = .returned (.bool true) ∧ Below w.heap.size w w' := by
  have H0 := Lib.hid h0; clear h0
  have H1 := Lib.hid h1; clear h1
  clear r0 r1
  cases hL : (decide (600 < xs0.length) || decide (600 < xs1.length))
  case true =>
    have HL := Lib.hid hL; clear hL
    go_enter Try.func9, Try.ntmps9
    go_wp2_with fail
    refine (long2 b0 xs0.length c0 b1 xs1.length c1 _ _ rfl _ l0 l1).mono ?_
    rintro e w1 ⟨rfl, rfl⟩
    rw [HL.out]
    go_wp2_with (go_at_call 14; refine (awake_any _).mono ?_; rintro e w1 ⟨rfl, hb⟩)
    go_ret
    exact ⟨rfl, Below.trans (.alloc (Below.refl w.heap.size w) (Nat.le_refl _) _) (hb.mono (by rw [World.size_alloc]; omega))⟩
  case false =>
    have hs : xs0.length ≤ 600 ∧ xs1.length ≤ 600 := by simp at hL; omega
    have hs0 := hs.1
    have hs1 := hs.2
    clear hs
    have HL := Lib.hid hL; clear hL
    have W0 : Hid (Below w.heap.size w (w.alloc (.cells #[.slice b0 xs0.length c0, .slice b1 xs1.length c1] 22))) := .alloc (Below.refl w.heap.size w) (Nat.le_refl _) _
    go_enter Try.func9, Try.ntmps9
    go_wp2_with fail
    refine (long2 b0 xs0.length c0 b1 xs1.length c1 _ _ rfl _ l0 l1).mono ?_
    rintro e w1 ⟨rfl, rfl⟩
    rw [HL.out]
    generalize hV : w.alloc (.cells #[.slice b0 xs0.length c0, .slice b1 xs1.length c1] 22) = V at *
    clear hV
    go_wp2_with fail
    refine (rPower_any b0 xs0 c0 _ (by omega) (H0.out.below W0.out)).mono ?_
    rintro e w1 ⟨rfl, rfl⟩
    cases hP : powerB xs0
    case false =>
      go_wp2_with (go_at_call 14; refine (awake_any _).mono ?_; rintro e w1 ⟨rfl, hb⟩)
      go_ret
      exact ⟨rfl, W0.out.trans (hb.mono W0.out.size)⟩
    case true =>
      have HPP := Lib.hid hP
      have ew : walV xs0 = (walshTo xs0 (lg xs0.length), 0) := by simp [walV, hP]
      have ev : liftV xs0 = (liftTo xs0 (lg xs0.length), 0) := by simp [liftV, hP]
      have EU := Lib.hid (unwalsh_back hP)
      have EL := Lib.hid (unlift_back hP)
      have hwl : (walshTo xs0 (lg xs0.length)).length = xs0.length := walshTo_length _ _
      have hvl : (liftTo xs0 (lg xs0.length)).length = xs0.length := liftTo_length _ _
      clear hP
      have HWL := Lib.hid hwl; clear hwl
      have HVL := Lib.hid hvl; clear hvl
      have H0V := Lib.hid (H0.out.below W0.out)
      go_wp2_with fail
      refine (walsh_post b0 xs0 c0 _ (by omega) H0V.out).mono ?_
      rw [ew]
      rintro e v1 ⟨hb1, a1, k1, rfl, s1⟩
      dsimp only at s1 ⊢
      have W1 := Lib.hid (W0.out.trans (hb1.mono W0.out.size))
      have S1 := Lib.hid s1; clear s1 hb1
      generalize hWS : walshTo xs0 (lg xs0.length) = ws at *
      have HWS := Lib.hid hWS; clear hWS
      go_wp2_with fail
      refine (unwalsh_any a1 ws k1 _ (by rw [HWL.out]; omega) S1.out).mono ?_
      rw [EU.out]
      rintro e v2 ⟨hb2, a2, k2, rfl, s2⟩
      dsimp only at s2 ⊢
      have W2 := Lib.hid (W1.out.trans (hb2.mono W1.out.size))
      have S1b := Lib.hid (S1.out.below hb2)
      have S2 := Lib.hid s2; clear s2 hb2
      go_wp2_with fail
      refine (lift_post b0 xs0 c0 _ (by omega) (H0.out.below W2.out)).mono ?_
      rw [ev]
      rintro e v3 ⟨hb3, a3, k3, rfl, s3⟩
      dsimp only at s3 ⊢
      have W3 := Lib.hid (W2.out.trans (hb3.mono W2.out.size))
      have S1c := Lib.hid (S1b.out.below hb3)
      have S2c := Lib.hid (S2.out.below hb3)
      have S3 := Lib.hid s3; clear s3 hb3
      generalize liftTo xs0 (lg xs0.length) = vs at *
      go_wp2_with fail
      refine (unlift_any a3 vs k3 _ (by rw [HVL.out]; omega) S3.out).mono ?_
      rw [EL.out]
      rintro e v4 ⟨hb4, a4, k4, rfl, s4⟩
      dsimp only at s4 ⊢
      have W4 := Lib.hid (W3.out.trans (hb4.mono W3.out.size))
      have S1d := Lib.hid (S1c.out.below hb4)
      have S2d := Lib.hid (S2c.out.below hb4)
      have S4 := Lib.hid s4; clear s4 hb4 ew ev
      go_wp2_with fail
      refine (sameInts_any a2 xs0 k2 b0 xs0 c0 _ (by omega) (by omega) S2d.out (H0.out.below W4.out)).mono ?_
      rintro e v5 ⟨rfl, n5, rfl⟩
      rw [decide_eq_true (rfl : xs0 = xs0)]
      have W5 : Hid (Below w.heap.size w (v4.drewN n5)) := below_drewN W4.out _
      go_wp2_with fail
      refine (sameInts_any a4 xs0 k4 b0 xs0 c0 _ (by omega) (by omega) (S4.out.drewN n5) (H0.out.below W5.out)).mono ?_
      rintro e v6 ⟨rfl, n6, hv6⟩
      rw [decide_eq_true (rfl : xs0 = xs0)]
      have W6 : Hid (Below w.heap.size w v6) := by show Below w.heap.size w v6; rw [hv6]; exact below_drewN W5.out _
      have S1e : Hid (Sl v6 a1 ws) := by show Sl v6 a1 ws; rw [hv6]; exact (S1d.out.drewN n5).drewN n6
      clear hv6 S2 S2c S2d S4 S3 S1 S1b S1c S1d W1 W2 W3 W4 W5
      by_cases hlen : xs1.length = xs0.length
      · have hlb : ((xs1.length : Int) == (xs0.length : Int)) = true := by simp [hlen]
        have hlb' : ((xs1.length : Int) != (xs0.length : Int)) = false := by simp [hlen]
        have HLEN := Lib.hid hlen; clear hlen
        go_wp2_with fail
        refine (rvalidList_any b1 xs1 c1 _ (by omega) (H1.out.below W6.out)).mono ?_
        rintro e v7 ⟨rfl, rfl⟩
        cases hvm : validListB xs1
        · go_wp2_with (go_at_call 14; refine (awake_any _).mono ?_; rintro e w1 ⟨rfl, hb⟩)
          go_ret
          exact ⟨rfl, W6.out.trans (hb.mono W6.out.size)⟩
        · have HVM := Lib.hid hvm; clear hvm
          clear hlb hlb'
          have AX := Lib.hid (valid_all (powerB_of HPP.out).1)
          have AY := Lib.hid (valid_all HVM.out)
          obtain ⟨hpos, h256⟩ := powB_le (powerB_of HPP.out).2
          obtain ⟨V9, hV9⟩ : ∃ V9, v6 = V9 := ⟨_, rfl⟩
          subst hV9
          go_wp2
          go_loopw [13, 87] (fun v i wr => ∃ (k : Nat) (a' : Option Addr) (cap' : Nat), k ≤ xs0.length ∧ i = .int .i64 k ∧ v = .slice a' k cap' ∧ OwnI wr v6.heap.size (.slice a' k cap') (addL xs0 xs1 k) ∧ Below v6.heap.size v6 wr) (fun _ i _ => xs0.length - (intOf i).toNat)
          case atStart => exact ⟨0, none, 0, Nat.zero_le _, rfl, rfl, OwnI.nil _ _, Below.refl _ _⟩
          case round =>
            obtain ⟨k, a', cap', hk, rfl, rfl, hO, hB⟩ := hrel
            have HO := Lib.hid hO; clear hO
            have HB3 := Lib.hid hB; clear hB
            by_cases hlt : k < xs0.length
            · have hlt2 : k < xs1.length := by rw [HLEN.out]; exact hlt
              have sa := H0.out.below W6.out
              have sb := H1.out.below W6.out
              obtain ⟨ba, oa, x, rfl, hcx0, HX⟩ := sa.at hlt
              obtain ⟨bb, ob, y, rfl, hcy0, HY⟩ := sb.at hlt2
              have lba := cell_lt hcx0
              have lbb := cell_lt hcy0
              dsimp only at lba lbb
              have hsz5 := HB3.out.size
              have hS0 : Hid (wr.drew.cell? ⟨ba, oa + k, none⟩ = some (.int .i64 x) ∧ wr.drew.cell? ⟨bb, ob + k, none⟩ = some (.int .i64 y)) := ⟨(HB3.out.cell (p := ⟨ba, oa + k, none⟩) lba).trans hcx0, (HB3.out.cell (p := ⟨bb, ob + k, none⟩) lbb).trans hcy0⟩
              clear sa sb hcx0 hcy0
              obtain ⟨x1, x2⟩ := allB_get AX.out HX.out
              obtain ⟨y1, y2⟩ := allB_get AY.out HY.out
              have GX := Lib.hid (gt_some' HX.out)
              have GY := Lib.hid (gt_some' HY.out)
              have LT : Hid (ba < wr.heap.size ∧ bb < wr.heap.size) := ⟨by omega, by omega⟩
              have LT2 : Hid (ba < v6.heap.size ∧ bb < v6.heap.size) := ⟨lba, lbb⟩
              have hsum : IntKind.i64.wrap (x + y) = x + y := IntWalk.i64_in _ (by omega)
              have hltz : (k : Int) < (xs0.length : Int) := by omega
              have hltz2 : (k : Int) < (xs1.length : Int) := by omega
              go_wp2
              refine wp_region_G (S := fun _ W => W.cell? ⟨ba, oa + k, none⟩ = some (.int .i64 x) ∧ W.cell? ⟨bb, ob + k, none⟩ = some (.int .i64 y)) (by kernel_rfl) hS0.out ?_
              intro hc hS
              refine wpAnyG_take (i := 0) (oi := ?oi15x0) (v := ?v15x0) ?hi15x0 (by kernel_rfl) (by kernel_rfl) (by kernel_rfl) ?hQ15x0 (fun _ _ => Iff.rfl) hc ?hy15x0 hS ?rest15x0
              case hi15x0 => (simp only [List.getElem?_toArray, List.getElem?_cons_zero]; exact rfl)
              case hQ15x0 => exact fun _ _ _ h => h
              case hy15x0 => (refine Or.inl ⟨rfl, ?_⟩; (intro w _; go_simp; (try with_reducible rfl)))
              clear hc hS; intro hc hS
              simp only [Act.put, List.setIfInBounds_toArray, List.set_cons_zero, List.set_cons_succ]
              refine wpAnyG_take (i := 1) (oi := ?oi15x1) (v := ?v15x1) ?hi15x1 (by kernel_rfl) (by kernel_rfl) (by kernel_rfl) ?hQ15x1 (fun _ _ => Iff.rfl) hc ?hy15x1 hS ?rest15x1
              case hi15x1 => (simp only [List.getElem?_toArray, List.getElem?_cons_succ, List.getElem?_cons_zero]; exact rfl)
              case hQ15x1 => exact fun _ _ _ h => h
              case hy15x1 => (refine Or.inl ⟨rfl, ?_⟩; (intro w _; go_simp; (try with_reducible rfl)))
              clear hc hS; intro hc hS
              simp only [Act.put, List.setIfInBounds_toArray, List.set_cons_zero, List.set_cons_succ]
              refine wpAnyG_take (i := 2) (oi := ?oi15x2) (v := ?v15x2) ?hi15x2 (by kernel_rfl) (by kernel_rfl) (by kernel_rfl) ?hQ15x2 (fun _ _ => Iff.rfl) hc ?hy15x2 hS ?rest15x2
              case hi15x2 => (simp only [List.getElem?_toArray, List.getElem?_cons_succ, List.getElem?_cons_zero]; exact rfl)
              case hQ15x2 => exact fun _ _ _ h => h
              case hy15x2 => (refine Or.inl ⟨rfl, ?_⟩; (intro w _; go_simp; (try with_reducible rfl)))
              clear hc hS; intro hc hS
              simp only [Act.put, List.setIfInBounds_toArray, List.set_cons_zero, List.set_cons_succ]
              refine wpAnyG_take (i := 3) (oi := ?oi15x3) (v := ?v15x3) ?hi15x3 (by kernel_rfl) (by kernel_rfl) (by kernel_rfl) ?hQ15x3 (fun _ _ => Iff.rfl) hc ?hy15x3 hS ?rest15x3
              case hi15x3 => (simp only [List.getElem?_toArray, List.getElem?_cons_succ, List.getElem?_cons_zero]; exact rfl)
              case hQ15x3 => exact fun _ _ _ h => h
              case hy15x3 => (refine Or.inl ⟨rfl, ?_⟩; (intro w _; go_simp; (try with_reducible rfl)))
              clear hc hS; intro hc hS
              simp only [Act.put, List.setIfInBounds_toArray, List.set_cons_zero, List.set_cons_succ]
              refine wpAnyG_take (i := 4) (oi := ?oi15x4) (v := ?v15x4) ?hi15x4 (by kernel_rfl) (by kernel_rfl) (by kernel_rfl) ?hQ15x4 (fun _ _ => Iff.rfl) hc ?hy15x4 hS ?rest15x4
              case hi15x4 => (simp only [List.getElem?_toArray, List.getElem?_cons_succ, List.getElem?_cons_zero]; exact rfl)
              case hQ15x4 => exact fun _ _ _ h => h
              case hy15x4 => (refine Or.inl ⟨rfl, ?_⟩; (rintro w ⟨L, _, _, q0, q1⟩; go_simp; (try with_reducible rfl)))
              clear hc hS; intro hc hS
              simp only [Act.put, List.setIfInBounds_toArray, List.set_cons_zero, List.set_cons_succ]
              refine wpAnyG_take (i := 5) (oi := ?oi15x5) (v := ?v15x5) ?hi15x5 (by kernel_rfl) (by kernel_rfl) (by kernel_rfl) ?hQ15x5 (fun _ _ => Iff.rfl) hc ?hy15x5 hS ?rest15x5
              case hi15x5 => (simp only [List.getElem?_toArray, List.getElem?_cons_succ, List.getElem?_cons_zero]; exact rfl)
              case hQ15x5 => exact fun _ _ _ h => h
              case hy15x5 => (refine Or.inl ⟨rfl, ?_⟩; (intro w _; go_simp; (try with_reducible rfl)))
              clear hc hS; intro hc hS
              simp only [Act.put, List.setIfInBounds_toArray, List.set_cons_zero, List.set_cons_succ]
              refine wpAnyG_take (i := 6) (oi := ?oi15x6) (v := ?v15x6) ?hi15x6 (by kernel_rfl) (by kernel_rfl) (by kernel_rfl) ?hQ15x6 (fun _ _ => Iff.rfl) hc ?hy15x6 hS ?rest15x6
              case hi15x6 => (simp only [List.getElem?_toArray, List.getElem?_cons_succ, List.getElem?_cons_zero]; exact rfl)
              case hQ15x6 => exact fun _ _ _ h => h
              case hy15x6 => (refine Or.inl ⟨rfl, ?_⟩; (intro w _; go_simp; (try with_reducible rfl)))
              clear hc hS; intro hc hS
              simp only [Act.put, List.setIfInBounds_toArray, List.set_cons_zero, List.set_cons_succ]
              refine wpAnyG_take (i := 7) (oi := ?oi15x7) (v := ?v15x7) ?hi15x7 (by kernel_rfl) (by kernel_rfl) (by kernel_rfl) ?hQ15x7 (fun _ _ => Iff.rfl) hc ?hy15x7 hS ?rest15x7
              case hi15x7 => (simp only [List.getElem?_toArray, List.getElem?_cons_succ, List.getElem?_cons_zero]; exact rfl)
              case hQ15x7 => exact fun _ _ _ h => h
              case hy15x7 => (refine Or.inl ⟨rfl, ?_⟩; (intro w _; go_simp; (try with_reducible rfl)))
              clear hc hS; intro hc hS
              simp only [Act.put, List.setIfInBounds_toArray, List.set_cons_zero, List.set_cons_succ]
              refine wpAnyG_take (i := 8) (oi := ?oi15x8) (v := ?v15x8) ?hi15x8 (by kernel_rfl) (by kernel_rfl) (by kernel_rfl) ?hQ15x8 (fun _ _ => Iff.rfl) hc ?hy15x8 hS ?rest15x8
              case hi15x8 => (simp only [List.getElem?_toArray, List.getElem?_cons_succ, List.getElem?_cons_zero]; exact rfl)
              case hQ15x8 => exact fun _ _ _ h => h
              case hy15x8 => (refine Or.inl ⟨rfl, ?_⟩; (rintro w ⟨L, _, _, q0, q1⟩; go_simp; (try with_reducible rfl)))
              clear hc hS; intro hc hS
              simp only [Act.put, List.setIfInBounds_toArray, List.set_cons_zero, List.set_cons_succ]
              refine wpAnyG_take (i := 9) (oi := ?oi15x9) (v := ?v15x9) ?hi15x9 (by kernel_rfl) (by kernel_rfl) (by kernel_rfl) ?hQ15x9 (fun _ _ => Iff.rfl) hc ?hy15x9 hS ?rest15x9
              case hi15x9 => (simp only [List.getElem?_toArray, List.getElem?_cons_succ, List.getElem?_cons_zero]; exact rfl)
              case hQ15x9 => exact fun _ _ _ h => h
              case hy15x9 => (refine Or.inl ⟨rfl, ?_⟩; (intro w _; go_simp; (try with_reducible rfl)))
              clear hc hS; intro hc hS
              simp only [Act.put, List.setIfInBounds_toArray, List.set_cons_zero, List.set_cons_succ]
              refine wpAnyG_only (i := 10) (o := ?oi10) (by kernel_rfl) ?hi10 hc ?rest10
              case hi10 => (simp only [List.getElem?_toArray, List.getElem?_cons_succ, List.getElem?_cons_zero]; exact rfl)
              clear hc; intro hc K hK; have HK := Lib.hid hK; clear hK
              go_simp
              refine HK.out _ _ (twoS hS ((Below.refl _ _).alloc (Nat.le_refl _) _) LT.out.1 LT.out.2) ?_
              clear HK K hS; intro hS
              refine wpAnyG_only (i := 11) (o := ?oi11) (by kernel_rfl) ?hi11 hc ?rest11
              case hi11 => (simp only [List.getElem?_toArray, List.getElem?_cons_succ, List.getElem?_cons_zero]; exact rfl)
              clear hc; intro hc K hK; have HK := Lib.hid hK; clear hK
              rw [if_pos (by rfl), drew_alloc']
              refine wp_push (.tmp 90) (.tmp 100) ?ho v6.heap.size (.slice a' k cap') (addL xs0 xs1 k) (x + y) wr.drew wr.heap.size 3 ?hs ?hx ?hB ?hown ?hl ?hbase ?hh
              case ho => rfl
              case hs => rfl
              case hx => rfl
              case hB => rfl
              case hown => exact HO.out.drew
              case hl => rw [addL_length]; omega
              case hbase => exact HB3.out.size
              intro v9 w9 ho9 hb9
              obtain ⟨a9, cap9, hv9, _⟩ := ho9.any
              rw [List.length_append, addL_length, show [x + y].length = 1 from rfl] at hv9
              subst hv9
              have HO9 := Lib.hid ho9; clear ho9
              have HB9 := Lib.hid hb9; clear hb9
              refine HK.out _ _ (twoS hS0.out HB9.out LT2.out.1 LT2.out.2) ?_
              clear HK K hS; intro hS
              refine wpAnyG_take (i := 12) (oi := ?oi15x12) (v := ?v15x12) ?hi15x12 (by kernel_rfl) (by kernel_rfl) (by kernel_rfl) ?hQ15x12 (fun _ _ => Iff.rfl) hc ?hy15x12 hS ?rest15x12
              case hi15x12 => (simp only [List.getElem?_toArray, List.getElem?_cons_succ, List.getElem?_cons_zero]; exact rfl)
              case hQ15x12 => exact fun _ _ _ h => h
              case hy15x12 => (refine Or.inl ⟨rfl, ?_⟩; (intro w _; go_simp; (try with_reducible rfl)))
              clear hc hS; intro hc hS
              simp only [Act.put, List.setIfInBounds_toArray, List.set_cons_zero, List.set_cons_succ]
              refine wpAnyG_done (by kernel_rfl) ?_ _
              clear hc hS
              go_wp2
              go_roundw
              case rel =>
                refine ⟨k + 1, a9, cap9, by omega, by go_num, rfl, ?_, (HB3.out.drew).trans HB9.out⟩
                rw [show addL xs0 xs1 (k + 1) = addL xs0 xs1 k ++ [x + y] by rw [addL_succ, GX.out, GY.out]]
                exact HO9.out
              case measure => simp [intOf]; omega
            · obtain rfl : k = xs0.length := by omega
              have hzl : (addL xs0 xs1 xs0.length).length = xs0.length := addL_length _ _ _
              have HZL := Lib.hid hzl; clear hzl
              have hzg : ∀ i, i < xs0.length → gt (addL xs0 xs1 xs0.length) i = gt xs0 i + gt xs1 i := fun i hi => by unfold addL; rw [gt_map_range _ hi]
              have HZG := Lib.hid hzg; clear hzg
              have hsl := HO.out.sl
              have HSL := Lib.hid hsl; clear hsl
              have hp1 := sum_powers HPP.out HLEN.out HVM.out
              have HP1 := Lib.hid hp1; clear hp1
              have e1 : walV xs1 = (walshTo xs1 (lg xs1.length), 0) := by simp [walV, HP1.out]
              have W9 : Hid (Below w.heap.size w wr) := W6.out.trans (HB3.out.mono W6.out.size)
              have S1f := Lib.hid (S1e.out.below HB3.out)
              go_wp2_with fail
              refine (walsh_post b1 xs1 c1 _ (by omega) (H1.out.below W9.out)).mono ?_
              rw [e1]
              rintro e u1 ⟨hb1, a5, k5, rfl, s5⟩
              dsimp only at s5 ⊢
              have U1 := Lib.hid (W9.out.trans (hb1.mono W9.out.size))
              have S1g := Lib.hid (S1f.out.below hb1)
              have HSL1 := Lib.hid (HSL.out.below hb1)
              have S5 := Lib.hid s5; clear s5 hb1 e1
              have hxl : (walshTo xs1 (lg xs1.length)).length = xs0.length := by rw [walshTo_length, HLEN.out]
              have HXL := Lib.hid hxl; clear hxl
              generalize hzs : addL xs0 xs1 xs0.length = zs at *
              clear hzs
              have hwz := walsh_post a' zs cap' u1 (by rw [HZL.out]; omega) HSL1.out
              rw [HZL.out] at hwz
              have HWZ := Lib.hid hwz; clear hwz
              rw [HXL.out]
              cases hvz : validListB zs
              · have HVZ := Lib.hid hvz; clear hvz
                go_wp2_with fail
                refine HWZ.out.mono ?_
                rintro e u2 ⟨hb2, a6, k6, rfl, s6⟩
                have U2 := Lib.hid (U1.out.trans (hb2.mono U1.out.size))
                have hrv := rvalidList_any a' zs cap' u2 (by rw [HZL.out]; omega) (HSL1.out.below hb2)
                rw [HZL.out, HVZ.out] at hrv
                have HRV := Lib.hid hrv; clear hrv s6 hb2
                go_wp2_with fail
                refine HRV.out.mono ?_
                rintro e u3 ⟨rfl, rfl⟩
                go_wp2_with (go_at_call 14; refine (awake_any _).mono ?_; rintro e w1 ⟨rfl, hb⟩)
                go_ret
                exact ⟨rfl, U2.out.trans (hb.mono U2.out.size)⟩
              · have HVZ := Lib.hid hvz; clear hvz
                have hpz := sum_powers HPP.out HZL.out HVZ.out
                have HPZ := Lib.hid hpz; clear hpz
                have ez : walV zs = (walshTo zs (lg zs.length), 0) := by simp [walV, HPZ.out]
                have hWW := Lib.hid (walsh_sum HPP.out HP1.out HPZ.out HLEN.out HZL.out HZG.out)
                have hyl : (walshTo zs (lg zs.length)).length = xs0.length := by rw [walshTo_length, HZL.out]
                have HYL := Lib.hid hyl; clear hyl
                rw [HWS.out] at hWW
                rw [ez] at HWZ
                clear ez
                go_wp2_with fail
                refine HWZ.out.mono ?_
                rintro e u2 ⟨hb2, a6, k6, rfl, s6⟩
                dsimp only at s6 ⊢
                have U2 := Lib.hid (U1.out.trans (hb2.mono U1.out.size))
                have hrv := rvalidList_any a' zs cap' u2 (by rw [HZL.out]; omega) (HSL1.out.below hb2)
                rw [HZL.out, HVZ.out] at hrv
                have HRV := Lib.hid hrv; clear hrv
                have S1h := Lib.hid (S1g.out.below hb2)
                have S5h := Lib.hid (S5.out.below hb2)
                have S6 := Lib.hid s6; clear s6 hb2
                generalize walshTo zs (lg zs.length) = yy at *
                generalize walshTo xs1 (lg xs1.length) = xx at *
                rw [HYL.out]
                go_wp2_with fail
                refine HRV.out.mono ?_
                rintro e u3 ⟨rfl, rfl⟩
                have hwl3 : ws.length = xs0.length := HWL.out
                go_wp2
                go_loopw [146] (fun i wq => ∃ k nd : Nat, k ≤ xs0.length ∧ i = .int .i64 k ∧ wq = u2.drewN nd) (fun i _ => xs0.length - (intOf i).toNat)
                case atStart => exact ⟨0, 0, Nat.zero_le _, rfl, rfl⟩
                case round =>
                  obtain ⟨k, nd, hk, rfl, rfl⟩ := hrel
                  by_cases hlt : k < xs0.length
                  · obtain ⟨o1, p1, x, rfl, hc1, HX1⟩ := S1h.out.at (k := k) (by rw [HWL.out]; exact hlt)
                    obtain ⟨o2, p2, y, rfl, hc2, HX2⟩ := S5h.out.at (k := k) (by rw [HXL.out]; exact hlt)
                    obtain ⟨o3, p3, z, rfl, hc3, HX3⟩ := S6.out.at (k := k) (by rw [HYL.out]; exact hlt)
                    obtain ⟨q1, ⟨q2, q3⟩, q4, q5⟩ := hWW.out k hlt
                    rw [gt_some' HX1.out] at q1 q2 q3
                    rw [gt_some' HX2.out] at q1 q4 q5
                    rw [gt_some' HX3.out] at q1
                    subst q1
                    have hsum : IntKind.i64.wrap (x + y) = x + y := IntWalk.i64_in _ (by omega)
                    have hltz : (k : Int) < (xs0.length : Int) := by omega
                    go_wp2
                    go_quiet (fail)
                    go_wp2
                    go_roundw
                    case rel => exact ⟨k + 1, _, by omega, by go_num, rfl⟩
                    case measure => simp [intOf]; omega
                  · obtain rfl : k = xs0.length := by omega
                    go_wp2_with (go_at_call 14; refine (awake_any _).mono ?_; rintro e w1 ⟨rfl, hb⟩)
                    go_ret
                    have U3 : Below w.heap.size w (u2.drewN nd) := below_drewN U2.out _
                    exact ⟨rfl, U3.trans (hb.mono U3.size)⟩
      · have hlb : ((xs1.length : Int) == (xs0.length : Int)) = false := by simp; omega
        have hlb' : ((xs1.length : Int) != (xs0.length : Int)) = true := by simp; omega
        go_wp2_with (go_at_call 14; refine (awake_any _).mono ?_; rintro e w1 ⟨rfl, hb⟩)
        go_ret
        exact ⟨rfl, W6.out.trans (hb.mono W6.out.size)⟩
end Go.Proofs.Ytibopjfmcdcgbaa.picBack
