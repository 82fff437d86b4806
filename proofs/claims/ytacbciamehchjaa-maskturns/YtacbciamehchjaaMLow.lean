
/- Fractions in lowest terms, and the likeness of two columns of layer 2: contracts. -/
import Derived.Test.YtacbciamehchjaaMCol2
import Derived.StillTailTactics
import Derived.RegionTactic
import Derived.WalkSmall
import Derived.Laws.ResultCell
namespace Go.Proofs.Ytacbciamehchjaa
open Go.RowKit

theorem gcd_step (x y : Nat) : Nat.gcd y (x % y) = Nat.gcd x y := by
  rw [Nat.gcd_comm y (x % y), ← Nat.gcd_rec y x, Nat.gcd_comm]
/-- What a function that returns a fraction and an error returns. -/
def QPost (r : (Int × Int) × Int) (w : World) (e : Ending) (w' : World) : Prop := Below w.heap.size w w' ∧ e = .returned (.tuple #[.agg #[.int .i64 r.1.1, .int .i64 r.1.2], .int .i64 r.2])
theorem quo_in (n x : Nat) (hn : n ≤ 1000000) : wrap64 ((n : Int) / (x : Int)) = (n : Int) / (x : Int) := by
  have e : (n : Int) / (x : Int) = ((n / x : Nat) : Int) := by simp
  have l1 : n / x ≤ n := Nat.div_le_self _ _
  rw [e]; generalize n / x = q at *; exact IntWalk.wrap64_in _ ⟨by omega, by omega⟩
set_option maxRecDepth 100000 in
theorem lowest_any (n d : Nat) (hn : n ≤ 1000000) (hd : d ≤ 1000000) (h1 : 1 ≤ d) (w : World) :
    Calls Try.prog 71 #[.int .i64 n, .int .i64 d] w fun e w' => e = .returned (.agg #[.int .i64 ((n / Nat.gcd n d : Nat) : Int), .int .i64 ((d / Nat.gcd n d : Nat) : Int)]) ∧ Below w.heap.size w w' := by
  go_enter Try.func71, Try.ntmps71
  go_wp2
  go_loopw [5, 6] (fun a b wr => ∃ (x y nd : Nat), a = .int .i64 x ∧ b = .int .i64 y ∧ Nat.gcd x y = Nat.gcd n d ∧ x ≤ 1000000 ∧ y ≤ 1000000 ∧ wr = (w.alloc (.cells #[.int .i64 0, .int .i64 0] 44)).drewN nd) (fun _ b _ => (intOf b).toNat)
  case atStart => exact ⟨n, d, 0, rfl, rfl, rfl, hn, hd, rfl⟩
  case round =>
    obtain ⟨x, y, nd, rfl, rfl, hg, hx, hy, rfl⟩ := hrel
    have HG := Lib.hid hg; clear hg
    by_cases hy0 : y = 0
    · subst hy0
      have HX : Hid (x = Nat.gcd n d) := by show x = _; rw [← HG.out, Nat.gcd_zero_right]
      have hx1 : 1 ≤ x := by rw [HX.out]; exact Nat.gcd_pos_of_pos_right _ h1
      go_wp2
      go_region
      go_wp2
      (try simp only [Exit.inBlock, Exit.then])
      refine bodyPost_ret (v := .agg #[.int .i64 ((n / x : Nat) : Int), .int .i64 ((d / x : Nat) : Int)]) ?_ rfl ?_
      · simp [results, Try.results71, go_sem]
        exact ⟨quo_in n x hn, quo_in d x hd⟩
      · exact ⟨by rw [HX.out], ((below_drewN ((Below.refl _ _).alloc (Nat.le_refl _) _) _).setCell (by simp) _).setCell (by simp) _⟩
    · have hy1 : 1 ≤ y := by omega
      have e0 : ((y : Int) == 0) = false := by simp; omega
      have e1 : ((y : Int) != 0) = true := by simp; omega
      have hm : x % y < y := Nat.mod_lt _ hy1
      have HGS : Hid (Nat.gcd y (x % y) = Nat.gcd n d) := by show _ = _; rw [gcd_step, HG.out]
      have hme : (x : Int) % (y : Int) = ((x % y : Nat) : Int) := by simp
      clear hy0
      go_wp2
      go_quiet (fail)
      go_wp2
      go_roundw
      case rel => exact ⟨y, x % y, _, rfl, by rw [hme], HGS.out, hy, by omega, World.drewN_drewN _ _ _⟩
      case measure => simp [intOf]; omega

/-- The likeness of two columns of ones, by their products. -/
def likeC (a b : List Int) : (Int × Int) × Int :=
  if dot a a * dot b b = 0 then ((0, 0), 8) else
    ((((dot a b * dot a b).toNat / Nat.gcd (dot a b * dot a b).toNat (dot a a * dot b b).toNat : Nat), ((dot a a * dot b b).toNat / Nat.gcd (dot a b * dot a b).toNat (dot a a * dot b b).toNat : Nat)), 0)
theorem sq_nonneg (x : Int) : 0 ≤ x * x := by
  rcases Int.le_total 0 x with h | h
  · exact Int.mul_nonneg h h
  · exact Int.mul_nonneg_of_nonpos_of_nonpos h h
theorem sumTo_nonneg {f : Nat → Int} : ∀ n, (∀ i, i < n → 0 ≤ f i) → 0 ≤ sumTo f n
  | 0, _ => by simp [sumTo]
  | n + 1, h => by
    have ih := sumTo_nonneg n (fun i hi => h i (by omega))
    have := h n (by omega)
    simp only [sumTo]; omega
theorem dot_self (a : List Int) : 0 ≤ dot a a := sumTo_nonneg _ fun i _ => sq_nonneg _
theorem dot_ones {a b : List Int} (ha : allB 1 a = true) (hb : allB 1 b = true) (hl : a.length ≤ b.length) : -(a.length : Int) ≤ dot a b ∧ dot a b ≤ a.length := by
  have := sumTo_bd (f := fun i => gt a i * gt b i) (M := 1) a.length (fun i hi => by have := mul_le (gt_in ha hi) (gt_in hb (show i < b.length by omega)); simpa using this)
  unfold dot; omega
theorem likeC_parts {a b : List Int} (ha : allB 1 a = true) (hb : allB 1 b = true) (hl : a.length = b.length) (h6 : a.length ≤ 10) :
    ∃ p s : Nat, dot a b * dot a b = p ∧ dot a a * dot b b = s ∧ p ≤ 100 ∧ s ≤ 100 ∧ likeC a b = if s = 0 then (((0 : Int), (0 : Int)), (8 : Int)) else ((((p / Nat.gcd p s : Nat) : Int), ((s / Nat.gcd p s : Nat) : Int)), (0 : Int)) := by
  have h1 := dot_ones ha hb (by omega)
  have h2 := dot_ones ha ha (by omega)
  have h3 := dot_ones hb hb (by omega)
  have h4 := dot_self a
  have h5 := dot_self b
  have h7 := sq_nonneg (dot a b)
  have h8 := Int.mul_nonneg h4 h5
  have h9 := mul_le (x := 10) (y := 10) (a := dot a b) (b := dot a b) ⟨by omega, by omega⟩ ⟨by omega, by omega⟩
  have h10 := mul_le (x := 10) (y := 10) (a := dot a a) (b := dot b b) ⟨by omega, by omega⟩ ⟨by omega, by omega⟩
  refine ⟨(dot a b * dot a b).toNat, (dot a a * dot b b).toNat, by omega, by omega, by omega, by omega, ?_⟩
  unfold likeC
  by_cases h : dot a a * dot b b = 0
  · rw [if_pos h, if_pos (by omega)]
  · rw [if_neg h, if_neg (by omega)]
set_option maxRecDepth 100000 in
set_option maxHeartbeats 400000 in
theorem likeness_any (a : Option Addr) (xs : List Int) (ca : Nat) (b : Option Addr) (ys : List Int) (cb : Nat) (w : World) (hx : allB 1 xs = true) (hy : allB 1 ys = true) (hl : xs.length = ys.length) (h10 : xs.length ≤ 10) (ha : Sl w a xs) (hb : Sl w b ys) :
    Calls Try.prog 47 #[.slice a xs.length ca, .slice b ys.length cb] w (QPost (likeC xs ys) w) := by
  obtain ⟨p, s, hp, hs, p100, s100, hL⟩ := likeC_parts hx hy hl h10
  have HL := Lib.hid hL; clear hL
  have HA := Lib.hid (ha.alloc (.cells #[.int .i64 0, .int .i64 0] 44)); clear ha
  have HB := Lib.hid (hb.alloc (.cells #[.int .i64 0, .int .i64 0] 44)); clear hb
  have PXX := Lib.hid (PB_of hx hx (Nat.le_refl _) (by omega))
  have PYY := Lib.hid (PB_of hy hy (Nat.le_refl _) (by omega))
  have PXY := Lib.hid (PB_of hx hy (by omega) (by omega))
  have hly : ys.length ≤ 10 := by omega
  have hle : xs.length ≤ ys.length := by omega
  clear hx hy hl
  obtain ⟨A, hA⟩ : ∃ A, dot xs xs = A := ⟨_, rfl⟩
  obtain ⟨B, hB⟩ : ∃ B, dot ys ys = B := ⟨_, rfl⟩
  obtain ⟨C, hC⟩ : ∃ C, dot xs ys = C := ⟨_, rfl⟩
  rw [hA, hB] at hs
  rw [hC] at hp
  have EA := Lib.hid hA; clear hA
  have EB := Lib.hid hB; clear hB
  have EC := Lib.hid hC; clear hC
  go_enter Try.func47, Try.ntmps47
  go_wp2_with fail
  refine (product_any _ _ _ _ _ _ _ h10 (Nat.le_refl _) (by omega) PXX.out HA.out HA.out).mono ?_
  rintro e w1 ⟨rfl, rfl⟩
  rw [EA.out]
  go_wp2_with fail
  refine (product_any _ _ _ _ _ _ _ hly (Nat.le_refl _) (by omega) PYY.out HB.out HB.out).mono ?_
  rintro e w1 ⟨rfl, rfl⟩
  rw [EB.out]
  by_cases hs0 : s = 0
  · subst hs0
    go_wp2
    (try simp only [Exit.inBlock, Exit.then])
    refine bodyPost_ret (v := .tuple #[.agg #[.int .i64 0, .int .i64 0], .int .i64 8]) (by rw [results_cell_tmp rfl]; go_simp) rfl ⟨?_, by rw [HL.out]; rfl⟩
    exact (Below.refl _ _).alloc (Nat.le_refl _) _
  · have e0 : ((s : Int) == 0) = false := by simp; omega
    have HS0 : Hid (s ≠ 0) := Lib.hid hs0
    have hs1 : 1 ≤ s := by omega
    clear hs0
    go_wp2_with fail
    refine (product_any _ _ _ _ _ _ _ h10 hle (by omega) PXY.out HA.out HB.out).mono ?_
    rintro e w1 ⟨rfl, rfl⟩
    rw [EC.out]
    go_wp2_with fail
    refine (lowest_any p s (by omega) (by omega) hs1 _).mono ?_
    rintro e w5 ⟨rfl, hb5⟩
    have HB5 := Lib.hid hb5
    have c0 := hb5.cell (p := ⟨w.heap.size, 0, none⟩) (by simp)
    have c1 := hb5.cell (p := ⟨w.heap.size, 1, none⟩) (by simp)
    have f0 := hb5.frozen (p := ⟨w.heap.size, 0, none⟩) (by simp)
    have f1 := hb5.frozen (p := ⟨w.heap.size, 1, none⟩) (by simp)
    simp at c0 c1 f0 f1
    clear hb5
    go_wp2
    (try simp only [Exit.inBlock, Exit.then])
    refine bodyPost_ret (v := .tuple #[.agg #[.int .i64 ((p / Nat.gcd p s : Nat) : Int), .int .i64 ((s / Nat.gcd p s : Nat) : Int)], .int .i64 0]) (by rw [results_cell_tmp rfl]; go_simp) rfl ⟨?_, by rw [HL.out, if_neg HS0.out]⟩
    exact ((((Below.refl _ _).alloc (Nat.le_refl _) _).trans (HB5.out.mono (by simp))).setCell (by simp) _).setCell (by simp) _
end Go.Proofs.Ytacbciamehchjaa
