
/- How Largest of layer 1 compares two indexes: contracts. -/
import Derived.Test.YtacbciamehchjaaSteps
import Derived.Deep.RegionHeldLaw
namespace Go.Proofs.Ytacbciamehchjaa
open Go.RowKit

def cmpI (x y : Int) : Int := if x < y then -1 else if y < x then 1 else 0
theorem isNaN_any (x : Int) (w : World) : Calls Try.prog 60 #[.int .i64 x] w fun e w' => e = .returned (.bool false) ∧ w = w' := by
  go_enter Try.func60, Try.ntmps60
  go_wp2
  go_ret
  exact ⟨ret_bool (by simp), rfl⟩
theorem cmp_any (x y : Int) (w : World) : Calls Try.prog 33 #[.int .i64 x, .int .i64 y] w fun e w' => e = .returned (.int .i64 (cmpI x y)) ∧ w = w' := by
  go_enter Try.func33, Try.ntmps33
  go_wp2_with fail
  refine (isNaN_any _ _).mono ?_
  rintro e w1 ⟨rfl, rfl⟩
  go_wp2_with fail
  refine (isNaN_any _ _).mono ?_
  rintro e w1 ⟨rfl, rfl⟩
  by_cases h1 : x < y
  · go_wp2
    go_ret
    exact ⟨ret_i64 (by unfold cmpI; rw [if_pos h1]), rfl⟩
  · by_cases h2 : y < x
    · go_wp2
      go_ret
      exact ⟨ret_i64 (by unfold cmpI; rw [if_neg (Int.not_lt.2 h1), if_pos h2]), rfl⟩
    · go_wp2
      go_ret
      exact ⟨ret_i64 (by unfold cmpI; rw [if_neg (Int.not_lt.2 h1), if_neg (Int.not_lt.2 h2)]), rfl⟩
theorem sizesC_any (d : Int) (W : World) (B : Nat) (hc : W.cell? ⟨B, 0, none⟩ = some (.int .i64 d)) (hd : -2000000 ≤ d ∧ d ≤ 2000000) :
    Calls Try.prog 29 #[.slice (some ⟨B, 0, none⟩) 1 1] W fun e w' => e = .returned (.int .i64 (av d)) ∧ W = w' := by
  have h := sizes_any (some ⟨B, 0, none⟩) [d] 1 W (by simp) (by simp [allB, outB]; omega) (fun k hk => by
    obtain rfl : k = 0 := by simpa using hk
    exact ⟨B, 0, rfl, hc⟩)
  rw [sz_one] at h
  exact h
set_option maxRecDepth 100000 in
set_option maxHeartbeats 1600000 in
theorem larger_any (B : Nat) (a : Option Addr) (L : List Int) (cap : Nat) (i j : Nat) (w : World) (hl : L.length ≤ 256) (hall : allB 1000000 L = true) (hi : i < L.length) (hj : j < L.length)
    (hb : w.cell? ⟨B, 0, none⟩ = some (.slice a L.length cap)) (hs : Sl w a L) :
    Calls Try.prog 32 #[.int .i64 i, .int .i64 j, .pointer (some ⟨B, 0, none⟩)] w fun e w' => e = .returned (.int .i64 (cmpI (av (gt L j)) (av (gt L i)))) ∧ Below w.heap.size w w' := by
  obtain ⟨b1, o1, x, rfl, c1, HX⟩ := hs.at hi
  obtain ⟨b2, o2, y, e2, c2, HY⟩ := hs.at hj
  obtain ⟨rfl, rfl⟩ : b1 = b2 ∧ o1 = o2 := by simpa using e2
  have hx := gt_in hall hi
  have hy := gt_in hall hj
  have EV : Hid (cmpI (av (gt L j)) (av (gt L i)) = cmpI (av y) (av x)) := by show _ = _; rw [gt_some' HX.out, gt_some' HY.out]
  rw [gt_some' HX.out] at hx
  rw [gt_some' HY.out] at hy
  have hx2 : -2000000 ≤ x ∧ x ≤ 2000000 := by omega
  have hy2 : -2000000 ≤ y ∧ y ≤ 2000000 := by omega
  have lB : B < w.heap.size := cell_lt hb
  have lb : b1 < w.heap.size := cell_lt c1
  have LB : Hid (∀ {W : World}, Below w.heap.size w W → W.cell? ⟨B, 0, none⟩ = some (.slice (some ⟨b1, o1, none⟩) L.length cap) ∧ W.cell? ⟨b1, o1 + j, none⟩ = some (.int .i64 y) ∧ W.cell? ⟨b1, o1 + i, none⟩ = some (.int .i64 x)) := fun {W} h => ⟨(h.cell (p := ⟨B, 0, none⟩) lB).trans hb, (h.cell (p := ⟨b1, o1 + j, none⟩) lb).trans c2, (h.cell (p := ⟨b1, o1 + i, none⟩) lb).trans c1⟩
  clear e2 HX HY hall hs
  go_enter Try.func32, Try.ntmps32
  go_wp2
  go_region_held_law (fun w' => w'.cell? ⟨B, 0, none⟩ = some (.slice (some ⟨b1, o1, none⟩) L.length cap) ∧ w'.cell? ⟨b1, o1 + j, none⟩ = some (.int .i64 y) ∧ w'.cell? ⟨b1, o1 + i, none⟩ = some (.int .i64 x)) (first | exact ⟨by assumption, by assumption, by assumption⟩ | go_keep | (go_simp; done)) (first
    | (go_at_call 29; refine (sizesC_any y _ _ ?hc hy2).mono ?_; (case hc => (go_simp; done)); rintro e w1 ⟨rfl, rfl⟩)
    | (go_at_call 29; refine (sizesC_any x _ _ ?hc hx2).mono ?_; (case hc => (go_simp; done)); rintro e w1 ⟨rfl, rfl⟩)
    | (go_at_call 33; refine (cmp_any _ _ _).mono ?_; rintro e w1 ⟨rfl, rfl⟩))
  all_goals
    go_wp2
    go_ret
    refine ⟨ret_i64 (by rw [EV.out]), ?_⟩
    first
      | exact ((((Below.refl w.heap.size w).alloc (Nat.le_refl _) _).alloc (by simp) _).drew)
      | exact ((((Below.refl w.heap.size w).drew).alloc (Nat.le_refl _) _).alloc (by simp) _)
end Go.Proofs.Ytacbciamehchjaa
