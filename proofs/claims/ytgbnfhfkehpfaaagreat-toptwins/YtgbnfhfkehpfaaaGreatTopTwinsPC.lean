/- Parts of the proof of TopTwins: plain words, walks and contracts, each under its own heading. -/
import Derived.Test.YtgbnfhfkehpfaaaGreatTopTwinsPA
import Derived.Test.YtgbnfhfkehpfaaaGreatProg
import Derived.Test.YtgbnfhfkehpfaaaGreatTopTwinsPB
import Derived.BigQuiet
import Derived.Deep.QuietTactic
import Derived.IntWalk
import Derived.Deep.RegionHeldLaw
import Derived.Deep.RegionHeld3
import Derived.Lib.QuietBelow
import Derived.Deep.RegionLaw
/- What asks masks and lists for their ranges, in layer 2 and in its answers: contracts. -/
namespace Go.Proofs.YtgbnfhfkehpfaaaGreat
open Go.RowKit

def allR (lo hi : Int) (xs : List Int) : Bool := xs.all fun x => rangeB x lo hi
theorem allR_sym (lim : Int) (xs : List Int) : allR (-lim) lim xs = allB lim xs := by
  unfold allR allB
  congr 1; funext x
  simp only [rangeB, outB]
  by_cases h1 : -lim ≤ x <;> by_cases h2 : x ≤ lim <;> simp [h1, h2] <;> omega
theorem allR_no {lo hi : Int} {xs : List Int} {k : Nat} {x : Int} (hx : xs[k]? = some x) (ho : rangeB x lo hi = false) : allR lo hi xs = false := by
  unfold allR; rw [List.all_eq_false]
  exact ⟨x, List.mem_of_getElem? hx, by simp [ho]⟩
theorem allR_yes {lo hi : Int} {xs : List Int} (h : ∀ j, j < xs.length → rangeB (xs[j]?.getD 0) lo hi = true) : allR lo hi xs = true := by
  unfold allR; rw [List.all_eq_true]; intro x hx
  obtain ⟨j, hj, rfl⟩ := List.mem_iff_getElem.1 hx
  have := h j hj
  simpa [hj] using this

theorem btw_any (n lo hi : Int) (B C : Nat) (w : World) (c1 : w.cell? ⟨B, 0, none⟩ = some (.int .i64 lo)) (c2 : w.cell? ⟨C, 0, none⟩ = some (.int .i64 hi)) :
    Calls Tryz.prog 90 #[.int .i64 n, .pointer (some ⟨B, 0, none⟩), .pointer (some ⟨C, 0, none⟩)] w fun e w' => e = .returned (.bool (rangeB n lo hi)) ∧ w = w' := by
  go_enter Tryz.func90, Tryz.ntmps90
  go_wp2
  all_goals go_ret
  all_goals exact ⟨ret_bool (by first | (simp [rangeB, *]; done) | (simp [rangeB]; omega)), rfl⟩
theorem between_any (lo hi : Int) (w : World) :
    Calls Tryz.prog 57 #[.int .i64 lo, .int .i64 hi] w fun e w' => e = .returned (.func (.func 90) #[] #[.pointer (some ⟨w.heap.size, 0, none⟩), .pointer (some ⟨w.heap.size + 1, 0, none⟩)]) ∧
      w'.cell? ⟨w.heap.size, 0, none⟩ = some (.int .i64 lo) ∧ w'.cell? ⟨w.heap.size + 1, 0, none⟩ = some (.int .i64 hi) ∧ Below w.heap.size w w' := by
  go_enter Tryz.func57, Tryz.ntmps57
  go_wp2
  go_ret
  exact ⟨by simp, (alloc_old _ _ _ _ (by simp)).trans (alloc_cell _ _ _ _ _ rfl), by simp, ((Below.refl _ _).alloc (Nat.le_refl _) _).alloc (by simp) _⟩
theorem allbtw_any (lo hi : Int) (B C : Nat) (a : Option Addr) (xs : List Int) (cap : Nat) (w : World) (hl : xs.length ≤ 9223372036854775807)
    (c1 : w.cell? ⟨B, 0, none⟩ = some (.int .i64 lo)) (c2 : w.cell? ⟨C, 0, none⟩ = some (.int .i64 hi)) (hs : Sl w a xs) :
    Calls Tryz.prog 56 #[.slice a xs.length cap, .func (.func 90) #[] #[.pointer (some ⟨B, 0, none⟩), .pointer (some ⟨C, 0, none⟩)]] w fun e w' => e = .returned (.bool (allR lo hi xs)) ∧ w = w' := by
  have HS := Lib.hid hs; clear hs
  go_enter Tryz.func56, Tryz.ntmps56
  go_wp2
  go_loop [9] (fun i => ∃ k : Nat, k ≤ xs.length ∧ i = .int .i64 k ∧ ∀ j, j < k → rangeB (xs[j]?.getD 0) lo hi = true) (fun i => xs.length - (intOf i).toNat)
  case atStart => exact ⟨0, Nat.zero_le _, rfl, fun j h => by omega⟩
  case round =>
    obtain ⟨k, hk, rfl, hno⟩ := hrel
    have HN := Lib.hid hno; clear hno
    by_cases hlt : k < xs.length
    · obtain ⟨b, off, x, rfl, hcell, HX⟩ := HS.out.at hlt
      cases ho : rangeB x lo hi
      · go_wp2_with (go_at_call 90; refine (btw_any _ lo hi _ _ _ c1 c2).mono ?_; rintro e w' ⟨rfl, rfl⟩)
        go_ret
        exact ⟨ret_bool (allR_no HX.out ho).symm, rfl⟩
      · go_wp2_with (go_at_call 90; refine (btw_any _ lo hi _ _ _ c1 c2).mono ?_; rintro e w' ⟨rfl, rfl⟩)
        go_round
        case rel => exact ⟨k + 1, by omega, by go_num, fun j hj => by
            by_cases hj' : j = k
            · subst hj'; rw [HX.out]; exact ho
            · exact HN.out j (by omega)⟩
        case measure => simp [intOf]; omega
    · go_wp2
      go_ret
      exact ⟨ret_bool (allR_yes (fun j hj => HN.out j (by omega))).symm, rfl⟩
theorem validRow_any (a : Option Addr) (r : List Int) (cap : Nat) (w : World) (hl : r.length ≤ 9223372036854775807) (hs : Sl w a r) :
    Calls Tryz.prog 67 #[.slice a r.length cap] w fun e w' => e = .returned (.bool (rowB r)) ∧ Below w.heap.size w w' := by
  have HS := Lib.hid hs; clear hs
  by_cases h1 : 1 ≤ r.length ∧ r.length ≤ 10
  · obtain ⟨h1, h2⟩ := h1
    go_enter Tryz.func67, Tryz.ntmps67
    go_wp2_with fail
    refine (between_any (-1) 1 _).mono ?_
    rintro e w1 ⟨rfl, c1, c2, hb⟩
    have HB := Lib.hid hb; clear hb
    go_wp2_with fail
    refine (allbtw_any (-1) 1 _ _ _ _ _ _ hl c1 c2 (HS.out.below HB.out)).mono ?_
    rintro e w2 ⟨rfl, rfl⟩
    go_wp2
    go_ret
    refine ⟨ret_bool ?_, HB.out⟩
    rw [allR_sym 1]
    simp [rowB, rangeB]; omega
  · have HX : Hid (rowB r = false) := by
      show rowB r = false
      simp only [rowB, rangeB]
      by_cases h2 : 1 ≤ r.length
      · have : ¬ ((r.length : Int) ≤ 10) := by omega
        simp [this]
      · have : ¬ (1 ≤ (r.length : Int)) := by omega
        simp [this]
    by_cases h2 : 1 ≤ r.length
    · have h3 : 10 < r.length := by omega
      clear h1
      go_enter Tryz.func67, Tryz.ntmps67
      go_wp2
      go_ret
      exact ⟨ret_bool HX.out.symm, Below.refl _ _⟩
    · have h3 : r.length < 1 := by omega
      clear h1 h2
      go_enter Tryz.func67, Tryz.ntmps67
      go_wp2
      go_ret
      exact ⟨ret_bool HX.out.symm, Below.refl _ _⟩
theorem fits_any (a : Option Addr) (xs : List Int) (cap : Nat) (n lim : Int) (h0 : 0 ≤ lim) (h1 : lim ≤ 1000000000) (w : World) (hl : xs.length ≤ 9223372036854775807) (hs : Sl w a xs) :
    Calls Tryz.prog 33 #[.slice a xs.length cap, .int .i64 n, .int .i64 lim] w fun e w' => e = .returned (.int .i64 (fitsV xs n lim)) ∧ Below w.heap.size w w' := by
  have HS := Lib.hid hs; clear hs
  by_cases hn : (xs.length : Int) = n
  · have HN : Hid (fitsV xs n lim = if allB lim xs = true then 0 else 7) := by show fitsV xs n lim = _; unfold fitsV; rw [if_pos hn]
    have hb : ((xs.length : Int) == n) = true := by simpa using hn
    have hb' : ((xs.length : Int) != n) = false := by simpa using hn
    clear hn
    have HV := Lib.hid (allR_sym lim xs)
    go_enter Tryz.func33, Tryz.ntmps33
    go_wp2_with fail
    refine (between_any (-lim) lim _).mono ?_
    rintro e w1 ⟨rfl, c1, c2, hb⟩
    have HB := Lib.hid hb; clear hb
    go_wp2_with fail
    refine (allbtw_any (-lim) lim _ _ _ _ _ _ hl c1 c2 (HS.out.below HB.out)).mono ?_
    rintro e w2 ⟨rfl, rfl⟩
    rw [HV.out]
    cases hA : allB lim xs
    · rw [hA] at HN
      have HN' := HN; clear HN hA
      go_wp2
      go_ret
      exact ⟨by rw [HN'.out]; rfl, HB.out⟩
    · rw [hA] at HN
      have HN' := HN; clear HN hA
      go_wp2
      go_ret
      exact ⟨by rw [HN'.out]; rfl, HB.out⟩
  · have HN : Hid (fitsV xs n lim = 9) := by show fitsV xs n lim = _; unfold fitsV; rw [if_neg hn]
    have hb : ((xs.length : Int) == n) = false := by simpa using hn
    have hb' : ((xs.length : Int) != n) = true := by simpa using hn
    clear hn
    go_enter Tryz.func33, Tryz.ntmps33
    go_wp2
    go_ret
    exact ⟨by rw [HN.out]; rfl, Below.refl _ _⟩

theorem row0 {w : World} {a : Option Addr} {m : List (List Int)} (h : Ms w a m) (h1 : 1 ≤ m.length) : ∃ b off a0 c0, a = some ⟨b, off, none⟩ ∧ w.cell? ⟨b, off, none⟩ = some (.slice a0 (colsM m) c0) := by
  obtain ⟨b, off, a0, c0, h1, h2, _⟩ := h 0 (by omega)
  exact ⟨b, off, a0, c0, h1, h2⟩
theorem valid1_any (B : Nat) (a : Option Addr) (m : List (List Int)) (cap : Nat) (b : Option Addr) (r : List Int) (c : Nat) (w : World) (hm : 1 ≤ m.length) (hl : r.length ≤ 9223372036854775807)
    (hbox : w.cell? ⟨B, 0, none⟩ = some (.slice a m.length cap)) (hs : Ms w a m) (hr : Sl w b r) :
    Calls Tryz.prog 66 #[.slice b r.length c, .pointer (some ⟨B, 0, none⟩)] w fun e w' => e = .returned (.bool (decide (r.length = colsM m) && rowB r)) ∧ Below w.heap.size w w' := by
  obtain ⟨b0, o0, a0, c0, rfl, hcell⟩ := row0 hs hm
  have HR := Lib.hid hr; clear hr hs
  by_cases he : r.length = colsM m
  · have e1 : ((r.length : Int) == (colsM m : Int)) = true := by simp [he]
    have HE : Hid (decide (r.length = colsM m) = true) := by show decide (r.length = colsM m) = true; simp [he]
    clear he
    go_enter Tryz.func66, Tryz.ntmps66
    go_wp2_with (go_at_call 67; refine (validRow_any b r c _ hl HR.out).mono ?_; rintro e w1 ⟨rfl, hb⟩)
    go_ret
    exact ⟨ret_bool (by rw [HE.out, Bool.true_and]), hb⟩
  · have e1 : ((r.length : Int) == (colsM m : Int)) = false := by simp; omega
    have HE : Hid (decide (r.length = colsM m) = false) := by show decide (r.length = colsM m) = false; simp [he]
    clear he
    go_enter Tryz.func66, Tryz.ntmps66
    go_wp2
    go_ret
    exact ⟨ret_bool (by rw [HE.out, Bool.false_and]), Below.refl _ _⟩
theorem allrows_any (B : Nat) (a : Option Addr) (m : List (List Int)) (cap : Nat) (w : World) (hm : MOk m) (h1 : 1 ≤ m.length) (hB : B < w.heap.size)
    (hbox : w.cell? ⟨B, 0, none⟩ = some (.slice a m.length cap)) (hs : Ms w a m) :
    Calls Tryz.prog 65 #[.slice a m.length cap, .func (.func 66) #[] #[.pointer (some ⟨B, 0, none⟩)]] w fun e w' => e = .returned (.bool (m.all fun r => decide (r.length = colsM m) && rowB r)) ∧ Below w.heap.size w w' := by
  have HS := Lib.hid hs; clear hs
  have HM := Lib.hid hm
  have hml := hm.1
  clear hm
  have HBX := Lib.hid hbox; clear hbox
  go_enter Tryz.func65, Tryz.ntmps65
  go_wp2
  go_loopw [9] (fun i wr => ∃ k : Nat, k ≤ m.length ∧ i = .int .i64 k ∧ (∀ j, j < k → (decide ((m[j]?.getD []).length = colsM m) && rowB (m[j]?.getD [])) = true) ∧ Below w.heap.size w wr) (fun i _ => m.length - (intOf i).toNat)
  case atStart => exact ⟨0, Nat.zero_le _, rfl, fun j h => by omega, Below.refl _ _⟩
  case round =>
    obtain ⟨k, hk, rfl, hno, hb⟩ := hrel
    have HN := Lib.hid hno; clear hno
    have HB := Lib.hid hb; clear hb
    by_cases hlt : k < m.length
    · obtain ⟨b, off, ai, r, ci, rfl, hcell, hsl, HX⟩ := (HS.out.below HB.out).at hlt
      have HSL := Lib.hid hsl; clear hsl
      have hrl := (HM.out.row HX.out).1
      have hbx := (HB.out.cell (p := ⟨B, 0, none⟩) hB).trans HBX.out
      cases ho : (decide (r.length = colsM m) && rowB r)
      · have HO := Lib.hid ho; clear ho
        go_wp2_with (go_at_call 66; refine (valid1_any B _ m cap _ _ _ _ h1 hrl hbx (HS.out.below HB.out) HSL.out).mono ?_; rintro e w1 ⟨rfl, hb1⟩; rw [HO.out])
        go_ret
        refine ⟨ret_bool ?_, HB.out.trans (hb1.mono HB.out.size)⟩
        symm; rw [List.all_eq_false]; exact ⟨r, List.mem_of_getElem? HX.out, by rw [HO.out]; simp⟩
      · have HO := Lib.hid ho; clear ho
        go_wp2_with (go_at_call 66; refine (valid1_any B _ m cap _ _ _ _ h1 hrl hbx (HS.out.below HB.out) HSL.out).mono ?_; rintro e w1 ⟨rfl, hb1⟩; rw [HO.out])
        go_roundw
        case rel => exact ⟨k + 1, by omega, by go_num, fun j hj => by
            by_cases hj' : j = k
            · subst hj'; rw [HX.out]; exact HO.out
            · exact HN.out j (by omega), HB.out.trans (hb1.mono HB.out.size)⟩
        case measure => simp [intOf]; omega
    · go_wp2
      go_ret
      refine ⟨ret_bool ?_, HB.out⟩
      symm; rw [List.all_eq_true]; intro r hr
      obtain ⟨i, hi, rfl⟩ := List.mem_iff_getElem.1 hr
      have := HN.out i (by omega)
      simpa [hi] using this
theorem mvalid_any (a : Option Addr) (m : List (List Int)) (cap : Nat) (w : World) (hm : MOk m) (hs : Ms w a m) :
    Calls Tryz.prog 32 #[.slice a m.length cap] w fun e w' => e = .returned (.bool (validM m)) ∧ Below w.heap.size w w' := by
  have HM := Lib.hid hm
  have hml := hm.1
  clear hm
  have HS := Lib.hid (hs.alloc (.cells #[.slice a m.length cap] 26)); clear hs
  have HX : Hid (validM m = (rangeB m.length 1 6 && m.all fun r => decide (r.length = colsM m) && rowB r)) := Lib.hid rfl
  by_cases h1 : 1 ≤ m.length
  · by_cases h2 : m.length ≤ 6
    · go_enter Tryz.func32, Tryz.ntmps32
      go_wp2_with (go_at_call 65; refine (allrows_any w.heap.size a m cap _ HM.out h1 (by simp) (by simp) HS.out).mono ?_; rintro e w1 ⟨rfl, hb⟩)
      go_ret
      refine ⟨ret_bool ?_, ((Below.refl _ _).alloc (Nat.le_refl _) _).trans (hb.mono (by simp))⟩
      rw [HX.out]; simp [rangeB]; omega
    · have h2' : 6 < m.length := by omega
      clear h2
      go_enter Tryz.func32, Tryz.ntmps32
      go_wp2
      go_ret
      refine ⟨ret_bool ?_, (Below.refl _ _).alloc (Nat.le_refl _) _⟩
      rw [HX.out]
      have : ¬ ((m.length : Int) ≤ 6) := by omega
      simp [rangeB, this]
  · have h1' : m.length < 1 := by omega
    clear h1
    go_enter Tryz.func32, Tryz.ntmps32
    go_wp2
    go_ret
    refine ⟨ret_bool ?_, (Below.refl _ _).alloc (Nat.le_refl _) _⟩
    rw [HX.out]
    have : ¬ (1 ≤ (m.length : Int)) := by omega
    simp [rangeB, this]
end Go.Proofs.YtgbnfhfkehpfaaaGreat
/- Circuit and Spark of layer 3: contracts. -/
namespace Go.Proofs.YtgbnfhfkehpfaaaGreat
open Go.RowKit Go.Shelf
attribute [local go_sem] Oper.semAt_some

theorem mok_of {m : List (List Int)} (hv : validM m = true) : MOk m := by
  obtain ⟨hm1, hm6, hc1, hc10, hrows⟩ := validM_of hv
  refine ⟨by omega, fun r hr => ⟨by have := (hrows r hr).1; omega, fun x hx => ?_⟩⟩
  obtain ⟨c, hc, rfl⟩ := mem_gt.1 hx
  have := gt_in (hrows r hr).2 hc
  unfold I64; omega
theorem circuits_any (a : Option Addr) (M cap : Nat) (w : World) :
    Calls Tryz.prog 51 #[.slice a M cap] w fun e w' =>
      e = .returned (.func (.func 81) #[] #[.pointer (some ⟨w.heap.size, 0, none⟩)]) ∧ w' = w.alloc (.cells #[.slice a M cap] 26) := by
  go_enter Tryz.func51, Tryz.ntmps51
  go_wp2
  go_ret
  exact ⟨rfl, rfl⟩
def circuitV (m : List (List Int)) : List Int × Int := if validM m = true then (match circsAll m with | [] => ([], 8) | h :: _ => (h, 0)) else ([], 1)
def CCPost (r : List Int × Int) (w : World) (e : Ending) (w' : World) : Prop :=
  Below w.heap.size w w' ∧ ∃ a, e = .returned (.tuple #[.slice a r.1.length r.1.length, .int .i64 r.2]) ∧ Sl w' a r.1
structure CirI (w : World) (v : Value) (n : Int) (pre : List SetV) (C T : Blk) (W : World) : Prop where
  r : W.cell? ⟨w.heap.size, 0, none⟩ = some v
  e : W.cell? ⟨w.heap.size + 1, 0, none⟩ = some (.int .i64 n)
  fr : W.frozen? ⟨w.heap.size, 0, none⟩ = false
  fe : W.frozen? ⟨w.heap.size + 1, 0, none⟩ = false
  bw : Below w.heap.size w W
  nt : ∀ b, b < w.heap.size + 2 → ¬ T b
  cc : ∀ b, C b ↔ b = w.heap.size ∨ b = w.heap.size + 1 ∨ ∃ x ∈ pre, b = x.1
  mem : ∀ x ∈ pre, MemS x W ∧ ¬ T x.1 ∧ w.heap.size + 2 ≤ x.1
theorem memS_turned {x : SetV} {T : Blk} {W W' : World} (h : MemS x W) (ht : Turned T W W') (hn : ¬ T x.1) : MemS x W' := OwnI.sameBlock h (ht.same _ (OwnI.lt h).1 hn)
theorem CirI.keep {w : World} {v : Value} {n : Int} {pre : List SetV} {C T T' : Blk} {W W' : World} (h : CirI w v n pre C T W) (ht : Turned T W W') (hT : ∀ b, T' b → T b ∨ W.heap.size ≤ b) : CirI w v n pre C T' W' := by
  have l0 := cell_lt h.r
  have l1 := cell_lt h.e
  dsimp only at l0 l1
  have hnt : ∀ b, b < w.heap.size + 2 → ¬ T' b := fun b hb e => (hT b e).elim (h.nt b hb) (by omega)
  refine ⟨ht.cell h.r (h.nt _ (by show w.heap.size < _; omega)), ht.cell h.e (h.nt _ (by show w.heap.size + 1 < _; omega)), (ht.frozen l0 (h.nt _ (by show w.heap.size < _; omega))).trans h.fr, (ht.frozen l1 (h.nt _ (by show w.heap.size + 1 < _; omega))).trans h.fe, h.bw.trans (ht.below h.bw.size fun b hb => h.nt b (by omega)), hnt, h.cc, fun x hx => ?_⟩
  obtain ⟨m1, m2, m3⟩ := h.mem x hx
  exact ⟨memS_turned m1 ht m2, fun e => (hT _ e).elim m2 (by have := (OwnI.lt m1).1; omega), m3⟩
theorem CirI.client {w : World} {p : List SetV → Value → Prop} {n : Int} : Client fun pre C T W => ∃ v, p pre v ∧ CirI w v n pre C T W where
  lt := by
    rintro pre C T W ⟨v, _, h⟩ b hb
    rcases (h.cc b).1 hb with rfl | rfl | ⟨x, hx, rfl⟩
    · exact ⟨cell_lt h.r, h.nt _ (by omega)⟩
    · exact ⟨cell_lt h.e, h.nt _ (by omega)⟩
    · exact ⟨(OwnI.lt (h.mem x hx).1).1, (h.mem x hx).2.1⟩
  keep := fun ⟨v, hp, h⟩ ht hT => ⟨v, hp, h.keep ht hT⟩
theorem CirI.over {w : World} {v : Value} {n : Int} {C T : Blk} {W : World} (h : CirI w v n [] C T W) (pre : List SetV) (hp : ∀ x ∈ pre, MemS x W ∧ T x.1) (v' : Value) (n' : Int) :
    CirI w v' n' pre (fun b => C b ∨ ∃ x ∈ pre, b = x.1) (fun b => T b ∧ ∀ x ∈ pre, b ≠ x.1) ((W.setCell ⟨w.heap.size, 0, none⟩ v').setCell ⟨w.heap.size + 1, 0, none⟩ (.int .i64 n')) := by
  obtain ⟨c0, c1, f0, f1, bw, nt, cc, -⟩ := h
  have hge : ∀ x ∈ pre, w.heap.size + 2 ≤ x.1 := fun x hx => Nat.le_of_not_lt fun e => nt x.1 e (hp x hx).2
  refine ⟨?_, ?_, ?_, ?_, ?_, fun b hb e => nt b hb e.1, fun b => ?_, fun x hx => ⟨?_, fun e => e.2 x hx rfl, hge x hx⟩⟩
  · exact (cell_other _ _ _ _ (by show w.heap.size ≠ w.heap.size + 1; omega)).trans (World.cell?_setCell_same _ _ _ c0)
  · exact World.cell?_setCell_same _ _ _ ((cell_other _ _ _ _ (by show w.heap.size + 1 ≠ w.heap.size; omega)).trans c1)
  · simpa using f0
  · simpa using f1
  · exact (bw.setCell (p := ⟨w.heap.size, 0, none⟩) (Nat.le_refl _) _).setCell (p := ⟨w.heap.size + 1, 0, none⟩) (Nat.le_succ _) _
  · constructor
    · rintro (e | e)
      · rcases (cc b).1 e with e | e | ⟨x, hx, _⟩
        · exact .inl e
        · exact .inr (.inl e)
        · cases hx
      · exact .inr (.inr e)
    · rintro (e | e | e)
      · exact .inl ((cc b).2 (.inl e))
      · exact .inl ((cc b).2 (.inr (.inl e)))
      · exact .inr e
  · have := hge x hx
    refine OwnI.sameBlock (hp x hx).1 ?_
    exact (Below.heap_setCell _ _ _ _ (by show x.1 ≠ w.heap.size + 1; omega)).trans (Below.heap_setCell _ _ _ _ (by show x.1 ≠ w.heap.size; omega))
theorem cir_leaves {fn : Func} {tmps : Array Value} {w : World} {v : Value} {n : Int} {pre : List SetV} {C T : Blk} {ms : List Nat} {V : World} {R : Ending → World → Prop}
    (hres : ∀ W : World, W.cell? ⟨w.heap.size, 0, none⟩ = some v → W.cell? ⟨w.heap.size + 1, 0, none⟩ = some (.int .i64 n) → (results fn tmps).run Tryz.prog W = .ok (.tuple #[v, .int .i64 n]) W)
    (h : CirI w v n pre C T V) (hT : ∀ D, D ∈ ms → T D) (hn : ms.Nodup) (hd : ∀ D, D ∈ ms → V.heap[D]? = some (.deferred (some []))) (hR : ∀ W, CirI w v n pre C T W → R (.returned (.tuple #[v, .int .i64 n])) W) :
    LeavesInM Fence.wide 50 Tryz.prog fn tmps R (ms.map mark) .returning V := by
  refine leaves_marks2 (fun W => CirI w v n pre C T W) ms ?_ ?_ ms V (fun _ h => h) hn hd h
  · exact fun W D hD hW => hW.keep (turned_put W _ (hT D hD)) fun b e => .inl e
  · exact fun W hW => ⟨_, hres W hW.r hW.e, hR W hW⟩
set_option maxRecDepth 100000 in
set_option maxHeartbeats 2000000 in
theorem circuit_in (a : Option Addr) (m : List (List Int)) (cap : Nat) (w : World) (hm : MOk m) (hs : Ms w a m) :
    CallsIn Fence.wide 50 Tryz.prog 22 #[.slice a m.length cap] w (CCPost (circuitV m) w) := by
  have HM := Lib.hid hm; clear hm
  have HS := Lib.hid hs; clear hs
  obtain ⟨V0, hV0⟩ : ∃ V0, (w.alloc (.cells #[.slice none 0 0] 22)).alloc (.cells #[.int .i64 0] 27) = V0 := ⟨_, rfl⟩
  have hw1 : (w.alloc (.cells #[.slice none 0 0] 22)).heap.size = w.heap.size + 1 := World.size_alloc _ _
  have hB0 : Below w.heap.size w V0 := by rw [← hV0]; exact ((Below.refl _ _).alloc (Nat.le_refl _) _).alloc (by omega) _
  have hsz0 : V0.heap.size = w.heap.size + 2 := by rw [← hV0, World.size_alloc, hw1]
  have c0 : V0.cell? ⟨w.heap.size, 0, none⟩ = some (.slice none 0 0) := by rw [← hV0]; exact (alloc_old _ _ _ _ (by omega)).trans (alloc_cell _ _ _ _ _ rfl)
  have c1 : V0.cell? ⟨w.heap.size + 1, 0, none⟩ = some (.int .i64 0) := by rw [← hV0, ← hw1]; exact alloc_cell _ _ _ _ _ rfl
  have f0 : V0.frozen? ⟨w.heap.size, 0, none⟩ = false := by rw [← hV0]; simp
  have f1 : V0.frozen? ⟨w.heap.size + 1, 0, none⟩ = false := by rw [← hV0]; simp
  have HV : Hid (Calls Tryz.prog 32 #[.slice a m.length cap] V0 fun e w' => e = .returned (.bool (validM m)) ∧ Below V0.heap.size V0 w') := mvalid_any a m cap V0 HM.out (HS.out.below hB0)
  have HI0 : Hid (CirI w (.slice none 0 0) 0 [] (fun b => b = w.heap.size ∨ b = w.heap.size + 1) (fun _ => False) V0) := ⟨c0, c1, f0, f1, hB0, fun _ _ e => e, fun b => by simp, fun x hx => by cases hx⟩
  have HSZ := Lib.hid hsz0
  clear c0 c1 f0 f1 hB0 hsz0 hw1
  cases hv : validM m
  case false =>
    rw [hv] at HV
    have HC : Hid (circuitV m = ([], 1)) := by show circuitV m = _; simp [circuitV, hv]
    clear hv
    refine callsIn_of_wp_marks Tryz.func22 rfl trivial ?_ rfl
    simp only [Tryz.ntmps22, List.size_toArray, List.length_cons, List.length_nil, Nat.reduceAdd, Nat.reduceSub, Array.replicate_succ, Array.replicate_zero, List.push_toArray, List.append_toArray, List.nil_append, List.cons_append]
    gi_wp2_with (refine ⟨trivial, ?_⟩; gi_at_call 32; refine (callsIn_wide.2 HV.out).mono ?_; rintro e w1 ⟨rfl, hb⟩; have hI1 := HI0.out.keep (turned_below hb) (fun b e => .inl e); have HI1 := Lib.hid hI1; obtain ⟨c0, c1, f0, f1, -⟩ := hI1; clear hb)
    rw [HC.out]
    exact cir_leaves (ms := []) (v := .slice none 0 0) (n := 1) (by intro W q0 q1; simp [results, Tryz.results22, go_sem, q0, q1]) (HI1.out.over [] (fun x hx => by cases hx) _ 1) (fun _ h => by cases h) List.nodup_nil (fun _ h => by cases h) (fun W h => ⟨h.bw, none, rfl, Sl.none _⟩)
  case true =>
    rw [hv] at HV
    have HVV := Lib.hid hv
    have hn1 : 1 ≤ m.length := (validM_of hv).1
    clear hv
    refine callsIn_of_wp_marks Tryz.func22 rfl trivial ?_ rfl
    simp only [Tryz.ntmps22, List.size_toArray, List.length_cons, List.length_nil, Nat.reduceAdd, Nat.reduceSub, Array.replicate_succ, Array.replicate_zero, List.push_toArray, List.append_toArray, List.nil_append, List.cons_append]
    gi_wp2_with (first | (refine ⟨trivial, ?_⟩; gi_at_call 32; refine (callsIn_wide.2 HV.out).mono ?_; rintro e w1 ⟨rfl, hb⟩; have HI1 := Lib.hid (HI0.out.keep (turned_below hb) (fun b e => .inl e)); have HZ1 : Hid (w.heap.size + 2 ≤ w1.heap.size) := (by have := hb.size; have := HSZ.out; show _ ≤ _; omega); clear hb) | (refine ⟨trivial, ?_⟩; gi_at_call 51; refine (callsIn_wide.2 (circuits_any a m.length cap w1)).mono ?_; rintro e w2 ⟨rfl, rfl⟩))
    obtain ⟨V1, hV1⟩ : ∃ V1, w1.alloc (.cells #[.slice a m.length cap] 26) = V1 := ⟨_, rfl⟩
    have hBV : Below w1.heap.size w1 V1 := by rw [← hV1]; exact (Below.refl _ _).alloc (Nat.le_refl _) _
    have hcB : V1.cell? ⟨w1.heap.size, 0, none⟩ = some (.slice a m.length cap) := by rw [← hV1]; exact alloc_cell _ _ _ _ _ rfl
    have hvs : V1.heap.size = w1.heap.size + 1 := by rw [← hV1]; exact World.size_alloc _ _
    rw [hV1]
    have HI2 := Lib.hid (HI1.out.keep (turned_below hBV) (fun b e => .inl e))
    have HVS := Lib.hid hvs
    clear hV1 hBV hvs
    refine wpIn_rangeFunc_M (by omega) (gf := 81) (lb := #[.pointer (some ⟨w1.heap.size, 0, none⟩)]) rfl (enters_of Tryz.func81 (by kernel_rfl) rfl)
      (circuits1_seq (w0 := w) HVV.out HS.out HI2.out.bw hcB) (Below.refl _ _) (fun _ => rfl) memS_put
      (fun pre C T W => ∃ v, (pre = [] ∧ v = .slice none 0 0) ∧ CirI w v 0 pre C T W)
      (fun c pre C T W => ∃ v, (c = .ret ∧ ∃ x, pre = [x] ∧ v = .slice (some ⟨x.1, 0, none⟩) x.2.length x.2.length ∧ ∃ rest, circsAll m = x.2 :: rest) ∧ CirI w v 0 pre C T W)
      (CirI.client (p := fun pre v => pre = [] ∧ v = .slice none 0 0)) (fun c => CirI.client (p := fun pre v => c = .ret ∧ ∃ x, pre = [x] ∧ v = .slice (some ⟨x.1, 0, none⟩) x.2.length x.2.length ∧ ∃ rest, circsAll m = x.2 :: rest)) (fun b => b = w.heap.size ∨ b = w.heap.size + 1) (fun _ => False) ?need (fun _ e => e.elim) ⟨_, ⟨rfl, rfl⟩, HI2.out⟩
      (fun x => { tmps := #[.slice a m.length cap, undef, .pointer (some ⟨w.heap.size, 0, none⟩), .pointer (some ⟨w.heap.size + 1, 0, none⟩), .slice (some ⟨x.1, 0, none⟩) x.2.length x.2.length, .slice a m.length cap, .bool true, .bool false, .slice a m.length cap, .func (.func 81) #[] #[.pointer (some ⟨w1.heap.size, 0, none⟩)], .slice (some ⟨x.1, 0, none⟩) x.2.length x.2.length, undef], defers := [] }) ?assign ?body ?done ?stop
    case need =>
      have h1 := HZ1.out
      have h2 := HVS.out
      rintro b (h | rfl)
      · exact ⟨by rintro (e | e) <;> omega, by omega⟩
      · exact ⟨by rintro (e | e) <;> omega, by omega⟩
    case assign =>
      intro l2 x V K hK
      gi_wp2
      exact hK
    case body =>
      rintro l2 pre ⟨xb, xs⟩ C T V ⟨v, ⟨rfl, rfl⟩, hI⟩ hmem hown ⟨rest, hrest⟩
      have HI := Lib.hid hI
      have HX := Lib.hid (hI.over [(xb, xs)] (fun x hx => (by obtain rfl : x = (xb, xs) := List.mem_singleton.1 hx; exact ⟨hmem, hown xb rfl⟩)) (.slice (some ⟨xb, 0, none⟩) xs.length xs.length) 0)
      have HR : Hid (circsAll m = xs :: rest) := hrest
      have HT := Lib.hid (hown xb rfl)
      obtain ⟨c0, c1, f0, f1, -⟩ := hI
      clear hmem hown hrest hcB
      dsimp only
      gi_wp2
      refine ⟨_, _, ⟨_, ⟨rfl, (xb, xs), rfl, rfl, rest, HR.out⟩, HX.out⟩, ?_, ?_, ?_⟩
      · rintro b hb hl hn
        exact ⟨hb, fun x hx => (by obtain rfl : x = (xb, xs) := List.mem_singleton.1 hx; exact hn)⟩
      · rintro b (e | ⟨x, hx, rfl⟩)
        · exact .inl e
        · obtain rfl : x = (xb, xs) := List.mem_singleton.1 hx
          exact .inr (.inl rfl)
      · exact (turned_set V _ (.inl ((HI.out.cc _).2 (.inl rfl)))).trans (turned_set _ _ (.inl ((HI.out.cc _).2 (.inr (.inl rfl))))) fun b e => .inl e
    case done =>
      rintro D ys C T V hD hys ⟨v, ⟨rfl, rfl⟩, hI⟩ hTD hK
      have HI := Lib.hid hI
      have HC : Hid (circuitV m = ([], 8)) := by show circuitV m = _; unfold circuitV; rw [if_pos HVV.out, ← hys]; rfl
      have HX := Lib.hid (hI.over [] (fun x hx => by cases hx) (.slice none 0 0) 8)
      have HT := Lib.hid hTD
      have HK := Lib.hid ((Below.heap_setCell (V.setCell ⟨w.heap.size, 0, none⟩ (.slice none 0 0)) ⟨w.heap.size + 1, 0, none⟩ (.int .i64 8) D (fun e => hI.nt D (by have e : D = w.heap.size + 1 := e; omega) hTD)).trans ((Below.heap_setCell V ⟨w.heap.size, 0, none⟩ (.slice none 0 0) D (fun e => hI.nt D (by have e : D = w.heap.size := e; omega) hTD)).trans hK))
      obtain ⟨c0, c1, f0, f1, -⟩ := hI
      clear hys hTD hK hcB hD
      gi_wp2
      rw [HC.out]
      refine cir_leaves (ms := [D]) (v := .slice none 0 0) (n := 8) (by intro W q0 q1; simp [results, Tryz.results22, go_sem, q0, q1]) HX.out (fun E hE => ?_) (by simp) (fun E hE => ?_) (fun W h => ⟨h.bw, none, rfl, Sl.none _⟩)
      · obtain rfl : E = D := by simpa using hE
        exact ⟨HT.out, fun x hx => by cases hx⟩
      · obtain rfl : E = D := by simpa using hE
        exact HK.out
    case stop =>
      rintro D c pre C T V hD ⟨v, ⟨rfl, x, rfl, rfl, rest, hrest⟩, hI⟩ hTD hK
      have HI := Lib.hid hI
      have HC : Hid (circuitV m = (x.2, 0)) := by show circuitV m = _; unfold circuitV; rw [if_pos HVV.out, hrest]
      have HT := Lib.hid hTD
      have HK := Lib.hid hK
      clear hrest hTD hK hcB hD hI
      gi_wp2
      rw [HC.out]
      refine cir_leaves (ms := [D]) (v := .slice (some ⟨x.1, 0, none⟩) x.2.length x.2.length) (n := 0) (by intro W q0 q1; simp [results, Tryz.results22, go_sem, q0, q1]) HI.out (fun E hE => ?_) (by simp) (fun E hE => ?_) (fun W h => ⟨h.bw, _, rfl, (h.mem x (by simp)).1.sl⟩)
      · obtain rfl : E = D := by simpa using hE
        exact HT.out
      · obtain rfl : E = D := by simpa using hE
        exact HK.out
theorem circuit_cap (a : Option Addr) (m : List (List Int)) (cap : Nat) (w : World) (hm : MOk m) (hs : Ms w a m) : Calls Tryz.prog 22 #[.slice a m.length cap] w (CCPost (circuitV m) w) := callsIn_wide.1 (circuit_in a m cap w hm hs)
end Go.Proofs.YtgbnfhfkehpfaaaGreat
/- Kernel of layer 3: a contract. -/
namespace Go.Proofs.YtgbnfhfkehpfaaaGreat
open Go.RowKit

theorem RS.nil (base : Nat) (w : World) : RS base (.slice none 0 0) [] [] w := ⟨rfl, World.ownsRow_nil _ _ _ _, fun i x r e _ => by simp at e, fun i j x y e _ _ => by simp at e, fun i x e => by simp at e⟩
theorem RS.ms {base : Nat} {rv : Value} {ads : List (Nat × Nat)} {M : List (List Int)} {w : World} (h : RS base rv ads M w) : ∃ a cap, rv = .slice a M.length cap ∧ Ms w a M := by
  obtain ⟨hx, ⟨e, h0⟩ | ⟨g, cap, cur, e, hg, hb, hn, hm, hsz, ht⟩⟩ := h.own
  · have : M = [] := List.eq_nil_of_length_eq_zero h0
    subst this
    exact ⟨none, 0, e, fun i hi => by simp at hi⟩
  · refine ⟨some ⟨g, 0, none⟩, cap, e, fun i hi => ?_⟩
    have e1 : ads[i]? = some (ads[i]'(by rw [h.len]; exact hi)) := by simp [h.len, hi]
    have e2 : M[i]? = some M[i] := by simp [hi]
    have ho := h.own
    rw [e] at ho
    have hc := ho.cellAt i (by rw [Nat.mul_one]; exact hi)
    rw [hdrs_at e1 e2] at hc
    rw [e2]
    exact ⟨g, 0, _, _, rfl, by rw [Nat.zero_add]; exact hc, (h.row i _ _ e1 e2).sl⟩
def basisM (m : List (List Int)) : List (List Int) := (freeTo (redN m (upTo (colsM m))).piv (colsM m)).map fun c => shortL (kvec (redN m (upTo (colsM m))) (colsM m) c.toNat)
end Go.Proofs.YtgbnfhfkehpfaaaGreat
/- Rows by their headers: a slice of rows whose array is the call's own, and whose rows lie anywhere else and are only read. -/
namespace Go.Proofs.YtgbnfhfkehpfaaaGreat
open Go.RowKit

def hdO (ads : List (Option Addr × Nat)) (M : List (List Int)) : List Value := List.zipWith (fun x r => Value.slice x.1 r.length x.2) ads M
theorem hdO_at {ads : List (Option Addr × Nat)} {M : List (List Int)} {i : Nat} {x : Option Addr × Nat} {r : List Int} (e1 : ads[i]? = some x) (e2 : M[i]? = some r) : (hdO ads M)[i]? = some (.slice x.1 r.length x.2) := by
  unfold hdO; rw [List.getElem?_zipWith, e1, e2]
theorem hdO_set {ads : List (Option Addr × Nat)} {M : List (List Int)} {i : Nat} {x : Option Addr × Nat} {r : List Int} (hl : ads.length = M.length) (hi : i < M.length) : hdO (ads.set i x) (M.set i r) = (hdO ads M).set i (.slice x.1 r.length x.2) := by
  apply List.ext_getElem?
  intro j
  by_cases e : j = i
  · subst e
    rw [hdO_at (List.getElem?_set_self (by omega)) (List.getElem?_set_self hi), List.getElem?_set_self (by unfold hdO; simp; omega)]
  · rw [List.getElem?_set_ne (Ne.symm e)]
    unfold hdO
    rw [List.getElem?_zipWith, List.getElem?_zipWith, List.getElem?_set_ne (Ne.symm e), List.getElem?_set_ne (Ne.symm e)]
theorem sl_apart {w : World} {a : Option Addr} {xs : List Int} (h : Sl w a xs) {p : Addr} (hp : ∀ ad, a = some ad → ad.block ≠ p.block) (u : Value) : Sl (w.setCell p u) a xs := by
  intro k hk
  obtain ⟨b, off, e, hc⟩ := h k hk
  exact ⟨b, off, e, (cell_other w p u _ (hp _ e)).trans hc⟩
theorem OwnI.parts {w : World} {base : Nat} {v : Value} {xs : List Int} (h : OwnI w base v xs) : ∃ a c, v = .slice a xs.length c ∧ Sl w a xs ∧ ∀ ad, a = some ad → ad.block < w.heap.size ∧ base ≤ ad.block := by
  obtain ⟨a, c, rfl, hs⟩ := h.any
  refine ⟨a, c, rfl, hs, fun ad e => ?_⟩
  subst e
  have := World.ownsRow.lt h ad.block rfl
  exact ⟨this.2, this.1⟩
structure HR (base : Nat) (rv : Value) (ads : List (Option Addr × Nat)) (M : List (List Int)) (w : World) : Prop where
  len : ads.length = M.length
  own : w.ownsRow base 22 1 rv M.length (hdO ads M)
  row : ∀ (i : Nat) (x : Option Addr × Nat) (r : List Int), ads[i]? = some x → M[i]? = some r → Sl w x.1 r
  out : ∀ (i : Nat) (x : Option Addr × Nat), ads[i]? = some x → ∀ ad, x.1 = some ad → ad.block < w.heap.size ∧ rv.ownBlock ≠ some ad.block
theorem HR.nil (base : Nat) (w : World) : HR base (.slice none 0 0) [] [] w := ⟨rfl, World.ownsRow_nil _ _ _ _, fun i x r e _ => by simp at e, fun i x e => by simp at e⟩
theorem HR.below {base : Nat} {rv : Value} {ads : List (Option Addr × Nat)} {M : List (List Int)} {w w' : World} (h : HR base rv ads M w) (hb : Below w.heap.size w w') : HR base rv ads M w' where
  len := h.len
  own := row_below h.own hb
  row := fun i x r e1 e2 => (h.row i x r e1 e2).below hb
  out := fun i x e ad ea => ⟨Nat.lt_of_lt_of_le (h.out i x e ad ea).1 hb.size, (h.out i x e ad ea).2⟩
theorem HR.mono {base base' : Nat} {rv : Value} {ads : List (Option Addr × Nat)} {M : List (List Int)} {w : World} (h : HR base rv ads M w) (hb : base' ≤ base) : HR base' rv ads M w where
  len := h.len
  own := by
    obtain ⟨h0, h1 | ⟨g, cap, cur, e, hg, rest⟩⟩ := h.own
    · exact ⟨h0, .inl h1⟩
    · exact ⟨h0, .inr ⟨g, cap, cur, e, Nat.le_trans hb hg, rest⟩⟩
  row := h.row
  out := h.out
theorem HR.shape {base : Nat} {rv : Value} {ads : List (Option Addr × Nat)} {M : List (List Int)} {w : World} (h : HR base rv ads M w) : (rv = .slice none 0 0 ∧ M = []) ∨ ∃ g cap, rv = .slice (some ⟨g, 0, none⟩) M.length cap ∧ base ≤ g ∧ g < w.heap.size := by
  obtain ⟨_, ⟨e, h0⟩ | ⟨g, cap, cur, e, hg, hb, _⟩⟩ := h.own
  · exact .inl ⟨e, List.eq_nil_of_length_eq_zero h0⟩
  · exact .inr ⟨g, cap, e, hg, (Array.getElem?_eq_some_iff.1 hb).1⟩
theorem HR.at {base g n cap : Nat} {ads : List (Option Addr × Nat)} {M : List (List Int)} {w : World} (h : HR base (.slice (some ⟨g, 0, none⟩) n cap) ads M w) {i : Nat} (hi : i < M.length) :
    ∃ a c, ads[i]? = some (a, c) ∧ w.cell? ⟨g, i, none⟩ = some (.slice a (rowL M i).length c) ∧ w.frozen? ⟨g, i, none⟩ = false ∧ Sl w a (rowL M i) ∧ ∀ ad, a = some ad → ad.block < w.heap.size ∧ ad.block ≠ g := by
  have e1 : ads[i]? = some (ads[i]'(by rw [h.len]; exact hi)) := by simp [h.len, hi]
  have e2 : M[i]? = some M[i] := by simp [hi]
  have ho := h.own
  obtain rfl : n = M.length := by
    obtain ⟨_, ⟨e, _⟩ | ⟨_, _, _, e, _⟩⟩ := ho
    · cases e
    · simpa using congrArg (fun v => match v with | .slice _ n _ => n | _ => 0) e
  have hc := ho.cellAt i (by rw [Nat.mul_one]; exact hi)
  rw [hdO_at e1 e2] at hc
  refine ⟨_, _, e1, ?_, World.ownsRow.frozenAt h.own i, ?_, fun ad ea => ?_⟩
  · rw [rowL_some e2]; exact hc
  · rw [rowL_some e2]; exact h.row i _ _ e1 e2
  · have := h.out i _ e1 ad ea
    exact ⟨this.1, fun e => this.2 (by rw [e]; rfl)⟩
theorem HR.stored {base g n cap : Nat} {ads : List (Option Addr × Nat)} {M : List (List Int)} {w : World} (h : HR base (.slice (some ⟨g, 0, none⟩) n cap) ads M w) {i : Nat} (hi : i < M.length) {a : Option Addr} {c : Nat} {r : List Int} (hs : Sl w a r) (ha : ∀ ad, a = some ad → ad.block < w.heap.size ∧ ad.block ≠ g) :
    HR base (.slice (some ⟨g, 0, none⟩) n cap) (ads.set i (a, c)) (M.set i r) (w.setCell ⟨g, i, none⟩ (.slice a r.length c)) where
  len := by rw [List.length_set, List.length_set]; exact h.len
  own := by
    rw [List.length_set, hdO_set h.len hi]
    obtain rfl : n = M.length := by
      obtain ⟨_, ⟨e, _⟩ | ⟨_, _, _, e, _⟩⟩ := h.own
      · cases e
      · simpa using congrArg (fun v => match v with | .slice _ n _ => n | _ => 0) e
    exact (World.ownsRow.stored h.own i _).1
  row := fun j x q e1 e2 => by
    by_cases e : j = i
    · subst e
      rw [List.getElem?_set_self (by have := h.len; omega)] at e1
      rw [List.getElem?_set_self hi] at e2
      cases e1; cases e2
      exact sl_apart hs (fun ad ea => (ha ad ea).2) _
    · rw [List.getElem?_set_ne (Ne.symm e)] at e1 e2
      exact sl_apart (h.row j x q e1 e2) (fun ad ea e3 => (h.out j x e1 ad ea).2 (by rw [e3]; rfl)) _
  out := fun j x e1 ad ea => by
    rw [World.size_setCell]
    by_cases e : j = i
    · subst e
      rw [List.getElem?_set_self (by have := h.len; omega)] at e1
      cases e1
      exact ⟨(ha ad ea).1, fun e3 => (ha ad ea).2 (by simpa [Value.ownBlock] using e3.symm)⟩
    · rw [List.getElem?_set_ne (Ne.symm e)] at e1
      exact h.out j x e1 ad ea
theorem HR.far {base : Nat} {rv : Value} {ads : List (Option Addr × Nat)} {M : List (List Int)} {w : World} (h : HR base rv ads M w) {p : Addr} (h1 : rv.ownBlock ≠ some p.block) (h2 : ∀ (i : Nat) (x : Option Addr × Nat), ads[i]? = some x → ∀ ad, x.1 = some ad → ad.block ≠ p.block) (u : Value) : HR base rv ads M (w.setCell p u) where
  len := h.len
  own := row_same h.own fun b e => Below.heap_setCell w _ _ b (by rintro rfl; exact h1 e)
  row := fun i x r e1 e2 => sl_apart (h.row i x r e1 e2) (h2 i x e1) _
  out := fun i x e ad ea => by rw [World.size_setCell]; exact h.out i x e ad ea
theorem HR.push {base : Nat} {rv : Value} {ads : List (Option Addr × Nat)} {M : List (List Int)} {V w' : World} (h : HR base rv ads M V) {row : List Int} {a : Option Addr} {c g cap : Nat} (hs : Sl V a row) (ha : ∀ ad, a = some ad → ad.block < V.heap.size ∧ rv.ownBlock ≠ some ad.block)
    (h1 : w'.ownsRow base 22 1 (.slice (some ⟨g, 0, none⟩) (M.length + 1) cap) (M.length + 1) (hdO ads M ++ [.slice a row.length c])) (h2 : V.grownBy w' rv.ownBlock) (h3 : rv.ownBlock = some g ∨ g = V.heap.size) :
    HR base (.slice (some ⟨g, 0, none⟩) (M.length + 1) cap) (ads ++ [(a, c)]) (M ++ [row]) w' := by
  have far : ∀ b, b < V.heap.size → rv.ownBlock ≠ some b → w'.heap[b]? = V.heap[b]? := fun b hb hn => h2.block b hb (fun e => hn e.symm)
  have hne2 : ∀ b, b < V.heap.size → rv.ownBlock ≠ some b → g ≠ b := by
    intro b hb hn e
    rcases h3 with h3 | h3
    · exact hn (by rw [h3, e])
    · omega
  have hsz : V.heap.size ≤ w'.heap.size := h2.size
  have hh : hdO (ads ++ [(a, c)]) (M ++ [row]) = hdO ads M ++ [.slice a row.length c] := by
    unfold hdO; rw [List.zipWith_append h.len]; rfl
  have keep : ∀ {b : Option Addr} {q : List Int}, Sl V b q → (∀ ad, b = some ad → ad.block < V.heap.size ∧ rv.ownBlock ≠ some ad.block) → Sl w' b q := by
    intro b q hq hb k hk
    obtain ⟨b', off, e, hc⟩ := hq k hk
    have := hb _ e
    exact ⟨b', off, e, (World.cell?_of_block (far b' this.1 this.2)).trans hc⟩
  refine ⟨by simp [h.len], ?_, ?_, ?_⟩
  · rw [hh]; simpa using h1
  · intro i x r e1 e2
    have hl := h.len
    rcases get_snoc e1 with e1 | ⟨i1, rfl⟩
    · have hi := (List.getElem?_eq_some_iff.1 e1).1
      rw [List.getElem?_append_left (by omega)] at e2
      exact keep (h.row i x r e1 e2) (h.out i x e1)
    · subst i1
      rw [hl] at e2; simp at e2; subst e2
      exact keep hs ha
  · intro i x e ad ea
    have : ad.block < V.heap.size ∧ rv.ownBlock ≠ some ad.block := by
      rcases get_snoc e with e | ⟨_, rfl⟩
      · exact h.out i x e ad ea
      · exact ha ad ea
    exact ⟨by omega, fun e => hne2 _ this.1 this.2 (by simpa [Value.ownBlock] using e)⟩
theorem HR.grown {base : Nat} {rv : Value} {ads : List (Option Addr × Nat)} {M : List (List Int)} {V w' : World} {ob : Option Nat} (h : HR base rv ads M V) (hg : V.grownBy w' ob) (h1 : ∀ b, rv.ownBlock = some b → ob ≠ some b) (h2 : ∀ (i : Nat) (x : Option Addr × Nat), ads[i]? = some x → ∀ ad, x.1 = some ad → ob ≠ some ad.block) : HR base rv ads M w' where
  len := h.len
  own := row_same h.own fun b e => hg.block b (World.ownsRow.lt h.own b e).2 (Ne.symm (h1 b e))
  row := fun i x r e1 e2 k hk => by
    obtain ⟨b', off, e, hc⟩ := h.row i x r e1 e2 k hk
    exact ⟨b', off, e, (World.cell?_of_block (hg.block b' (h.out i x e1 _ e).1 (Ne.symm (h2 i x e1 _ e)))).trans hc⟩
  out := fun i x e ad ea => ⟨Nat.lt_of_lt_of_le (h.out i x e ad ea).1 hg.size, (h.out i x e ad ea).2⟩
end Go.Proofs.YtgbnfhfkehpfaaaGreat
/- One int appended to a slice of the call's own, told by what grows. -/
namespace Go.Proofs.YtgbnfhfkehpfaaaGreat
open Go.RowKit

end Go.Proofs.YtgbnfhfkehpfaaaGreat
/- divisor, primitive, scaled, without of the answers: contracts. -/
namespace Go.Proofs.YtgbnfhfkehpfaaaGreat
open Go.RowKit

end Go.Proofs.YtgbnfhfkehpfaaaGreat
/- without of the answers: the contract. -/
namespace Go.Proofs.YtgbnfhfkehpfaaaGreat
open Go.RowKit

end Go.Proofs.YtgbnfhfkehpfaaaGreat
/- Reduced of the answers: the reduction under way and its steps. -/
namespace Go.Proofs.YtgbnfhfkehpfaaaGreat
open Go.RowKit

structure RInv (base : Nat) (lv dv pv : Value) (lads dads : List (Option Addr × Nat)) (s : Rs) (w : World) : Prop where
  l : HR base lv lads s.left w
  d : HR base dv dads s.done w
  p : OwnI w base pv s.piv
  ld : ∀ b, lv.ownBlock = some b → dv.ownBlock ≠ some b
  lp : ∀ b, lv.ownBlock = some b → pv.ownBlock ≠ some b
  dp : ∀ b, dv.ownBlock = some b → pv.ownBlock ≠ some b
  lD : ∀ b, lv.ownBlock = some b → ∀ (i : Nat) (x : Option Addr × Nat), dads[i]? = some x → ∀ ad, x.1 = some ad → ad.block ≠ b
  dL : ∀ b, dv.ownBlock = some b → ∀ (i : Nat) (x : Option Addr × Nat), lads[i]? = some x → ∀ ad, x.1 = some ad → ad.block ≠ b
  pL : ∀ b, pv.ownBlock = some b → ∀ (i : Nat) (x : Option Addr × Nat), lads[i]? = some x → ∀ ad, x.1 = some ad → ad.block ≠ b
  pD : ∀ b, pv.ownBlock = some b → ∀ (i : Nat) (x : Option Addr × Nat), dads[i]? = some x → ∀ ad, x.1 = some ad → ad.block ≠ b
theorem HR.ms {base : Nat} {rv : Value} {ads : List (Option Addr × Nat)} {M : List (List Int)} {w : World} (h : HR base rv ads M w) : ∃ a cap, rv = .slice a M.length cap ∧ Ms w a M := by
  rcases h.shape with ⟨e, h0⟩ | ⟨g, cap, e, _, _⟩
  · subst h0; exact ⟨none, 0, e, fun i hi => by simp at hi⟩
  · subst e
    refine ⟨some ⟨g, 0, none⟩, cap, rfl, fun i hi => ?_⟩
    obtain ⟨a, c, _, h1, _, h2, _⟩ := h.at hi
    exact ⟨g, 0, a, c, rfl, by rw [Nat.zero_add]; exact h1, h2⟩
theorem own_none {b : Nat} (e : (Value.slice none 0 0).ownBlock = some b) : False := by simp [Value.ownBlock] at e
theorem RInv.start {base : Nat} {lv : Value} {lads : List (Option Addr × Nat)} {L : List (List Int)} {w : World} (h : HR base lv lads L w) : RInv base lv (.slice none 0 0) (.slice none 0 0) lads [] { done := [], left := L, piv := [] } w where
  l := h
  d := HR.nil _ _
  p := OwnI.nil _ _
  ld := fun _ _ e => own_none e
  lp := fun _ _ e => own_none e
  dp := fun _ _ e => own_none e
  lD := fun _ _ i x e => by simp at e
  dL := fun _ e => (own_none e).elim
  pL := fun _ e => (own_none e).elim
  pD := fun _ e => (own_none e).elim
theorem RInv.below {base : Nat} {lv dv pv : Value} {lads dads : List (Option Addr × Nat)} {s : Rs} {w w' : World} (h : RInv base lv dv pv lads dads s w) (hb : Below w.heap.size w w') : RInv base lv dv pv lads dads s w' :=
  ⟨h.l.below hb, h.d.below hb, OwnI.below h.p hb, h.ld, h.lp, h.dp, h.lD, h.dL, h.pL, h.pD⟩
structure RDone (base S : Nat) (rv dv pv : Value) (rads dads : List (Option Addr × Nat)) (rest D : List (List Int)) (piv : List Int) (pa : Option Addr) (P : List Int) (w : World) : Prop where
  d : HR base dv dads D w
  r : HR S rv rads rest w
  p : OwnI w base pv piv
  P : Sl w pa P
  rS : ∀ (i : Nat) (x : Option Addr × Nat), rads[i]? = some x → ∀ ad, x.1 = some ad → S ≤ ad.block
  dvS : ∀ b, dv.ownBlock = some b → b < S
  pvS : ∀ b, pv.ownBlock = some b → b < S
  dp : ∀ b, dv.ownBlock = some b → pv.ownBlock ≠ some b
  PO : ∀ ad, pa = some ad → ad.block < S ∧ dv.ownBlock ≠ some ad.block ∧ pv.ownBlock ≠ some ad.block
  dR : ∀ (i : Nat) (x : Option Addr × Nat), dads[i]? = some x → ∀ ad, x.1 = some ad → rv.ownBlock ≠ some ad.block ∧ pv.ownBlock ≠ some ad.block
  sz : S ≤ w.heap.size
theorem RDone.below {base S : Nat} {rv dv pv : Value} {rads dads : List (Option Addr × Nat)} {rest D : List (List Int)} {piv : List Int} {pa : Option Addr} {P : List Int} {w w' : World} (h : RDone base S rv dv pv rads dads rest D piv pa P w) (hb : Below w.heap.size w w') : RDone base S rv dv pv rads dads rest D piv pa P w' :=
  ⟨h.d.below hb, h.r.below hb, OwnI.below h.p hb, h.P.below hb, h.rS, h.dvS, h.pvS, h.dp, h.PO, h.dR, Nat.le_trans h.sz hb.size⟩
theorem HR.own_lt {base : Nat} {rv : Value} {ads : List (Option Addr × Nat)} {M : List (List Int)} {w : World} (h : HR base rv ads M w) (b : Nat) (e : rv.ownBlock = some b) : base ≤ b ∧ b < w.heap.size := World.ownsRow.lt h.own b e
theorem RDone.start {base S : Nat} {rv lv dv pv : Value} {rads lads dads : List (Option Addr × Nat)} {rest : List (List Int)} {s : Rs} {pa : Option Addr} {P : List Int} {w w' : World} (h : RInv base lv dv pv lads dads s w) (hS : w.heap.size = S) (hb : Below S w w') (hP : Sl w pa P) (hr : HR S rv rads rest w') (hrS : ∀ (i : Nat) (x : Option Addr × Nat), rads[i]? = some x → ∀ ad, x.1 = some ad → S ≤ ad.block)
    (hPO : ∀ ad, pa = some ad → ad.block < S ∧ dv.ownBlock ≠ some ad.block ∧ pv.ownBlock ≠ some ad.block) : RDone base S rv dv pv rads dads rest s.done s.piv pa P w' := by
  subst hS
  refine ⟨h.d.below hb, hr, OwnI.below h.p hb, hP.below hb, hrS, fun b e => (h.d.own_lt b e).2, fun b e => (World.ownsRow.lt h.p b e).2, h.dp, hPO, fun i x e ad ea => ⟨fun e2 => ?_, fun e2 => h.pD _ e2 i x e ad ea rfl⟩, hb.size⟩
  have h1 := (hr.own_lt _ e2).1
  have h2 := (h.d.out i x e ad ea).1
  omega
theorem RDone.stored {base S g n cap : Nat} {rv pv : Value} {rads dads : List (Option Addr × Nat)} {rest D : List (List Int)} {piv : List Int} {pa : Option Addr} {P : List Int} {w : World} (h : RDone base S rv (.slice (some ⟨g, 0, none⟩) n cap) pv rads dads rest D piv pa P w) {i : Nat} (hi : i < D.length) {a : Option Addr} {c : Nat} {r : List Int} (hs : Sl w a r) (ha : ∀ ad, a = some ad → ad.block < w.heap.size ∧ S ≤ ad.block ∧ rv.ownBlock ≠ some ad.block) :
    RDone base S rv (.slice (some ⟨g, 0, none⟩) n cap) pv rads (dads.set i (a, c)) rest (D.set i r) piv pa P (w.setCell ⟨g, i, none⟩ (.slice a r.length c)) := by
  have hg : g < S := h.dvS g rfl
  refine ⟨h.d.stored hi hs (fun ad ea => ⟨(ha ad ea).1, by have := (ha ad ea).2.1; omega⟩), h.r.far (p := ⟨g, i, none⟩) (fun e => by have := (h.r.own_lt _ e).1; simp at this; omega) (fun j x e ad ea => by have := h.rS j x e ad ea; show _ ≠ g; omega) _, row_same h.p fun b e => Below.heap_setCell w _ _ b (by rintro rfl; exact h.dp _ rfl e), sl_apart h.P (fun ad ea => by have := (h.PO ad ea).2.1; intro e; exact this (by rw [e]; rfl)) _, h.rS, h.dvS, h.pvS, h.dp, h.PO, fun j x e ad ea => ?_, by rw [World.size_setCell]; exact h.sz⟩
  by_cases e1 : j = i
  · subst e1
    have hj : j < dads.length := by rw [h.d.len]; exact hi
    rw [List.getElem?_set_self hj] at e
    cases e
    exact ⟨(ha ad ea).2.2, fun e2 => by have := h.pvS _ e2; have := (ha ad ea).2.1; omega⟩
  · rw [List.getElem?_set_ne (Ne.symm e1)] at e
    exact h.dR j x e ad ea
def Small7 (N : Nat) (q : List Int) : Prop := ∀ c, c < N → -720000000 ≤ gt q c ∧ gt q c ≤ 720000000
end Go.Proofs.YtgbnfhfkehpfaaaGreat
/- What the answers' kernel needs of their reduction. Plain words. Speaks of no program. -/
namespace Go.Proofs.YtgbnfhfkehpfaaaGreat
open Go.RowKit

structure KF (N : Nat) (s : Rs) : Prop where
  dl : s.done.length = s.piv.length
  rl : ∀ t, t < s.piv.length → (rowL s.done t).length = N
  pk : ∀ t, t < s.piv.length → ∃ p : Nat, gt s.piv t = (p : Int) ∧ p < N
  lc : ∀ t, t ≤ s.piv.length → 1 ≤ lcTo s t ∧ lcTo s t ≤ 720
  pv : ∀ t, t < s.piv.length → 1 ≤ pvR s t ∧ pvR s t ≤ 720000000
  bd : ∀ t, t < s.piv.length → Small7 N (rowL s.done t)
  kl : s.piv.length ≤ 6
theorem KF.q {N : Nat} {s : Rs} (h : KF N s) {t : Nat} (ht : t < s.piv.length) {L : Int} (h1 : 1 ≤ L ∧ L ≤ 720) : 0 ≤ L.tdiv (pvR s t) ∧ L.tdiv (pvR s t) ≤ 720 := by
  have hp := h.pv t ht
  obtain ⟨P, hP⟩ : ∃ P : Nat, pvR s t = (P : Int) := ⟨(pvR s t).natAbs, by omega⟩
  obtain ⟨K, hK⟩ : ∃ K : Nat, L = (K : Int) := ⟨L.natAbs, by omega⟩
  have e : (K : Int).tdiv (P : Int) = ((K / P : Nat) : Int) := by rw [Int.ofNat_tdiv]
  rw [hP, hK, e]
  have := Nat.div_le_self K P
  generalize K / P = z at *
  omega
theorem KF.v {N : Nat} {s : Rs} (h : KF N s) {t f : Nat} (hf : f < N) (ht : t < s.piv.length) {L : Int} (h1 : 1 ≤ L ∧ L ≤ 720) : IntKind.i64.wrap (-gt (rowL s.done t) f) = -gt (rowL s.done t) f ∧ (-518400000000 ≤ rkV s L f t ∧ rkV s L f t ≤ 518400000000) ∧ rkV s L f t = -gt (rowL s.done t) f * L.tdiv (pvR s t) := by
  have b := h.bd t ht f hf
  obtain ⟨q, hq⟩ : ∃ q, L.tdiv (pvR s t) = q := ⟨_, rfl⟩
  have bq := h.q ht h1
  rw [hq] at bq
  have w1 : IntKind.i64.wrap (-gt (rowL s.done t) f) = -gt (rowL s.done t) f := wrap_id (by omega) (by omega)
  have bm : -518400000000 ≤ -gt (rowL s.done t) f * q ∧ -gt (rowL s.done t) f * q ≤ 518400000000 := by
    have h1 : (-gt (rowL s.done t) f * q).natAbs ≤ 720000000 * 720 := by rw [Int.natAbs_mul]; exact Nat.mul_le_mul (by omega) (by omega)
    omega
  have e : rkV s L f t = -gt (rowL s.done t) f * q := by
    unfold rkV; rw [w1, hq, wrap_id (by omega) (by omega)]
  exact ⟨w1, by rw [e]; exact bm, by rw [e, hq]⟩
end Go.Proofs.YtgbnfhfkehpfaaaGreat
/- within and there of layer 3; within, million and nothing of its answers; small and long of its statements: contracts. -/
namespace Go.Proofs.YtgbnfhfkehpfaaaGreat
open Go.RowKit

set_option maxRecDepth 100000 in
theorem lwithin_any (a : Option Addr) (xs : List Int) (cap : Nat) (lim : Int) (w : World) (h0 : 0 ≤ lim) (h1 : lim ≤ 1000000000) (hl : xs.length ≤ 9223372036854775807) (hs : Sl w a xs) :
    Calls Tryz.prog 71 #[.slice a xs.length cap, .int .i64 lim] w fun e w' => e = .returned (.bool (allB lim xs)) ∧ w = w' := by
  have HS := Lib.hid hs; clear hs
  go_enter Tryz.func71, Tryz.ntmps71
  go_wp2
  go_loopw [9] (fun i wr => ∃ k : Nat, k ≤ xs.length ∧ i = .int .i64 k ∧ wr = w ∧ ∀ j, j < k → outB lim (xs[j]?.getD 0) = false) (fun i _ => xs.length - (intOf i).toNat)
  case atStart => exact ⟨0, Nat.zero_le _, rfl, rfl, fun j h => by omega⟩
  case round =>
    obtain ⟨k, hk, rfl, rfl, hno⟩ := hrel
    have HN := Lib.hid hno; clear hno
    by_cases hlt : k < xs.length
    · obtain ⟨b, o, x, rfl, hc, hx⟩ := HS.out.at hlt
      by_cases hlo : x < -lim
      · have HO : Hid (outB lim x = true) := by show _ = _; simp [outB, hlo]
        go_wp2
        go_ret
        exact ⟨ret_bool (allB_no hx.out HO.out).symm, rfl⟩
      · by_cases hhi : lim < x
        · have HO : Hid (outB lim x = true) := by show _ = _; simp [outB, hhi]
          go_wp2
          go_ret
          exact ⟨ret_bool (allB_no hx.out HO.out).symm, rfl⟩
        · have HO : Hid (outB lim x = false) := by show _ = _; simp [outB, hlo, hhi]
          have HX : Hid (xs[k]?.getD 0 = x) := by show _ = _; rw [hx.out]; rfl
          clear hx
          go_wp2
          go_roundw
          case rel => exact ⟨k + 1, by omega, by go_num, by first | trivial | rfl, fun j hj => by
            by_cases e : j = k
            · subst e; rw [HX.out]; exact HO.out
            · exact HN.out j (by omega)⟩
          case measure => simp [intOf]; omega
    · obtain rfl : k = xs.length := by omega
      go_wp2
      go_ret
      exact ⟨ret_bool (allB_yes HN.out).symm, rfl⟩
set_option maxRecDepth 100000 in
theorem lthere_any (a : Option Addr) (m : List (List Int)) (cap : Nat) (j : Int) (w : World) (hv : validM m = true) (hs : Ms w a m) :
    Calls Tryz.prog 42 #[.slice a m.length cap, .int .i64 j] w fun e w' => e = .returned (.bool (thereB m j)) ∧ w = w' := by
  have hm1 := (validM_of hv).1
  obtain ⟨b, o, ai, r, ci, rfl, hc, _, hr⟩ := hs.at (show 0 < m.length from hm1)
  rw [Nat.add_zero] at hc
  have HC : Hid (r.length = colsM m) := (validM_row hv hr.out).1
  clear hs hv hr
  by_cases h1 : 0 ≤ j
  · by_cases h2 : j < r.length
    · have HT : Hid (thereB m j = true) := by show _ = _; unfold thereB; rw [← HC.out]; simp [h1, h2]
      go_enter Tryz.func42, Tryz.ntmps42
      go_wp2
      go_ret
      exact ⟨ret_bool HT.out.symm, rfl⟩
    · have HT : Hid (thereB m j = false) := by show _ = _; unfold thereB; rw [← HC.out]; simp [h2]
      go_enter Tryz.func42, Tryz.ntmps42
      go_wp2
      go_ret
      exact ⟨ret_bool HT.out.symm, rfl⟩
  · have HT : Hid (thereB m j = false) := by show _ = _; unfold thereB; simp [h1]
    go_enter Tryz.func42, Tryz.ntmps42
    go_wp2
    go_ret
    exact ⟨ret_bool HT.out.symm, rfl⟩
def allZ (xs : List Int) : Bool := xs.all fun x => x == 0
theorem allZ_no {xs : List Int} {k : Nat} {x : Int} (hx : xs[k]? = some x) (h : x ≠ 0) : allZ xs = false := by
  unfold allZ; rw [List.all_eq_false]; exact ⟨x, List.mem_of_getElem? hx, by simpa using h⟩
theorem allZ_yes {xs : List Int} (h : ∀ j, j < xs.length → xs[j]?.getD 0 = 0) : allZ xs = true := by
  unfold allZ; rw [List.all_eq_true]
  intro x hx
  obtain ⟨j, hj, rfl⟩ := List.mem_iff_getElem.1 hx
  have := h j hj
  simpa [hj] using this
end Go.Proofs.YtgbnfhfkehpfaaaGreat
/- What asks masks and lists for their ranges in the answers of layer 2: contracts. -/
namespace Go.Proofs.YtgbnfhfkehpfaaaGreat
open Go.RowKit

end Go.Proofs.YtgbnfhfkehpfaaaGreat
/- Sums of products and columns, in layer 2 and in its answers: contracts. -/
namespace Go.Proofs.YtgbnfhfkehpfaaaGreat
open Go.RowKit

def PB (xs ys : List Int) : Prop := ∀ i, i < xs.length → -100000000000000000 ≤ gt xs i * gt ys i ∧ gt xs i * gt ys i ≤ 100000000000000000
def dotTo (xs ys : List Int) : Nat → Int := sumTo (fun i => gt xs i * gt ys i)
theorem dotTo_bd {xs ys : List Int} (h : PB xs ys) {k : Nat} (hk : k ≤ xs.length) : -(k * 100000000000000000) ≤ dotTo xs ys k ∧ dotTo xs ys k ≤ k * 100000000000000000 := sumTo_bd k fun i hi => h i (by omega)
theorem PB_of {xs ys : List Int} {A B : Int} (ha : allB A xs = true) (hb : allB B ys = true) (hl : xs.length ≤ ys.length) (hAB : A * B ≤ 100000000000000000) : PB xs ys := by
  intro i hi
  have := mul_le (gt_in ha hi) (gt_in hb (show i < ys.length by omega))
  omega

set_option maxRecDepth 100000 in
theorem product_any (a : Option Addr) (xs : List Int) (ca : Nat) (b : Option Addr) (ys : List Int) (cb : Nat) (w : World) (hl : xs.length ≤ 10) (hl2 : xs.length ≤ ys.length) (hl3 : ys.length ≤ 9223372036854775807) (hp : PB xs ys) (ha : Sl w a xs) (hb : Sl w b ys) :
    Calls Tryz.prog 34 #[.slice a xs.length ca, .slice b ys.length cb] w fun e w' => e = .returned (.int .i64 (dot xs ys)) ∧ w = w' := by
  have HA := Lib.hid ha; clear ha
  have HB := Lib.hid hb; clear hb
  have HP := Lib.hid hp; clear hp
  go_enter Tryz.func34, Tryz.ntmps34
  go_wp2
  go_loop [5, 10] (fun s i => ∃ k : Nat, k ≤ xs.length ∧ i = .int .i64 k ∧ s = .int .i64 (dotTo xs ys k)) (fun _ i => xs.length - (intOf i).toNat)
  case atStart => exact ⟨0, Nat.zero_le _, rfl, rfl⟩
  case round =>
    obtain ⟨k, hk, rfl, rfl⟩ := hrel
    have SB := Lib.hid (dotTo_bd HP.out hk)
    by_cases hlt : k < xs.length
    · obtain ⟨b1, o1, x, rfl, hcx, HX⟩ := HA.out.at hlt
      obtain ⟨b2, o2, y, rfl, hcy, HY⟩ := HB.out.at (show k < ys.length by omega)
      have hS := Lib.hid (show dotTo xs ys (k + 1) = dotTo xs ys k + x * y by show dotTo xs ys k + gt xs k * gt ys k = _; rw [gt_some' HX.out, gt_some' HY.out])
      have hxy : -100000000000000000 ≤ x * y ∧ x * y ≤ 100000000000000000 := by have := HP.out k hlt; rw [gt_some' HX.out, gt_some' HY.out] at this; exact this
      obtain ⟨p1, p2⟩ := hxy
      obtain ⟨s1, s2⟩ := SB.out
      generalize dotTo xs ys k = S at *
      have s3 : S ≤ 1000000000000000000 := by omega
      have s4 : -1000000000000000000 ≤ S := by omega
      clear s1 s2 SB
      go_wp2
      go_round
      case rel => exact ⟨k + 1, by omega, by go_num, by rw [hS.out]⟩
      case measure => simp [intOf]; omega
    · obtain rfl : k = xs.length := by omega
      go_wp2
      go_ret
      exact ⟨rfl, rfl⟩
end Go.Proofs.YtgbnfhfkehpfaaaGreat
/- Columns of masks, in layer 2 and in its answers: contracts. -/
namespace Go.Proofs.YtgbnfhfkehpfaaaGreat
open Go.RowKit

def RPost (ys : List Int) (w : World) (e : Ending) (w' : World) : Prop := Below w.heap.size w w' ∧ ∃ a cap, e = .returned (.slice a ys.length cap) ∧ Sl w' a ys
theorem RPost.own {w w' : World} {base : Nat} {v : Value} {ys zs : List Int} (hr : zs = ys) (hb : Below w.heap.size w w') (ho : OwnI w' base v ys) : RPost zs w (.returned v) w' := by
  obtain ⟨a, cap, rfl, hs⟩ := ho.any
  subst hr; exact ⟨hb, a, cap, rfl, hs⟩
def rowM (m : List (List Int)) (i : Nat) : List Int := m[i]?.getD []
theorem rowM_some {m : List (List Int)} {i : Nat} {r : List Int} (h : m[i]? = some r) : rowM m i = r := by unfold rowM; rw [h]; rfl
theorem readL_range (m : List (List Int)) (x : List Int) : readL m x = (List.range m.length).map fun i => dot (rowM m i) x := by
  refine List.ext_getElem (by simp [readL]) fun i h1 h2 => ?_
  have hi : i < m.length := by simpa [readL] using h1
  simp [readL, rowM, hi]
structure FillK (f : Nat → Int) (n k : Nat) (zs : List Int) : Prop where
  len : zs.length = n
  yes : ∀ j, j < k → gt zs j = f j
theorem FillK.start (f : Nat → Int) (n : Nat) (zs : List Int) (h : zs.length = n) : FillK f n 0 zs := ⟨h, fun j hj => absurd hj (by omega)⟩
theorem FillK.next {f : Nat → Int} {n k : Nat} {zs : List Int} (h : FillK f n k zs) (hk : k < n) {x : Int} (hx : x = f k) : FillK f n (k + 1) (zs.set k x) := by
  have hkz : k < zs.length := by rw [h.len]; exact hk
  refine ⟨by rw [List.length_set]; exact h.len, fun j hj => ?_⟩
  rw [gt_set hkz]
  by_cases e : j = k
  · subst e; rw [if_pos rfl, hx]
  · rw [if_neg e]; exact h.yes j (by omega)
theorem FillK.all {f : Nat → Int} {n : Nat} {zs : List Int} (h : FillK f n n zs) : zs = (List.range n).map f := by
  refine list_ext_gt (by rw [h.len]; simp) fun j hj => ?_
  rw [h.len] at hj
  rw [h.yes j hj, gt_map_range _ hj]

end Go.Proofs.YtgbnfhfkehpfaaaGreat
/- Read and Back of layer 2: contracts. -/
namespace Go.Proofs.YtgbnfhfkehpfaaaGreat
open Go.RowKit

theorem fitsV_0 {l : List Int} {n lim : Int} (h : fitsV l n lim = 0) : (l.length : Int) = n ∧ allB lim l = true := by
  unfold fitsV at h
  split at h
  · rename_i h1
    split at h
    · rename_i h2; exact ⟨h1, h2⟩
    · cases h
  · cases h
theorem readV_no {m : List (List Int)} {x : List Int} (h : validM m = false) : readV m x = ([], 1) := by unfold readV; rw [h]; rfl
theorem readV_err {m : List (List Int)} {x : List Int} {f : Int} (h : validM m = true) (hf : fitsV x (colsM m) 1000000 = f) (h0 : f ≠ 0) : readV m x = ([], f) := by
  unfold readV; rw [h, if_pos rfl, hf, if_neg h0]
theorem readV_ok {m : List (List Int)} {x : List Int} (h : validM m = true) (hf : fitsV x (colsM m) 1000000 = 0) : readV m x = (readL m x, 0) := by
  unfold readV; rw [h, if_pos rfl, hf, if_pos rfl]
set_option maxRecDepth 100000 in
set_option maxHeartbeats 400000 in
theorem mread_any (a : Option Addr) (m : List (List Int)) (cap : Nat) (b : Option Addr) (xs : List Int) (cb : Nat) (w : World) (hm : MOk m) (hl : xs.length ≤ 9223372036854775807) (hs : Ms w a m) (hx : Sl w b xs) :
    Calls Tryz.prog 11 #[.slice a m.length cap, .slice b xs.length cb] w (LPost (readV m xs) w) := by
  have HM := Lib.hid hm; clear hm
  have HS := Lib.hid hs; clear hs
  have HX := Lib.hid hx; clear hx
  obtain ⟨i0, hi, hz0, hz1, hz2⟩ := info_parts Tryz.infoInt
  go_enter Tryz.func11, Tryz.ntmps11
  go_wp2_with fail
  refine (mvalid_any _ _ _ _ HM.out HS.out).mono ?_
  rintro e w1 ⟨rfl, hb1⟩
  have HB1 := Lib.hid hb1; clear hb1
  cases hv : validM m
  · have HV := Lib.hid hv; clear hv
    go_wp2
    go_ret2
    exact LPost.err 1 (readV_no HV.out) HB1.out
  · obtain ⟨hm1, hm6, hc1, hc10, _⟩ := validM_of hv
    have HV := Lib.hid hv; clear hv
    obtain ⟨b0, o0, a0, c0, rfl, hcell⟩ := row0 (HS.out.below HB1.out) hm1
    obtain ⟨f, hf⟩ : ∃ f, fitsV xs (colsM m) 1000000 = f := ⟨_, rfl⟩
    have HF := Lib.hid hf; clear hf
    go_wp2_with fail
    refine (fits_any _ _ _ _ _ (by omega) (by omega) _ hl (HX.out.below HB1.out)).mono ?_
    rintro e w2 ⟨rfl, hb2⟩
    rw [HF.out]
    have HB2 : Hid (Below w.heap.size w w2) := HB1.out.trans (hb2.mono HB1.out.size)
    clear hb2 hcell
    by_cases h0 : f = 0
    · subst h0
      obtain ⟨hxl, hxa⟩ := fitsV_0 HF.out
      have hxl' : xs.length ≤ 10 := by omega
      have HXL : Hid (xs.length = colsM m) := by show xs.length = colsM m; omega
      clear hxl
      have HXA := Lib.hid hxa; clear hxa
      go_wp2_with (with_reducible refine wpList_make_full _ rfl (.tmp 23) (.tmp 23) 22 rfl w2.heap.size 3 i0 (.int .i64 0) 1 Tryz.underlying22 hi hz0 hz1 .i64 .i64 (m.length : Int) (m.length : Int) m.length rfl rfl rfl rfl (by rw [hz2]; omega) (by unfold maxLen; omega) (Nat.le_refl _) ?_)
      rotate_left
      intro w4 hown hgrow
      have HO4 : Hid (OwnI w4 w2.heap.size (.slice (some ⟨w2.heap.size, 0, none⟩) m.length m.length) (List.replicate m.length 0)) := by
        have z := zeros_are m.length
        rw [Nat.mul_one] at z
        show w4.ownsRow _ _ _ _ _ _
        rw [List.length_replicate, ← z]; exact hown
      have HB4 : Hid (Below w2.heap.size w2 w4) := (Below.refl _ _).grown hgrow (Nat.le_refl _) (fun k e => by cases e)
      clear hown hgrow
      go_wp2
      go_loopw [27] (fun i wr => ∃ (k : Nat) (zs : List Int), k ≤ m.length ∧ i = .int .i64 k ∧ OwnI wr w2.heap.size (.slice (some ⟨w2.heap.size, 0, none⟩) m.length m.length) zs ∧ FillK (fun i => dot (rowM m i) xs) m.length k zs ∧ Below w2.heap.size w2 wr) (fun i _ => m.length - (intOf i).toNat)
      case atStart => exact ⟨0, _, Nat.zero_le _, rfl, HO4.out, FillK.start _ _ _ (by simp), HB4.out⟩
      case round =>
        obtain ⟨k, zs, hk, rfl, hO, hA, hB⟩ := hrel
        have HO := Lib.hid hO; clear hO
        have HFK := Lib.hid hA; clear hA
        have HB3 := Lib.hid hB; clear hB
        have HBw : Hid (Below w.heap.size w wr) := HB2.out.trans (HB3.out.mono HB2.out.size)
        by_cases hlt : k < m.length
        · obtain ⟨b1, o1, ai, r, ci, he1, hcell, hsl, HR⟩ := (HS.out.below HBw.out).at hlt
          obtain ⟨rfl, rfl⟩ : b0 = b1 ∧ o0 = o1 := by simpa using he1
          clear he1
          obtain ⟨hrl, hra⟩ := validM_row HV.out HR.out
          have hr10 : r.length ≤ 10 := by omega
          have hrx : r.length ≤ xs.length := by have := HXL.out; omega
          have HPB := Lib.hid (PB_of hra HXA.out hrx (by omega))
          have HSL := Lib.hid hsl; clear hsl
          clear hrl hra
          obtain ⟨hcz, hfz⟩ := HO.out.cell (j := k) (by rw [HFK.out.len]; exact hlt)
          have hgV := HO.out.lt
          go_wp2_with (go_at_call 34; refine (product_any _ _ _ _ _ _ _ hr10 hrx hl HPB.out HSL.out (HX.out.below HBw.out)).mono ?_; rintro e w5 ⟨rfl, rfl⟩)
          go_roundw
          case rel =>
            exact ⟨k + 1, zs.set k (dot r xs), by omega, by go_num, HO.out.stored k _, HFK.out.next hlt (by rw [rowM_some HR.out]), HB3.out.setCell hgV.2 _⟩
          case measure => simp [intOf]; omega
        · obtain rfl : k = m.length := by omega
          have HZ := Lib.hid HFK.out.all
          go_wp2
          go_ret2
          exact LPost.own (by rw [readV_ok HV.out HF.out, HZ.out, readL_range]) HBw.out HO.out
    · have e0 : (f == 0) = false := by simpa using h0
      have e1 : (f != 0) = true := by simpa using h0
      have H0 := Lib.hid h0; clear h0
      go_wp2
      go_ret2
      exact LPost.err f (readV_err HV.out HF.out H0.out) HB2.out

end Go.Proofs.YtgbnfhfkehpfaaaGreat
/- The answers' basis of a kernel is the program's, and what it is. Plain words. Speaks of no program. -/
namespace Go.Proofs.YtgbnfhfkehpfaaaGreat
open Go.RowKit

theorem gt_upTo {n c : Nat} (h : c < n) : gt (upTo n) c = (c : Int) := by unfold upTo gt; simp [h]
theorem pix_all {m : List (List Int)} (hr : ∀ q ∈ m, q.length = colsM m) : pixM (upTo (colsM m)) m = m := by
  unfold pixM
  conv => rhs; rw [← List.map_id m]
  refine List.map_congr_left fun q hq => ?_
  refine list_gt (by show _ = q.length; unfold pixR; rw [List.length_map, upTo_len, hr q hq]) fun t ht => ?_
  have ht : t < colsM m := by rw [pixR_len, upTo_len] at ht; exact ht
  rw [gt_pixR (by rw [upTo_len]; exact ht), gt_upTo ht]
  rfl
theorem freeTo_succ (pz : List Int) (k : Nat) : freeTo pz (k + 1) = if (k : Int) ∈ pz then freeTo pz k else freeTo pz k ++ [(k : Int)] := rfl
theorem basis_fin {m : List (List Int)} (hv : validM m = true) : RFin m.length (colsM m) (colsM m) (a0 m) (redN m (upTo (colsM m))) := by
  have h := redN_fin hv (px := upTo (colsM m)) (fun j hj => upTo_in hj)
  rw [upTo_len, pix_all (fun q hq => ((validM_of hv).2.2.2.2 q hq).1)] at h
  exact h
theorem free_count {R N cols : Nat} {A0 : Nat → Nat → Int} {r : Rd} (h : RFin R N cols A0 r) : ∀ k, k ≤ cols → ∃ j, j ≤ r.piv.length ∧ (freeTo r.piv k).length + j = k ∧ (∀ t, t < j → pivN r t < k) ∧ ∀ t, j ≤ t → t < r.piv.length → k ≤ pivN r t
  | 0, _ => ⟨0, Nat.zero_le _, rfl, fun t ht => absurd ht (by omega), fun t _ _ => Nat.zero_le _⟩
  | k + 1, hk => by
    obtain ⟨j, h1, h2, h3, h4⟩ := free_count h k (by omega)
    rw [freeTo_succ]
    by_cases hm : (k : Int) ∈ r.piv
    · obtain ⟨t, ht, e⟩ := h.mem.mp hm
      have hj : j = t := by
        by_cases h5 : t < j
        · have := h3 t h5; omega
        · by_cases h6 : j = t
          · exact h6
          · have := h.asc j t (by omega) ht
            have := h4 j (Nat.le_refl _) (by omega)
            omega
      subst hj
      refine ⟨j + 1, by omega, by rw [if_pos hm]; omega, fun t ht => ?_, fun t h5 h6 => ?_⟩
      · by_cases e2 : t = j
        · subst e2; omega
        · have := h3 t (by omega); omega
      · have := h.asc j t (by omega) h6; omega
    · refine ⟨j, h1, by rw [if_neg hm, List.length_append, List.length_singleton]; omega, fun t ht => by have := h3 t ht; omega, fun t h5 h6 => ?_⟩
      have h7 := h4 t h5 h6
      by_cases e : pivN r t = k
      · exact absurd (h.mem.mpr ⟨t, h6, e⟩) hm
      · omega
theorem RFin.count {R N cols : Nat} {A0 : Nat → Nat → Int} {r : Rd} (h : RFin R N cols A0 r) : r.piv.length + (freeTo r.piv cols).length = cols := by
  obtain ⟨j, h1, h2, _, h4⟩ := free_count h cols (Nat.le_refl _)
  by_cases e : j < r.piv.length
  · have := h4 j (Nat.le_refl _) e
    have := h.pivN_lt e
    omega
  · omega
theorem RFin.kvec_ker {R N : Nat} {A0 : Nat → Nat → Int} {r : Rd} (h : RFin R N N A0 r) (hR : R ≤ 6) {f : Nat} (hf : f < N) (hn : (f : Int) ∉ r.piv) : ∀ i, i < R → sumTo (fun c => A0 i c * gt (kvec r N f) c) N = 0 := by
  refine (h.ker' h.low fun c => gt (kvec r N f) c).mpr fun t ht => ?_
  have hp := h.pivN_lt ht
  have hne : f ≠ pivN r t := fun e => hn (h.mem.mpr ⟨t, ht, e.symm⟩)
  have e0 : ∀ c, c < N → c ≠ f → c ≠ pivN r t → gt (rowL r.rows t) c * gt (kvec r N f) c = 0 := fun c hc e1 e2 => by
    by_cases hm : (c : Int) ∈ r.piv
    · obtain ⟨s, hs, e⟩ := h.mem.mp hm
      have := h.self s t hs ht
      rw [e, if_neg (fun e3 => e2 (by rw [e3]; exact e.symm))] at this
      rw [this, Int.zero_mul]
    · rw [h.kvec_else hR (Nat.le_refl _) hf hn hc e1 hm, Int.mul_zero]
  have hs := h.self t t ht ht
  rw [if_pos rfl] at hs
  have goal : gt (rowL r.rows t) f * gt (kvec r N f) f + gt (rowL r.rows t) (pivN r t) * gt (kvec r N f) (pivN r t) = 0 := by
    rw [hs, h.kvec_free hR (Nat.le_refl _) hf hn, h.kvec_piv hR (Nat.le_refl _) hf hn ht]; grind
  rcases Nat.lt_or_ge f (pivN r t) with h1 | h1
  · rw [sumPair h1 N (by omega) fun c hc a b => e0 c hc a b]; exact goal
  · rw [sumPair (s := pivN r t) (t := f) (by omega) N (by omega) fun c hc a b => e0 c hc b a]; omega
theorem gt_short {v : List Int} {c : Nat} (hc : c < v.length) : gt v c = ((gcdL v : Nat) : Int) * gt (shortL v) c := by
  by_cases h : gcdL v = 0
  · rw [gcdTo_zero _ h c hc, h]; simp
  · have := gt_primR hc
    rw [primR_short h, show max (gcdL v) 1 = gcdL v by omega] at this
    exact this
theorem short_len (v : List Int) : (shortL v).length = v.length := by simp [shortL]
def kerB (m : List (List Int)) (h : List Int) : Bool := decide ((readV m h).2 = 0) && !allZ h && allZ (readV m h).1
theorem allZ_gt {xs : List Int} (h : allZ xs = true) {c : Nat} (hc : c < xs.length) : gt xs c = 0 := by
  unfold allZ at h
  rw [List.all_eq_true] at h
  have := h xs[c] (List.getElem_mem hc)
  unfold gt; simp only [hc, List.getElem?_eq_getElem, Option.getD_some]; simpa using this
theorem allZ_all {xs : List Int} (h : ∀ c, c < xs.length → gt xs c = 0) : allZ xs = true := allZ_yes fun j hj => h j hj
theorem allB_all {M : Int} {xs : List Int} (h : ∀ c, c < xs.length → -M ≤ gt xs c ∧ gt xs c ≤ M) : allB M xs = true := by
  unfold allB
  rw [List.all_eq_true]
  intro x hx
  obtain ⟨c, hc, rfl⟩ := mem_gt.mp hx
  have := h c hc
  unfold outB
  simp
  omega
end Go.Proofs.YtgbnfhfkehpfaaaGreat
/- Reduced of the answers: the contract. -/
namespace Go.Proofs.YtgbnfhfkehpfaaaGreat
open Go.RowKit

end Go.Proofs.YtgbnfhfkehpfaaaGreat
/- kernel of the answers: the contract. -/
namespace Go.Proofs.YtgbnfhfkehpfaaaGreat
open Go.RowKit

end Go.Proofs.YtgbnfhfkehpfaaaGreat
/- SameInts of the answers of layer 1: a contract. -/
namespace Go.Proofs.YtgbnfhfkehpfaaaGreat
open Go.RowKit

theorem sameInts_any (a : Option Addr) (xs : List Int) (ca : Nat) (b : Option Addr) (ys : List Int) (cb : Nat) (w : World) (hx : xs.length ≤ 140737488351232) (hy : ys.length ≤ 140737488351232) (ha : Sl w a xs) (hb : Sl w b ys) :
    Calls Tryz.prog 18 #[.slice a xs.length ca, .slice b ys.length cb] w fun e w' => e = .returned (.bool (decide (xs = ys))) ∧ ∃ n, w' = w.drewN n := by
  have HA := Lib.hid ha; clear ha
  have HB := Lib.hid hb; clear hb
  by_cases hl : xs.length = ys.length
  · have hb : ((xs.length : Int) == (ys.length : Int)) = true := by simp [hl]
    have hb' : ((xs.length : Int) != (ys.length : Int)) = false := by simp [hl]
    have HL := Lib.hid hl; clear hl
    go_enter Tryz.func18, Tryz.ntmps18
    go_wp2
    go_loopw [13] (fun i wr => ∃ k nd : Nat, k ≤ xs.length ∧ i = .int .i64 k ∧ wr = w.drewN nd ∧ ∀ j, j < k → xs[j]?.getD 0 = ys[j]?.getD 0) (fun i _ => xs.length - (intOf i).toNat)
    case atStart => exact ⟨0, 0, Nat.zero_le _, rfl, rfl, fun j h => by omega⟩
    case round =>
      obtain ⟨k, nd, hk, rfl, rfl, hno⟩ := hrel
      have HN := Lib.hid hno; clear hno
      by_cases hlt : k < xs.length
      · have hly : k < ys.length := by rw [← HL.out]; exact hlt
        obtain ⟨b1, o1, x, rfl, hc1, HX⟩ := HA.out.at hlt
        obtain ⟨b2, o2, y, rfl, hc2, HY⟩ := HB.out.at hly
        by_cases he : x = y
        · subst he
          go_wp2
          go_quiet (fail)
          go_wp2
          go_roundw
          case rel => exact ⟨k + 1, _, by omega, by go_num, rfl, fun j hj => by
              by_cases hj' : j = k
              · subst hj'; rw [HX.out, HY.out]
              · exact HN.out j (by omega)⟩
          case measure => simp [intOf]; omega
        · have hne : (x == y) = false := by simpa using he
          have hne' : (x != y) = true := by simpa using he
          have HE : Hid (decide (xs = ys) = false) := by
            show decide (xs = ys) = false
            rw [decide_eq_false_iff_not]
            rintro rfl
            have h1 := HX.out
            have h2 := HY.out
            rw [h1] at h2
            exact he (by simpa using h2)
          clear he
          go_wp2
          go_quiet (fail)
          go_wp2
          go_ret
          exact ⟨ret_bool HE.out.symm, _, World.drewN_drewN _ _ _⟩
      · have HE : Hid (decide (xs = ys) = true) := by
          show decide (xs = ys) = true
          rw [decide_eq_true_iff]
          refine List.ext_getElem HL.out (fun j h1 h2 => ?_)
          have := HN.out j (by omega)
          simpa [h1, h2] using this
        go_wp2
        go_ret
        exact ⟨ret_bool HE.out.symm, _, rfl⟩
  · have hb : ((xs.length : Int) == (ys.length : Int)) = false := by simp; omega
    have hb' : ((xs.length : Int) != (ys.length : Int)) = true := by simp; omega
    have HX : Hid (decide (xs = ys) = false) := by
      show decide (xs = ys) = false
      rw [decide_eq_false_iff_not]; rintro rfl; exact hl rfl
    clear hl
    go_enter Tryz.func18, Tryz.ntmps18
    go_wp2
    go_ret
    exact ⟨ret_bool HX.out.symm, 0, rfl⟩

end Go.Proofs.YtgbnfhfkehpfaaaGreat
/- Primitive and IsKernel of both sides, Rank, Kernel of the answers: contracts. -/
namespace Go.Proofs.YtgbnfhfkehpfaaaGreat
open Go.RowKit

def ixN (xs : List Int) : Int := if allZ xs = true then -1 else (xs.findIdx (fun x => x != 0) : Int)
theorem find_at {xs : List Int} {k : Nat} {x : Int} (h : ∀ j, j < k → xs[j]?.getD 0 = 0) (hx : xs[k]? = some x) (h0 : x ≠ 0) : xs.findIdx (fun x => x != 0) = k := by
  obtain ⟨hk, e⟩ := List.getElem?_eq_some_iff.1 hx
  rw [List.findIdx_eq hk]
  refine ⟨by rw [e]; simpa using h0, fun j hj => ?_⟩
  have := h j hj
  rw [List.getElem?_eq_getElem (by omega)] at this
  have e2 : xs[j] = 0 := by simpa using this
  rw [e2]; rfl
theorem ixN_hit {xs : List Int} {k : Nat} {x : Int} (h : ∀ j, j < k → xs[j]?.getD 0 = 0) (hx : xs[k]? = some x) (h0 : x ≠ 0) : ixN xs = k := by
  unfold ixN; rw [allZ_no hx h0, if_neg (by decide), find_at h hx h0]
theorem nonzero_any (n : Int) (w : World) : Calls Tryz.prog 50 #[.int .i64 n] w fun e w' => e = .returned (.bool (n != 0)) ∧ w = w' := by
  go_enter Tryz.func50, Tryz.ntmps50
  go_wp2
  go_ret
  exact ⟨rfl, rfl⟩
set_option maxRecDepth 100000 in
theorem indexNZ_any (a : Option Addr) (xs : List Int) (cap : Nat) (w : World) (hl : xs.length ≤ 140737488351232) (hs : Sl w a xs) :
    Calls Tryz.prog 80 #[.slice a xs.length cap, .func (.func 50) #[] #[]] w fun e w' => e = .returned (.int .i64 (ixN xs)) ∧ w = w' := by
  have HS := Lib.hid hs; clear hs
  go_enter Tryz.func80, Tryz.ntmps80
  go_wp2
  go_loop [8] (fun i => ∃ k : Nat, k ≤ xs.length ∧ i = .int .i64 k ∧ ∀ j, j < k → xs[j]?.getD 0 = 0) (fun i => xs.length - (intOf i).toNat)
  case atStart => exact ⟨0, Nat.zero_le _, rfl, fun j h => by omega⟩
  case round =>
    obtain ⟨k, hk, rfl, hno⟩ := hrel
    have HN := Lib.hid hno; clear hno
    by_cases hlt : k < xs.length
    · obtain ⟨b, off, x, rfl, hcell, HX⟩ := HS.out.at hlt
      obtain ⟨bb, hbb⟩ : ∃ bb, (x != 0) = bb := ⟨_, rfl⟩
      have HNZ : Hid (∀ W, Calls Tryz.prog 50 #[.int .i64 x] W fun e w' => e = .returned (.bool bb) ∧ W = w') := fun W => by rw [← hbb]; exact nonzero_any x W
      have HBB := Lib.hid hbb; clear hbb
      cases bb with
      | false =>
        go_wp2_with (go_at_call 50; refine (HNZ.out _).mono ?_; rintro e w' ⟨rfl, rfl⟩)
        go_round
        case rel => exact ⟨k + 1, by omega, by go_num, fun j hj => by
            by_cases hj' : j = k
            · subst hj'; rw [HX.out]; simpa using HBB.out
            · exact HN.out j (by omega)⟩
        case measure => simp [intOf]; omega
      | true =>
        go_wp2_with (go_at_call 50; refine (HNZ.out _).mono ?_; rintro e w' ⟨rfl, rfl⟩)
        go_ret
        exact ⟨ret_i64 (ixN_hit HN.out HX.out (by simpa using HBB.out)).symm, rfl⟩
    · have HE : Hid (ixN xs = -1) := by show _ = _; unfold ixN; rw [allZ_yes fun j hj => HN.out j (by omega)]; rfl
      go_wp2
      go_ret
      exact ⟨ret_i64 HE.out.symm, rfl⟩
theorem containsNZ_any (a : Option Addr) (xs : List Int) (cap : Nat) (w : World) (hl : xs.length ≤ 140737488351232) (hs : Sl w a xs) :
    Calls Tryz.prog 49 #[.slice a xs.length cap, .func (.func 50) #[] #[]] w fun e w' => e = .returned (.bool (!allZ xs)) ∧ w = w' := by
  have HI := Lib.hid (indexNZ_any a xs cap w hl hs); clear hs
  have HE : Hid (decide (0 ≤ ixN xs) = !allZ xs) := by
    show _ = _
    unfold ixN
    cases allZ xs
    · simp
    · simp
  go_enter Tryz.func49, Tryz.ntmps49
  go_wp2_with (go_at_call 80; refine HI.out.mono ?_; rintro e w' ⟨rfl, rfl⟩)
  go_ret
  exact ⟨ret_bool (by rw [← HE.out]), rfl⟩
end Go.Proofs.YtgbnfhfkehpfaaaGreat
/- The methods of a reduction that look behind its rows: contracts. -/
namespace Go.Proofs.YtgbnfhfkehpfaaaGreat
open Go.RowKit

theorem sl_drop {w : World} {b : Nat} {xs : List Int} (h : Sl w (some ⟨b, 0, none⟩) xs) (c : Nat) : Sl w (some ⟨b, c, none⟩) (xs.drop c) := by
  intro k hk
  have hk2 : c + k < xs.length := by rw [List.length_drop] at hk; omega
  obtain ⟨b', o', e, hc⟩ := h (c + k) hk2
  cases e
  refine ⟨b, c, rfl, ?_⟩
  rw [Nat.zero_add] at hc
  rw [hc, List.getElem?_drop]
set_option maxRecDepth 1000000 in
set_option maxHeartbeats 1600000 in
theorem behind_any (cols g cap N : Nat) (ads : List (Nat × Nat)) (M : List (List Int)) (pa : Option Addr) (pn pc : Nat) (dv : Int) (row base : Nat) (w : World) (hrow : row < M.length) (hN : (rowL M row).length = N) (hc : cols < N) (hs : SI w base g ads M) :
    Calls Tryz.prog 75 #[RdV cols g M.length cap (.slice pa pn pc) dv, .int .i64 (row : Int)] w fun e w' => Below w.heap.size w w' ∧ ∃ b c, e = .returned (.slice (some b) (N - cols) c) ∧ Sl w' (some b) ((rowL M row).drop cols) := by
  have hx : M[row]? = some (rowL M row) := by unfold rowL; simp [hrow]
  obtain ⟨x, hxa⟩ : ∃ x, ads[row]? = some x := ⟨ads[row]'(by rw [hs.len]; exact hrow), by simp [hs.len, hrow]⟩
  obtain ⟨xb, xc⟩ := x
  obtain ⟨hh, hro⟩ := hs.row row (xb, xc) _ hxa hx
  dsimp only at hh hro
  have hcap := OwnI.cap_le hro
  rw [hN] at hh hcap
  have HSR := Lib.hid hro.sl
  have hgl : g < w.heap.size := cell_lt hh
  have hne : xc ≠ cols := by omega
  have hrow0 : (row : Int) < (M.length : Int) := by omega
  have HD : Hid (((rowL M row).drop cols).length = N - cols) := by show _ = _; rw [List.length_drop, hN]
  have HNN := Lib.hid hN
  obtain ⟨n, hn⟩ : ∃ n, M.length = n := ⟨_, rfl⟩
  rw [hn] at hrow0 hrow ⊢
  clear hs hx hxa hro hN hn
  unfold RdV
  have HB0 : Hid (∀ o, Below w.heap.size w (w.alloc o)) := fun o => (Below.refl _ _).alloc (Nat.le_refl _) o
  obtain ⟨V, hV⟩ : ∃ V, w.alloc (.cells #[.int .i64 (cols : Int), .slice (some ⟨g, 0, none⟩) n cap, .slice pa pn pc, .int .i64 dv] 61) = V := ⟨_, rfl⟩
  have HBV : Hid (Below w.heap.size w V) := by rw [← hV]; exact HB0.out _
  have c0 : V.cell? ⟨w.heap.size, 0, none⟩ = some (.int .i64 (cols : Int)) := by rw [← hV]; exact alloc_cell _ _ _ _ _ rfl
  have c1 : V.cell? ⟨w.heap.size, 1, none⟩ = some (.slice (some ⟨g, 0, none⟩) n cap) := by rw [← hV]; exact alloc_cell _ _ _ _ _ rfl
  have hh2 : V.cell? ⟨g, row, none⟩ = some (.slice (some ⟨xb, 0, none⟩) N xc) := (HBV.out.cell (p := ⟨g, row, none⟩) hgl).trans hh
  go_enter Tryz.func75, Tryz.ntmps75
  go_wp2
  clear hV
  go_region_held_law (fun w' => w'.cell? ⟨w.heap.size, 0, none⟩ = some (.int .i64 (cols : Int)) ∧ w'.cell? ⟨w.heap.size, 1, none⟩ = some (.slice (some ⟨g, 0, none⟩) n cap) ∧ w'.cell? ⟨g, row, none⟩ = some (.slice (some ⟨xb, 0, none⟩) N xc)) (first | exact ⟨by assumption, by assumption, by assumption⟩ | go_keep) (fail)
  go_wp2
  go_ret
  exact ⟨HBV.out.drew, _, _, rfl, (sl_drop HSR.out cols).below HBV.out.drew⟩
def possB (M : List (List Int)) (k cols : Nat) : Bool := (List.range M.length).all fun x => decide (x < k) || allZ ((rowL M x).drop cols)
theorem possB_no {M : List (List Int)} {k cols x : Nat} (h1 : k ≤ x) (h2 : x < M.length) (h : allZ ((rowL M x).drop cols) = false) : possB M k cols = false := by
  unfold possB
  rw [List.all_eq_false]
  exact ⟨x, List.mem_range.2 h2, by simp [h]; omega⟩
theorem possB_yes {M : List (List Int)} {k cols : Nat} (h : ∀ x, k ≤ x → x < M.length → allZ ((rowL M x).drop cols) = true) : possB M k cols = true := by
  unfold possB
  rw [List.all_eq_true]
  intro x hx
  by_cases e : x < k
  · simp [e]
  · rw [h x (by omega) (List.mem_range.1 hx), Bool.or_true]
set_option maxRecDepth 1000000 in
set_option maxHeartbeats 1600000 in
theorem possible_any (cols g cap N : Nat) (ads : List (Nat × Nat)) (M : List (List Int)) (pa : Option Addr) (pn pc : Nat) (pz : List Int) (dv : Int) (base : Nat) (w : World) (hpn : pz.length = pn) (hpM : pn ≤ M.length) (hM : M.length ≤ 100) (hN : ∀ q ∈ M, q.length = N) (hc : cols < N) (hN1 : N ≤ 100) (hs : SI w base g ads M) :
    Calls Tryz.prog 41 #[RdV cols g M.length cap (.slice pa pn pc) dv] w fun e w' => e = .returned (.bool (possB M pn cols)) ∧ Below w.heap.size w w' := by
  have HS := Lib.hid hs; clear hs
  have HBE : Hid (∀ W k, Below w.heap.size w W → k < M.length → Calls Tryz.prog 75 #[.agg #[.int .i64 (cols : Int), .slice (some ⟨g, 0, none⟩) M.length cap, .slice pa pn pc, .int .i64 dv], .int .i64 (k : Int)] W fun e w' => Below W.heap.size W w' ∧ ∃ b c, e = .returned (.slice (some b) (N - cols) c) ∧ Sl w' (some b) ((rowL M k).drop cols)) := fun W k hb hk => behind_any cols g cap N ads M pa pn pc dv k base W hk (hN _ (rowL_mem hk)) hc (HS.out.below hb)
  have HCN : Hid (∀ (W : World) k b c, k < M.length → Sl W (some b) ((rowL M k).drop cols) → Calls Tryz.prog 49 #[.slice (some b) (N - cols) c, .func (.func 50) #[] #[]] W fun e w' => e = .returned (.bool (!allZ ((rowL M k).drop cols))) ∧ W = w') := fun W k b c hk h => by
    have hl : ((rowL M k).drop cols).length = N - cols := by rw [List.length_drop, hN _ (rowL_mem hk)]
    have h := containsNZ_any (some b) ((rowL M k).drop cols) c W (by rw [hl]; omega) h
    rw [hl] at h
    exact h
  have HRA : Hid (∀ W, Calls Tryz.prog 74 #[.agg #[.int .i64 (cols : Int), .slice (some ⟨g, 0, none⟩) M.length cap, .slice pa pn pc, .int .i64 dv]] W fun e w' => e = .returned (.int .i64 (pn : Int)) ∧ Below W.heap.size W w') := fun W => by
    have h := rank_any cols g M.length cap pa pz pc dv W
    unfold RdV at h
    rw [hpn] at h
    exact h
  obtain ⟨n, hn⟩ : ∃ n, M.length = n := ⟨_, rfl⟩
  have HNL := Lib.hid hn
  rw [hn] at hpM hM HBE HCN HRA ⊢
  clear hn hN hpn
  unfold RdV
  have HB0 : Hid (∀ o, Below w.heap.size w (w.alloc o)) := fun o => (Below.refl _ _).alloc (Nat.le_refl _) o
  obtain ⟨V, hV⟩ : ∃ V, w.alloc (.cells #[.int .i64 (cols : Int), .slice (some ⟨g, 0, none⟩) n cap, .slice pa pn pc, .int .i64 dv] 61) = V := ⟨_, rfl⟩
  have HBV : Hid (Below w.heap.size w V) := by rw [← hV]; exact HB0.out _
  have hsz : w.heap.size < V.heap.size := by rw [← hV, World.size_alloc]; omega
  have C0 : Hid (V.cell? ⟨w.heap.size, 0, none⟩ = some (.int .i64 (cols : Int))) := by rw [← hV]; exact alloc_cell _ _ _ _ _ rfl
  have C1 : Hid (V.cell? ⟨w.heap.size, 1, none⟩ = some (.slice (some ⟨g, 0, none⟩) n cap)) := by rw [← hV]; exact alloc_cell _ _ _ _ _ rfl
  have C2 : Hid (V.cell? ⟨w.heap.size, 2, none⟩ = some (.slice pa pn pc)) := by rw [← hV]; exact alloc_cell _ _ _ _ _ rfl
  have C3 : Hid (V.cell? ⟨w.heap.size, 3, none⟩ = some (.int .i64 dv)) := by rw [← hV]; exact alloc_cell _ _ _ _ _ rfl
  have c0 := C0.out
  have c1 := C1.out
  have c2 := C2.out
  have c3 := C3.out
  go_enter Tryz.func41, Tryz.ntmps41
  go_wp2_with (go_at_call 74; refine (HRA.out _).mono ?_; rintro e w1 ⟨rfl, hb1⟩)
  clear hV c0 c1 c2 c3
  go_loopw [3] (fun i wr => ∃ k : Nat, pn ≤ k ∧ k ≤ n ∧ i = .int .i64 k ∧ (∀ x, pn ≤ x → x < k → allZ ((rowL M x).drop cols) = true) ∧ Below V.heap.size V wr) (fun i _ => n - (intOf i).toNat)
  case atStart => exact ⟨pn, Nat.le_refl _, hpM, rfl, fun x h1 h2 => by omega, hb1⟩
  case round =>
    clear hb1
    obtain ⟨k, hk1, hk, rfl, hz, hb⟩ := hrel
    have HZ := Lib.hid hz; clear hz
    have HB := Lib.hid hb; clear hb
    have HBW : Hid (Below w.heap.size w wr) := HBV.out.trans (HB.out.mono HBV.out.size)
    have c0 := (HB.out.cell (p := ⟨w.heap.size, 0, none⟩) hsz).trans C0.out
    have c1 := (HB.out.cell (p := ⟨w.heap.size, 1, none⟩) hsz).trans C1.out
    have c2 := (HB.out.cell (p := ⟨w.heap.size, 2, none⟩) hsz).trans C2.out
    have c3 := (HB.out.cell (p := ⟨w.heap.size, 3, none⟩) hsz).trans C3.out
    by_cases hlt : k < n
    · have HB1 := Lib.hid (HBE.out wr k HBW.out hlt)
      obtain ⟨z, hzz⟩ : ∃ z, allZ ((rowL M k).drop cols) = z := ⟨_, rfl⟩
      have HC1 : Hid (∀ (W : World) b c, Sl W (some b) ((rowL M k).drop cols) → Calls Tryz.prog 49 #[.slice (some b) (N - cols) c, .func (.func 50) #[] #[]] W fun e w' => e = .returned (.bool (!z)) ∧ W = w') := fun W b c h => by rw [← hzz]; exact HCN.out W k b c hlt h
      have HZZ := Lib.hid hzz; clear hzz
      cases z with
      | true =>
        go_wp2_with (first | (go_at_call 75; refine HB1.out.mono ?_; rintro e w5 ⟨hb5, bb, bc, rfl, hs5⟩) | (go_at_call 49; refine (HC1.out w5 bb bc hs5).mono ?_; rintro e w6 ⟨rfl, rfl⟩))
        go_roundw
        case rel => exact ⟨k + 1, by omega, by omega, by go_num, fun x h1 h2 => by
          by_cases e : x = k
          · rw [e]; exact HZZ.out
          · exact HZ.out x h1 (by omega), HB.out.trans (hb5.mono HB.out.size)⟩
        case measure => simp [intOf]; omega
      | false =>
        have HP : Hid (possB M pn cols = false) := possB_no hk1 (by rw [HNL.out]; exact hlt) HZZ.out
        go_wp2_with (first | (go_at_call 75; refine HB1.out.mono ?_; rintro e w5 ⟨hb5, bb, bc, rfl, hs5⟩) | (go_at_call 49; refine (HC1.out w5 bb bc hs5).mono ?_; rintro e w6 ⟨rfl, rfl⟩))
        go_ret
        exact ⟨ret_bool HP.out.symm, HBW.out.trans (hb5.mono HBW.out.size)⟩
    · obtain rfl : n = k := by omega
      have HP : Hid (possB M pn cols = true) := possB_yes fun x h1 h2 => HZ.out x h1 (by rw [HNL.out] at h2; exact h2)
      go_wp2
      go_ret
      exact ⟨ret_bool HP.out.symm, HBW.out⟩
end Go.Proofs.YtgbnfhfkehpfaaaGreat
/- Spark of layer 3: a contract. -/
namespace Go.Proofs.YtgbnfhfkehpfaaaGreat
open Go.RowKit

def nzTo (xs : List Int) : Nat → Int
  | 0 => 0
  | k + 1 => if gt xs k = 0 then nzTo xs k else nzTo xs k + 1
theorem nzTo_in (xs : List Int) : ∀ k, 0 ≤ nzTo xs k ∧ nzTo xs k ≤ k
  | 0 => by simp [nzTo]
  | k + 1 => by have := nzTo_in xs k; unfold nzTo; split <;> omega
def sparkV (m : List (List Int)) : Int × Int := if (circuitV m).2 = 0 then (nzTo (circuitV m).1 (circuitV m).1.length, 0) else (0, (circuitV m).2)
theorem circH_len (m : List (List Int)) (px : List Int) : (circH m px).length = colsM m := putTo_len _ _ _ _
theorem circsAll_len {m : List (List Int)} {h : List Int} (hh : h ∈ circsAll m) : h.length = colsM m := by
  unfold circsAll circsTo at hh
  obtain ⟨f, _, h2⟩ := List.mem_flatMap.1 hh
  obtain ⟨px, _, rfl⟩ := List.mem_map.1 h2
  exact circH_len m px
theorem circuitV_len {m : List (List Int)} : (circuitV m).1.length ≤ 10 := by
  unfold circuitV
  split
  · rename_i hv
    split
    · exact Nat.zero_le _
    · rename_i h t e
      show h.length ≤ 10
      rw [circsAll_len (m := m) (by rw [e]; simp)]
      exact (validM_of hv).2.2.2.1
  · exact Nat.zero_le _
end Go.Proofs.YtgbnfhfkehpfaaaGreat
/- SameLists of the answers of layer 1: a contract. -/
namespace Go.Proofs.YtgbnfhfkehpfaaaGreat
open Go.RowKit

end Go.Proofs.YtgbnfhfkehpfaaaGreat
/- The sanity check of layer 3: the document's example. -/
namespace Go.Proofs.YtgbnfhfkehpfaaaGreat
open Go.RowKit

theorem sl_new (w : World) (xs : List Int) (t : TypeId) : Sl (w.alloc (.cells ((xs.map (Value.int .i64)).toArray) t)) (some ⟨w.heap.size, 0, none⟩) xs := by
  intro k hk
  refine ⟨w.heap.size, 0, rfl, ?_⟩
  rw [Nat.zero_add]
  refine alloc_cell _ _ _ _ _ ?_
  simp [hk]
end Go.Proofs.YtgbnfhfkehpfaaaGreat
/- Fractions in lowest terms, and the value behind a row: contracts. -/
namespace Go.Proofs.YtgbnfhfkehpfaaaGreat
open Go.RowKit

def gcd2 (n d : Int) : Int := ((Nat.gcd n.natAbs d.natAbs : Nat) : Int)
theorem gcdL_two (n d : Int) : ((gcdL [n, d] : Nat) : Int) = gcd2 n d := by
  unfold gcdL gcd2
  show ((Nat.gcd (Nat.gcd 0 n.natAbs) d.natAbs : Nat) : Int) = _
  rw [Nat.gcd_zero_left]
def ratV (n d : Int) : Value := .agg #[.int .i64 n, .int .i64 d]
set_option maxRecDepth 1000000 in
set_option maxHeartbeats 1600000 in
theorem lowest_any (n d : Int) (w : World) (hn : Mid n) (hd : Mid d) (h0 : 0 < d) :
    Calls Tryz.prog 77 #[.int .i64 n, .int .i64 d] w fun e w' => e = .returned (ratV (n.tdiv (gcd2 n d)) (d.tdiv (gcd2 n d))) ∧ Below w.heap.size w w' := by
  obtain ⟨G, hG⟩ : ∃ G, gcd2 n d = G := ⟨_, rfl⟩
  have hG1 : 0 < G := by
    rw [← hG]; unfold gcd2
    have := Nat.gcd_pos_of_pos_right n.natAbs (show 0 < d.natAbs by omega)
    omega
  have HDV : Hid (∀ W b cap, Sl W (some ⟨b, 0, none⟩) [n, d] → Calls Tryz.prog 96 #[.slice (some ⟨b, 0, none⟩) 2 cap] W fun e w' => e = .returned (.int .i64 G) ∧ ∃ nd, w' = W.drewN nd) := fun W b cap h => by
    have h := divisor_any (some ⟨b, 0, none⟩) [n, d] cap W (by simp) (fun x hx => by
      rcases List.mem_cons.1 hx with e | hx
      · rw [e]; exact hn
      · rw [List.mem_singleton.1 hx]; exact hd) h
    rw [gcdL_two, hG] at h
    exact h
  obtain ⟨a, ha⟩ : ∃ a, n.tdiv G = a := ⟨_, rfl⟩
  obtain ⟨c, hc⟩ : ∃ c, d.tdiv G = c := ⟨_, rfl⟩
  have ba : Mid a := by
    have h1 := Int.natAbs_tdiv_le_natAbs n G
    rw [ha] at h1
    unfold Mid at hn ⊢; omega
  have bc : Mid c := by
    have h1 := Int.natAbs_tdiv_le_natAbs d G
    rw [hc] at h1
    unfold Mid at hd ⊢; omega
  obtain ⟨a1, a2⟩ := ba
  obtain ⟨c1, c2⟩ := bc
  have g0 : ¬ G = 0 := by omega
  have g1 : (G == 0) = false := by simpa using g0
  have wa : IntKind.i64.wrap a = a := wrap_id (by omega) (by omega)
  have wc : IntKind.i64.wrap c = c := wrap_id (by omega) (by omega)
  rw [hG, ha, hc]
  clear hG
  go_enter Tryz.func77, Tryz.ntmps77
  go_wp2_with (go_at_call 96; refine (HDV.out _ _ _ ?_).mono ?_; rotate_left; rintro e w1 ⟨rfl, nd, rfl⟩)
  · go_region_law (fail)
    all_goals
      go_wp2
      refine bodyPost_ret_by (v := ratV a c) ?_ rfl ⟨rfl, ((below_drewN (((Below.refl _ _).alloc (Nat.le_refl _) _).alloc (by rw [World.size_alloc]; omega) _) _).setCell (p := ⟨w.heap.size, 0, none⟩) (Nat.le_refl _) _).setCell (p := ⟨w.heap.size, 1, none⟩) (Nat.le_refl _) _⟩
      rw [results_cell_one' rfl]
      unfold ratV
      go_simp
  · have e1 : (w.alloc (.cells #[.int .i64 0, .int .i64 0] 38)).heap.size = w.heap.size + 1 := World.size_alloc _ _
    rw [← e1]
    exact sl_new _ [n, d] _
set_option maxRecDepth 1000000 in
set_option maxHeartbeats 1600000 in
theorem value_any (cols g cap N : Nat) (ads : List (Nat × Nat)) (M : List (List Int)) (pa : Option Addr) (pn pc : Nat) (dv : Int) (row base : Nat) (w : World) (hrow : row < M.length) (hN : (rowL M row).length = N) (hc : cols < N) (hs : SI w base g ads M) (hm : Mid (gt (rowL M row) cols)) (hd : Mid dv) (h0 : 0 < dv) :
    Calls Tryz.prog 44 #[RdV cols g M.length cap (.slice pa pn pc) dv, .int .i64 (row : Int)] w fun e w' => e = .returned (ratV ((gt (rowL M row) cols).tdiv (gcd2 (gt (rowL M row) cols) dv)) (dv.tdiv (gcd2 (gt (rowL M row) cols) dv))) ∧ Below w.heap.size w w' := by
  have HS := Lib.hid hs; clear hs
  have HBE : Hid (∀ W, Below w.heap.size w W → Calls Tryz.prog 75 #[.agg #[.int .i64 (cols : Int), .slice (some ⟨g, 0, none⟩) M.length cap, .slice pa pn pc, .int .i64 dv], .int .i64 (row : Int)] W fun e w' => Below W.heap.size W w' ∧ ∃ b c, e = .returned (.slice (some b) (N - cols) c) ∧ Sl w' (some b) ((rowL M row).drop cols)) := fun W hb => behind_any cols g cap N ads M pa pn pc dv row base W hrow hN hc (HS.out.below hb)
  obtain ⟨z, hz⟩ : ∃ z, gt (rowL M row) cols = z := ⟨_, rfl⟩
  have HZ : Hid (((rowL M row).drop cols)[0]? = some z) := by
    show _ = _
    rw [List.getElem?_drop, Nat.add_zero, List.getElem?_eq_getElem (by omega), ← hz]
    unfold gt; simp [hN, hc]
  have HDL : Hid (((rowL M row).drop cols).length = N - cols) := by show _ = _; rw [List.length_drop, hN]
  rw [hz] at hm ⊢
  obtain ⟨R, hR⟩ : ∃ R, ratV (z.tdiv (gcd2 z dv)) (dv.tdiv (gcd2 z dv)) = R := ⟨_, rfl⟩
  obtain ⟨ra, rc, hrr⟩ : ∃ ra rc, R = .agg #[.int .i64 ra, .int .i64 rc] := ⟨_, _, hR.symm⟩
  have HLO : Hid (∀ W, Calls Tryz.prog 77 #[.int .i64 z, .int .i64 dv] W fun e w' => e = .returned (.agg #[.int .i64 ra, .int .i64 rc]) ∧ Below W.heap.size W w') := fun W => by rw [← hrr, ← hR]; exact lowest_any z dv W hm hd h0
  rw [hR, hrr]
  clear hz hR hrr hN
  have hd0 : 0 < N - cols := by omega
  have hd1 : (0 : Int) < ((N - cols : Nat) : Int) := by omega
  generalize N - cols = nd at *
  unfold RdV
  obtain ⟨n, hn⟩ : ∃ n, M.length = n := ⟨_, rfl⟩
  rw [hn] at HBE ⊢
  clear hn hrow
  obtain ⟨A, hA⟩ : ∃ A, w.alloc (.cells #[.int .i64 (cols : Int), .slice (some ⟨g, 0, none⟩) n cap, .slice pa pn pc, .int .i64 dv] 61) = A := ⟨_, rfl⟩
  have hAs : A.heap.size = w.heap.size + 1 := by rw [← hA, World.size_alloc]
  have a0 : A.cell? ⟨w.heap.size, 0, none⟩ = some (.int .i64 (cols : Int)) := by rw [← hA]; exact alloc_cell _ _ _ _ _ rfl
  have a1 : A.cell? ⟨w.heap.size, 1, none⟩ = some (.slice (some ⟨g, 0, none⟩) n cap) := by rw [← hA]; exact alloc_cell _ _ _ _ _ rfl
  have a2 : A.cell? ⟨w.heap.size, 2, none⟩ = some (.slice pa pn pc) := by rw [← hA]; exact alloc_cell _ _ _ _ _ rfl
  have a3 : A.cell? ⟨w.heap.size, 3, none⟩ = some (.int .i64 dv) := by rw [← hA]; exact alloc_cell _ _ _ _ _ rfl
  have HBA : Hid (Below w.heap.size w A) := by rw [← hA]; exact (Below.refl _ _).alloc (Nat.le_refl _) _
  obtain ⟨V, hV⟩ : ∃ V, A.alloc (.cells #[.int .i64 0, .int .i64 0] 38) = V := ⟨_, rfl⟩
  have HAV : Hid (Below A.heap.size A V) := by rw [← hV]; exact (Below.refl _ _).alloc (Nat.le_refl _) _
  have hVs : V.heap.size = w.heap.size + 1 + 1 := by rw [← hV, World.size_alloc, hAs]
  have HBV : Hid (Below w.heap.size w V) := HBA.out.trans (HAV.out.mono HBA.out.size)
  have hw1 : w.heap.size < A.heap.size := by omega
  have c0 : V.cell? ⟨w.heap.size, 0, none⟩ = some (.int .i64 (cols : Int)) := (HAV.out.cell (p := ⟨w.heap.size, 0, none⟩) hw1).trans a0
  have c1 : V.cell? ⟨w.heap.size, 1, none⟩ = some (.slice (some ⟨g, 0, none⟩) n cap) := (HAV.out.cell (p := ⟨w.heap.size, 1, none⟩) hw1).trans a1
  have c2 : V.cell? ⟨w.heap.size, 2, none⟩ = some (.slice pa pn pc) := (HAV.out.cell (p := ⟨w.heap.size, 2, none⟩) hw1).trans a2
  have c3 : V.cell? ⟨w.heap.size, 3, none⟩ = some (.int .i64 dv) := (HAV.out.cell (p := ⟨w.heap.size, 3, none⟩) hw1).trans a3
  have HT : Hid ((V.cell? ⟨w.heap.size + 1, 0, none⟩ = some (.int .i64 0) ∧ V.frozen? ⟨w.heap.size + 1, 0, none⟩ = false) ∧ V.cell? ⟨w.heap.size + 1, 1, none⟩ = some (.int .i64 0) ∧ V.frozen? ⟨w.heap.size + 1, 1, none⟩ = false) := by
    rw [← hV, ← hAs]
    exact ⟨⟨alloc_cell _ _ _ _ _ rfl, by simp⟩, alloc_cell _ _ _ _ _ rfl, by simp⟩
  have HVW : Hid (∀ W, Below V.heap.size V W → W.cell? ⟨w.heap.size, 0, none⟩ = some (.int .i64 (cols : Int)) ∧ W.cell? ⟨w.heap.size, 1, none⟩ = some (.slice (some ⟨g, 0, none⟩) n cap) ∧ W.cell? ⟨w.heap.size, 2, none⟩ = some (.slice pa pn pc) ∧ W.cell? ⟨w.heap.size, 3, none⟩ = some (.int .i64 dv) ∧ W.cell? ⟨w.heap.size + 1, 0, none⟩ = some (.int .i64 0) ∧ W.frozen? ⟨w.heap.size + 1, 0, none⟩ = false ∧ W.cell? ⟨w.heap.size + 1, 1, none⟩ = some (.int .i64 0) ∧ W.frozen? ⟨w.heap.size + 1, 1, none⟩ = false) := fun W h => by
    have l0 : w.heap.size < V.heap.size := by omega
    have l1 : w.heap.size + 1 < V.heap.size := by omega
    exact ⟨(h.cell (p := ⟨w.heap.size, 0, none⟩) l0).trans c0, (h.cell (p := ⟨w.heap.size, 1, none⟩) l0).trans c1, (h.cell (p := ⟨w.heap.size, 2, none⟩) l0).trans c2, (h.cell (p := ⟨w.heap.size, 3, none⟩) l0).trans c3, (h.cell (p := ⟨w.heap.size + 1, 0, none⟩) l1).trans HT.out.1.1, (h.frozen (p := ⟨w.heap.size + 1, 0, none⟩) l1).trans HT.out.1.2, (h.cell (p := ⟨w.heap.size + 1, 1, none⟩) l1).trans HT.out.2.1, (h.frozen (p := ⟨w.heap.size + 1, 1, none⟩) l1).trans HT.out.2.2⟩
  clear a0 a1 a2 a3
  go_enter Tryz.func44, Tryz.ntmps44
  go_wp2
  clear hA hV
  go_region_law (first | (go_simp; go_at_call 75; refine (HBE.out _ HBV.out.drew).mono ?_; rintro e w5 ⟨hb5, ⟨bb, bo, bp⟩, bc, rfl, hs5⟩; have HB5 : Hid (Below V.heap.size V w5) := (Below.refl V.heap.size V).drew.trans hb5; obtain ⟨k0, k1, k2, k3, _⟩ := HVW.out w5 HB5.out; obtain ⟨b', o', ee, hcz⟩ := hs5 0 (by rw [HDL.out]; omega); cases ee; rw [HZ.out, Nat.add_zero] at hcz; have hcy : w5.cell? ⟨bb, bo, none⟩ = some (.int .i64 z) := hcz; clear hb5 hs5 hcz) | (go_simp; go_at_call 77; refine (HLO.out _).mono ?_; rintro e w6 ⟨rfl, hb6⟩; have HB6 : Hid (Below V.heap.size V w6) := HB5.out.trans (hb6.mono HB5.out.size); obtain ⟨j0, j1, j2, j3, t0, z0, t1, z1⟩ := HVW.out w6 HB6.out; clear hb6))
  all_goals
    have HBE6 : Hid (Below w.heap.size w w6) := HBV.out.trans (HB6.out.mono HBV.out.size)
    go_wp2
    refine bodyPost_ret_by (v := .agg #[.int .i64 ra, .int .i64 rc]) ?_ rfl ⟨rfl, (HBE6.out.setCell (p := ⟨w.heap.size + 1, 0, none⟩) (Nat.le_succ _) _).setCell (p := ⟨w.heap.size + 1, 1, none⟩) (Nat.le_succ _) _⟩
    rw [results_cell_one' rfl]
    go_simp
end Go.Proofs.YtgbnfhfkehpfaaaGreat
/- A slice of fractions of the call's own, stored in place. -/
namespace Go.Proofs.YtgbnfhfkehpfaaaGreat
open Go.RowKit

theorem Tryz.infoRatio : (Tryz.prog.info? 38).map (fun i => (i.zero, i.size, i.bytes)) = some (some (.agg #[.int .i64 0, .int .i64 0]), 2, 16) := by kernel_rfl
def flatR : List (Int × Int) → List Value
  | [] => []
  | p :: ps => .int .i64 p.1 :: .int .i64 p.2 :: flatR ps
theorem flatR_at : ∀ (ps : List (Int × Int)) {j : Nat} {p : Int × Int}, ps[j]? = some p → (flatR ps)[j * 2]? = some (.int .i64 p.1) ∧ (flatR ps)[j * 2 + 1]? = some (.int .i64 p.2)
  | [], j, p, h => by simp at h
  | q :: ps, 0, p, h => by simp at h; subst h; exact ⟨rfl, rfl⟩
  | q :: ps, j + 1, p, h => by
    have h := flatR_at ps (j := j) (p := p) (by simpa using h)
    rw [show (j + 1) * 2 = j * 2 + 1 + 1 by omega]
    exact ⟨by simp only [flatR, List.getElem?_cons_succ]; exact h.1, by simp only [flatR, List.getElem?_cons_succ]; exact h.2⟩
theorem flatR_set : ∀ (ps : List (Int × Int)) (j : Nat) (a b : Int), ((flatR ps).set (j * 2) (.int .i64 a)).set (j * 2 + 1) (.int .i64 b) = flatR (ps.set j (a, b))
  | [], _, _, _ => by simp [flatR]
  | q :: ps, 0, a, b => rfl
  | q :: ps, j + 1, a, b => by
    have h := flatR_set ps j a b
    rw [show (j + 1) * 2 = j * 2 + 1 + 1 by omega]
    simp only [flatR, List.set_cons_succ]
    rw [h]
theorem flatR_zero : ∀ n, flatR (List.replicate n (0, 0)) = List.replicate (n * 2) (.int .i64 0)
  | 0 => rfl
  | n + 1 => by
    rw [List.replicate_succ, show (n + 1) * 2 = n * 2 + 1 + 1 by omega, List.replicate_succ, List.replicate_succ]
    simp only [flatR]
    rw [flatR_zero n]
theorem flatR_rep (n : Nat) : (madeCells #[Value.int .i64 0, .int .i64 0] (n * 2)).toList = flatR (List.replicate n (0, 0)) := by
  rw [flatR_zero]
  unfold madeCells
  have e : (fun x : Nat => (#[Value.int .i64 0, .int .i64 0] : Array Value)[x % (#[Value.int .i64 0, .int .i64 0] : Array Value).size]!) = fun _ => Value.int .i64 0 := by
    funext x
    have h : x % 2 = 0 ∨ x % 2 = 1 := by omega
    show (#[Value.int .i64 0, .int .i64 0] : Array Value)[x % 2]! = _
    rcases h with h | h <;> rw [h] <;> rfl
  rw [e, Array.toList_map, Array.toList_range]
  exact List.eq_replicate_iff.2 ⟨by simp, fun b hb => by obtain ⟨_, _, rfl⟩ := List.mem_map.1 hb; rfl⟩
def OwnR (w : World) (base : Nat) (v : Value) (ps : List (Int × Int)) : Prop := w.ownsRow base 38 2 v ps.length (flatR ps)
theorem OwnR.below {w w' : World} {base : Nat} {v : Value} {ps : List (Int × Int)} (h : OwnR w base v ps) (hb : Below w.heap.size w w') : OwnR w' base v ps := row_below h hb
theorem OwnR.drew {w : World} {base : Nat} {v : Value} {ps : List (Int × Int)} (h : OwnR w base v ps) : OwnR w.drew base v ps := h
theorem OwnR.lt {w : World} {base g n cap : Nat} {ps : List (Int × Int)} (h : OwnR w base (.slice (some ⟨g, 0, none⟩) n cap) ps) : base ≤ g ∧ g < w.heap.size := World.ownsRow.lt h g rfl
theorem OwnR.cell {w : World} {base g cap : Nat} {ps : List (Int × Int)} (h : OwnR w base (.slice (some ⟨g, 0, none⟩) ps.length cap) ps) {j : Nat} {p : Int × Int} (hj : ps[j]? = some p) :
    (w.cell? ⟨g, j * 2, none⟩ = some (.int .i64 p.1) ∧ w.frozen? ⟨g, j * 2, none⟩ = false) ∧ w.cell? ⟨g, j * 2 + 1, none⟩ = some (.int .i64 p.2) ∧ w.frozen? ⟨g, j * 2 + 1, none⟩ = false := by
  have hl := (List.getElem?_eq_some_iff.1 hj).1
  obtain ⟨h1, h2⟩ := flatR_at ps hj
  exact ⟨⟨(World.ownsRow.cellAt h (j * 2) (by omega)).trans h1, World.ownsRow.frozenAt h _⟩, (World.ownsRow.cellAt h (j * 2 + 1) (by omega)).trans h2, World.ownsRow.frozenAt h _⟩
theorem OwnR.stored {w : World} {base g cap : Nat} {ps : List (Int × Int)} (h : OwnR w base (.slice (some ⟨g, 0, none⟩) ps.length cap) ps) (j : Nat) (a b : Int) :
    OwnR ((w.setCell ⟨g, j * 2, none⟩ (.int .i64 a)).setCell ⟨g, j * 2 + 1, none⟩ (.int .i64 b)) base (.slice (some ⟨g, 0, none⟩) ps.length cap) (ps.set j (a, b)) := by
  have h1 := (World.ownsRow.stored (World.ownsRow.stored h (j * 2) (.int .i64 a)).1 (j * 2 + 1) (.int .i64 b)).1
  rw [flatR_set] at h1
  show World.ownsRow _ _ _ _ _ _ _
  rw [List.length_set]
  exact h1
def Rl (w : World) (a : Option Addr) (ps : List (Int × Int)) : Prop := ∀ j p, ps[j]? = some p → ∃ b, a = some ⟨b, 0, none⟩ ∧ w.cell? ⟨b, j * 2, none⟩ = some (.int .i64 p.1) ∧ w.cell? ⟨b, j * 2 + 1, none⟩ = some (.int .i64 p.2)
theorem Rl.below {w w' : World} {a : Option Addr} {ps : List (Int × Int)} (h : Rl w a ps) (hb : Below w.heap.size w w') : Rl w' a ps := fun j p hj => by
  obtain ⟨b, e, h1, h2⟩ := h j p hj
  exact ⟨b, e, (hb.cell (p := ⟨b, j * 2, none⟩) (cell_lt h1)).trans h1, (hb.cell (p := ⟨b, j * 2 + 1, none⟩) (cell_lt h2)).trans h2⟩
theorem OwnR.rl {w : World} {base g cap : Nat} {ps : List (Int × Int)} (h : OwnR w base (.slice (some ⟨g, 0, none⟩) ps.length cap) ps) : Rl w (some ⟨g, 0, none⟩) ps := fun j p hj => by
  obtain ⟨h1, h2⟩ := h.cell hj
  exact ⟨g, rfl, h1.1, h2.1⟩
end Go.Proofs.YtgbnfhfkehpfaaaGreat
/- addUp: a contract. -/
namespace Go.Proofs.YtgbnfhfkehpfaaaGreat
open Go.RowKit

def Rr (w : World) (a : Option Addr) (ps : List (Int × Int)) : Prop := ∀ j p, ps[j]? = some p → ∃ b o, a = some ⟨b, o, none⟩ ∧ w.cell? ⟨b, o + j * 2, none⟩ = some (.int .i64 p.1) ∧ w.cell? ⟨b, o + j * 2 + 1, none⟩ = some (.int .i64 p.2)
theorem Rr.below {w w' : World} {a : Option Addr} {ps : List (Int × Int)} (h : Rr w a ps) (hb : Below w.heap.size w w') : Rr w' a ps := fun j p hj => by
  obtain ⟨b, o, e, h1, h2⟩ := h j p hj
  exact ⟨b, o, e, (hb.cell (p := ⟨b, o + j * 2, none⟩) (cell_lt h1)).trans h1, (hb.cell (p := ⟨b, o + j * 2 + 1, none⟩) (cell_lt h2)).trans h2⟩
theorem Rl.rr {w : World} {a : Option Addr} {ps : List (Int × Int)} (h : Rl w a ps) : Rr w a ps := fun j p hj => by
  obtain ⟨b, e, h1, h2⟩ := h j p hj
  exact ⟨b, 0, e, by rw [Nat.zero_add]; exact h1, by rw [Nat.zero_add]; exact h2⟩
structure Bx (W : World) (b : Nat) (u v : Value) : Prop where
  lt : b < W.heap.size
  c0 : W.cell? ⟨b, 0, none⟩ = some u
  c1 : W.cell? ⟨b, 1, none⟩ = some v
  f0 : W.frozen? ⟨b, 0, none⟩ = false
  f1 : W.frozen? ⟨b, 1, none⟩ = false
theorem Bx.next {W W' : World} {b : Nat} {u v : Value} (h : Bx W b u v) (hb : Below W.heap.size W W') : Bx W' b u v :=
  ⟨Nat.lt_of_lt_of_le h.lt hb.size, (hb.cell (p := ⟨b, 0, none⟩) h.lt).trans h.c0, (hb.cell (p := ⟨b, 1, none⟩) h.lt).trans h.c1, (hb.frozen (p := ⟨b, 0, none⟩) h.lt).trans h.f0, (hb.frozen (p := ⟨b, 1, none⟩) h.lt).trans h.f1⟩
theorem Bx.new (W : World) (u v : Value) (t : TypeId) : Bx (W.alloc (.cells #[u, v] t)) W.heap.size u v := ⟨by rw [World.size_alloc]; omega, alloc_cell _ _ _ _ _ rfl, alloc_cell _ _ _ _ _ rfl, by simp, by simp⟩
theorem Bx.other {W : World} {b : Nat} {u v : Value} (h : Bx W b u v) {B : Nat} (hB : b ≠ B) (x y : Value) : Bx ((W.setCell ⟨B, 0, none⟩ x).setCell ⟨B, 1, none⟩ y) b u v :=
  ⟨by rw [World.size_setCell, World.size_setCell]; exact h.lt, (cell_other _ _ _ _ hB).trans ((cell_other _ _ _ _ hB).trans h.c0), (cell_other _ _ _ _ hB).trans ((cell_other _ _ _ _ hB).trans h.c1), by
    rw [World.frozen?_setCell, World.frozen?_setCell]; exact h.f0, by rw [World.frozen?_setCell, World.frozen?_setCell]; exact h.f1⟩
theorem Bx.stored {W : World} {b : Nat} {u v : Value} (h : Bx W b u v) (x y : Value) : Bx ((W.setCell ⟨b, 0, none⟩ x).setCell ⟨b, 1, none⟩ y) b x y :=
  ⟨by rw [World.size_setCell, World.size_setCell]; exact h.lt, (World.cell?_setCell_other _ ⟨b, 1, none⟩ ⟨b, 0, none⟩ _ (by simp)).trans (World.cell?_setCell_same _ _ _ h.c0), World.cell?_setCell_same _ _ _ ((World.cell?_setCell_other _ ⟨b, 0, none⟩ ⟨b, 1, none⟩ _ (by simp)).trans h.c1), by rw [World.frozen?_setCell, World.frozen?_setCell]; exact h.f0, by rw [World.frozen?_setCell, World.frozen?_setCell]; exact h.f1⟩
theorem i64_0 : I64' 0 := by unfold I64'; omega
theorem i64_1 : I64' 1 := by unfold I64'; omega
end Go.Proofs.YtgbnfhfkehpfaaaGreat
/- Compare of layer 3: a contract. -/
namespace Go.Proofs.YtgbnfhfkehpfaaaGreat
open Go.RowKit

def lowD (d : Int) : Int := if d ≤ 0 then 1 else d
def cmpR (n d p q : Int) : Int := cmpZ (n * lowD q) (p * lowD d)
theorem lowD_in {d : Int} (h : I64' d) : 1 ≤ lowD d ∧ lowD d ≤ 9223372036854775807 := by unfold lowD; unfold I64' at h; split <;> omega
theorem lowD_any (n d : Int) (w : World) : Calls Tryz.prog 122 #[.agg #[.int .i64 n, .int .i64 d]] w fun e w' => e = .returned (.int .i64 (lowD d)) ∧ Below w.heap.size w w' := lower_any n d w
theorem big_in {n l : Int} (hn : I64' n) (hl : 1 ≤ l ∧ l ≤ 9223372036854775807) : -170141183460469231731687303715884105728 ≤ n * l ∧ n * l < 170141183460469231731687303715884105728 := by
  have := mul_le (a := n) (b := l) (x := 9223372036854775808) (y := 9223372036854775807) (by unfold I64' at hn; omega) (by omega)
  omega
structure Two (w : World) (lo : Nat) (n d p q : Int) (V : World) : Prop where
  a0 : V.cell? ⟨w.heap.size, 0, none⟩ = some (.int .i64 n)
  a1 : V.cell? ⟨w.heap.size, 1, none⟩ = some (.int .i64 d)
  b0 : V.cell? ⟨w.heap.size + 1, 0, none⟩ = some (.int .i64 p)
  b1 : V.cell? ⟨w.heap.size + 1, 1, none⟩ = some (.int .i64 q)
  bw : Below w.heap.size w V
  sz : lo ≤ V.heap.size
  lw : w.heap.size + 2 ≤ lo
theorem Two.next {w V V' : World} {lo : Nat} {n d p q : Int} (h : Two w lo n d p q V) (hb : Below V.heap.size V V') : Two w lo n d p q V' := by
  have s := h.sz
  have s2 := h.lw
  exact ⟨(hb.cell (p := ⟨_, _, none⟩) (by show w.heap.size < _; omega)).trans h.a0, (hb.cell (p := ⟨_, _, none⟩) (by show w.heap.size < _; omega)).trans h.a1, (hb.cell (p := ⟨_, _, none⟩) (by show w.heap.size + 1 < _; omega)).trans h.b0, (hb.cell (p := ⟨_, _, none⟩) (by show w.heap.size + 1 < _; omega)).trans h.b1, h.bw.trans (hb.mono (by omega)), Nat.le_trans s hb.size, s2⟩
theorem Two.new (w : World) (n d p q : Int) (t t' : TypeId) : Two w (w.heap.size + 2) n d p q ((w.alloc (.cells #[.int .i64 n, .int .i64 d] t)).alloc (.cells #[.int .i64 p, .int .i64 q] t')) := by
  have hs1 : (w.alloc (.cells #[.int .i64 n, .int .i64 d] t)).heap.size = w.heap.size + 1 := World.size_alloc _ _
  refine ⟨(alloc_old _ _ _ _ (by omega)).trans (alloc_cell _ _ _ _ _ rfl), (alloc_old _ _ _ _ (by omega)).trans (alloc_cell _ _ _ _ _ rfl), ?_, ?_, ((Below.refl _ _).alloc (Nat.le_refl _) _).alloc (by omega) _, by rw [World.size_alloc, hs1]; omega, Nat.le_refl _⟩
  · rw [← hs1]; exact alloc_cell _ _ _ _ _ rfl
  · rw [← hs1]; exact alloc_cell _ _ _ _ _ rfl
theorem Two.up {w V : World} {lo : Nat} {n d p q : Int} (h : Two w lo n d p q V) : Two w V.heap.size n d p q V := ⟨h.a0, h.a1, h.b0, h.b1, h.bw, Nat.le_refl _, Nat.le_trans h.lw h.sz⟩
theorem Two.stored {w V : World} {lo : Nat} {n d p q : Int} (h : Two w lo n d p q V) {B : Nat} (hB' : lo ≤ B) (i : Nat) (u : Value) : Two w lo n d p q (V.setCell ⟨B, i, none⟩ u) :=
  have hB := Nat.le_trans h.lw hB'
  ⟨(cell_other _ _ _ _ (by show w.heap.size ≠ B; omega)).trans h.a0, (cell_other _ _ _ _ (by show w.heap.size ≠ B; omega)).trans h.a1, (cell_other _ _ _ _ (by show w.heap.size + 1 ≠ B; omega)).trans h.b0, (cell_other _ _ _ _ (by show w.heap.size + 1 ≠ B; omega)).trans h.b1, h.bw.setCell (p := ⟨B, i, none⟩) (by show _ ≤ B; omega) _, by rw [World.size_setCell]; exact h.sz, h.lw⟩
structure TBox (lo B : Nat) (V : World) : Prop where
  c0 : ∃ u, V.cell? ⟨B, 0, none⟩ = some u
  c1 : ∃ u, V.cell? ⟨B, 1, none⟩ = some u
  f0 : V.frozen? ⟨B, 0, none⟩ = false
  f1 : V.frozen? ⟨B, 1, none⟩ = false
  lt : B < V.heap.size
  ge : lo ≤ B
theorem TBox.new {lo : Nat} (W : World) (h : lo ≤ W.heap.size) (u v : Value) (t : TypeId) : TBox lo W.heap.size (W.alloc (.cells #[u, v] t)) := ⟨⟨u, alloc_cell _ _ _ _ _ rfl⟩, ⟨v, alloc_cell _ _ _ _ _ rfl⟩, by simp, by simp, by rw [World.size_alloc]; omega, h⟩
theorem TBox.newD {lo : Nat} (W : World) (h : lo ≤ W.heap.size) (u v : Value) (t : TypeId) : TBox lo W.heap.size (W.alloc (.cells #[u, v] t)).drew := ⟨⟨u, alloc_cell _ _ _ _ _ rfl⟩, ⟨v, alloc_cell _ _ _ _ _ rfl⟩, by simp, by simp, by show W.heap.size < (W.alloc _).heap.size; rw [World.size_alloc]; omega, h⟩
theorem TBox.next {lo B : Nat} {V V' : World} (h : TBox lo B V) (hb : Below V.heap.size V V') : TBox lo B V' := by
  obtain ⟨⟨u, c0⟩, ⟨v, c1⟩, f0, f1, lt, ge⟩ := h
  exact ⟨⟨u, (hb.cell (p := ⟨B, 0, none⟩) lt).trans c0⟩, ⟨v, (hb.cell (p := ⟨B, 1, none⟩) lt).trans c1⟩, (hb.frozen (p := ⟨B, 0, none⟩) lt).trans f0, (hb.frozen (p := ⟨B, 1, none⟩) lt).trans f1, Nat.lt_of_lt_of_le lt hb.size, ge⟩
def WBox (w : World) (x : Int) (T : Nat) (V : World) : Prop := w.heap.size + 2 ≤ T ∧ T < V.heap.size ∧ V.cell? ⟨T, 0, none⟩ = some (.int .u64 (hi64 x)) ∧ V.cell? ⟨T, 1, none⟩ = some (.int .u64 (lo64 x))
theorem WBox.next {w V V' : World} {x : Int} {T : Nat} (h : WBox w x T V) (hb : Below V.heap.size V V') : WBox w x T V' := ⟨h.1, Nat.lt_of_lt_of_le h.2.1 hb.size, (hb.cell (p := ⟨T, 0, none⟩) h.2.1).trans h.2.2.1, (hb.cell (p := ⟨T, 1, none⟩) h.2.1).trans h.2.2.2⟩
theorem WBox.stored {w V : World} {x : Int} {T : Nat} (h : WBox w x T V) {B : Nat} (hB : B ≠ T) (i : Nat) (u : Value) : WBox w x T (V.setCell ⟨B, i, none⟩ u) := ⟨h.1, by rw [World.size_setCell]; exact h.2.1, (cell_other _ _ _ _ (Ne.symm hB)).trans h.2.2.1, (cell_other _ _ _ _ (Ne.symm hB)).trans h.2.2.2⟩
theorem WBox.of_alloc {w W : World} (h : w.heap.size + 2 ≤ W.heap.size) (x : Int) (t : TypeId) : WBox w x W.heap.size (W.alloc (.cells #[.int .u64 (hi64 x), .int .u64 (lo64 x)] t)) := ⟨h, by rw [World.size_alloc]; omega, alloc_cell _ _ _ _ _ rfl, alloc_cell _ _ _ _ _ rfl⟩
theorem WBox.of_store {w V : World} {lo B : Nat} (hlo : w.heap.size + 2 ≤ lo) (h : TBox lo B V) (x : Int) : WBox w x B ((V.setCell ⟨B, 0, none⟩ (.int .u64 (hi64 x))).setCell ⟨B, 1, none⟩ (.int .u64 (lo64 x))) := by
  obtain ⟨⟨u, c0⟩, ⟨v, c1⟩, f0, f1, lt, ge⟩ := h
  refine ⟨Nat.le_trans hlo ge, by rw [World.size_setCell, World.size_setCell]; exact lt, ?_, ?_⟩
  · exact (World.cell?_setCell_other _ ⟨B, 1, none⟩ ⟨B, 0, none⟩ _ (by simp)).trans (World.cell?_setCell_same _ _ _ c0)
  · exact World.cell?_setCell_same _ _ _ ((World.cell?_setCell_other _ ⟨B, 0, none⟩ ⟨B, 1, none⟩ _ (by simp)).trans c1)
set_option maxRecDepth 100000 in
theorem cmp_t3 {w V : World} {lo : Nat} {n d p q : Int} {T T2 : Nat} (HT : Hid (Two w lo n d p q V)) (hx : Hid (-170141183460469231731687303715884105728 ≤ n * lowD q ∧ n * lowD q < 170141183460469231731687303715884105728)) (hy : Hid (-170141183460469231731687303715884105728 ≤ p * lowD d ∧ p * lowD d < 170141183460469231731687303715884105728))
    (h1 : Hid (WBox w (n * lowD q) T V)) (h2 : Hid (WBox w (p * lowD d) T2 V)) (u0 u1 u4 u7 u8 u9 u10 u11 u12 u13 u14 u15 u16 u17 u18 u19 u20 u21 u22 u23 : Value) :
    Code.wp Tryz.prog (seqTail 3 ((Tryz.f105.body).getD .skip)) (bodyPost Tryz.prog Tryz.f105 (fun e w' => e = .returned (.int .i64 (cmpR n d p q)) ∧ Below w.heap.size w w')) { tmps := #[u0, u1, .pointer (some ⟨w.heap.size, 0, none⟩), .pointer (some ⟨w.heap.size + 1, 0, none⟩), u4, .pointer (some ⟨T, 0, none⟩), .pointer (some ⟨T2, 0, none⟩), u7, u8, u9, u10, u11, u12, u13, u14, u15, u16, u17, u18, u19, u20, u21, u22, u23], defers := [] } V := by
  conv => arg 2; whnf
  obtain ⟨_, _, c0, c1⟩ := h1.out
  obtain ⟨_, _, e0, e1⟩ := h2.out
  have HWC : Hid (Calls Tryz.prog 123 #[.agg #[.int .u64 (hi64 (n * lowD q)), .int .u64 (lo64 (n * lowD q))], .agg #[.int .u64 (hi64 (p * lowD d)), .int .u64 (lo64 (p * lowD d))]] V fun e w' => e = .returned (.int .i64 (cmpR n d p q)) ∧ Below V.heap.size V w') := wcompare_any _ _ V hx.out hy.out
  go_wp2_with (go_at_call 123; refine HWC.out.mono ?_; rintro e w5 ⟨rfl, hb5⟩; have HB5 := Lib.hid (HT.out.bw.trans (hb5.mono HT.out.bw.size)); clear hb5)
  go_ret
  exact ⟨rfl, HB5.out⟩
set_option maxRecDepth 100000 in
set_option maxHeartbeats 2000000 in
theorem cmp_t2 {w V : World} {n d p q : Int} {T : Nat} (HT : Hid (Two w V.heap.size n d p q V)) (HN : Hid (I64' p)) (HLW : Hid (I64' (lowD d))) (HWI : Hid (∀ (x : Int), I64' x → ∀ V, Calls Tryz.prog 120 #[.int .i64 x] V fun e w' => e = .returned (wideV x) ∧ Below V.heap.size V w'))
    (hx : Hid (-170141183460469231731687303715884105728 ≤ n * lowD q ∧ n * lowD q < 170141183460469231731687303715884105728)) (hy : Hid (-170141183460469231731687303715884105728 ≤ p * lowD d ∧ p * lowD d < 170141183460469231731687303715884105728))
    (h1 : Hid (WBox w (n * lowD q) T V)) (u0 u1 u4 u6 u7 u8 u9 u10 u11 u12 u13 u14 u15 u16 u17 u18 u19 u20 u21 u22 u23 : Value) :
    Code.wp Tryz.prog (seqTail 2 ((Tryz.f105.body).getD .skip)) (bodyPost Tryz.prog Tryz.f105 (fun e w' => e = .returned (.int .i64 (cmpR n d p q)) ∧ Below w.heap.size w w')) { tmps := #[u0, u1, .pointer (some ⟨w.heap.size, 0, none⟩), .pointer (some ⟨w.heap.size + 1, 0, none⟩), u4, .pointer (some ⟨T, 0, none⟩), u6, u7, u8, u9, u10, u11, u12, u13, u14, u15, u16, u17, u18, u19, u20, u21, u22, u23], defers := [] } V := by
  conv => arg 2; whnf
  refine wp_seq_k (fun K hK => ?_)
  have HK := Lib.hid hK
  clear hK
  obtain ⟨k0, k1, k2, k3, -⟩ := HT.out
  have a0 := fun ob => (HT.out.next ((Below.refl _ _).alloc (Nat.le_refl _) ob)).a0
  have a1 := fun ob => (HT.out.next ((Below.refl _ _).alloc (Nat.le_refl _) ob)).a1
  have a2 := fun ob => (HT.out.next ((Below.refl _ _).alloc (Nat.le_refl _) ob)).b0
  have a3 := fun ob => (HT.out.next ((Below.refl _ _).alloc (Nat.le_refl _) ob)).b1
  go_region_law (first | (go_simp; refine (HWI.out _ (by first | exact HN.out | exact HLW.out) _).mono ?_; rintro e w1 ⟨rfl, hb1⟩; (first | (have hX := Lib.hid (TBox.next (Hid.out hX) hb1); obtain ⟨⟨_, x0⟩, ⟨_, x1⟩, x2, x3, _, _⟩ := hX.out) | (have hX := Lib.hid (TBox.next (TBox.newD _ HT.out.sz _ _ _) hb1); obtain ⟨⟨_, x0⟩, ⟨_, x1⟩, x2, x3, _, _⟩ := hX.out) | (have hX := Lib.hid (TBox.next (TBox.new _ (by first | exact (Hid.out hT).sz | exact HT.out.sz) _ _ _) hb1); obtain ⟨⟨_, x0⟩, ⟨_, x1⟩, x2, x3, _, _⟩ := hX.out) | skip); have hT := Lib.hid (Two.next (by first | exact HT.out | exact HT.out.next (Below.refl _ _).drew | exact Hid.out hT | exact HT.out.next ((Below.refl _ _).drew.alloc (Nat.le_refl _) _) | exact HT.out.next ((Below.refl _ _).alloc (Nat.le_refl _) _).drew | exact (Hid.out hT).next ((Below.refl _ _).alloc (Nat.le_refl _) _)) hb1); have hW := Lib.hid (WBox.next (by first | exact Hid.out hW | exact h1.out | exact (Hid.out hW).next ((Below.refl _ _).alloc (Nat.le_refl _) _) | exact h1.out.next ((Below.refl _ _).drew.alloc (Nat.le_refl _) _)) hb1); clear hb1; obtain ⟨s0, s1, s2, s3, _, _⟩ := (Hid.out hT); have a0 := fun ob => ((Hid.out hT).next ((Below.refl _ _).alloc (Nat.le_refl _) ob)).a0; have a1 := fun ob => ((Hid.out hT).next ((Below.refl _ _).alloc (Nat.le_refl _) ob)).a1; have a2 := fun ob => ((Hid.out hT).next ((Below.refl _ _).alloc (Nat.le_refl _) ob)).b0; have a3 := fun ob => ((Hid.out hT).next ((Below.refl _ _).alloc (Nat.le_refl _) ob)).b1) | (go_simp; refine (lowD_any _ _ _).mono ?_; rintro e w2 ⟨rfl, hb2⟩; (first | (have hX := Lib.hid (TBox.next (Hid.out hX) hb2); obtain ⟨⟨_, x0⟩, ⟨_, x1⟩, x2, x3, _, _⟩ := hX.out) | (have hX := Lib.hid (TBox.next (TBox.newD _ HT.out.sz _ _ _) hb2); obtain ⟨⟨_, x0⟩, ⟨_, x1⟩, x2, x3, _, _⟩ := hX.out) | (have hX := Lib.hid (TBox.next (TBox.new _ (by first | exact (Hid.out hT).sz | exact HT.out.sz) _ _ _) hb2); obtain ⟨⟨_, x0⟩, ⟨_, x1⟩, x2, x3, _, _⟩ := hX.out) | skip); have hT := Lib.hid (Two.next (by first | exact HT.out | exact HT.out.next (Below.refl _ _).drew | exact Hid.out hT | exact HT.out.next ((Below.refl _ _).drew.alloc (Nat.le_refl _) _) | exact HT.out.next ((Below.refl _ _).alloc (Nat.le_refl _) _).drew | exact (Hid.out hT).next ((Below.refl _ _).alloc (Nat.le_refl _) _)) hb2); have hW := Lib.hid (WBox.next (by first | exact Hid.out hW | exact h1.out | exact (Hid.out hW).next ((Below.refl _ _).alloc (Nat.le_refl _) _) | exact h1.out.next ((Below.refl _ _).drew.alloc (Nat.le_refl _) _)) hb2); clear hb2; obtain ⟨s0, s1, s2, s3, _, _⟩ := (Hid.out hT); have a0 := fun ob => ((Hid.out hT).next ((Below.refl _ _).alloc (Nat.le_refl _) ob)).a0; have a1 := fun ob => ((Hid.out hT).next ((Below.refl _ _).alloc (Nat.le_refl _) ob)).a1; have a2 := fun ob => ((Hid.out hT).next ((Below.refl _ _).alloc (Nat.le_refl _) ob)).b0; have a3 := fun ob => ((Hid.out hT).next ((Below.refl _ _).alloc (Nat.le_refl _) ob)).b1) | (go_simp; refine (times_any _ _ _).mono ?_; rintro e w4 ⟨rfl, hb4⟩; (first | (have hX := Lib.hid (TBox.next (Hid.out hX) hb4); obtain ⟨⟨_, x0⟩, ⟨_, x1⟩, x2, x3, _, _⟩ := hX.out) | (have hX := Lib.hid (TBox.next (TBox.newD _ HT.out.sz _ _ _) hb4); obtain ⟨⟨_, x0⟩, ⟨_, x1⟩, x2, x3, _, _⟩ := hX.out) | (have hX := Lib.hid (TBox.next (TBox.new _ (by first | exact (Hid.out hT).sz | exact HT.out.sz) _ _ _) hb4); obtain ⟨⟨_, x0⟩, ⟨_, x1⟩, x2, x3, _, _⟩ := hX.out) | skip); have hT := Lib.hid (Two.next (by first | exact HT.out | exact HT.out.next (Below.refl _ _).drew | exact Hid.out hT | exact HT.out.next ((Below.refl _ _).drew.alloc (Nat.le_refl _) _) | exact HT.out.next ((Below.refl _ _).alloc (Nat.le_refl _) _).drew | exact (Hid.out hT).next ((Below.refl _ _).alloc (Nat.le_refl _) _)) hb4); have hW := Lib.hid (WBox.next (by first | exact Hid.out hW | exact h1.out | exact (Hid.out hW).next ((Below.refl _ _).alloc (Nat.le_refl _) _) | exact h1.out.next ((Below.refl _ _).drew.alloc (Nat.le_refl _) _)) hb4); clear hb4; unfold wideV))
  all_goals
    first
    | exact HK.out _ _ (cmp_t3 (Lib.hid ((Hid.out hT).next ((Below.refl _ _).alloc (Nat.le_refl _) _))) hx hy (Lib.hid ((Hid.out hW).next ((Below.refl _ _).alloc (Nat.le_refl _) _))) (Lib.hid (WBox.of_alloc (Nat.le_trans (Hid.out hT).lw (Hid.out hT).sz) (p * lowD d) _)) _ _ _ _ _ _ _ _ _ _ _ _ _ _ _ _ _ _ _ _)
    | exact HK.out _ _ (cmp_t3 (Lib.hid (((Hid.out hT).stored (Hid.out hX).ge 0 _).stored (Hid.out hX).ge 1 _)) hx hy (Lib.hid (((Hid.out hW).stored (Nat.ne_of_gt (Nat.lt_of_lt_of_le h1.out.2.1 (Hid.out hX).ge)) 0 _).stored (Nat.ne_of_gt (Nat.lt_of_lt_of_le h1.out.2.1 (Hid.out hX).ge)) 1 _)) (Lib.hid (WBox.of_store (Hid.out hT).lw hX.out (p * lowD d))) _ _ _ _ _ _ _ _ _ _ _ _ _ _ _ _ _ _ _ _)
set_option maxRecDepth 100000 in
set_option maxHeartbeats 2000000 in
theorem compare_any (n d p q : Int) (w : World) (hn : I64' n) (hd : I64' d) (hp : I64' p) (hq : I64' q) :
    Calls Tryz.prog 105 #[.agg #[.int .i64 n, .int .i64 d], .agg #[.int .i64 p, .int .i64 q]] w fun e w' => e = .returned (.int .i64 (cmpR n d p q)) ∧ Below w.heap.size w w' := by
  have HT := Lib.hid (Two.new w n d p q 38 38)
  have HWI : Hid (∀ (x : Int), I64' x → ∀ V, Calls Tryz.prog 120 #[.int .i64 x] V fun e w' => e = .returned (wideV x) ∧ Below V.heap.size V w') := fun x hx V => widened_any x V hx
  have HN := Lib.hid hn
  have HPP := Lib.hid hp
  have HLD : Hid (I64' (lowD d)) := by have := lowD_in hd; show _ ∧ _; omega
  have HLW : Hid (I64' (lowD q)) := by have := lowD_in hq; show _ ∧ _; omega
  have hx : Hid (-170141183460469231731687303715884105728 ≤ n * lowD q ∧ n * lowD q < 170141183460469231731687303715884105728) := big_in hn (lowD_in hq)
  have hy : Hid (-170141183460469231731687303715884105728 ≤ p * lowD d ∧ p * lowD d < 170141183460469231731687303715884105728) := big_in hp (lowD_in hd)
  clear hn hd hp hq
  go_enter Tryz.func105, Tryz.ntmps105
  refine wp_seq_k (fun K hK => ?_)
  have HK := Lib.hid hK
  clear hK
  go_wp2
  refine HK.out _ _ ?_
  clear HK
  refine wp_seq_k (fun K hK => ?_)
  have HK := Lib.hid hK
  clear hK
  generalize ((w.alloc (.cells #[.int .i64 n, .int .i64 d] 38)).alloc (.cells #[.int .i64 p, .int .i64 q] 38)) = V at *
  obtain ⟨k0, k1, k2, k3, -⟩ := HT.out
  have a0 := fun ob => (HT.out.next ((Below.refl _ _).alloc (Nat.le_refl _) ob)).a0
  have a1 := fun ob => (HT.out.next ((Below.refl _ _).alloc (Nat.le_refl _) ob)).a1
  have a2 := fun ob => (HT.out.next ((Below.refl _ _).alloc (Nat.le_refl _) ob)).b0
  have a3 := fun ob => (HT.out.next ((Below.refl _ _).alloc (Nat.le_refl _) ob)).b1
  go_region_law (first | (go_simp; refine (HWI.out _ (by first | exact HN.out | exact HLW.out) _).mono ?_; rintro e w1 ⟨rfl, hb1⟩; (first | (have hX := Lib.hid (TBox.next (Hid.out hX) hb1); obtain ⟨⟨_, x0⟩, ⟨_, x1⟩, x2, x3, _, _⟩ := hX.out) | (have hX := Lib.hid (TBox.next (TBox.newD _ HT.out.sz _ _ _) hb1); obtain ⟨⟨_, x0⟩, ⟨_, x1⟩, x2, x3, _, _⟩ := hX.out) | (have hX := Lib.hid (TBox.next (TBox.new _ (by first | exact (Hid.out hT).sz | exact HT.out.sz) _ _ _) hb1); obtain ⟨⟨_, x0⟩, ⟨_, x1⟩, x2, x3, _, _⟩ := hX.out) | skip); have hT := Lib.hid (Two.next (by first | exact HT.out | exact HT.out.next (Below.refl _ _).drew | exact Hid.out hT | exact HT.out.next ((Below.refl _ _).drew.alloc (Nat.le_refl _) _) | exact HT.out.next ((Below.refl _ _).alloc (Nat.le_refl _) _).drew | exact (Hid.out hT).next ((Below.refl _ _).alloc (Nat.le_refl _) _)) hb1); clear hb1; obtain ⟨s0, s1, s2, s3, _, _⟩ := (Hid.out hT); have a0 := fun ob => ((Hid.out hT).next ((Below.refl _ _).alloc (Nat.le_refl _) ob)).a0; have a1 := fun ob => ((Hid.out hT).next ((Below.refl _ _).alloc (Nat.le_refl _) ob)).a1; have a2 := fun ob => ((Hid.out hT).next ((Below.refl _ _).alloc (Nat.le_refl _) ob)).b0; have a3 := fun ob => ((Hid.out hT).next ((Below.refl _ _).alloc (Nat.le_refl _) ob)).b1) | (go_simp; refine (lowD_any _ _ _).mono ?_; rintro e w2 ⟨rfl, hb2⟩; (first | (have hX := Lib.hid (TBox.next (Hid.out hX) hb2); obtain ⟨⟨_, x0⟩, ⟨_, x1⟩, x2, x3, _, _⟩ := hX.out) | (have hX := Lib.hid (TBox.next (TBox.newD _ HT.out.sz _ _ _) hb2); obtain ⟨⟨_, x0⟩, ⟨_, x1⟩, x2, x3, _, _⟩ := hX.out) | (have hX := Lib.hid (TBox.next (TBox.new _ (by first | exact (Hid.out hT).sz | exact HT.out.sz) _ _ _) hb2); obtain ⟨⟨_, x0⟩, ⟨_, x1⟩, x2, x3, _, _⟩ := hX.out) | skip); have hT := Lib.hid (Two.next (by first | exact HT.out | exact HT.out.next (Below.refl _ _).drew | exact Hid.out hT | exact HT.out.next ((Below.refl _ _).drew.alloc (Nat.le_refl _) _) | exact HT.out.next ((Below.refl _ _).alloc (Nat.le_refl _) _).drew | exact (Hid.out hT).next ((Below.refl _ _).alloc (Nat.le_refl _) _)) hb2); clear hb2; obtain ⟨s0, s1, s2, s3, _, _⟩ := (Hid.out hT); have a0 := fun ob => ((Hid.out hT).next ((Below.refl _ _).alloc (Nat.le_refl _) ob)).a0; have a1 := fun ob => ((Hid.out hT).next ((Below.refl _ _).alloc (Nat.le_refl _) ob)).a1; have a2 := fun ob => ((Hid.out hT).next ((Below.refl _ _).alloc (Nat.le_refl _) ob)).b0; have a3 := fun ob => ((Hid.out hT).next ((Below.refl _ _).alloc (Nat.le_refl _) ob)).b1) | (go_simp; refine (times_any _ _ _).mono ?_; rintro e w4 ⟨rfl, hb4⟩; (first | (have hX := Lib.hid (TBox.next (Hid.out hX) hb4); obtain ⟨⟨_, x0⟩, ⟨_, x1⟩, x2, x3, _, _⟩ := hX.out) | (have hX := Lib.hid (TBox.next (TBox.newD _ HT.out.sz _ _ _) hb4); obtain ⟨⟨_, x0⟩, ⟨_, x1⟩, x2, x3, _, _⟩ := hX.out) | (have hX := Lib.hid (TBox.next (TBox.new _ (by first | exact (Hid.out hT).sz | exact HT.out.sz) _ _ _) hb4); obtain ⟨⟨_, x0⟩, ⟨_, x1⟩, x2, x3, _, _⟩ := hX.out) | skip); have hT := Lib.hid (Two.next (by first | exact HT.out | exact HT.out.next (Below.refl _ _).drew | exact Hid.out hT | exact HT.out.next ((Below.refl _ _).drew.alloc (Nat.le_refl _) _) | exact HT.out.next ((Below.refl _ _).alloc (Nat.le_refl _) _).drew | exact (Hid.out hT).next ((Below.refl _ _).alloc (Nat.le_refl _) _)) hb4); clear hb4; unfold wideV))
  all_goals
    first
    | exact HK.out _ _ (cmp_t2 (Lib.hid ((Hid.out hT).next ((Below.refl _ _).alloc (Nat.le_refl _) _)).up) HPP HLD HWI hx hy (Lib.hid (WBox.of_alloc (Nat.le_trans (Hid.out hT).lw (Hid.out hT).sz) (n * lowD q) _)) _ _ _ _ _ _ _ _ _ _ _ _ _ _ _ _ _ _ _ _ _)
    | exact HK.out _ _ (cmp_t2 (Lib.hid (((Hid.out hT).stored (Hid.out hX).ge 0 _).stored (Hid.out hX).ge 1 _).up) HPP HLD HWI hx hy (Lib.hid (WBox.of_store (Hid.out hT).lw hX.out (n * lowD q))) _ _ _ _ _ _ _ _ _ _ _ _ _ _ _ _ _ _ _ _ _)
end Go.Proofs.YtgbnfhfkehpfaaaGreat
/- Whole numbers of 128 bits in layer 5: widened, plus, times, compare: contracts. Written by mk_dwide.py. -/
namespace Go.Proofs.YtgbnfhfkehpfaaaGreat
open Go.RowKit

theorem dwidened_any (n : Int) (w : World) (h : I64' n) : Calls Tryz.prog 139 #[.int .i64 n] w fun e w' => e = .returned (wideV n) ∧ Below w.heap.size w w' := by
  go_enter Tryz.func139, Tryz.ntmps139
  go_wp2
  have e1 : IntKind.u64.wrap (n / 9223372036854775808) = hi64 n := by rw [IntKind.wrap_u64]; unfold hi64; unfold I64' at h; omega
  have e2 : IntKind.u64.wrap n = lo64 n := by rw [IntKind.wrap_u64]; unfold lo64; omega
  rw [e1, e2]
  refine bodyPost_ret_by (v := wideV n) ?_ rfl ⟨rfl, (Below.refl _ _).alloc (Nat.le_refl _) _⟩
  rw [results_cell_one' rfl]
  unfold wideV
  go_simp
set_option maxRecDepth 100000 in
theorem dwcompare_any (x y : Int) (w : World) (hx : -170141183460469231731687303715884105728 ≤ x ∧ x < 170141183460469231731687303715884105728) (hy : -170141183460469231731687303715884105728 ≤ y ∧ y < 170141183460469231731687303715884105728) :
    Calls Tryz.prog 142 #[wideV x, wideV y] w fun e w' => e = .returned (.int .i64 (cmpZ x y)) ∧ Below w.heap.size w w' := by
  have HC := Lib.hid (cmp_wide hx hy)
  clear hx hy
  unfold wideV
  obtain ⟨a, ha⟩ : ∃ a, lo64 x = a := ⟨_, rfl⟩
  obtain ⟨b, hb⟩ : ∃ b, lo64 y = b := ⟨_, rfl⟩
  obtain ⟨c, hc⟩ : ∃ c, hi64 x = c := ⟨_, rfl⟩
  obtain ⟨d, hd⟩ : ∃ d, hi64 y = d := ⟨_, rfl⟩
  rw [ha, hb, hc, hd] at HC
  rw [ha, hb, hc, hd]
  clear ha hb hc hd
  go_enter Tryz.func142, Tryz.ntmps142
  go_wp2
  have hs1 : (w.alloc (.cells #[.int .u64 c, .int .u64 a] 139)).heap.size = w.heap.size + 1 := World.size_alloc _ _
  have hb : Below w.heap.size w ((w.alloc (.cells #[.int .u64 c, .int .u64 a] 139)).alloc (.cells #[.int .u64 d, .int .u64 b] 139)) := ((Below.refl _ _).alloc (Nat.le_refl _) _).alloc (by omega) _
  have k0 : ((w.alloc (.cells #[.int .u64 c, .int .u64 a] 139)).alloc (.cells #[.int .u64 d, .int .u64 b] 139)).cell? ⟨w.heap.size, 0, none⟩ = some (.int .u64 c) := (alloc_old _ _ _ _ (by omega)).trans (alloc_cell _ _ _ _ _ rfl)
  have k1 : ((w.alloc (.cells #[.int .u64 c, .int .u64 a] 139)).alloc (.cells #[.int .u64 d, .int .u64 b] 139)).cell? ⟨w.heap.size, 1, none⟩ = some (.int .u64 a) := (alloc_old _ _ _ _ (by omega)).trans (alloc_cell _ _ _ _ _ rfl)
  have k2 : ((w.alloc (.cells #[.int .u64 c, .int .u64 a] 139)).alloc (.cells #[.int .u64 d, .int .u64 b] 139)).cell? ⟨w.heap.size + 1, 0, none⟩ = some (.int .u64 d) := by rw [← hs1]; exact alloc_cell _ _ _ _ _ rfl
  have k3 : ((w.alloc (.cells #[.int .u64 c, .int .u64 a] 139)).alloc (.cells #[.int .u64 d, .int .u64 b] 139)).cell? ⟨w.heap.size + 1, 1, none⟩ = some (.int .u64 b) := by rw [← hs1]; exact alloc_cell _ _ _ _ _ rfl
  have hsz : ((w.alloc (.cells #[.int .u64 c, .int .u64 a] 139)).alloc (.cells #[.int .u64 d, .int .u64 b] 139)).heap.size = w.heap.size + 2 := by rw [World.size_alloc, hs1]
  generalize ((w.alloc (.cells #[.int .u64 c, .int .u64 a] 139)).alloc (.cells #[.int .u64 d, .int .u64 b] 139)) = V at *
  have HB := Lib.hid hb
  have HSZ := Lib.hid hsz
  clear hb hs1 hsz
  obtain ⟨p, hp⟩ : ∃ p, cmpZ (IntKind.i64.wrap c) (IntKind.i64.wrap d) = p := ⟨_, rfl⟩
  obtain ⟨q, hq⟩ : ∃ q, cmpZ a b = q := ⟨_, rfl⟩
  rw [hp, hq] at HC
  have HP := Lib.hid hp
  have HQ := Lib.hid hq
  clear hp hq
  have HOR : Hid (∀ W : World, Calls Tryz.prog 145 #[.slice (some ⟨W.heap.size, 0, none⟩) 2 2] (W.alloc (.cells #[.int .i64 p, .int .i64 q] 3)).drew fun e w' => e = .returned (.int .i64 (orZ p q)) ∧ (W.alloc (.cells #[.int .i64 p, .int .i64 q] 3)).drew = w') := fun W => or_any _ p q 2 _ (by
    intro k hk
    match k, hk with
    | 0, _ => exact ⟨_, 0, rfl, alloc_cell _ _ _ _ _ rfl⟩
    | 1, _ => exact ⟨_, 0, rfl, alloc_cell _ _ _ _ _ rfl⟩)
  go_region_held_law (fun w' => w'.cell? ⟨w.heap.size, 0, none⟩ = some (.int .u64 c) ∧ w'.cell? ⟨w.heap.size, 1, none⟩ = some (.int .u64 a) ∧ w'.cell? ⟨w.heap.size + 1, 0, none⟩ = some (.int .u64 d) ∧ w'.cell? ⟨w.heap.size + 1, 1, none⟩ = some (.int .u64 b)) (first | exact ⟨by assumption, by assumption, by assumption, by assumption⟩ | go_keep) (first | (go_at_call 146; refine (cmpi_any _ _ _).mono ?_; rintro e w1 ⟨rfl, rfl⟩; rw [HP.out]) | (go_at_call 147; refine (cmpu_any _ _ _).mono ?_; rintro e w1 ⟨rfl, rfl⟩; rw [HQ.out]) | (go_at_call 145; refine (HOR.out _).mono ?_; rintro e w1 ⟨rfl, rfl⟩))
  have HBB : Hid (Below w.heap.size w (V.alloc (.cells #[.int .i64 p, .int .i64 q] 3)).drew) := (HB.out.alloc (by have := HSZ.out; omega) _).drew
  rw [HC.out]
  go_wp2
  go_ret
  exact ⟨rfl, HBB.out⟩
theorem dplus_any (x y : Int) (w : World) : Calls Tryz.prog 141 #[wideV x, wideV y] w fun e w' => e = .returned (wideV (x + y)) ∧ Below w.heap.size w w' := by
  obtain ⟨a1, a2⟩ := hi64_in x
  obtain ⟨b1, b2⟩ := lo64_in x
  obtain ⟨c1, c2⟩ := hi64_in y
  obtain ⟨d1, d2⟩ := lo64_in y
  have HH : Hid ((hi64 x + hi64 y + (lo64 x + lo64 y) / 18446744073709551616) % 18446744073709551616 = hi64 (x + y)) := by show _ = _; unfold hi64 lo64; omega
  have HL : Hid ((lo64 x + lo64 y) % 18446744073709551616 = lo64 (x + y)) := by show _ = _; unfold lo64; omega
  have k0 : 0 ≤ (lo64 x + lo64 y) / 18446744073709551616 := by omega
  have k1 : (lo64 x + lo64 y) / 18446744073709551616 ≤ 1 := by omega
  unfold wideV
  obtain ⟨hx, hhx⟩ : ∃ v, hi64 x = v := ⟨_, rfl⟩
  obtain ⟨lx, hlx⟩ : ∃ v, lo64 x = v := ⟨_, rfl⟩
  obtain ⟨hy, hhy⟩ : ∃ v, hi64 y = v := ⟨_, rfl⟩
  obtain ⟨ly, hly⟩ : ∃ v, lo64 y = v := ⟨_, rfl⟩
  obtain ⟨ho, hho⟩ : ∃ v, hi64 (x + y) = v := ⟨_, rfl⟩
  obtain ⟨lo, hlo⟩ : ∃ v, lo64 (x + y) = v := ⟨_, rfl⟩
  rw [hhx, hhy, hlx, hly, hho] at HH
  rw [hlx, hly, hlo] at HL
  rw [hhx] at a1
  rw [hlx] at b1
  rw [hhy] at c1
  rw [hly] at d1
  rw [hlx, hly] at k0 k1
  rw [hhx, hlx, hhy, hly, hho, hlo]
  clear hhx hlx hhy hly hho hlo a2 b2 c2 d2
  go_enter Tryz.func141, Tryz.ntmps141
  go_wp2_with (first | simp only [add64_0 lx ly b1 d1] | simp only [add64 hx hy _ a1 c1 k0 k1])
  rw [HH.out, HL.out]
  have hs1 : (w.alloc (.cells #[.int .u64 hx, .int .u64 lx] 139)).heap.size = w.heap.size + 1 := World.size_alloc _ _
  refine bodyPost_ret_by (v := .agg #[.int .u64 ho, .int .u64 lo]) ?_ rfl ⟨rfl, (((Below.refl _ _).alloc (Nat.le_refl _) _).alloc (by omega) _).alloc (by rw [World.size_alloc]; omega) _⟩
  have hc : ∀ k v, (#[Value.int .u64 ho, Value.int .u64 lo] : Array Value)[k]? = some v → (((w.alloc (.cells #[.int .u64 hx, .int .u64 lx] 139)).alloc (.cells #[.int .u64 hy, .int .u64 ly] 139)).alloc (.cells #[.int .u64 ho, .int .u64 lo] 139)).cell? ⟨w.heap.size + 1 + 1, k, none⟩ = some v := fun k v h => by
    rw [← show _ = w.heap.size + 1 + 1 from (World.size_alloc (w.alloc (.cells #[.int .u64 hx, .int .u64 lx] 139)) (.cells #[.int .u64 hy, .int .u64 ly] 139)).trans (by rw [hs1])]
    exact alloc_cell _ _ _ _ _ h
  have hc0 := hc 0 _ rfl
  have hc1 := hc 1 _ rfl
  rw [results_cell_one' rfl]
  generalize (((w.alloc (.cells #[.int .u64 hx, .int .u64 lx] 139)).alloc (.cells #[.int .u64 hy, .int .u64 ly] 139)).alloc (.cells #[.int .u64 ho, .int .u64 lo] 139)) = V at *
  clear hc hs1
  go_simp
theorem dtimes_any (x y : Int) (hy : I64' y) (w : World) : Calls Tryz.prog 140 #[wideV x, .int .i64 y] w fun e w' => e = .returned (wideV (x * y)) ∧ Below w.heap.size w w' := by
  obtain ⟨a, ha⟩ : ∃ a : Nat, lo64 x = (a : Int) := Int.eq_ofNat_of_zero_le (lo64_in x).1
  obtain ⟨b, hb⟩ : ∃ b : Nat, lo64 y = (b : Int) := Int.eq_ofNat_of_zero_le (lo64_in y).1
  obtain ⟨hx, hhx⟩ : ∃ a : Nat, hi64 x = (a : Int) := Int.eq_ofNat_of_zero_le (hi64_in x).1
  obtain ⟨hy', hhy⟩ : ∃ a : Nat, hi64 y = (a : Int) := Int.eq_ofNat_of_zero_le (hi64_in y).1
  have la := (lo64_in x).2
  have lb := (lo64_in y).2
  have hH := hi_times x y
  have hL := lo_times x y
  rw [ha, hb, hhx, hhy] at hH
  rw [ha, hb] at hL
  have HMU : Hid (∀ V, Calls Tryz.prog 144 #[.int .u64 (a : Int), .int .u64 (b : Int)] V fun e w' => e = .returned (.tuple #[.int .u64 ((a * b / 18446744073709551616 : Nat) : Int), .int .u64 ((a * b % 18446744073709551616 : Nat) : Int)]) ∧ w' = V) := fun V => Tryz.bits_Mul64 a b (by omega) (by omega) V
  have HWD : Hid (∀ V, Calls Tryz.prog 139 #[.int .i64 y] V fun e w' => e = .returned (.agg #[.int .u64 (hy' : Int), .int .u64 (b : Int)]) ∧ Below V.heap.size V w') := fun V => by
    have h := dwidened_any y V hy
    unfold wideV at h
    rw [hhy, hb] at h
    exact h
  have HV : Hid (wideV (x * y) = .agg #[.int .u64 (hi64 (x * y)), .int .u64 (lo64 (x * y))]) := rfl
  have HH := Lib.hid hH
  have HL := Lib.hid hL
  unfold wideV
  rw [ha, hhx]
  clear ha hb hhx hhy la lb hH hL hy
  obtain ⟨p, hp⟩ : ∃ p : Nat, a * b / 18446744073709551616 = p := ⟨_, rfl⟩
  obtain ⟨q, hq⟩ : ∃ q : Nat, a * b % 18446744073709551616 = q := ⟨_, rfl⟩
  rw [hp, hq] at HMU
  have HP := Lib.hid hp
  have HQ := Lib.hid hq
  clear hp hq
  have hhi : Hid (IntKind.u64.wrap (IntKind.u64.wrap ((p : Int) + IntKind.u64.wrap ((hx : Int) * b)) + IntKind.u64.wrap ((a : Int) * hy')) = hi64 (x * y)) := by
    show _ = _
    rw [HH.out]
    have e : (a : Int) * (b : Int) / 18446744073709551616 = (p : Int) := by rw [← HP.out]; omega
    rw [e]
    simp only [IntKind.wrap_u64]
    generalize (hx : Int) * b = u
    generalize (a : Int) * hy' = v
    omega
  have hlo : Hid ((q : Int) = lo64 (x * y)) := by show _ = _; rw [HL.out, ← HQ.out]; omega
  obtain ⟨V0, hV0⟩ : ∃ V0, w.alloc (.cells #[.int .u64 (hx : Int), .int .u64 (a : Int)] 139) = V0 := ⟨_, rfl⟩
  obtain ⟨V1, hV1⟩ : ∃ V1, V0.alloc (.cells #[.int .u64 0, .int .u64 0] 139) = V1 := ⟨_, rfl⟩
  have s0 : V0.heap.size = w.heap.size + 1 := by rw [← hV0]; exact World.size_alloc _ _
  have s1 : V1.heap.size = w.heap.size + 1 + 1 := by rw [← hV1, World.size_alloc, s0]
  have b0 : Below w.heap.size w V0 := by rw [← hV0]; exact (Below.refl _ _).alloc (Nat.le_refl _) _
  have b1 : Below V0.heap.size V0 V1 := by rw [← hV1]; exact (Below.refl _ _).alloc (Nat.le_refl _) _
  have x0 : Bx V1 w.heap.size (.int .u64 (hx : Int)) (.int .u64 (a : Int)) := by
    refine Bx.next ?_ b1
    rw [← hV0]; exact Bx.new _ _ _ _
  have x1 : Bx V1 V0.heap.size (.int .u64 0) (.int .u64 0) := by rw [← hV1]; exact Bx.new V0 _ _ _
  have hge : w.heap.size ≤ V0.heap.size := by omega
  have HX0 := Lib.hid x0
  have HX1 := Lib.hid x1
  have HB1 : Hid (Below w.heap.size w V1) := b0.trans (b1.mono b0.size)
  have HS1 := Lib.hid s1
  clear b0 b1 x0 x1 s0 s1
  go_enter Tryz.func140, Tryz.ntmps140
  go_wp2_with (first
    | (go_at_call 139; refine (HWD.out _).mono ?_; rintro e w1 ⟨rfl, hb1⟩
       have x2 := Bx.new w1 (.int .u64 (hy' : Int)) (.int .u64 (b : Int)) 139
       have hb2 : Below V1.heap.size V1 (w1.alloc (.cells #[.int .u64 (hy' : Int), .int .u64 (b : Int)] 139)) := hb1.alloc hb1.size _
       obtain ⟨l0, c0, c1, f0, f1⟩ := HX0.out.next hb2
       obtain ⟨l2, d0, d1, g0, g1⟩ := x2
       have HB2 := Lib.hid hb2
       obtain ⟨l3, e0, e1, q0, q1⟩ := HX1.out.next hb2
       clear hb1 hb2)
    | (go_at_call 144; refine (HMU.out _).mono ?_; rintro e w2 ⟨rfl, rfl⟩))
  rw [hhi.out, hlo.out]
  refine bodyPost_ret_by (v := .agg #[.int .u64 (hi64 (x * y)), .int .u64 (lo64 (x * y))]) ?_ rfl ⟨rfl, ((HB1.out.trans (HB2.out.mono HB1.out.size)).setCell (p := ⟨V0.heap.size, 0, none⟩) hge _).setCell (p := ⟨V0.heap.size, 1, none⟩) hge _⟩
  rw [results_cell_one' rfl]
  go_simp
end Go.Proofs.YtgbnfhfkehpfaaaGreat
/- total of layer 5: a contract. Written by mk_dtotal.py. -/
namespace Go.Proofs.YtgbnfhfkehpfaaaGreat
open Go.RowKit

def totN (ps : List (Int × Int)) : Nat → Int × Int
  | 0 => (0, 1)
  | k + 1 => ((totN ps k).1 * (ps[k]?.getD (0, 1)).2 + (totN ps k).2 * (ps[k]?.getD (0, 1)).1, (totN ps k).2 * (ps[k]?.getD (0, 1)).2)
structure Bx4 (W : World) (b : Nat) (u v x y : Value) : Prop where
  lt : b < W.heap.size
  c0 : W.cell? ⟨b, 0, none⟩ = some u
  c1 : W.cell? ⟨b, 1, none⟩ = some v
  c2 : W.cell? ⟨b, 2, none⟩ = some x
  c3 : W.cell? ⟨b, 3, none⟩ = some y
  f0 : W.frozen? ⟨b, 0, none⟩ = false
  f1 : W.frozen? ⟨b, 1, none⟩ = false
  f2 : W.frozen? ⟨b, 2, none⟩ = false
  f3 : W.frozen? ⟨b, 3, none⟩ = false
theorem Bx4.next {W W' : World} {b : Nat} {u v x y : Value} (h : Bx4 W b u v x y) (hb : Below W.heap.size W W') : Bx4 W' b u v x y :=
  ⟨Nat.lt_of_lt_of_le h.lt hb.size, (hb.cell (p := ⟨b, 0, none⟩) h.lt).trans h.c0, (hb.cell (p := ⟨b, 1, none⟩) h.lt).trans h.c1, (hb.cell (p := ⟨b, 2, none⟩) h.lt).trans h.c2, (hb.cell (p := ⟨b, 3, none⟩) h.lt).trans h.c3, (hb.frozen (p := ⟨b, 0, none⟩) h.lt).trans h.f0, (hb.frozen (p := ⟨b, 1, none⟩) h.lt).trans h.f1, (hb.frozen (p := ⟨b, 2, none⟩) h.lt).trans h.f2, (hb.frozen (p := ⟨b, 3, none⟩) h.lt).trans h.f3⟩
theorem Bx4.new (W : World) (u v x y : Value) (t : TypeId) : Bx4 (W.alloc (.cells #[u, v, x, y] t)) W.heap.size u v x y := ⟨by rw [World.size_alloc]; omega, alloc_cell _ _ _ _ _ rfl, alloc_cell _ _ _ _ _ rfl, alloc_cell _ _ _ _ _ rfl, alloc_cell _ _ _ _ _ rfl, by simp, by simp, by simp, by simp⟩
theorem Bx4.front {W : World} {b : Nat} {u v x y : Value} (h : Bx4 W b u v x y) (u' v' : Value) : Bx4 ((W.setCell ⟨b, 0, none⟩ u').setCell ⟨b, 1, none⟩ v') b u' v' x y :=
  ⟨by rw [World.size_setCell, World.size_setCell]; exact h.lt, (World.cell?_setCell_other _ ⟨b, 1, none⟩ ⟨b, 0, none⟩ _ (by simp)).trans (World.cell?_setCell_same _ _ _ h.c0), World.cell?_setCell_same _ _ _ ((World.cell?_setCell_other _ ⟨b, 0, none⟩ ⟨b, 1, none⟩ _ (by simp)).trans h.c1),
   (World.cell?_setCell_other _ ⟨b, 1, none⟩ ⟨b, 2, none⟩ _ (by simp)).trans ((World.cell?_setCell_other _ ⟨b, 0, none⟩ ⟨b, 2, none⟩ _ (by simp)).trans h.c2), (World.cell?_setCell_other _ ⟨b, 1, none⟩ ⟨b, 3, none⟩ _ (by simp)).trans ((World.cell?_setCell_other _ ⟨b, 0, none⟩ ⟨b, 3, none⟩ _ (by simp)).trans h.c3),
   by rw [World.frozen?_setCell, World.frozen?_setCell]; exact h.f0, by rw [World.frozen?_setCell, World.frozen?_setCell]; exact h.f1, by rw [World.frozen?_setCell, World.frozen?_setCell]; exact h.f2, by rw [World.frozen?_setCell, World.frozen?_setCell]; exact h.f3⟩
theorem Bx4.back {W : World} {b : Nat} {u v x y : Value} (h : Bx4 W b u v x y) (x' y' : Value) : Bx4 ((W.setCell ⟨b, 2, none⟩ x').setCell ⟨b, 3, none⟩ y') b u v x' y' :=
  ⟨by rw [World.size_setCell, World.size_setCell]; exact h.lt, (World.cell?_setCell_other _ ⟨b, 3, none⟩ ⟨b, 0, none⟩ _ (by simp)).trans ((World.cell?_setCell_other _ ⟨b, 2, none⟩ ⟨b, 0, none⟩ _ (by simp)).trans h.c0), (World.cell?_setCell_other _ ⟨b, 3, none⟩ ⟨b, 1, none⟩ _ (by simp)).trans ((World.cell?_setCell_other _ ⟨b, 2, none⟩ ⟨b, 1, none⟩ _ (by simp)).trans h.c1),
   (World.cell?_setCell_other _ ⟨b, 3, none⟩ ⟨b, 2, none⟩ _ (by simp)).trans (World.cell?_setCell_same _ _ _ h.c2), World.cell?_setCell_same _ _ _ ((World.cell?_setCell_other _ ⟨b, 2, none⟩ ⟨b, 3, none⟩ _ (by simp)).trans h.c3),
   by rw [World.frozen?_setCell, World.frozen?_setCell]; exact h.f0, by rw [World.frozen?_setCell, World.frozen?_setCell]; exact h.f1, by rw [World.frozen?_setCell, World.frozen?_setCell]; exact h.f2, by rw [World.frozen?_setCell, World.frozen?_setCell]; exact h.f3⟩
theorem Bx4.other2 {W : World} {b : Nat} {u v x y : Value} (h : Bx4 W b u v x y) {B : Nat} (hB : b ≠ B) (i j : Nat) (p q : Value) : Bx4 ((W.setCell ⟨B, i, none⟩ p).setCell ⟨B, j, none⟩ q) b u v x y :=
  ⟨by rw [World.size_setCell, World.size_setCell]; exact h.lt, (cell_other _ _ _ _ hB).trans ((cell_other _ _ _ _ hB).trans h.c0), (cell_other _ _ _ _ hB).trans ((cell_other _ _ _ _ hB).trans h.c1), (cell_other _ _ _ _ hB).trans ((cell_other _ _ _ _ hB).trans h.c2), (cell_other _ _ _ _ hB).trans ((cell_other _ _ _ _ hB).trans h.c3),
   by rw [World.frozen?_setCell, World.frozen?_setCell]; exact h.f0, by rw [World.frozen?_setCell, World.frozen?_setCell]; exact h.f1, by rw [World.frozen?_setCell, World.frozen?_setCell]; exact h.f2, by rw [World.frozen?_setCell, World.frozen?_setCell]; exact h.f3⟩
def sumV (n d : Int) : Value := .agg #[.int .u64 (hi64 n), .int .u64 (lo64 n), .int .u64 (hi64 d), .int .u64 (lo64 d)]
set_option maxRecDepth 1000000 in
set_option maxHeartbeats 6400000 in
theorem dtotal_any (xa : Option Addr) (ps : List (Int × Int)) (xc : Nat) (w : World) (hl2 : ps.length ≤ 100) (hx : Rr w xa ps) (hp : ∀ (k : Nat) (p : Int × Int), ps[k]? = some p → I64' p.1 ∧ I64' p.2) :
    Calls Tryz.prog 118 #[.slice xa ps.length xc] w fun e w' => e = .returned (sumV (totN ps ps.length).1 (totN ps ps.length).2) ∧ Below w.heap.size w w' := by
  have HX := Lib.hid hx
  have HP := Lib.hid hp
  have HW0 : Hid (∀ V, Calls Tryz.prog 139 #[.int .i64 0] V fun e w' => e = .returned (.agg #[.int .u64 0, .int .u64 0]) ∧ Below V.heap.size V w') := fun V => dwidened_any 0 V i64_0
  have HW1 : Hid (∀ V, Calls Tryz.prog 139 #[.int .i64 1] V fun e w' => e = .returned (.agg #[.int .u64 0, .int .u64 1]) ∧ Below V.heap.size V w') := fun V => dwidened_any 1 V i64_1
  have HPL : Hid (∀ (x y : Int) V, Calls Tryz.prog 141 #[.agg #[.int .u64 (hi64 x), .int .u64 (lo64 x)], .agg #[.int .u64 (hi64 y), .int .u64 (lo64 y)]] V fun e w' => e = .returned (.agg #[.int .u64 (hi64 (x + y)), .int .u64 (lo64 (x + y))]) ∧ Below V.heap.size V w') := fun x y V => dplus_any x y V
  obtain ⟨L, hL⟩ : ∃ L, ps.length = L := ⟨_, rfl⟩
  have hl3 : L ≤ 100 := by omega
  have HLL := Lib.hid hL
  rw [hL]
  obtain ⟨NN, hNN⟩ : ∃ r, (totN ps L).1 = r := ⟨_, rfl⟩
  obtain ⟨DD, hDD⟩ : ∃ r, (totN ps L).2 = r := ⟨_, rfl⟩
  rw [hNN, hDD]
  have HNN := Lib.hid hNN
  have HDD := Lib.hid hDD
  clear hx hp hl2 hL hNN hDD
  obtain ⟨VR, hVR⟩ : ∃ VR, w.alloc (.cells #[.int .u64 0, .int .u64 0, .int .u64 0, .int .u64 0] 141) = VR := ⟨_, rfl⟩
  have hVB : Below w.heap.size w VR := by rw [← hVR]; exact (Below.refl _ _).alloc (Nat.le_refl _) _
  have HR0 : Hid (Bx4 VR w.heap.size (.int .u64 0) (.int .u64 0) (.int .u64 0) (.int .u64 0)) := by show Bx4 _ _ _ _ _ _; rw [← hVR]; exact Bx4.new _ _ _ _ _ _
  have HVB := Lib.hid hVB
  clear hVB
  go_enter Tryz.func118, Tryz.ntmps118
  go_wp2_with (first | (go_at_call 139; refine (HW0.out _).mono ?_; rintro e w1 ⟨rfl, hb1⟩; have HB1 : Hid (Below VR.heap.size VR w1) := hb1; clear hb1) | (go_at_call 139; refine (HW1.out _).mono ?_; rintro e w2 ⟨rfl, hb2⟩; have HB2 : Hid (Below VR.heap.size VR w2) := HB1.out.trans (hb2.mono HB1.out.size); clear hb2))
  have I0 : Bx4 (w2.alloc (.cells #[.int .u64 0, .int .u64 0, .int .u64 0, .int .u64 1] 141)) w2.heap.size (.int .u64 0) (.int .u64 0) (.int .u64 0) (.int .u64 1) := Bx4.new _ _ _ _ _ _
  have hbW : Below VR.heap.size VR (w2.alloc (.cells #[.int .u64 0, .int .u64 0, .int .u64 0, .int .u64 1] 141)) := HB2.out.alloc HB2.out.size _
  have HIB : Hid (Below w.heap.size w (w2.alloc (.cells #[.int .u64 0, .int .u64 0, .int .u64 0, .int .u64 1] 141))) := HVB.out.trans (hbW.mono HVB.out.size)
  have HI0 := Lib.hid I0
  have HIR := Lib.hid (HR0.out.next hbW)
  have hb3w : w.heap.size + 1 ≤ w2.heap.size := by
    have h1 := HR0.out.lt
    have h2 := HB2.out.size
    omega
  clear I0 hbW HB1 HB2
  generalize (w2.alloc (.cells #[.int .u64 0, .int .u64 0, .int .u64 0, .int .u64 1] 141)) = W0 at *
  generalize w2.heap.size = b3 at *
  go_loopw [11] (fun i wr => ∃ k : Nat, k ≤ L ∧ i = .int .i64 k ∧ Bx4 wr b3 (.int .u64 (hi64 (totN ps k).1)) (.int .u64 (lo64 (totN ps k).1)) (.int .u64 (hi64 (totN ps k).2)) (.int .u64 (lo64 (totN ps k).2)) ∧ Bx4 wr w.heap.size (.int .u64 0) (.int .u64 0) (.int .u64 0) (.int .u64 0) ∧ Below w.heap.size w wr) (fun i _ => L - (intOf i).toNat)
  case atStart => exact ⟨0, Nat.zero_le _, rfl, HI0.out, HIR.out, HIB.out⟩
  case round =>
    clear HI0 HIR HIB
    obtain ⟨k, hk, rfl, h3, hr, hbw⟩ := hrel
    have HBW := Lib.hid hbw; clear hbw
    have H3 := Lib.hid h3; clear h3
    have HRR := Lib.hid hr; clear hr
    by_cases hlt : k < L
    · obtain ⟨⟨p1, p2⟩, hp⟩ : ∃ p, ps[k]? = some p := ⟨ps[k]'(by rw [HLL.out]; exact hlt), by simp [HLL.out, hlt]⟩
      obtain ⟨xb, xo, rfl, x0, x1⟩ := (HX.out.below HBW.out) k _ hp
      obtain ⟨q1, q2⟩ := HP.out k _ hp
      dsimp only at x0 x1 q1 q2
      obtain ⟨nk, hnk⟩ : ∃ nk, (totN ps k).1 = nk := ⟨_, rfl⟩
      obtain ⟨dk, hdk⟩ : ∃ dk, (totN ps k).2 = dk := ⟨_, rfl⟩
      have HN1 : Hid (totN ps (k + 1) = (nk * p2 + dk * p1, dk * p2)) := by show _ = _; unfold totN; rw [hnk, hdk, hp]; rfl
      rw [hnk, hdk] at H3
      have HT1 : Hid (∀ (x : Int) V, Calls Tryz.prog 140 #[.agg #[.int .u64 (hi64 x), .int .u64 (lo64 x)], .int .i64 p1] V fun e w' => e = .returned (.agg #[.int .u64 (hi64 (x * p1)), .int .u64 (lo64 (x * p1))]) ∧ Below V.heap.size V w') := fun x V => dtimes_any x p1 q1 V
      have HT2 : Hid (∀ (x : Int) V, Calls Tryz.prog 140 #[.agg #[.int .u64 (hi64 x), .int .u64 (lo64 x)], .int .i64 p2] V fun e w' => e = .returned (.agg #[.int .u64 (hi64 (x * p2)), .int .u64 (lo64 (x * p2))]) ∧ Below V.heap.size V w') := fun x V => dtimes_any x p2 q2 V
      have hk0 : (k : Int) < (L : Int) := by omega
      clear hp hnk hdk q1 q2
      go_wp2
      rename_i aL aK0 aK
      have HKO := Lib.hid aK
      have HKL := Lib.hid aL
      clear aK aL
      obtain ⟨V, hV⟩ : ∃ V, wr.alloc (.cells #[.int .i64 p1, .int .i64 p2] 38) = V := ⟨_, rfl⟩
      have HVB2 : Hid (Below wr.heap.size wr V) := hV ▸ (Below.refl _ _).alloc (Nat.le_refl _) _
      have HV10 : Hid (Bx V wr.heap.size (.int .i64 p1) (.int .i64 p2)) := hV ▸ Bx.new wr _ _ _
      have HV3 := Lib.hid (H3.out.next HVB2.out)
      have HVR := Lib.hid (HRR.out.next HVB2.out)
      obtain ⟨T, hT⟩ : ∃ T, wr.heap.size = T := ⟨_, rfl⟩
      rw [hT] at HV10
      have HVW : Hid (∀ W, Below V.heap.size V W → (W.cell? ⟨b3, 0, none⟩ = some (.int .u64 (hi64 nk)) ∧ W.cell? ⟨b3, 1, none⟩ = some (.int .u64 (lo64 nk)) ∧ W.cell? ⟨b3, 2, none⟩ = some (.int .u64 (hi64 dk)) ∧ W.cell? ⟨b3, 3, none⟩ = some (.int .u64 (lo64 dk))) ∧ (W.frozen? ⟨b3, 0, none⟩ = false ∧ W.frozen? ⟨b3, 1, none⟩ = false ∧ W.frozen? ⟨b3, 2, none⟩ = false ∧ W.frozen? ⟨b3, 3, none⟩ = false) ∧ (W.cell? ⟨T, 0, none⟩ = some (.int .i64 p1) ∧ W.cell? ⟨T, 1, none⟩ = some (.int .i64 p2))) := fun W h => by
        have a := HV3.out.next h
        have c := HV10.out.next h
        exact ⟨⟨a.c0, a.c1, a.c2, a.c3⟩, ⟨a.f0, a.f1, a.f2, a.f3⟩, ⟨c.c0, c.c1⟩⟩
      have HTB : Hid (T ≠ b3 ∧ T ≠ w.heap.size) := by
        have h1 := H3.out.lt
        have h2 := HRR.out.lt
        show _ ∧ _
        omega
      rw [hV, hT]
      clear x0 x1 hV hT
      refine wp_region_G (S := untilS 12 (fun _ => True) (fun W => Below V.heap.size V W)) (by kernel_rfl) (untilS_all ⟨trivial, (Below.refl _ _).drew⟩ _) ?_
      intro hc hS
      refine wpAnyG_take (i := 0) (oi := ?oia0) (v := ?va0) ?hia0 (by kernel_rfl) (by kernel_rfl) (by kernel_rfl) ?hQa0 (untilS_set (by decide)) hc ?hya0 hS ?resta0
      case hia0 => (simp only [List.getElem?_toArray, List.getElem?_cons_zero]; exact rfl)
      case hQa0 => exact fun _ _ _ h => h
      case hya0 => (refine Or.inl ⟨rfl, ?_⟩; (intro w _; go_simp; (try with_reducible rfl)))
      clear hc hS; intro hc hS
      simp only [Act.put, List.setIfInBounds_toArray, List.set_cons_zero, List.set_cons_succ]
      refine wpAnyG_take (i := 1) (oi := ?oia1) (v := ?va1) ?hia1 (by kernel_rfl) (by kernel_rfl) (by kernel_rfl) ?hQa1 (untilS_set (by decide)) hc ?hya1 hS ?resta1
      case hia1 => (simp only [List.getElem?_toArray, List.getElem?_cons_succ, List.getElem?_cons_zero]; exact rfl)
      case hQa1 => exact fun _ _ _ h => h
      case hya1 => (refine Or.inl ⟨rfl, ?_⟩; (rintro w ⟨L, hsd, hL, _, hB⟩; replace hB := hB (hsd.not (i := 1) (by kernel_rfl) hL); obtain ⟨⟨_, _, _, _⟩, ⟨_, _, _, _⟩, ⟨_, _⟩⟩ := HVW.out w hB; clear hsd hL hB; go_simp; (try with_reducible rfl)))
      clear hc hS; intro hc hS
      simp only [Act.put, List.setIfInBounds_toArray, List.set_cons_zero, List.set_cons_succ]
      refine wpAnyG_take (i := 2) (oi := ?oia2) (v := ?va2) ?hia2 (by kernel_rfl) (by kernel_rfl) (by kernel_rfl) ?hQa2 (untilS_set (by decide)) hc ?hya2 hS ?resta2
      case hia2 => (simp only [List.getElem?_toArray, List.getElem?_cons_succ, List.getElem?_cons_zero]; exact rfl)
      case hQa2 => exact fun _ _ _ h => h
      case hya2 => (refine Or.inl ⟨rfl, ?_⟩; (intro w _; go_simp; (try with_reducible rfl)))
      clear hc hS; intro hc hS
      simp only [Act.put, List.setIfInBounds_toArray, List.set_cons_zero, List.set_cons_succ]
      refine wpAnyG_take (i := 3) (oi := ?oia3) (v := ?va3) ?hia3 (by kernel_rfl) (by kernel_rfl) (by kernel_rfl) ?hQa3 (untilS_set (by decide)) hc ?hya3 hS ?resta3
      case hia3 => (simp only [List.getElem?_toArray, List.getElem?_cons_succ, List.getElem?_cons_zero]; exact rfl)
      case hQa3 => exact fun _ _ _ h => h
      case hya3 => (refine Or.inl ⟨rfl, ?_⟩; (rintro w ⟨L, hsd, hL, _, hB⟩; replace hB := hB (hsd.not (i := 3) (by kernel_rfl) hL); obtain ⟨⟨_, _, _, _⟩, ⟨_, _, _, _⟩, ⟨_, _⟩⟩ := HVW.out w hB; clear hsd hL hB; go_simp; (try with_reducible rfl)))
      clear hc hS; intro hc hS
      simp only [Act.put, List.setIfInBounds_toArray, List.set_cons_zero, List.set_cons_succ]
      refine wpAnyG_take (i := 5) (oi := ?oia5) (v := ?va5) ?hia5 (by kernel_rfl) (by kernel_rfl) (by kernel_rfl) ?hQa5 (untilS_set (by decide)) hc ?hya5 hS ?resta5
      case hia5 => (simp only [List.getElem?_toArray, List.getElem?_cons_succ, List.getElem?_cons_zero]; exact rfl)
      case hQa5 => exact fun _ _ _ h => h
      case hya5 => (refine Or.inl ⟨rfl, ?_⟩; (intro w _; go_simp; (try with_reducible rfl)))
      clear hc hS; intro hc hS
      simp only [Act.put, List.setIfInBounds_toArray, List.set_cons_zero, List.set_cons_succ]
      refine wpAnyG_take (i := 6) (oi := ?oia6) (v := ?va6) ?hia6 (by kernel_rfl) (by kernel_rfl) (by kernel_rfl) ?hQa6 (untilS_set (by decide)) hc ?hya6 hS ?resta6
      case hia6 => (simp only [List.getElem?_toArray, List.getElem?_cons_succ, List.getElem?_cons_zero]; exact rfl)
      case hQa6 => exact fun _ _ _ h => h
      case hya6 => (refine Or.inl ⟨rfl, ?_⟩; (rintro w ⟨L, hsd, hL, _, hB⟩; replace hB := hB (hsd.not (i := 6) (by kernel_rfl) hL); obtain ⟨⟨_, _, _, _⟩, ⟨_, _, _, _⟩, ⟨_, _⟩⟩ := HVW.out w hB; clear hsd hL hB; go_simp; (try with_reducible rfl)))
      clear hc hS; intro hc hS
      simp only [Act.put, List.setIfInBounds_toArray, List.set_cons_zero, List.set_cons_succ]
      refine wpAnyG_take (i := 7) (oi := ?oia7) (v := ?va7) ?hia7 (by kernel_rfl) (by kernel_rfl) (by kernel_rfl) ?hQa7 (untilS_set (by decide)) hc ?hya7 hS ?resta7
      case hia7 => (simp only [List.getElem?_toArray, List.getElem?_cons_succ, List.getElem?_cons_zero]; exact rfl)
      case hQa7 => exact fun _ _ _ h => h
      case hya7 => (refine Or.inl ⟨rfl, ?_⟩; (intro w _; go_simp; (try with_reducible rfl)))
      clear hc hS; intro hc hS
      simp only [Act.put, List.setIfInBounds_toArray, List.set_cons_zero, List.set_cons_succ]
      refine wpAnyG_take (i := 8) (oi := ?oia8) (v := ?va8) ?hia8 (by kernel_rfl) (by kernel_rfl) (by kernel_rfl) ?hQa8 (untilS_set (by decide)) hc ?hya8 hS ?resta8
      case hia8 => (simp only [List.getElem?_toArray, List.getElem?_cons_succ, List.getElem?_cons_zero]; exact rfl)
      case hQa8 => exact fun _ _ _ h => h
      case hya8 => (refine Or.inl ⟨rfl, ?_⟩; (rintro w ⟨L, hsd, hL, _, hB⟩; replace hB := hB (hsd.not (i := 8) (by kernel_rfl) hL); obtain ⟨⟨_, _, _, _⟩, ⟨_, _, _, _⟩, ⟨_, _⟩⟩ := HVW.out w hB; clear hsd hL hB; go_simp; (try with_reducible rfl)))
      clear hc hS; intro hc hS
      simp only [Act.put, List.setIfInBounds_toArray, List.set_cons_zero, List.set_cons_succ]
      refine wpAnyG_only (i := 4) (o := ?oia4) (by kernel_rfl) ?hia4 hc ?resta4
      case hia4 => (simp only [List.getElem?_toArray, List.getElem?_cons_succ, List.getElem?_cons_zero]; exact rfl)
      clear hc; intro hc K hK; have HK := Lib.hid hK; clear hK
      go_simp
      go_at_call 140
      refine (HT2.out nk _).mono ?_
      rintro e w5 ⟨rfl, hb5⟩
      have HB5 : Hid (Below V.heap.size V w5) := (Below.refl V.heap.size V).drew.trans (hb5.mono (Below.refl V.heap.size V).drew.size)
      clear hb5
      refine HK.out _ _ (untilS_all ⟨trivial, HB5.out⟩ _) ?_
      clear HK K hS; intro hS
      refine wpAnyG_only (i := 9) (o := ?oia9) (by kernel_rfl) ?hia9 hc ?resta9
      case hia9 => (simp only [List.getElem?_toArray, List.getElem?_cons_succ, List.getElem?_cons_zero]; exact rfl)
      clear hc; intro hc K hK; have HK := Lib.hid hK; clear hK
      go_simp
      go_at_call 140
      refine (HT1.out dk _).mono ?_
      rintro e w6 ⟨rfl, hb6⟩
      have HB6 : Hid (Below V.heap.size V w6) := HB5.out.trans (hb6.mono HB5.out.size)
      clear hb6
      refine HK.out _ _ (untilS_all ⟨trivial, HB6.out⟩ _) ?_
      clear HK K hS; intro hS
      refine wpAnyG_only (i := 10) (o := ?oia10) (by kernel_rfl) ?hia10 hc ?resta10
      case hia10 => (simp only [List.getElem?_toArray, List.getElem?_cons_succ, List.getElem?_cons_zero]; exact rfl)
      clear hc; intro hc K hK; have HK := Lib.hid hK; clear hK
      go_simp
      go_at_call 141
      refine (HPL.out (nk * p2) (dk * p1) _).mono ?_
      rintro e w7 ⟨rfl, hb7⟩
      have HB7 : Hid (Below V.heap.size V w7) := HB6.out.trans (hb7.mono HB6.out.size)
      clear hb7
      refine HK.out _ _ (untilS_all ⟨trivial, HB7.out⟩ _) ?_
      clear HK K hS; intro hS
      refine wpAnyG_only (i := 11) (o := ?oia11) (by kernel_rfl) ?hia11 hc ?resta11
      case hia11 => (simp only [List.getElem?_toArray, List.getElem?_cons_succ, List.getElem?_cons_zero]; exact rfl)
      clear hc; intro hc K hK; have HK := Lib.hid hK; clear hK
      go_simp
      refine HK.out _ _ (untilS_all ⟨trivial, HB7.out⟩ _) ?_
      clear HK K hS; intro hS
      obtain ⟨⟨_, _, _, _⟩, ⟨_, _, _, _⟩, ⟨_, _⟩⟩ := HVW.out w7 HB7.out
      refine wpAnyG_only (i := 12) (o := ?oia12) (by kernel_rfl) ?hia12 hc ?resta12
      case hia12 => (simp only [List.getElem?_toArray, List.getElem?_cons_succ, List.getElem?_cons_zero]; exact rfl)
      clear hc; intro hc K hK; have HK := Lib.hid hK; clear hK
      go_simp
      refine HK.out _ _ (untilS_past trivial (by first | rfl | decide)) ?_
      clear HK K hS; intro hS
      refine wpAnyG_done (by kernel_rfl) ?_ _
      refine HKO.out _ _ ?_
      clear HKO hc hS
      have HX3 : Hid (Bx4 ((w7.setCell ⟨b3, 0, none⟩ (.int .u64 (hi64 (nk * p2 + dk * p1)))).setCell ⟨b3, 1, none⟩ (.int .u64 (lo64 (nk * p2 + dk * p1)))) b3 (.int .u64 (hi64 (nk * p2 + dk * p1))) (.int .u64 (lo64 (nk * p2 + dk * p1))) (.int .u64 (hi64 dk)) (.int .u64 (lo64 dk))) := (HV3.out.next HB7.out).front _ _
      have HXR : Hid (Bx4 ((w7.setCell ⟨b3, 0, none⟩ (.int .u64 (hi64 (nk * p2 + dk * p1)))).setCell ⟨b3, 1, none⟩ (.int .u64 (lo64 (nk * p2 + dk * p1)))) w.heap.size (.int .u64 0) (.int .u64 0) (.int .u64 0) (.int .u64 0)) := (HVR.out.next HB7.out).other2 (by omega) 0 1 _ _
      have HX10 : Hid (Bx ((w7.setCell ⟨b3, 0, none⟩ (.int .u64 (hi64 (nk * p2 + dk * p1)))).setCell ⟨b3, 1, none⟩ (.int .u64 (lo64 (nk * p2 + dk * p1)))) T (.int .i64 p1) (.int .i64 p2)) := (HV10.out.next HB7.out).other HTB.out.1 _ _
      have HBW7 : Hid (Below w.heap.size w ((w7.setCell ⟨b3, 0, none⟩ (.int .u64 (hi64 (nk * p2 + dk * p1)))).setCell ⟨b3, 1, none⟩ (.int .u64 (lo64 (nk * p2 + dk * p1))))) := ((HBW.out.trans ((HVB2.out.mono HBW.out.size).trans (HB7.out.mono (Nat.le_trans HBW.out.size HVB2.out.size)))).setCell (p := ⟨b3, 0, none⟩) (by show _ ≤ b3; omega) _).setCell (p := ⟨b3, 1, none⟩) (by show _ ≤ b3; omega) _
      generalize ((w7.setCell ⟨b3, 0, none⟩ (.int .u64 (hi64 (nk * p2 + dk * p1)))).setCell ⟨b3, 1, none⟩ (.int .u64 (lo64 (nk * p2 + dk * p1)))) = V2 at *
      obtain ⟨_, _, _, _, _, _, _, _, _⟩ := HX3.out
      obtain ⟨_, _, _, _, _⟩ := HX10.out
      go_wp2_with (go_at_call 140; refine (HT2.out dk _).mono ?_; rintro e w8 ⟨rfl, hb8⟩; obtain ⟨_, _, _, _, _, _, _, _, _⟩ := HX3.out.next hb8; have HB8 := Lib.hid hb8; clear hb8)
      refine HKL.out _ _ ?_
      clear HKL
      go_wp2
      go_roundw
      case rel => exact ⟨k + 1, by omega, by go_num, by rw [HN1.out]; exact (HX3.out.next HB8.out).back _ _, (HXR.out.next HB8.out).other2 (by omega) 2 3 _ _, ((HBW7.out.trans (HB8.out.mono HBW7.out.size)).setCell (p := ⟨b3, 2, none⟩) (by show _ ≤ b3; omega) _).setCell (p := ⟨b3, 3, none⟩) (by show _ ≤ b3; omega) _⟩
      case measure => simp [intOf]; omega
    · obtain rfl : k = L := by omega
      rw [HNN.out, HDD.out] at H3
      obtain ⟨_, _, _, _, _, _, _, _, _⟩ := H3.out
      obtain ⟨_, _, _, _, _, _, _, _, _⟩ := HRR.out
      go_wp2
      refine bodyPost_ret_by (v := sumV NN DD) ?_ rfl ⟨rfl, (((HBW.out.setCell (p := ⟨w.heap.size, 0, none⟩) (Nat.le_refl _) _).setCell (p := ⟨w.heap.size, 1, none⟩) (Nat.le_refl _) _).setCell (p := ⟨w.heap.size, 2, none⟩) (Nat.le_refl _) _).setCell (p := ⟨w.heap.size, 3, none⟩) (Nat.le_refl _) _⟩
      rw [results_cell_one' rfl]
      unfold sumV
      go_simp
end Go.Proofs.YtgbnfhfkehpfaaaGreat
/- lowest of layer 5 for sums that are whole: a contract. -/
namespace Go.Proofs.YtgbnfhfkehpfaaaGreat
open Go.RowKit Go.Shelf

set_option maxRecDepth 1000000 in
set_option maxHeartbeats 3200000 in
theorem dlowest1_any (n : Int) (w : World) (hn : 0 ≤ n ∧ n ≤ 10000000000) :
    Calls Tryz.prog 119 #[sumV n 1] w fun e w' => e = .returned (.tuple #[.agg #[.int .i64 n, .int .i64 1], .bool true]) ∧ Below w.heap.size w w' := by
  have e1 : hi64 n = 0 := by unfold hi64; omega
  have e2 : lo64 n = n := by unfold lo64; omega
  have HS : Hid (sumV n 1 = .agg #[.int .u64 0, .int .u64 n, .int .u64 0, .int .u64 1]) := by show sumV n 1 = _; unfold sumV; rw [e1, e2]; rfl
  rw [HS.out]
  obtain ⟨V0, hV0⟩ : ∃ V0, w.alloc (.cells #[.int .u64 0, .int .u64 n, .int .u64 0, .int .u64 1] 141) = V0 := ⟨_, rfl⟩
  obtain ⟨V, hV⟩ : ∃ V, V0.alloc (.cells #[.int .i64 0, .int .i64 0] 38) = V := ⟨_, rfl⟩
  have b0 : Below w.heap.size w V0 := by rw [← hV0]; exact (Below.refl _ _).alloc (Nat.le_refl _) _
  have b1 : Below V0.heap.size V0 V := by rw [← hV]; exact (Below.refl _ _).alloc (Nat.le_refl _) _
  have x0 : Bx4 V0 w.heap.size (.int .u64 0) (.int .u64 n) (.int .u64 0) (.int .u64 1) := by rw [← hV0]; exact Bx4.new _ _ _ _ _ _
  have HX := Lib.hid (x0.next b1)
  have HR : Hid (Bx V V0.heap.size (.int .i64 0) (.int .i64 0)) := by show Bx _ _ _ _; rw [← hV]; exact Bx.new _ _ _ _
  have HBV : Hid (Below w.heap.size w V) := b0.trans (b1.mono b0.size)
  have hge : w.heap.size ≤ V0.heap.size := b0.size
  have wn : IntKind.i64.wrap n = n := IntWalk.i64_in _ (by omega)
  have cW2 : ∀ W d os, Calls Tryz.prog 139 #[.int .i64 2] (Sort.grow (redrawn W d) os) fun e w'' => e = .returned (.agg #[.int .u64 0, .int .u64 2]) ∧ ∃ p : Regrown, w'' = Sort.grow (redrawn W p.d) p.os := fun W d os => Calls.regrown_of (dwidened_any 2 _ (by unfold I64'; omega))
  have cWu : ∀ W d os, Calls Tryz.prog 139 #[.int .i64 10000000000] (Sort.grow (redrawn W d) os) fun e w'' => e = .returned (.agg #[.int .u64 0, .int .u64 10000000000]) ∧ ∃ p : Regrown, w'' = Sort.grow (redrawn W p.d) p.os := fun W d os => Calls.regrown_of (dwidened_any 10000000000 _ (by unfold I64'; omega))
  have cWl : ∀ W d os, Calls Tryz.prog 139 #[.int .i64 400] (Sort.grow (redrawn W d) os) fun e w'' => e = .returned (.agg #[.int .u64 0, .int .u64 400]) ∧ ∃ p : Regrown, w'' = Sort.grow (redrawn W p.d) p.os := fun W d os => Calls.regrown_of (dwidened_any 400 _ (by unfold I64'; omega))
  have q12 : ∀ W, Calls Tryz.prog 142 #[.agg #[.int .u64 0, .int .u64 1], .agg #[.int .u64 0, .int .u64 2]] W fun e w' => e = .returned (.int .i64 (-1)) ∧ Below W.heap.size W w' := fun W => dwcompare_any 1 2 W (by omega) (by omega)
  have q14 : ∀ W, Calls Tryz.prog 142 #[.agg #[.int .u64 0, .int .u64 1], .agg #[.int .u64 0, .int .u64 400]] W fun e w' => e = .returned (.int .i64 (-1)) ∧ Below W.heap.size W w' := fun W => dwcompare_any 1 400 W (by omega) (by omega)
  have cC2 : ∀ W d os, Calls Tryz.prog 142 #[.agg #[.int .u64 0, .int .u64 1], .agg #[.int .u64 0, .int .u64 2]] (Sort.grow (redrawn W d) os) fun e w'' => e = .returned (.int .i64 (-1)) ∧ ∃ p : Regrown, w'' = Sort.grow (redrawn W p.d) p.os := fun W d os => Calls.regrown_of (q12 _)
  have cCl : ∀ W d os, Calls Tryz.prog 142 #[.agg #[.int .u64 0, .int .u64 1], .agg #[.int .u64 0, .int .u64 400]] (Sort.grow (redrawn W d) os) fun e w'' => e = .returned (.int .i64 (-1)) ∧ ∃ p : Regrown, w'' = Sort.grow (redrawn W p.d) p.os := fun W d os => Calls.regrown_of (q14 _)
  obtain ⟨cc, hcc⟩ : ∃ cc, cmpZ n 10000000000 = cc := ⟨_, rfl⟩
  have hc0 : decide (0 < cc) = false := by
    rw [← hcc]; unfold cmpZ; by_cases h : n < 10000000000
    · rw [if_pos h]; rfl
    · rw [if_neg h, if_neg (by omega)]; rfl
  have qn : ∀ W, Calls Tryz.prog 142 #[.agg #[.int .u64 0, .int .u64 n], .agg #[.int .u64 0, .int .u64 10000000000]] W fun e w' => e = .returned (.int .i64 cc) ∧ Below W.heap.size W w' := fun W => by
    have h := dwcompare_any n 10000000000 W (by omega) (by omega)
    unfold wideV at h
    rw [e1, e2, hcc] at h
    exact h
  have cCu : ∀ W d os, Calls Tryz.prog 142 #[.agg #[.int .u64 0, .int .u64 n], .agg #[.int .u64 0, .int .u64 10000000000]] (Sort.grow (redrawn W d) os) fun e w'' => e = .returned (.int .i64 cc) ∧ ∃ p : Regrown, w'' = Sort.grow (redrawn W p.d) p.os := fun W d os => Calls.regrown_of (qn _)
  obtain ⟨_, k0, k1, k2, k3, _, _, _, _⟩ := HX.out
  have r0 := cell_regrown k0
  have r1 := cell_regrown k1
  have r2 := cell_regrown k2
  have r3 := cell_regrown k3
  clear b0 b1 x0 k0 k1 k2 k3 e1 e2 hcc hn
  go_enter Tryz.func119, Tryz.ntmps119
  go_wp2
  go_loopw [4] (fun i wr => i = .int .i64 2 ∧ wr = V) (fun _ _ => 1)
  case atStart => exact ⟨rfl, rfl⟩
  case round =>
    obtain ⟨rfl, hw⟩ := hrel
    obtain rfl := hw.symm
    clear hw
    go_wp2
    refine wp_region_quiet_below (by kernel_rfl) (by kernel_rfl) ?_
    repeat (go_big_quiet_step (first | with_reducible exact cW2 _ _ _ | with_reducible exact cC2 _ _ _))
    refine wpQuiet_nil ?_
    intro w6 hw6
    have HB6 : Hid (Below V.heap.size V w6) := by
      obtain ⟨⟨d6, o6⟩, rfl⟩ := hw6
      exact below_regrown _ _ _
    clear hw6 r0 r1 r2 r3
    obtain ⟨_, k0, k1, k2, k3, _, _, _, _⟩ := HX.out.next HB6.out
    have r0 := cell_regrown k0
    have r1 := cell_regrown k1
    have r2 := cell_regrown k2
    have r3 := cell_regrown k3
    clear k0 k1 k2 k3
    go_wp2
    refine wp_region_quiet_below (by kernel_rfl) (by kernel_rfl) ?_
    repeat (go_big_quiet_step (first | with_reducible exact cWu _ _ _ | with_reducible exact cCu _ _ _ | with_reducible exact cWl _ _ _ | with_reducible exact cCl _ _ _))
    refine wpQuiet_nil ?_
    intro w7 hw7
    have HB7 : Hid (Below V.heap.size V w7) := by
      obtain ⟨⟨d6, o6⟩, rfl⟩ := hw7
      exact HB6.out.trans ((below_regrown _ _ _).mono HB6.out.size)
    clear hw7 r0 r1 r2 r3
    obtain ⟨_, k0, k1, k2, k3, _, _, _, _⟩ := HX.out.next HB7.out
    obtain ⟨_, g0, g1, g2, g3⟩ := HR.out.next HB7.out
    go_wp2
    refine bodyPost_ret (v := .tuple #[.agg #[.int .i64 n, .int .i64 1], .bool true]) ?_ rfl ⟨rfl, ((HBV.out.trans (HB7.out.mono HBV.out.size)).setCell (p := ⟨V0.heap.size, 0, none⟩) hge _).setCell (p := ⟨V0.heap.size, 1, none⟩) hge _⟩
    rw [results_cell_tmp rfl]
    go_simp
end Go.Proofs.YtgbnfhfkehpfaaaGreat
/- solved of the program's reduction: a contract. -/
namespace Go.Proofs.YtgbnfhfkehpfaaaGreat
open Go.RowKit

def lowR (n d : Int) : Int × Int := (n.tdiv (gcd2 n d), d.tdiv (gcd2 n d))
def solL (n : Nat) (M : List (List Int)) (pz : List Int) (dv : Int) : Nat → List (Int × Int)
  | 0 => List.replicate n (0, 1)
  | t + 1 => (solL n M pz dv t).set (gt pz t).toNat (lowR (gt (rowL M t) n) dv)
theorem solL_len (n : Nat) (M : List (List Int)) (pz : List Int) (dv : Int) : ∀ t, (solL n M pz dv t).length = n
  | 0 => by simp [solL]
  | t + 1 => by unfold solL; rw [List.length_set]; exact solL_len n M pz dv t
def zeroTo (n k : Nat) : List (Int × Int) := List.replicate k (0, 1) ++ List.replicate (n - k) (0, 0)
theorem zeroTo_len {n k : Nat} (h : k ≤ n) : (zeroTo n k).length = n := by simp [zeroTo]; omega
theorem zeroTo_at {n k : Nat} (h : k < n) : (zeroTo n k)[k]? = some (0, 0) := by
  unfold zeroTo
  rw [List.getElem?_append_right (by simp)]
  simp [List.getElem?_replicate]; omega
theorem zeroTo_set {n k : Nat} (h : k < n) : (zeroTo n k).set k (0, 1) = zeroTo n (k + 1) := by
  unfold zeroTo
  rw [List.set_append, if_neg (by simp), List.length_replicate, Nat.sub_self, show n - k = (n - (k + 1)) + 1 by omega, List.replicate_succ, List.set_cons_zero, List.replicate_succ', List.append_assoc]
  rfl
set_option maxRecDepth 1000000 in
set_option maxHeartbeats 3200000 in
theorem solved_any (cols g cap N : Nat) (ads : List (Nat × Nat)) (M : List (List Int)) (pa : Option Addr) (pz : List Int) (pc : Nat) (dv : Int) (base : Nat) (w : World) (hpM : pz.length ≤ M.length) (hM : M.length ≤ 100) (hN : ∀ q ∈ M, q.length = N) (hc : cols < N) (hN1 : N ≤ 100) (hs : SI w base g ads M) (hps : Sl w pa pz)
    (hp : ∀ t, t < pz.length → 0 ≤ gt pz t ∧ gt pz t < cols) (hm : ∀ t, t < pz.length → Mid (gt (rowL M t) cols)) (hd : Mid dv) (h0 : 0 < dv) :
    Calls Tryz.prog 154 #[RdV cols g M.length cap (.slice pa pz.length pc) dv] w fun e w' => ∃ b c, e = .returned (.slice (some ⟨b, 0, none⟩) cols c) ∧ OwnR w' w.heap.size (.slice (some ⟨b, 0, none⟩) cols c) (solL cols M pz dv pz.length) ∧ Below w.heap.size w w' := by
  have HS := Lib.hid hs; clear hs
  have HP := Lib.hid hp; clear hp
  have HPS := Lib.hid hps; clear hps
  obtain ⟨pn, hpn⟩ : ∃ pn, pz.length = pn := ⟨_, rfl⟩
  have HPN := Lib.hid hpn
  have HVA : Hid (∀ W k, Below w.heap.size w W → k < pn → Calls Tryz.prog 44 #[.agg #[.int .i64 (cols : Int), .slice (some ⟨g, 0, none⟩) M.length cap, .slice pa pn pc, .int .i64 dv], .int .i64 (k : Int)] W fun e w' => e = .returned (.agg #[.int .i64 (lowR (gt (rowL M k) cols) dv).1, .int .i64 (lowR (gt (rowL M k) cols) dv).2]) ∧ Below W.heap.size W w') := fun W k hb hk => value_any cols g cap N ads M pa pn pc dv k base W (by omega) (hN _ (rowL_mem (by omega))) hc (HS.out.below hb) (hm k (by omega)) hd h0
  have HLO : Hid (∀ W, Calls Tryz.prog 77 #[.int .i64 0, .int .i64 1] W fun e w' => e = .returned (.agg #[.int .i64 0, .int .i64 1]) ∧ Below W.heap.size W w') := fun W => lowest_any 0 1 W (by unfold Mid; decide) (by unfold Mid; decide) (by decide)
  obtain ⟨n, hn⟩ : ∃ n, M.length = n := ⟨_, rfl⟩
  rw [hpn] at hpM ⊢
  rw [hn] at hpM hM HVA ⊢
  clear hn hN hpn hm hd
  unfold RdV
  obtain ⟨i0, hi, hz0, hz1, hz2⟩ := info_parts Tryz.infoRatio
  obtain ⟨V, hV⟩ : ∃ V, w.alloc (.cells #[.int .i64 (cols : Int), .slice (some ⟨g, 0, none⟩) n cap, .slice pa pn pc, .int .i64 dv] 61) = V := ⟨_, rfl⟩
  have HBV : Hid (Below w.heap.size w V) := by rw [← hV]; exact (Below.refl _ _).alloc (Nat.le_refl _) _
  have hsz : w.heap.size < V.heap.size := by rw [← hV, World.size_alloc]; omega
  have c0 : V.cell? ⟨w.heap.size, 0, none⟩ = some (.int .i64 (cols : Int)) := by rw [← hV]; exact alloc_cell _ _ _ _ _ rfl
  have c1 : V.cell? ⟨w.heap.size, 1, none⟩ = some (.slice (some ⟨g, 0, none⟩) n cap) := by rw [← hV]; exact alloc_cell _ _ _ _ _ rfl
  have c2 : V.cell? ⟨w.heap.size, 2, none⟩ = some (.slice pa pn pc) := by rw [← hV]; exact alloc_cell _ _ _ _ _ rfl
  have c3 : V.cell? ⟨w.heap.size, 3, none⟩ = some (.int .i64 dv) := by rw [← hV]; exact alloc_cell _ _ _ _ _ rfl
  have HCV : Hid (∀ W, Below V.heap.size V W → W.cell? ⟨w.heap.size, 0, none⟩ = some (.int .i64 (cols : Int)) ∧ W.cell? ⟨w.heap.size, 1, none⟩ = some (.slice (some ⟨g, 0, none⟩) n cap) ∧ W.cell? ⟨w.heap.size, 2, none⟩ = some (.slice pa pn pc) ∧ W.cell? ⟨w.heap.size, 3, none⟩ = some (.int .i64 dv)) := fun W h => ⟨(h.cell (p := ⟨w.heap.size, 0, none⟩) hsz).trans c0, (h.cell (p := ⟨w.heap.size, 1, none⟩) hsz).trans c1, (h.cell (p := ⟨w.heap.size, 2, none⟩) hsz).trans c2, (h.cell (p := ⟨w.heap.size, 3, none⟩) hsz).trans c3⟩
  go_enter Tryz.func154, Tryz.ntmps154
  go_wp2_with (with_reducible refine wpList_make_full _ rfl (.tmp 8) (.tmp 8) 104 rfl V.heap.size 38 i0 (.agg #[.int .i64 0, .int .i64 0]) 2 Tryz.underlying104 hi hz0 hz1 .i64 .i64 (cols : Int) (cols : Int) cols rfl rfl rfl rfl (by rw [hz2]; omega) (by unfold maxLen; omega) (Nat.le_refl _) ?_)
  intro w4 hown hgrow
  have hb4 : Below V.heap.size V w4 := (Below.refl _ _).grown hgrow (Nat.le_refl _) (fun k e => by cases e)
  have HO4 : Hid (OwnR w4 V.heap.size (.slice (some ⟨V.heap.size, 0, none⟩) cols cols) (zeroTo cols 0)) := by
    show World.ownsRow _ _ _ _ _ _ _
    rw [zeroTo_len (Nat.zero_le _), show zeroTo cols 0 = List.replicate cols (0, 0) by simp [zeroTo], ← flatR_rep]
    exact hown
  have HB4 := Lib.hid hb4
  clear hown hgrow hb4 hV c0 c1 c2 c3
  go_wp2
  go_loopw [12] (fun i wr => ∃ k : Nat, k ≤ cols ∧ i = .int .i64 k ∧ OwnR wr V.heap.size (.slice (some ⟨V.heap.size, 0, none⟩) cols cols) (zeroTo cols k) ∧ Below V.heap.size V wr) (fun i _ => cols - (intOf i).toNat)
  case atStart => exact ⟨0, Nat.zero_le _, rfl, HO4.out, HB4.out⟩
  case round =>
    clear HO4 HB4
    obtain ⟨k, hk, rfl, hO, hB⟩ := hrel
    have HO := Lib.hid hO; clear hO
    have HB := Lib.hid hB; clear hB
    by_cases hlt : k < cols
    · have hk0 : (k : Int) < (cols : Int) := by omega
      have HZL : Hid ((zeroTo cols k).length = cols) := zeroTo_len hk
      go_wp2_with (go_at_call 77; refine (HLO.out _).mono ?_; rintro e w5 ⟨rfl, hb5⟩; have HO5 : Hid (OwnR w5 V.heap.size (.slice (some ⟨V.heap.size, 0, none⟩) (zeroTo cols k).length cols) (zeroTo cols k)) := HZL.out.symm ▸ HO.out.below hb5; obtain ⟨⟨cz, fz⟩, cy, fy⟩ := HO5.out.cell (zeroTo_at hlt); have HB5 : Hid (Below V.heap.size V w5) := HB.out.trans (hb5.mono HB.out.size); clear hb5)
      go_roundw
      case rel => exact ⟨k + 1, by omega, by go_num, by have h := HO5.out.stored k 0 1; rw [HZL.out, zeroTo_set hlt] at h; exact h, (HB5.out.setCell (p := ⟨V.heap.size, k * 2, none⟩) (Nat.le_refl _) _).setCell (p := ⟨V.heap.size, k * 2 + 1, none⟩) (Nat.le_refl _) _⟩
      case measure => simp [intOf]; omega
    · obtain rfl : cols = k := by omega
      have HS0 : Hid (OwnR wr V.heap.size (.slice (some ⟨V.heap.size, 0, none⟩) cols cols) (solL cols M pz dv 0)) := by
        have h := HO.out
        rw [show zeroTo cols cols = solL cols M pz dv 0 by simp [zeroTo, solL]] at h
        exact h
      have HB0 := HB
      obtain ⟨c0, c1, c2, c3⟩ := HCV.out wr HB.out
      clear HO HB
      go_wp2
      clear c0 c1 c2 c3
      go_loopw [23] (fun i wr => ∃ t : Nat, t ≤ pn ∧ i = .int .i64 t ∧ OwnR wr V.heap.size (.slice (some ⟨V.heap.size, 0, none⟩) cols cols) (solL cols M pz dv t) ∧ Below V.heap.size V wr) (fun i _ => pn - (intOf i).toNat)
      case atStart => exact ⟨0, Nat.zero_le _, rfl, HS0.out, HB0.out⟩
      case round =>
        clear HS0 HB0
        obtain ⟨t, ht, rfl, hO, hB⟩ := hrel
        have HO := Lib.hid hO; clear hO
        have HB := Lib.hid hB; clear hB
        have HBW : Hid (Below w.heap.size w wr) := HBV.out.trans (HB.out.mono HBV.out.size)
        by_cases hlt : t < pn
        · obtain ⟨pb, po, v, hpa, hcv, HV⟩ := (HPS.out.below HBW.out).at (k := t) (by rw [HPN.out]; exact hlt)
          subst hpa
          have hgv := gt_some' HV.out
          have hpr := HP.out t (by rw [HPN.out]; exact hlt)
          rw [hgv] at hpr
          obtain ⟨p, rfl⟩ := Int.eq_ofNat_of_zero_le hpr.1
          have hpc : p < cols := by omega
          have HSU : Hid (solL cols M pz dv (t + 1) = (solL cols M pz dv t).set p (lowR (gt (rowL M t) cols) dv)) := by show (solL cols M pz dv t).set (gt pz t).toNat _ = _; rw [hgv]; rfl
          have HSL : Hid ((solL cols M pz dv t).length = cols) := solL_len _ _ _ _ _
          obtain ⟨q, hq⟩ : ∃ q, (solL cols M pz dv t)[p]? = some q := ⟨(solL cols M pz dv t)[p]'(by rw [HSL.out]; exact hpc), by simp [HSL.out, hpc]⟩
          have HQ := Lib.hid hq
          obtain ⟨L, hL⟩ : ∃ L, lowR (gt (rowL M t) cols) dv = L := ⟨_, rfl⟩
          have HV1 := Lib.hid (HVA.out wr t HBW.out hlt)
          rw [hL] at HSU HV1
          obtain ⟨l1, l2⟩ := L
          dsimp only at HV1
          obtain ⟨c0, c1, c2, c3⟩ := HCV.out wr HB.out
          have hp0 : (p : Int) < (cols : Int) := by omega
          clear hL hq hgv hpr HV
          go_wp2_with (go_at_call 44; refine HV1.out.mono ?_; rintro e w5 ⟨rfl, hb5⟩; have HO5 : Hid (OwnR w5 V.heap.size (.slice (some ⟨V.heap.size, 0, none⟩) (solL cols M pz dv t).length cols) (solL cols M pz dv t)) := HSL.out.symm ▸ HO.out.below hb5; obtain ⟨⟨cz, fz⟩, cy, fy⟩ := HO5.out.cell HQ.out; have HB5 : Hid (Below V.heap.size V w5) := HB.out.trans (hb5.mono HB.out.size); clear hb5)
          go_roundw
          case rel => exact ⟨t + 1, by omega, by go_num, by have h := HO5.out.stored p l1 l2; rw [HSL.out, ← HSU.out] at h; exact h, (HB5.out.setCell (p := ⟨V.heap.size, p * 2, none⟩) (Nat.le_refl _) _).setCell (p := ⟨V.heap.size, p * 2 + 1, none⟩) (Nat.le_refl _) _⟩
          case measure => simp [intOf]; omega
        · obtain rfl : pn = t := by omega
          go_wp2
          go_ret
          refine ⟨_, _, rfl, ?_, HBW.out⟩
          obtain ⟨h0, h1 | ⟨g9, cap9, cur, e9, hg9, rest⟩⟩ := HO.out
          · exact ⟨h0, .inl h1⟩
          · exact ⟨h0, .inr ⟨g9, cap9, cur, e9, Nat.le_trans HBV.out.size hg9, rest⟩⟩
end Go.Proofs.YtgbnfhfkehpfaaaGreat
/- normOf of layer 5, out of what lowest answers: a contract. -/
namespace Go.Proofs.YtgbnfhfkehpfaaaGreat
open Go.RowKit

def sizeR (p : Int × Int) : Int × Int := (if p.1 < -p.1 then -p.1 else p.1, p.2)
def sizTo (ps : List (Int × Int)) (n k : Nat) : List (Int × Int) := (ps.take k).map sizeR ++ List.replicate (n - k) (0, 0)
theorem sizTo_len {ps : List (Int × Int)} {n k : Nat} (hn : ps.length = n) (hk : k ≤ n) : (sizTo ps n k).length = n := by simp [sizTo]; omega
theorem sizTo_at {ps : List (Int × Int)} {n k : Nat} (hn : ps.length = n) (hk : k < n) : (sizTo ps n k)[k]? = some (0, 0) := by
  unfold sizTo
  rw [List.getElem?_append_right (by simp; omega)]
  simp only [List.length_map, List.length_take]
  rw [List.getElem?_replicate, if_pos (by omega)]
theorem sizTo_set {ps : List (Int × Int)} {n k : Nat} {p : Int × Int} (hn : ps.length = n) (hk : k < n) (hp : ps[k]? = some p) : (sizTo ps n k).set k (sizeR p) = sizTo ps n (k + 1) := by
  have hl : ((ps.take k).map sizeR).length = k := by simp; omega
  unfold sizTo
  rw [List.set_append, if_neg (by omega), hl, Nat.sub_self, show n - k = (n - (k + 1)) + 1 by omega, List.replicate_succ, List.set_cons_zero, List.take_add_one, hp, List.map_append, List.append_assoc]
  rfl
theorem sizTo_all {ps : List (Int × Int)} {n : Nat} (hn : ps.length = n) : sizTo ps n n = ps.map sizeR := by
  unfold sizTo
  rw [List.take_of_length_le (by omega), Nat.sub_self]; simp
set_option maxRecDepth 1000000 in
set_option maxHeartbeats 3200000 in
theorem dnorm_any (xa : Option Addr) (ps : List (Int × Int)) (xc : Nat) (a b : Int) (q : Bool) (w : World) (hl : ps.length ≤ 100) (hx : Rr w xa ps) (hp : ∀ (k : Nat) (p : Int × Int), ps[k]? = some p → (-10000000000 ≤ p.1 ∧ p.1 ≤ 10000000000) ∧ I64' p.2)
    (hlow : ∀ V, Calls Tryz.prog 119 #[sumV (totN (ps.map sizeR) ps.length).1 (totN (ps.map sizeR) ps.length).2] V fun e w' => e = .returned (.tuple #[.agg #[.int .i64 a, .int .i64 b], .bool q]) ∧ Below V.heap.size V w') :
    Calls Tryz.prog 104 #[.slice xa ps.length xc] w fun e w' => e = .returned (.tuple #[.agg #[.int .i64 a, .int .i64 b], .bool q]) ∧ Below w.heap.size w w' := by
  obtain ⟨i0, hi, hz0, hz1, hz2⟩ := info_parts Tryz.infoRatio
  obtain ⟨n, hn⟩ : ∃ n, ps.length = n := ⟨_, rfl⟩
  have HX := Lib.hid hx
  have HP := Lib.hid hp
  have HN := Lib.hid hn
  have HLOW := Lib.hid hlow
  rw [hn] at hl HLOW ⊢
  obtain ⟨V, hV⟩ : ∃ V, w.alloc (.cells #[.int .i64 0, .int .i64 0] 38) = V := ⟨_, rfl⟩
  have hb0 : Below w.heap.size w V := by rw [← hV]; exact (Below.refl _ _).alloc (Nat.le_refl _) _
  have HB0 := Lib.hid hb0
  have HR0 : Hid (Bx V w.heap.size (.int .i64 0) (.int .i64 0)) := by show Bx _ _ _ _; rw [← hV]; exact Bx.new _ _ _ _
  have hlen0 : (0 : Int) ≤ (n : Int) := by omega
  clear hx hp hlow hb0 hn
  go_enter Tryz.func104, Tryz.ntmps104
  go_wp2_with (with_reducible refine wpList_make_full _ rfl (.tmp 8) (.tmp 8) 104 rfl V.heap.size 38 i0 (.agg #[.int .i64 0, .int .i64 0]) 2 Tryz.underlying104 hi hz0 hz1 .i64 .i64 (n : Int) (n : Int) n rfl rfl rfl rfl (by rw [hz2]; omega) (by unfold maxLen; omega) (Nat.le_refl _) ?_)
  intro w4 hown hgrow
  have hb4 : Below V.heap.size V w4 := (Below.refl _ _).grown hgrow (Nat.le_refl _) (fun k e => by cases e)
  have HO4 : Hid (OwnR w4 V.heap.size (.slice (some ⟨V.heap.size, 0, none⟩) n n) (sizTo ps n 0)) := by
    show World.ownsRow _ _ _ _ _ _ _
    rw [sizTo_len HN.out (Nat.zero_le _), show sizTo ps n 0 = List.replicate n (0, 0) by simp [sizTo], ← flatR_rep]
    exact hown
  have HB4 := Lib.hid hb4
  clear hown hgrow hb4 hV
  go_wp2
  go_loopw [12] (fun i wr => ∃ k : Nat, k ≤ n ∧ i = .int .i64 k ∧ OwnR wr V.heap.size (.slice (some ⟨V.heap.size, 0, none⟩) n n) (sizTo ps n k) ∧ Below V.heap.size V wr) (fun i _ => n - (intOf i).toNat)
  case atStart => exact ⟨0, Nat.zero_le _, rfl, HO4.out, HB4.out⟩
  case round =>
    clear HO4 HB4
    obtain ⟨k, hk, rfl, hO, hB⟩ := hrel
    have HO := Lib.hid hO; clear hO
    have HB := Lib.hid hB; clear hB
    have HBW : Hid (Below w.heap.size w wr) := HB0.out.trans (HB.out.mono HB0.out.size)
    by_cases hlt : k < n
    · obtain ⟨⟨p1, p2⟩, hp⟩ : ∃ p, ps[k]? = some p := ⟨ps[k]'(by rw [HN.out]; exact hlt), by simp [HN.out, hlt]⟩
      obtain ⟨xb, xo, rfl, x0, x1⟩ := (HX.out.below HBW.out) k _ hp
      obtain ⟨q1, q2⟩ := HP.out k _ hp
      dsimp only at x0 x1 q1 q2
      have HSE : Hid ((sizTo ps n k).set k (sizeR (p1, p2)) = sizTo ps n (k + 1)) := sizTo_set HN.out hlt hp
      have hk0 : (k : Int) < (n : Int) := by omega
      have HZL : Hid ((sizTo ps n k).length = n) := sizTo_len HN.out hk
      have wneg : IntKind.i64.wrap (-p1) = -p1 := IntWalk.i64_in _ (by omega)
      obtain ⟨V5, hV5⟩ : ∃ V5, wr.alloc (.cells #[.int .i64 p1, .int .i64 p2] 38) = V5 := ⟨_, rfl⟩
      have hb5 : Below wr.heap.size wr V5 := by rw [← hV5]; exact (Below.refl _ _).alloc (Nat.le_refl _) _
      have HO5 : Hid (OwnR V5 V.heap.size (.slice (some ⟨V.heap.size, 0, none⟩) (sizTo ps n k).length n) (sizTo ps n k)) := HZL.out.symm ▸ HO.out.below hb5
      obtain ⟨⟨cz, fz⟩, cy, fy⟩ := HO5.out.cell (sizTo_at HN.out hlt)
      have x5 : Bx V5 wr.heap.size (.int .i64 p1) (.int .i64 p2) := by rw [← hV5]; exact Bx.new _ _ _ _
      obtain ⟨_, r0, r1, _, _⟩ := x5
      have HB5 : Hid (Below V.heap.size V V5) := HB.out.trans (hb5.mono HB.out.size)
      clear hp q1 q2 hb5
      go_wp2
      go_roundw
      case rel => exact ⟨k + 1, by omega, by go_num, by have h := HO5.out.stored k (sizeR (p1, p2)).1 p2; rw [HZL.out] at h; rw [← HSE.out]; exact h, (HB5.out.setCell (p := ⟨V.heap.size, k * 2, none⟩) (Nat.le_refl _) _).setCell (p := ⟨V.heap.size, k * 2 + 1, none⟩) (Nat.le_refl _) _⟩
      case measure => simp [intOf]; omega
    · obtain rfl : k = n := by omega
      have hO6 := HO.out
      rw [sizTo_all HN.out] at hO6
      have hml : (ps.map sizeR).length = k := by rw [List.length_map, HN.out]
      have HTO : Hid (Calls Tryz.prog 118 #[.slice (some ⟨V.heap.size, 0, none⟩) k k] wr fun e w' => e = .returned (sumV (totN (ps.map sizeR) k).1 (totN (ps.map sizeR) k).2) ∧ Below wr.heap.size wr w') := by
        have h := dtotal_any (some ⟨V.heap.size, 0, none⟩) (ps.map sizeR) k wr (by omega) (by
          have h7 : OwnR wr V.heap.size (.slice (some ⟨V.heap.size, 0, none⟩) (ps.map sizeR).length k) (ps.map sizeR) := by rw [hml]; exact hO6
          exact h7.rl.rr) (fun j p hj => by
          rw [List.getElem?_map] at hj
          obtain ⟨p0, h0, rfl⟩ := Option.map_eq_some_iff.1 hj
          obtain ⟨h1, h2⟩ := HP.out j p0 h0
          refine ⟨?_, h2⟩
          unfold sizeR I64'
          dsimp only
          split <;> omega)
        rw [hml] at h
        exact h
      clear hO6 hml HO
      go_wp2_with (first
        | (go_at_call 118; refine HTO.out.mono ?_; rintro e w5 ⟨rfl, hb5⟩; have HB5 : Hid (Below V.heap.size V w5) := HB.out.trans (hb5.mono HB.out.size); clear hb5)
        | (go_at_call 119; refine (HLOW.out _).mono ?_; rintro e w6 ⟨rfl, hb6⟩; have HB6 : Hid (Below V.heap.size V w6) := HB5.out.trans (hb6.mono HB5.out.size); obtain ⟨_, g0, g1, g2, g3⟩ := HR0.out.next HB6.out; clear hb6))
      refine bodyPost_ret (v := .tuple #[.agg #[.int .i64 a, .int .i64 b], .bool q]) ?_ rfl ⟨rfl, ((HB0.out.trans (HB6.out.mono HB0.out.size)).setCell (p := ⟨w.heap.size, 0, none⟩) (Nat.le_refl _) _).setCell (p := ⟨w.heap.size, 1, none⟩) (Nat.le_refl _) _⟩
      rw [results_cell_tmp rfl]
      go_simp
end Go.Proofs.YtgbnfhfkehpfaaaGreat
/- Lists in ascending order: ascending of layer 2 and Ascending of its answers, contracts. -/
namespace Go.Proofs.YtgbnfhfkehpfaaaGreat
open Go.RowKit

def prevOf (p : Int) (l : List Int) (k : Nat) : Int := if k = 0 then p else gt l (k - 1)
def ascB (p : Int) (l : List Int) : Bool := decide (∀ k, k < l.length → prevOf p l k < gt l k)
theorem ascB_no {p : Int} {l : List Int} {k : Nat} (hk : k < l.length) (h : ¬ prevOf p l k < gt l k) : ascB p l = false := by
  unfold ascB; rw [decide_eq_false_iff_not]; exact fun hh => h (hh k hk)
theorem ascB_yes {p : Int} {l : List Int} (h : ∀ k, k < l.length → prevOf p l k < gt l k) : ascB p l = true := by
  unfold ascB; rw [decide_eq_true_iff]; exact h
def rascB (l : List Int) : Bool := decide (∀ k, k < l.length → k ≠ 0 → gt l (k - 1) < gt l k)
theorem rascB_no {l : List Int} {k : Nat} (hk : k < l.length) (h0 : k ≠ 0) (h : ¬ gt l (k - 1) < gt l k) : rascB l = false := by
  unfold rascB; rw [decide_eq_false_iff_not]; exact fun hh => h (hh k hk h0)
theorem rascB_yes {l : List Int} (h : ∀ k, k < l.length → k ≠ 0 → gt l (k - 1) < gt l k) : rascB l = true := by
  unfold rascB; rw [decide_eq_true_iff]; exact h
theorem rascB_of {l : List Int} (h : rascB l = true) : ∀ k, k < l.length → k ≠ 0 → gt l (k - 1) < gt l k := by
  unfold rascB at h; rwa [decide_eq_true_iff] at h
theorem asc1_any (n p : Int) (B : Nat) (w : World) (c1 : w.cell? ⟨B, 0, none⟩ = some (.int .i64 p)) (f1 : w.frozen? ⟨B, 0, none⟩ = false) :
    Calls Tryz.prog 91 #[.int .i64 n, .pointer (some ⟨B, 0, none⟩)] w fun e w' => e = .returned (.bool (decide (p < n))) ∧ w' = w.setCell ⟨B, 0, none⟩ (.int .i64 n) := by
  by_cases h : p < n
  · go_enter Tryz.func91, Tryz.ntmps91
    go_wp2
    go_ret
    exact ⟨ret_bool (by simp [h]), rfl⟩
  · go_enter Tryz.func91, Tryz.ntmps91
    go_wp2
    go_ret
    exact ⟨ret_bool (by simp [h]), rfl⟩
def LastIs (B0 B : Nat) (p : Int) (w0 w : World) : Prop := w.cell? ⟨B, 0, none⟩ = some (.int .i64 p) ∧ w.frozen? ⟨B, 0, none⟩ = false ∧ Below B0 w0 w ∧ B < w.heap.size
theorem LastIs.set {B0 B : Nat} {p : Int} {w0 w : World} (h : LastIs B0 B p w0 w) (hB : B0 ≤ B) (n : Int) : LastIs B0 B n w0 (w.setCell ⟨B, 0, none⟩ (.int .i64 n)) := by
  obtain ⟨h1, h2, h3, h4⟩ := h
  refine ⟨?_, ?_, h3.setCell hB _, by simpa using h4⟩
  · go_simp
  · go_simp
set_option maxRecDepth 100000 in
theorem allasc_any (B : Nat) (p : Int) (a : Option Addr) (xs : List Int) (cap : Nat) (w : World) (hl : xs.length ≤ 9223372036854775807) (hw : LastIs B B p w w) (hs : Sl w a xs) (hap : ∀ ad, a = some ad → xs ≠ [] → ad.block < B) :
    Calls Tryz.prog 56 #[.slice a xs.length cap, .func (.func 91) #[] #[.pointer (some ⟨B, 0, none⟩)]] w fun e w' => e = .returned (.bool (ascB p xs)) ∧ Below B w w' := by
  have HS := Lib.hid hs; clear hs
  have HW := Lib.hid hw; clear hw
  have HAP := Lib.hid hap; clear hap
  go_enter Tryz.func56, Tryz.ntmps56
  go_wp2
  go_loopw [9] (fun i wr => ∃ k : Nat, k ≤ xs.length ∧ i = .int .i64 k ∧ LastIs B B (prevOf p xs k) w wr ∧ ∀ j, j < k → prevOf p xs j < gt xs j) (fun i _ => xs.length - (intOf i).toNat)
  case atStart => exact ⟨0, Nat.zero_le _, rfl, HW.out, fun j h => by omega⟩
  case round =>
    obtain ⟨k, hk, rfl, hL, hno⟩ := hrel
    have HN := Lib.hid hno; clear hno
    have HL := Lib.hid hL; clear hL
    by_cases hlt : k < xs.length
    · obtain ⟨b, off, x, rfl, hcell0, HX⟩ := HS.out.at hlt
      have hbB : b < B := HAP.out _ rfl (fun e => by rw [e] at hlt; simp at hlt)
      have hcell := (HL.out.2.2.1.cell (p := ⟨b, off + k, none⟩) hbB).trans hcell0
      clear hcell0
      obtain ⟨q, hq⟩ : ∃ q, prevOf p xs k = q := ⟨_, rfl⟩
      have HQ := Lib.hid hq
      rw [hq] at HL; clear hq
      have HP : Hid (prevOf p xs (k + 1) = x) := by show prevOf p xs (k + 1) = x; unfold prevOf; rw [if_neg (by omega), Nat.add_sub_cancel, gt_some' HX.out]
      cases ho : decide (q < x)
      · have HF : Hid (ascB p xs = false) := ascB_no hlt (by rw [HQ.out, gt_some' HX.out]; simpa using ho)
        have HO := Lib.hid ho; clear ho
        go_wp2_with (go_at_call 91; refine (asc1_any _ q _ _ HL.out.1 HL.out.2.1).mono ?_; rintro e w1 ⟨rfl, rfl⟩; rw [HO.out])
        go_ret
        exact ⟨ret_bool HF.out.symm, HL.out.2.2.1.setCell (Nat.le_refl _) _⟩
      · have HT : Hid (prevOf p xs k < gt xs k) := by show _ < _; rw [HQ.out, gt_some' HX.out]; simpa using ho
        have HO := Lib.hid ho; clear ho
        go_wp2_with (go_at_call 91; refine (asc1_any _ q _ _ HL.out.1 HL.out.2.1).mono ?_; rintro e w1 ⟨rfl, rfl⟩; rw [HO.out])
        go_roundw
        case rel => exact ⟨k + 1, by omega, by go_num, by rw [HP.out]; exact HL.out.set (Nat.le_refl _) _, fun j hj => by
            by_cases hj' : j = k
            · subst hj'; exact HT.out
            · exact HN.out j (by omega)⟩
        case measure => simp [intOf]; omega
    · go_wp2
      go_ret
      exact ⟨ret_bool (ascB_yes (fun j hj => HN.out j (by omega))).symm, HL.out.2.2.1⟩
theorem asc_any (a : Option Addr) (xs : List Int) (cap : Nat) (w : World) (hl : xs.length ≤ 9223372036854775807) (hs : Sl w a xs) :
    Calls Tryz.prog 58 #[.slice a xs.length cap] w fun e w' => e = .returned (.bool (ascB (-1) xs)) ∧ Below w.heap.size w w' := by
  have HAP : Hid (∀ ad, a = some ad → xs ≠ [] → ad.block < w.heap.size) := by
    intro ad ha hne
    obtain ⟨b, off, he, hc⟩ := hs 0 (by cases xs with | nil => exact absurd rfl hne | cons _ _ => simp)
    obtain rfl : ad = ⟨b, off, none⟩ := by rw [ha] at he; simpa using he
    exact cell_lt hc
  have HS := Lib.hid hs; clear hs
  have HB : Hid (Below w.heap.size w ((w.alloc (.cells #[.int .i64 0] 3)).setCell ⟨w.heap.size, 0, none⟩ (.int .i64 (-1)))) := ((Below.refl _ _).alloc (Nat.le_refl _) _).setCell (by simp) _
  go_enter Tryz.func58, Tryz.ntmps58
  go_wp2_with fail
  have HB0 : Hid (Below w.heap.size w (w.alloc (.cells #[.int .i64 (-1)] 3))) := (Below.refl _ _).alloc (Nat.le_refl _) _
  refine (allasc_any w.heap.size (-1) _ _ _ _ hl ⟨alloc_cell _ _ _ _ _ rfl, by simp, Below.refl _ _, by simp⟩ (HS.out.below HB0.out) HAP.out).mono ?_
  rintro e w1 ⟨rfl, hb1⟩
  go_wp2
  go_ret
  exact ⟨rfl, HB0.out.trans hb1⟩
end Go.Proofs.YtgbnfhfkehpfaaaGreat
/- Readings and lists of pixels checked, on both sides: contracts. -/
namespace Go.Proofs.YtgbnfhfkehpfaaaGreat
open Go.RowKit

def listV (m : List (List Int)) (px : List Int) : Int := if rascB px = true then (if px.all (thereB m) = true then 0 else 5) else 7
def readE (m : List (List Int)) (y : List Int) : Int := if validM m = true then fitsV y m.length 1000000 else 1
theorem all_no {m : List (List Int)} {px : List Int} {k : Nat} {v : Int} (hv : px[k]? = some v) (h : thereB m v = false) : px.all (thereB m) = false := by
  rw [List.all_eq_false]; exact ⟨v, List.mem_of_getElem? hv, by simp [h]⟩
theorem all_yes {m : List (List Int)} {px : List Int} (h : ∀ j, j < px.length → thereB m (px[j]?.getD 0) = true) : px.all (thereB m) = true := by
  rw [List.all_eq_true]
  intro x hx
  obtain ⟨j, hj, rfl⟩ := List.mem_iff_getElem.1 hx
  have := h j hj
  simpa [hj] using this
set_option maxRecDepth 1000000 in
set_option maxHeartbeats 1600000 in
theorem lasc_any (a : Option Addr) (xs : List Int) (cap : Nat) (w : World) (hl : xs.length ≤ 1000) (hs : Sl w a xs) :
    Calls Tryz.prog 161 #[.slice a xs.length cap] w fun e w' => e = .returned (.bool (rascB xs)) ∧ ∃ n, w' = w.drewN n := by
  have HS := Lib.hid hs; clear hs
  go_enter Tryz.func161, Tryz.ntmps161
  go_wp2
  go_loopw [6] (fun i wr => ∃ (k nd : Nat), k ≤ xs.length ∧ i = .int .i64 k ∧ (∀ j, j < k → j ≠ 0 → gt xs (j - 1) < gt xs j) ∧ wr = w.drewN nd) (fun i _ => xs.length - (intOf i).toNat)
  case atStart => exact ⟨0, 0, Nat.zero_le _, rfl, fun j h => by omega, rfl⟩
  case round =>
    obtain ⟨k, nd, hk, rfl, hno, rfl⟩ := hrel
    have HN := Lib.hid hno; clear hno
    by_cases hlt : k < xs.length
    · by_cases h0 : k = 0
      · subst h0
        go_wp2
        go_quiet (fail)
        all_goals
          go_wp2
          go_roundw
          case rel => exact ⟨1, _, by omega, by go_num, fun j hj h0 => by omega, rfl⟩
          case measure => simp [intOf]; omega
      · obtain ⟨q, rfl⟩ : ∃ q, k = q + 1 := ⟨k - 1, by omega⟩
        obtain ⟨b, o, x, rfl, hcx, hx⟩ := HS.out.at hlt
        obtain ⟨b2, o2, z, e2, hcz, hz⟩ := HS.out.at (k := q) (by omega)
        cases e2
        have HGX := Lib.hid (gt_some' hx.out)
        have HGZ := Lib.hid (gt_some' hz.out)
        obtain ⟨K, hK⟩ : ∃ K, q + 1 = K := ⟨_, rfl⟩
        have hK1 : (K : Int) - 1 = (q : Int) := by omega
        have hK2 : (0 : Int) < (K : Int) := by omega
        have hK3 : (K : Int) < (xs.length : Int) := by omega
        have hq3 : (q : Int) < (xs.length : Int) := by omega
        have HXK : Hid (gt xs K = x) := by show _ = _; rw [← hK]; exact HGX.out
        have HKM : Hid (K - 1 = q) := by show _ = _; omega
        have hK0 : K ≠ 0 := by omega
        have hK4 : 0 < K := by omega
        have m1 : IntKind.i64.wrap ((K : Int) - 1) = (q : Int) := by rw [hK1]; exact IntWalk.i64_in _ (by omega)
        have y9 : decide (0 < K) = true := by simp; omega
        rw [hK] at hcx hlt ⊢
        have HN2 : Hid (∀ j, j < K → j ≠ 0 → gt xs (j - 1) < gt xs j) := by rw [← hK]; exact HN.out
        clear hx hz hK hk HN
        by_cases hle : x ≤ z
        · have y0 : decide (x ≤ z) = true := by simp [hle]
          have HNO : Hid (rascB xs = false) := rascB_no (k := K) hlt hK0 (by rw [HXK.out, HKM.out, HGZ.out]; omega)
          go_wp2
          go_quiet (fail)
          all_goals
            go_wp2
            go_ret
            exact ⟨ret_bool HNO.out.symm, _, World.drewN_drewN _ _ _⟩
        · have y0 : decide (x ≤ z) = false := by simp [hle]
          go_wp2
          go_quiet (fail)
          all_goals
            go_wp2
            go_roundw
            case rel => exact ⟨K + 1, _, by omega, by go_num, fun j hj h0 => by
              by_cases e : j = K
              · rw [e, HKM.out, HGZ.out, HXK.out]; omega
              · exact HN2.out j (by omega) h0, by first | rfl | exact World.drewN_drewN _ _ _⟩
            case measure => simp [intOf]; omega
    · have HY : Hid (rascB xs = true) := rascB_yes fun j hj h0 => HN.out j (by omega) h0
      go_wp2
      go_ret
      exact ⟨ret_bool HY.out.symm, _, rfl⟩
set_option maxRecDepth 100000 in
set_option maxHeartbeats 800000 in
theorem llisted_any (ma : Option Addr) (m : List (List Int)) (mc : Nat) (a : Option Addr) (xs : List Int) (cap : Nat) (w : World) (hv : validM m = true) (hl : xs.length ≤ 1000) (hm : Ms w ma m) (hs : Sl w a xs) :
    Calls Tryz.prog 153 #[.slice ma m.length mc, .slice a xs.length cap] w fun e w' => e = .returned (.int .i64 (listV m xs)) ∧ Below w.heap.size w w' := by
  have HS := Lib.hid hs
  have HTH : Hid (∀ W v, Below w.heap.size w W → Calls Tryz.prog 42 #[.slice ma m.length mc, .int .i64 v] W fun e w' => e = .returned (.bool (thereB m v)) ∧ W = w') := fun W v hb => lthere_any ma m mc v W hv (hm.below hb)
  obtain ⟨q, hq⟩ : ∃ q, rascB xs = q := ⟨_, rfl⟩
  have HAS : Hid (Calls Tryz.prog 161 #[.slice a xs.length cap] w fun e w' => e = .returned (.bool q) ∧ ∃ n, w' = w.drewN n) := by rw [← hq]; exact lasc_any a xs cap w hl hs
  clear hs hm
  cases q with
  | false =>
    have HE : Hid (listV m xs = 7) := by show _ = _; simp [listV, hq]
    clear hq
    go_enter Tryz.func153, Tryz.ntmps153
    go_wp2_with (go_at_call 161; refine HAS.out.mono ?_; rintro e w1 ⟨rfl, nd, rfl⟩)
    go_ret
    exact ⟨ret_i64 HE.out.symm, below_drewN (Below.refl _ _) _⟩
  | true =>
    have HE : Hid (listV m xs = if xs.all (thereB m) = true then 0 else 5) := by show _ = _; simp [listV, hq]
    clear hq
    go_enter Tryz.func153, Tryz.ntmps153
    go_wp2_with (go_at_call 161; refine HAS.out.mono ?_; rintro e w1 ⟨rfl, nd, rfl⟩)
    have HB1 : Hid (Below w.heap.size w (w.drewN nd)) := below_drewN (Below.refl _ _) _
    generalize w.drewN nd = w1 at *
    go_loopw [12] (fun i wr => ∃ k : Nat, k ≤ xs.length ∧ i = .int .i64 k ∧ (∀ j, j < k → thereB m (xs[j]?.getD 0) = true) ∧ wr = w1) (fun i _ => xs.length - (intOf i).toNat)
    case atStart => exact ⟨0, Nat.zero_le _, rfl, fun j h => by omega, rfl⟩
    case round =>
      obtain ⟨k, hk, rfl, hno, rfl⟩ := hrel
      have HN := Lib.hid hno; clear hno
      by_cases hlt : k < xs.length
      · obtain ⟨b, o, x, rfl, hcx, HX⟩ := (HS.out.below HB1.out).at hlt
        obtain ⟨t, ht⟩ : ∃ t, thereB m x = t := ⟨_, rfl⟩
        have HT1 : Hid (Calls Tryz.prog 42 #[.slice ma m.length mc, .int .i64 x] wr fun e w' => e = .returned (.bool t) ∧ wr = w') := by rw [← ht]; exact HTH.out wr x HB1.out
        have HTT := Lib.hid ht; clear ht
        cases t with
        | true =>
          go_wp2_with (go_at_call 42; refine HT1.out.mono ?_; rintro e w5 ⟨rfl, rfl⟩)
          go_roundw
          case rel => exact ⟨k + 1, by omega, by go_num, fun j hj => by
            by_cases e : j = k
            · subst e; rw [HX.out]; exact HTT.out
            · exact HN.out j (by omega), by first | trivial | rfl⟩
          case measure => simp [intOf]; omega
        | false =>
          have HF : Hid (listV m xs = 5) := by show _ = _; rw [HE.out, all_no HX.out HTT.out]; rfl
          go_wp2_with (go_at_call 42; refine HT1.out.mono ?_; rintro e w5 ⟨rfl, rfl⟩)
          go_ret
          exact ⟨ret_i64 HF.out.symm, HB1.out⟩
      · have HF : Hid (listV m xs = 0) := by show _ = _; rw [HE.out, all_yes (fun j hj => HN.out j (by omega))]; rfl
        go_wp2
        go_ret
        exact ⟨ret_i64 HF.out.symm, HB1.out⟩
end Go.Proofs.YtgbnfhfkehpfaaaGreat
/- Primitive of the answers, IsKernel of both sides, Rank, Kernel of the answers, long: contracts. -/
namespace Go.Proofs.YtgbnfhfkehpfaaaGreat
open Go.RowKit

def rankV (m : List (List Int)) : Int × Int := if validM m = true then (((redN m (upTo (colsM m))).piv.length : Int), 0) else (0, 1)
set_option maxRecDepth 100000 in
set_option maxHeartbeats 800000 in
theorem lrank_any (a : Option Addr) (m : List (List Int)) (cap : Nat) (w : World) (hm : MOk m) (hs : Ms w a m) : Calls Tryz.prog 115 #[.slice a m.length cap] w fun e w' => e = .returned (.tuple #[.int .i64 (rankV m).1, .int .i64 (rankV m).2]) ∧ Below w.heap.size w w' := by
  have HVA : Hid (Calls Tryz.prog 32 #[.slice a m.length cap] w fun e w' => e = .returned (.bool (validM m)) ∧ Below w.heap.size w w') := mvalid_any a m cap w hm hs
  have HS := Lib.hid hs
  clear hm hs
  cases hv : validM m
  case false =>
    rw [hv] at HVA
    have HK : Hid (rankV m = (0, 1)) := by show _ = _; simp [rankV, hv]
    clear hv
    go_enter Tryz.func115, Tryz.ntmps115
    go_wp2_with (go_at_call 32; refine HVA.out.mono ?_; rintro e w1 ⟨rfl, hb⟩; have HB := Lib.hid hb; clear hb)
    go_ret2
    rw [HK.out]
    exact ⟨rfl, HB.out⟩
  case true =>
    rw [hv] at HVA
    obtain ⟨hm1, hm6, hc1, hc10, hrows⟩ := validM_of hv
    have h64 : Hid (All64 m) := fun q hq x hx => by
      obtain ⟨c, hc, rfl⟩ := mem_gt.1 hx
      have := gt_in (hrows q hq).2 hc
      unfold In64; omega
    have HRA : Hid (∀ w1 : World, Below w.heap.size w w1 → Calls Tryz.prog 39 #[.slice a m.length cap, .func (.func 45) #[] #[]] w1 (RdPost (redN m (upTo (colsM m))) w1)) := fun w1 hb => reduceAll_any (Lib.hid hm6) (Lib.hid hm1) (Lib.hid ⟨hc1, hc10⟩) (Lib.hid fun r hr => (hrows r hr).1) h64 (Lib.hid (HS.out.below hb))
    obtain ⟨rd, hrd⟩ : ∃ rd, redN m (upTo (colsM m)) = rd := ⟨_, rfl⟩
    have HK : Hid (rankV m = ((rd.piv.length : Int), 0)) := by show _ = _; simp [rankV, hv, hrd]
    rw [hrd] at HRA
    clear hv hm1 hm6 hc1 hc10 hrows hrd h64
    obtain ⟨cols, rows, piv, dv⟩ := rd
    dsimp only at HK
    go_enter Tryz.func115, Tryz.ntmps115
    go_wp2_with (first | (go_at_call 32; refine HVA.out.mono ?_; rintro e w1 ⟨rfl, hb⟩; have HB := Lib.hid hb; clear hb) | (go_at_call 39; refine (HRA.out w1 HB.out).mono ?_; rintro e w2 ⟨hb2, g, cp, ads, pa2, pc2, rfl, hgg, si, pi⟩; unfold rdV; dsimp only; have HB2 := Lib.hid (HB.out.trans (hb2.mono HB.out.size)); clear si pi hgg hb2) | (go_at_call 74; refine (rank_any cols g rows.length cp pa2 piv pc2 dv _).mono ?_; rintro e w3 ⟨rfl, hb3⟩; have HB3 := Lib.hid (HB2.out.trans (hb3.mono HB2.out.size)); clear hb3))
    go_ret2
    rw [HK.out]
    exact ⟨rfl, HB3.out⟩
end Go.Proofs.YtgbnfhfkehpfaaaGreat
/- columns of the answers: a contract. -/
namespace Go.Proofs.YtgbnfhfkehpfaaaGreat
open Go.RowKit

end Go.Proofs.YtgbnfhfkehpfaaaGreat
/- ratio of the answers, and a row of one's own that grows in its place: contracts. -/
namespace Go.Proofs.YtgbnfhfkehpfaaaGreat
open Go.RowKit

theorem hdrs_set {ads : List (Nat × Nat)} {M : List (List Int)} {i : Nat} {x : Nat × Nat} {r : List Int} (hl : ads.length = M.length) (hi : i < M.length) : hdrs (ads.set i x) (M.set i r) = (hdrs ads M).set i (.slice (some ⟨x.1, 0, none⟩) r.length x.2) := by
  apply List.ext_getElem?
  intro j
  by_cases e : j = i
  · subst e
    rw [hdrs_at (List.getElem?_set_self (by omega)) (List.getElem?_set_self hi), List.getElem?_set_self (by unfold hdrs; simp; omega)]
  · rw [List.getElem?_set_ne (Ne.symm e)]
    unfold hdrs
    rw [List.getElem?_zipWith, List.getElem?_zipWith, List.getElem?_set_ne (Ne.symm e), List.getElem?_set_ne (Ne.symm e)]
theorem RS.shape {base : Nat} {rv : Value} {ads : List (Nat × Nat)} {M : List (List Int)} {w : World} (h : RS base rv ads M w) (h1 : 1 ≤ M.length) : ∃ g cap, rv = .slice (some ⟨g, 0, none⟩) M.length cap ∧ base ≤ g ∧ g < w.heap.size := by
  obtain ⟨_, ⟨e, h0⟩ | ⟨g, cap, cur, e, hg, hb, _⟩⟩ := h.own
  · omega
  · exact ⟨g, cap, e, hg, (Array.getElem?_eq_some_iff.1 hb).1⟩
theorem RS.at {base g cap : Nat} {ads : List (Nat × Nat)} {M : List (List Int)} {w : World} (h : RS base (.slice (some ⟨g, 0, none⟩) M.length cap) ads M w) {i : Nat} (hi : i < M.length) :
    ∃ xb xc, ads[i]? = some (xb, xc) ∧ w.cell? ⟨g, i, none⟩ = some (.slice (some ⟨xb, 0, none⟩) (rowL M i).length xc) ∧ w.frozen? ⟨g, i, none⟩ = false ∧ OwnI w base (.slice (some ⟨xb, 0, none⟩) (rowL M i).length xc) (rowL M i) := by
  have e1 : ads[i]? = some (ads[i]'(by rw [h.len]; exact hi)) := by simp [h.len, hi]
  have e2 : M[i]? = some (rowL M i) := by unfold rowL; simp [hi]
  have hc := World.ownsRow.cellAt h.own i (by omega)
  rw [hdrs_at e1 e2] at hc
  exact ⟨_, _, e1, hc, World.ownsRow.frozenAt h.own i, h.row i _ _ e1 e2⟩
theorem RS.grow {base g cap xb xc g2 cp2 i : Nat} {ads : List (Nat × Nat)} {M : List (List Int)} {V w9 : World} {o : Obj} {row' : List Int} (h : RS base (.slice (some ⟨g, 0, none⟩) M.length cap) ads M V) (hi : i < M.length) (hx : ads[i]? = some (xb, xc))
    (ho : OwnI w9 base (.slice (some ⟨g2, 0, none⟩) row'.length cp2) row') (hg : (V.alloc o).grownBy w9 (some xb)) (hat : xb = g2 ∨ V.heap.size ≤ g2) :
    RS base (.slice (some ⟨g, 0, none⟩) M.length cap) (ads.set i (g2, cp2)) (M.set i row') (w9.setCell ⟨g, i, none⟩ (.slice (some ⟨g2, 0, none⟩) row'.length cp2)) := by
  have hb1 : Below V.heap.size V (V.alloc o) := (Below.refl _ _).alloc (Nat.le_refl _) _
  have hsa : (V.alloc o).heap.size = V.heap.size + 1 := World.size_alloc _ _
  have keep : ∀ b, b < V.heap.size → b ≠ xb → w9.heap[b]? = V.heap[b]? := fun b hb hn => (hg.block b (by omega) (fun e => hn (by simpa using e))).trans (hb1.block b hb)
  have hgl : g < V.heap.size := (World.ownsRow.lt h.own g rfl).2
  have hgx : g ≠ xb := fun e => (h.out i _ hx).2.2 (by rw [← e]; rfl)
  have hg2 : g2 ≠ g := by
    rcases hat with e | e
    · rw [← e]; exact Ne.symm hgx
    · omega
  have hset : ∀ b, b ≠ g → (w9.setCell ⟨g, i, none⟩ (.slice (some ⟨g2, 0, none⟩) row'.length cp2)).heap[b]? = w9.heap[b]? := fun b hb => Below.heap_setCell w9 _ _ b hb
  have hli : i < ads.length := by rw [h.len]; exact hi
  refine ⟨by rw [List.length_set, List.length_set]; exact h.len, ?_, ?_, ?_, ?_⟩
  · rw [List.length_set, hdrs_set h.len hi]
    have h1 : w9.ownsRow base 22 1 (.slice (some ⟨g, 0, none⟩) M.length cap) M.length (hdrs ads M) := row_same h.own fun b e => by
      have e : b = g := by simpa [Value.ownBlock] using e.symm
      rw [e]; exact keep g hgl hgx
    exact (World.ownsRow.stored h1 i _).1
  · intro j x r e1 e2
    by_cases e : j = i
    · subst e
      rw [List.getElem?_set_self hli] at e1
      rw [List.getElem?_set_self hi] at e2
      cases e1; cases e2
      exact ho.sameBlock (hset g2 hg2)
    · rw [List.getElem?_set_ne (Ne.symm e)] at e1 e2
      obtain ⟨_, a2, a3⟩ := h.out j x e1
      exact (h.row j x r e1 e2).sameBlock ((hset x.1 (fun e3 => a3 (by rw [e3]; rfl))).trans (keep x.1 a2 (h.apart j i x _ e1 hx e)))
  · intro j k x y e1 e2 hjk
    by_cases e : j = i
    · subst e
      rw [List.getElem?_set_self hli] at e1
      rw [List.getElem?_set_ne hjk] at e2
      cases e1
      have a := h.apart j k _ y hx e2 hjk
      rcases hat with e3 | e3
      · rw [← e3]; exact a
      · have := (h.out k y e2).2.1; show g2 ≠ y.1; omega
    · rw [List.getElem?_set_ne (Ne.symm e)] at e1
      by_cases e3 : k = i
      · subst e3
        rw [List.getElem?_set_self hli] at e2
        cases e2
        have a := h.apart j k x _ e1 hx hjk
        rcases hat with e4 | e4
        · rw [← e4]; exact a
        · have := (h.out j x e1).2.1; show x.1 ≠ g2; omega
      · rw [List.getElem?_set_ne (Ne.symm e3)] at e2
        exact h.apart j k x y e1 e2 hjk
  · intro j x e1
    rw [World.size_setCell]
    have hsz := hg.size
    by_cases e : j = i
    · subst e
      rw [List.getElem?_set_self hli] at e1
      cases e1
      have := OwnI.lt ho
      exact ⟨this.2, this.1, fun e3 => hg2 (by simpa [Value.ownBlock] using e3.symm)⟩
    · rw [List.getElem?_set_ne (Ne.symm e)] at e1
      obtain ⟨a1, a2, a3⟩ := h.out j x e1
      exact ⟨a1, by omega, a3⟩
end Go.Proofs.YtgbnfhfkehpfaaaGreat
/- solved of the answers: a contract. -/
namespace Go.Proofs.YtgbnfhfkehpfaaaGreat
open Go.RowKit

end Go.Proofs.YtgbnfhfkehpfaaaGreat
/- The values that the answers solve are the program's. Plain words. Speaks of no program. -/
namespace Go.Proofs.YtgbnfhfkehpfaaaGreat
open Go.RowKit

end Go.Proofs.YtgbnfhfkehpfaaaGreat
/- Rank and Independent of both sides, readings checked: contracts. -/
namespace Go.Proofs.YtgbnfhfkehpfaaaGreat
open Go.RowKit

theorem listV_ok {m : List (List Int)} {px : List Int} (h : listV m px = 0) (hv : validM m = true) : (∀ j ∈ px, 0 ≤ j ∧ j < (colsM m : Int)) ∧ px.length ≤ 10 := by
  unfold listV at h
  split at h
  · rename_i ha
    split at h
    · rename_i hb
      rw [List.all_eq_true] at hb
      have hin : ∀ j ∈ px, 0 ≤ j ∧ j < (colsM m : Int) := fun j hj => by
        have := hb j hj
        unfold thereB at this
        simpa [Bool.and_eq_true] using this
      refine ⟨hin, ?_⟩
      have hc := (validM_of hv).2.2.2.1
      have key : ∀ k, k < px.length → (k : Int) ≤ gt px k := by
        intro k
        induction k with
        | zero => intro hk; exact (hin _ (mem_gt.2 ⟨0, hk, rfl⟩)).1
        | succ k ih =>
          intro hk
          have h1 := ih (by omega)
          have h2 := rascB_of ha (k + 1) hk (by omega)
          rw [Nat.add_sub_cancel] at h2
          omega
      by_cases h0 : px.length = 0
      · omega
      · have h1 := key (px.length - 1) (by omega)
        have h2 := hin _ (mem_gt.2 ⟨px.length - 1, by omega, rfl⟩)
        omega
    · cases h
  · cases h
end Go.Proofs.YtgbnfhfkehpfaaaGreat
/- Independent of both sides, readings checked: contracts. -/
namespace Go.Proofs.YtgbnfhfkehpfaaaGreat
open Go.RowKit

set_option maxRecDepth 100000 in
set_option maxHeartbeats 800000 in
theorem lread_any (ma : Option Addr) (m : List (List Int)) (mc : Nat) (a : Option Addr) (y : List Int) (cap : Nat) (w : World) (hm : MOk m) (hl : y.length ≤ 9223372036854775807) (hs : Ms w ma m) (hy : Sl w a y) :
    Calls Tryz.prog 38 #[.slice ma m.length mc, .slice a y.length cap] w fun e w' => e = .returned (.int .i64 (readE m y)) ∧ Below w.heap.size w w' := by
  have HVA : Hid (Calls Tryz.prog 32 #[.slice ma m.length mc] w fun e w' => e = .returned (.bool (validM m)) ∧ Below w.heap.size w w') := mvalid_any ma m mc w hm hs
  obtain ⟨q, hq⟩ : ∃ q, allB 1000000 y = q := ⟨_, rfl⟩
  have HWI : Hid (∀ W, Below w.heap.size w W → Calls Tryz.prog 71 #[.slice a y.length cap, .int .i64 1000000] W fun e w' => e = .returned (.bool q) ∧ W = w') := fun W hb => by rw [← hq]; exact lwithin_any a y cap 1000000 W (by decide) (by decide) hl (hy.below hb)
  have hml := hm.1
  cases hv : validM m
  case false =>
    rw [hv] at HVA
    have HE : Hid (readE m y = 1) := by show _ = _; simp [readE, hv]
    clear hv hq hs hy hm
    go_enter Tryz.func38, Tryz.ntmps38
    go_wp2_with (go_at_call 32; refine HVA.out.mono ?_; rintro e w1 ⟨rfl, hb⟩; have HB := Lib.hid hb; clear hb)
    go_ret
    exact ⟨ret_i64 HE.out.symm, HB.out⟩
  case true =>
    rw [hv] at HVA
    by_cases hlen : (y.length : Int) = (m.length : Int)
    · have y0 : ((y.length : Int) == (m.length : Int)) = true := by simpa using hlen
      have y1 : ((y.length : Int) != (m.length : Int)) = false := by simpa using hlen
      have HE : Hid (readE m y = if q = true then 0 else 7) := by show _ = _; unfold readE fitsV; rw [if_pos hv, if_pos hlen, hq]
      clear hv hq hs hy hm hlen
      cases q
      · go_enter Tryz.func38, Tryz.ntmps38
        go_wp2_with (first | (go_at_call 32; refine HVA.out.mono ?_; rintro e w1 ⟨rfl, hb⟩; have HB := Lib.hid hb; clear hb) | (go_at_call 71; refine (HWI.out w1 HB.out).mono ?_; rintro e w2 ⟨rfl, rfl⟩))
        go_ret
        exact ⟨ret_i64 (by rw [HE.out]; rfl), HB.out⟩
      · go_enter Tryz.func38, Tryz.ntmps38
        go_wp2_with (first | (go_at_call 32; refine HVA.out.mono ?_; rintro e w1 ⟨rfl, hb⟩; have HB := Lib.hid hb; clear hb) | (go_at_call 71; refine (HWI.out w1 HB.out).mono ?_; rintro e w2 ⟨rfl, rfl⟩))
        go_ret
        exact ⟨ret_i64 (by rw [HE.out]; rfl), HB.out⟩
    · have y0 : ((y.length : Int) == (m.length : Int)) = false := by simpa using hlen
      have y1 : ((y.length : Int) != (m.length : Int)) = true := by simpa using hlen
      have HE : Hid (readE m y = 9) := by show _ = _; unfold readE fitsV; rw [if_pos hv, if_neg hlen]
      clear hv hq hs hy hm hlen
      go_enter Tryz.func38, Tryz.ntmps38
      go_wp2_with (go_at_call 32; refine HVA.out.mono ?_; rintro e w1 ⟨rfl, hb⟩; have HB := Lib.hid hb; clear hb)
      go_ret
      exact ⟨ret_i64 HE.out.symm, HB.out⟩
end Go.Proofs.YtgbnfhfkehpfaaaGreat
/- Solve of both sides: contracts. -/
namespace Go.Proofs.YtgbnfhfkehpfaaaGreat
open Go.RowKit

def solveV (m : List (List Int)) (px y : List Int) : List (Int × Int) × Int :=
  if readE m y = 0 then (if listV m px = 0 then (if possB (redB m px (oneB y)).rows (redB m px (oneB y)).piv.length px.length = true then (if (redB m px (oneB y)).piv.length < px.length then ([], 11) else (solL px.length (redB m px (oneB y)).rows (redB m px (oneB y)).piv (redB m px (oneB y)).dv (redB m px (oneB y)).piv.length, 0)) else ([], 8)) else ([], listV m px)) else ([], readE m y)
def RLPost (r : List (Int × Int) × Int) (w : World) (e : Ending) (w' : World) : Prop := Below w.heap.size w w' ∧ ∃ a cap, e = .returned (.tuple #[.slice a r.1.length cap, .int .i64 r.2]) ∧ Rl w' a r.1
theorem RLPost.err {w w' : World} {n : Int} (hb : Below w.heap.size w w') : RLPost ([], n) w (.returned (.tuple #[.slice none 0 0, .int .i64 n])) w' := ⟨hb, none, 0, rfl, fun j p h => by simp at h⟩
theorem readE_ok {m : List (List Int)} {y : List Int} (h : readE m y = 0) : validM m = true ∧ y.length = m.length ∧ allB 1000000 y = true := by
  unfold readE at h
  split at h
  · rename_i hv
    obtain ⟨h1, h2⟩ := fitsV_0 h
    exact ⟨hv, by omega, h2⟩
  · cases h
theorem pixB_row {px : List Int} {m : List (List Int)} {y : List Int} : ∀ q ∈ pixB px m (oneB y), q.length = px.length + 1 := fun q hq => by
  obtain ⟨i, _, rfl⟩ := List.mem_map.1 hq
  rw [List.length_append, pixR_len]; rfl
theorem pixB_at {px : List Int} {m : List (List Int)} {y : List Int} {i c : Nat} (hi : i < m.length) : a0 (pixB px m (oneB y)) i c = if c < px.length then gt (rowL m i) (gt px c).toNat else if c = px.length then gt y i else 0 := by
  unfold a0
  have e : rowL (pixB px m (oneB y)) i = pixR px (rowL m i) ++ [gt y i] := by unfold pixB rowL; simp [hi]; rfl
  rw [e, gt_snoc, pixR_len]
  split
  · rename_i h; rw [gt_pixR h]
  · rfl
theorem pixB_bd {m : List (List Int)} {px y : List Int} (hv : validM m = true) (hpx : ∀ j ∈ px, 0 ≤ j ∧ j < (colsM m : Int)) (hy : y.length = m.length) (hb : allB 1000000 y = true) :
    (∀ i, i < m.length → ∀ c, c < px.length → -1 ≤ a0 (pixB px m (oneB y)) i c ∧ a0 (pixB px m (oneB y)) i c ≤ 1) ∧ ∀ i, i < m.length → ∀ c, c < px.length + 1 → -1000000 ≤ a0 (pixB px m (oneB y)) i c ∧ a0 (pixB px m (oneB y)) i c ≤ 1000000 := by
  obtain ⟨_, _, _, _, hrows⟩ := validM_of hv
  have h1 : ∀ i, i < m.length → ∀ c, c < px.length → -1 ≤ a0 (pixB px m (oneB y)) i c ∧ a0 (pixB px m (oneB y)) i c ≤ 1 := fun i hi c hc => by
    rw [pixB_at hi, if_pos hc]
    have hr := hrows _ (rowL_mem hi)
    have := hpx _ (mem_gt.2 ⟨c, hc, rfl⟩)
    exact gt_in hr.2 (by rw [hr.1]; omega)
  refine ⟨h1, fun i hi c hc => ?_⟩
  by_cases e : c < px.length
  · have := h1 i hi c e; omega
  · rw [pixB_at hi, if_neg e, if_pos (by omega)]
    exact gt_in hb (by omega)
theorem redB_fin {m : List (List Int)} {px y : List Int} (hv : validM m = true) (hpx : ∀ j ∈ px, 0 ≤ j ∧ j < (colsM m : Int)) (hy : y.length = m.length) (hb : allB 1000000 y = true) :
    RFin m.length (px.length + 1) px.length (a0 (pixB px m (oneB y))) (redB m px (oneB y)) := by
  obtain ⟨b1, b2⟩ := pixB_bd hv hpx hy hb
  exact rd_fin (pixB_len _ _ _) pixB_row (validM_of hv).2.1 (Nat.le_succ _) b1 b2
theorem redB_cols (m : List (List Int)) (px : List Int) (bh : Nat → List Int) : (redB m px bh).cols = px.length := clearN_cols _ _
theorem box_cells {w3 W4 : World} {a b c d : Value} {t : TypeId} (h : w3.alloc (.cells #[a, b, c, d] t) = W4) : ∀ W, Below W4.heap.size W4 W → W.cell? ⟨w3.heap.size, 0, none⟩ = some a ∧ W.cell? ⟨w3.heap.size, 1, none⟩ = some b ∧ W.cell? ⟨w3.heap.size, 2, none⟩ = some c ∧ W.cell? ⟨w3.heap.size, 3, none⟩ = some d := by
  subst h
  intro W hb
  have hl : w3.heap.size < (w3.alloc (.cells #[a, b, c, d] t)).heap.size := by rw [World.size_alloc]; omega
  exact ⟨(hb.cell (p := ⟨w3.heap.size, 0, none⟩) hl).trans (alloc_cell _ _ _ _ _ rfl), (hb.cell (p := ⟨w3.heap.size, 1, none⟩) hl).trans (alloc_cell _ _ _ _ _ rfl), (hb.cell (p := ⟨w3.heap.size, 2, none⟩) hl).trans (alloc_cell _ _ _ _ _ rfl), (hb.cell (p := ⟨w3.heap.size, 3, none⟩) hl).trans (alloc_cell _ _ _ _ _ rfl)⟩
end Go.Proofs.YtgbnfhfkehpfaaaGreat
