
/- What asks masks and lists for their ranges, in layer 2 and in its answers: contracts. -/
import Derived.Test.YtacbciamehchjaaMDef
import Derived.Test.YtacbciamehchjaaMBase
import Derived.Test.YtacbciamehchjaaBox
import Derived.Test.YtacbciamehchjaaProg
namespace Go.Proofs.Ytacbciamehchjaa
open Go.RowKit

def allR (lo hi : Int) (xs : List Int) : Bool := xs.all fun x => rangeB x lo hi
theorem allR_sym (lim : Int) (xs : List Int) : allR (-lim) lim xs = allB lim xs := by
  unfold allR allB
  congr 1; funext x
  simp only [rangeB, outB]
  by_cases h1 : -lim ≤ x <;> by_cases h2 : x ≤ lim <;> simp [h1, h2] <;> omega
theorem allR_no {lo hi : Int} {xs : List Int} {k : Nat} {x : Int} (hx : xs[k]? = some x) (ho : rangeB x lo hi = false) : allR lo hi xs = false := by
  unfold allR; rw [List.all_eq_false]
  exact ⟨x, List.mem_of_getElem? hx, by simp [ho]⟩
theorem allR_yes {lo hi : Int} {xs : List Int} (h : ∀ j, j < xs.length → rangeB (xs[j]?.getD 0) lo hi = true) : allR lo hi xs = true := by
  unfold allR; rw [List.all_eq_true]; intro x hx
  obtain ⟨j, hj, rfl⟩ := List.mem_iff_getElem.1 hx
  have := h j hj
  simpa [hj] using this

theorem btw_any (n lo hi : Int) (B C : Nat) (w : World) (c1 : w.cell? ⟨B, 0, none⟩ = some (.int .i64 lo)) (c2 : w.cell? ⟨C, 0, none⟩ = some (.int .i64 hi)) :
    Calls Try.prog 93 #[.int .i64 n, .pointer (some ⟨B, 0, none⟩), .pointer (some ⟨C, 0, none⟩)] w fun e w' => e = .returned (.bool (rangeB n lo hi)) ∧ w = w' := by
  go_enter Try.func93, Try.ntmps93
  go_wp2
  all_goals go_ret
  all_goals exact ⟨ret_bool (by first | (simp [rangeB, *]; done) | (simp [rangeB]; omega)), rfl⟩
theorem between_any (lo hi : Int) (w : World) :
    Calls Try.prog 69 #[.int .i64 lo, .int .i64 hi] w fun e w' => e = .returned (.func (.func 93) #[] #[.pointer (some ⟨w.heap.size, 0, none⟩), .pointer (some ⟨w.heap.size + 1, 0, none⟩)]) ∧
      w'.cell? ⟨w.heap.size, 0, none⟩ = some (.int .i64 lo) ∧ w'.cell? ⟨w.heap.size + 1, 0, none⟩ = some (.int .i64 hi) ∧ Below w.heap.size w w' := by
  go_enter Try.func69, Try.ntmps69
  go_wp2
  go_ret
  exact ⟨by simp, (alloc_old _ _ _ _ (by simp)).trans (alloc_cell _ _ _ _ _ rfl), by simp, ((Below.refl _ _).alloc (Nat.le_refl _) _).alloc (by simp) _⟩
theorem allbtw_any (lo hi : Int) (B C : Nat) (a : Option Addr) (xs : List Int) (cap : Nat) (w : World) (hl : xs.length ≤ 9223372036854775807)
    (c1 : w.cell? ⟨B, 0, none⟩ = some (.int .i64 lo)) (c2 : w.cell? ⟨C, 0, none⟩ = some (.int .i64 hi)) (hs : Sl w a xs) :
    Calls Try.prog 68 #[.slice a xs.length cap, .func (.func 93) #[] #[.pointer (some ⟨B, 0, none⟩), .pointer (some ⟨C, 0, none⟩)]] w fun e w' => e = .returned (.bool (allR lo hi xs)) ∧ w = w' := by
  have HS := Lib.hid hs; clear hs
  go_enter Try.func68, Try.ntmps68
  go_wp2
  go_loop [9] (fun i => ∃ k : Nat, k ≤ xs.length ∧ i = .int .i64 k ∧ ∀ j, j < k → rangeB (xs[j]?.getD 0) lo hi = true) (fun i => xs.length - (intOf i).toNat)
  case atStart => exact ⟨0, Nat.zero_le _, rfl, fun j h => by omega⟩
  case round =>
    obtain ⟨k, hk, rfl, hno⟩ := hrel
    have HN := Lib.hid hno; clear hno
    by_cases hlt : k < xs.length
    · obtain ⟨b, off, x, rfl, hcell, HX⟩ := HS.out.at hlt
      cases ho : rangeB x lo hi
      · go_wp2_with (go_at_call 93; refine (btw_any _ lo hi _ _ _ c1 c2).mono ?_; rintro e w' ⟨rfl, rfl⟩)
        go_ret
        exact ⟨ret_bool (allR_no HX.out ho).symm, rfl⟩
      · go_wp2_with (go_at_call 93; refine (btw_any _ lo hi _ _ _ c1 c2).mono ?_; rintro e w' ⟨rfl, rfl⟩)
        go_round
        case rel => exact ⟨k + 1, by omega, by go_num, fun j hj => by
            by_cases hj' : j = k
            · subst hj'; rw [HX.out]; exact ho
            · exact HN.out j (by omega)⟩
        case measure => simp [intOf]; omega
    · go_wp2
      go_ret
      exact ⟨ret_bool (allR_yes (fun j hj => HN.out j (by omega))).symm, rfl⟩
theorem validRow_any (a : Option Addr) (r : List Int) (cap : Nat) (w : World) (hl : r.length ≤ 9223372036854775807) (hs : Sl w a r) :
    Calls Try.prog 67 #[.slice a r.length cap] w fun e w' => e = .returned (.bool (rowB r)) ∧ Below w.heap.size w w' := by
  have HS := Lib.hid hs; clear hs
  by_cases h1 : 1 ≤ r.length ∧ r.length ≤ 10
  · obtain ⟨h1, h2⟩ := h1
    go_enter Try.func67, Try.ntmps67
    go_wp2_with fail
    refine (between_any (-1) 1 _).mono ?_
    rintro e w1 ⟨rfl, c1, c2, hb⟩
    have HB := Lib.hid hb; clear hb
    go_wp2_with fail
    refine (allbtw_any (-1) 1 _ _ _ _ _ _ hl c1 c2 (HS.out.below HB.out)).mono ?_
    rintro e w2 ⟨rfl, rfl⟩
    go_wp2
    go_ret
    refine ⟨ret_bool ?_, HB.out⟩
    rw [allR_sym 1]
    simp [rowB, rangeB]; omega
  · have HX : Hid (rowB r = false) := by
      show rowB r = false
      simp only [rowB, rangeB]
      by_cases h2 : 1 ≤ r.length
      · have : ¬ ((r.length : Int) ≤ 10) := by omega
        simp [this]
      · have : ¬ (1 ≤ (r.length : Int)) := by omega
        simp [this]
    by_cases h2 : 1 ≤ r.length
    · have h3 : 10 < r.length := by omega
      clear h1
      go_enter Try.func67, Try.ntmps67
      go_wp2
      go_ret
      exact ⟨ret_bool HX.out.symm, Below.refl _ _⟩
    · have h3 : r.length < 1 := by omega
      clear h1 h2
      go_enter Try.func67, Try.ntmps67
      go_wp2
      go_ret
      exact ⟨ret_bool HX.out.symm, Below.refl _ _⟩
theorem fits_any (a : Option Addr) (xs : List Int) (cap : Nat) (n lim : Int) (h0 : 0 ≤ lim) (h1 : lim ≤ 1000000000) (w : World) (hl : xs.length ≤ 9223372036854775807) (hs : Sl w a xs) :
    Calls Try.prog 44 #[.slice a xs.length cap, .int .i64 n, .int .i64 lim] w fun e w' => e = .returned (.int .i64 (fitsV xs n lim)) ∧ Below w.heap.size w w' := by
  have HS := Lib.hid hs; clear hs
  by_cases hn : (xs.length : Int) = n
  · have HN : Hid (fitsV xs n lim = if allB lim xs = true then 0 else 7) := by show fitsV xs n lim = _; unfold fitsV; rw [if_pos hn]
    have hb : ((xs.length : Int) == n) = true := by simpa using hn
    have hb' : ((xs.length : Int) != n) = false := by simpa using hn
    clear hn
    have HV := Lib.hid (allR_sym lim xs)
    go_enter Try.func44, Try.ntmps44
    go_wp2_with fail
    refine (between_any (-lim) lim _).mono ?_
    rintro e w1 ⟨rfl, c1, c2, hb⟩
    have HB := Lib.hid hb; clear hb
    go_wp2_with fail
    refine (allbtw_any (-lim) lim _ _ _ _ _ _ hl c1 c2 (HS.out.below HB.out)).mono ?_
    rintro e w2 ⟨rfl, rfl⟩
    rw [HV.out]
    cases hA : allB lim xs
    · rw [hA] at HN
      have HN' := HN; clear HN hA
      go_wp2
      go_ret
      exact ⟨by rw [HN'.out]; rfl, HB.out⟩
    · rw [hA] at HN
      have HN' := HN; clear HN hA
      go_wp2
      go_ret
      exact ⟨by rw [HN'.out]; rfl, HB.out⟩
  · have HN : Hid (fitsV xs n lim = 9) := by show fitsV xs n lim = _; unfold fitsV; rw [if_neg hn]
    have hb : ((xs.length : Int) == n) = false := by simpa using hn
    have hb' : ((xs.length : Int) != n) = true := by simpa using hn
    clear hn
    go_enter Try.func44, Try.ntmps44
    go_wp2
    go_ret
    exact ⟨by rw [HN.out]; rfl, Below.refl _ _⟩

theorem row0 {w : World} {a : Option Addr} {m : List (List Int)} (h : Ms w a m) (h1 : 1 ≤ m.length) : ∃ b off a0 c0, a = some ⟨b, off, none⟩ ∧ w.cell? ⟨b, off, none⟩ = some (.slice a0 (colsM m) c0) := by
  obtain ⟨b, off, a0, c0, h1, h2, _⟩ := h 0 (by omega)
  exact ⟨b, off, a0, c0, h1, h2⟩
theorem valid1_any (B : Nat) (a : Option Addr) (m : List (List Int)) (cap : Nat) (b : Option Addr) (r : List Int) (c : Nat) (w : World) (hm : 1 ≤ m.length) (hl : r.length ≤ 9223372036854775807)
    (hbox : w.cell? ⟨B, 0, none⟩ = some (.slice a m.length cap)) (hs : Ms w a m) (hr : Sl w b r) :
    Calls Try.prog 66 #[.slice b r.length c, .pointer (some ⟨B, 0, none⟩)] w fun e w' => e = .returned (.bool (decide (r.length = colsM m) && rowB r)) ∧ Below w.heap.size w w' := by
  obtain ⟨b0, o0, a0, c0, rfl, hcell⟩ := row0 hs hm
  have HR := Lib.hid hr; clear hr hs
  by_cases he : r.length = colsM m
  · have e1 : ((r.length : Int) == (colsM m : Int)) = true := by simp [he]
    have HE : Hid (decide (r.length = colsM m) = true) := by show decide (r.length = colsM m) = true; simp [he]
    clear he
    go_enter Try.func66, Try.ntmps66
    go_wp2_with (go_at_call 67; refine (validRow_any b r c _ hl HR.out).mono ?_; rintro e w1 ⟨rfl, hb⟩)
    go_ret
    exact ⟨ret_bool (by rw [HE.out, Bool.true_and]), hb⟩
  · have e1 : ((r.length : Int) == (colsM m : Int)) = false := by simp; omega
    have HE : Hid (decide (r.length = colsM m) = false) := by show decide (r.length = colsM m) = false; simp [he]
    clear he
    go_enter Try.func66, Try.ntmps66
    go_wp2
    go_ret
    exact ⟨ret_bool (by rw [HE.out, Bool.false_and]), Below.refl _ _⟩
theorem allrows_any (B : Nat) (a : Option Addr) (m : List (List Int)) (cap : Nat) (w : World) (hm : MOk m) (h1 : 1 ≤ m.length) (hB : B < w.heap.size)
    (hbox : w.cell? ⟨B, 0, none⟩ = some (.slice a m.length cap)) (hs : Ms w a m) :
    Calls Try.prog 65 #[.slice a m.length cap, .func (.func 66) #[] #[.pointer (some ⟨B, 0, none⟩)]] w fun e w' => e = .returned (.bool (m.all fun r => decide (r.length = colsM m) && rowB r)) ∧ Below w.heap.size w w' := by
  have HS := Lib.hid hs; clear hs
  have HM := Lib.hid hm
  have hml := hm.1
  clear hm
  have HBX := Lib.hid hbox; clear hbox
  go_enter Try.func65, Try.ntmps65
  go_wp2
  go_loopw [9] (fun i wr => ∃ k : Nat, k ≤ m.length ∧ i = .int .i64 k ∧ (∀ j, j < k → (decide ((m[j]?.getD []).length = colsM m) && rowB (m[j]?.getD [])) = true) ∧ Below w.heap.size w wr) (fun i _ => m.length - (intOf i).toNat)
  case atStart => exact ⟨0, Nat.zero_le _, rfl, fun j h => by omega, Below.refl _ _⟩
  case round =>
    obtain ⟨k, hk, rfl, hno, hb⟩ := hrel
    have HN := Lib.hid hno; clear hno
    have HB := Lib.hid hb; clear hb
    by_cases hlt : k < m.length
    · obtain ⟨b, off, ai, r, ci, rfl, hcell, hsl, HX⟩ := (HS.out.below HB.out).at hlt
      have HSL := Lib.hid hsl; clear hsl
      have hrl := (HM.out.row HX.out).1
      have hbx := (HB.out.cell (p := ⟨B, 0, none⟩) hB).trans HBX.out
      cases ho : (decide (r.length = colsM m) && rowB r)
      · have HO := Lib.hid ho; clear ho
        go_wp2_with (go_at_call 66; refine (valid1_any B _ m cap _ _ _ _ h1 hrl hbx (HS.out.below HB.out) HSL.out).mono ?_; rintro e w1 ⟨rfl, hb1⟩; rw [HO.out])
        go_ret
        refine ⟨ret_bool ?_, HB.out.trans (hb1.mono HB.out.size)⟩
        symm; rw [List.all_eq_false]; exact ⟨r, List.mem_of_getElem? HX.out, by rw [HO.out]; simp⟩
      · have HO := Lib.hid ho; clear ho
        go_wp2_with (go_at_call 66; refine (valid1_any B _ m cap _ _ _ _ h1 hrl hbx (HS.out.below HB.out) HSL.out).mono ?_; rintro e w1 ⟨rfl, hb1⟩; rw [HO.out])
        go_roundw
        case rel => exact ⟨k + 1, by omega, by go_num, fun j hj => by
            by_cases hj' : j = k
            · subst hj'; rw [HX.out]; exact HO.out
            · exact HN.out j (by omega), HB.out.trans (hb1.mono HB.out.size)⟩
        case measure => simp [intOf]; omega
    · go_wp2
      go_ret
      refine ⟨ret_bool ?_, HB.out⟩
      symm; rw [List.all_eq_true]; intro r hr
      obtain ⟨i, hi, rfl⟩ := List.mem_iff_getElem.1 hr
      have := HN.out i (by omega)
      simpa [hi] using this
theorem mvalid_any (a : Option Addr) (m : List (List Int)) (cap : Nat) (w : World) (hm : MOk m) (hs : Ms w a m) :
    Calls Try.prog 43 #[.slice a m.length cap] w fun e w' => e = .returned (.bool (validM m)) ∧ Below w.heap.size w w' := by
  have HM := Lib.hid hm
  have hml := hm.1
  clear hm
  have HS := Lib.hid (hs.alloc (.cells #[.slice a m.length cap] 39)); clear hs
  have HX : Hid (validM m = (rangeB m.length 1 6 && m.all fun r => decide (r.length = colsM m) && rowB r)) := Lib.hid rfl
  by_cases h1 : 1 ≤ m.length
  · by_cases h2 : m.length ≤ 6
    · go_enter Try.func43, Try.ntmps43
      go_wp2_with (go_at_call 65; refine (allrows_any w.heap.size a m cap _ HM.out h1 (by simp) (by simp) HS.out).mono ?_; rintro e w1 ⟨rfl, hb⟩)
      go_ret
      refine ⟨ret_bool ?_, ((Below.refl _ _).alloc (Nat.le_refl _) _).trans (hb.mono (by simp))⟩
      rw [HX.out]; simp [rangeB]; omega
    · have h2' : 6 < m.length := by omega
      clear h2
      go_enter Try.func43, Try.ntmps43
      go_wp2
      go_ret
      refine ⟨ret_bool ?_, (Below.refl _ _).alloc (Nat.le_refl _) _⟩
      rw [HX.out]
      have : ¬ ((m.length : Int) ≤ 6) := by omega
      simp [rangeB, this]
  · have h1' : m.length < 1 := by omega
    clear h1
    go_enter Try.func43, Try.ntmps43
    go_wp2
    go_ret
    refine ⟨ret_bool ?_, (Below.refl _ _).alloc (Nat.le_refl _) _⟩
    rw [HX.out]
    have : ¬ (1 ≤ (m.length : Int)) := by omega
    simp [rangeB, this]
end Go.Proofs.Ytacbciamehchjaa
