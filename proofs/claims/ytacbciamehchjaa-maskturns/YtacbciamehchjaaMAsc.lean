
/- Lists in ascending order: ascending of layer 2 and Ascending of its answers, contracts. -/
import Derived.Test.YtacbciamehchjaaMCol
namespace Go.Proofs.Ytacbciamehchjaa
open Go.RowKit

def prevOf (p : Int) (l : List Int) (k : Nat) : Int := if k = 0 then p else gt l (k - 1)
def ascB (p : Int) (l : List Int) : Bool := decide (∀ k, k < l.length → prevOf p l k < gt l k)
theorem ascB_no {p : Int} {l : List Int} {k : Nat} (hk : k < l.length) (h : ¬ prevOf p l k < gt l k) : ascB p l = false := by
  unfold ascB; rw [decide_eq_false_iff_not]; exact fun hh => h (hh k hk)
theorem ascB_yes {p : Int} {l : List Int} (h : ∀ k, k < l.length → prevOf p l k < gt l k) : ascB p l = true := by
  unfold ascB; rw [decide_eq_true_iff]; exact h
theorem ascB_of {p : Int} {l : List Int} (h : ascB p l = true) : ∀ k, k < l.length → prevOf p l k < gt l k := by
  unfold ascB at h; rwa [decide_eq_true_iff] at h
def rascB (l : List Int) : Bool := decide (∀ k, k < l.length → k ≠ 0 → gt l (k - 1) < gt l k)
theorem rascB_no {l : List Int} {k : Nat} (hk : k < l.length) (h0 : k ≠ 0) (h : ¬ gt l (k - 1) < gt l k) : rascB l = false := by
  unfold rascB; rw [decide_eq_false_iff_not]; exact fun hh => h (hh k hk h0)
theorem rascB_yes {l : List Int} (h : ∀ k, k < l.length → k ≠ 0 → gt l (k - 1) < gt l k) : rascB l = true := by
  unfold rascB; rw [decide_eq_true_iff]; exact h
theorem rascB_of {l : List Int} (h : rascB l = true) : ∀ k, k < l.length → k ≠ 0 → gt l (k - 1) < gt l k := by
  unfold rascB at h; rwa [decide_eq_true_iff] at h
theorem asc_same {p : Int} {l : List Int} (h : ∀ k, k < l.length → p < gt l k) : ascB p l = rascB l := by
  rw [Bool.eq_iff_iff]
  constructor
  · intro ha
    refine rascB_yes fun k hk h0 => ?_
    have := ascB_of ha k hk
    unfold prevOf at this; rwa [if_neg h0] at this
  · intro ha
    refine ascB_yes fun k hk => ?_
    unfold prevOf
    by_cases h0 : k = 0
    · rw [if_pos h0]; exact h k hk
    · rw [if_neg h0]; exact rascB_of ha k hk h0

theorem asc1_any (n p : Int) (B : Nat) (w : World) (c1 : w.cell? ⟨B, 0, none⟩ = some (.int .i64 p)) (f1 : w.frozen? ⟨B, 0, none⟩ = false) :
    Calls Try.prog 94 #[.int .i64 n, .pointer (some ⟨B, 0, none⟩)] w fun e w' => e = .returned (.bool (decide (p < n))) ∧ w' = w.setCell ⟨B, 0, none⟩ (.int .i64 n) := by
  by_cases h : p < n
  · go_enter Try.func94, Try.ntmps94
    go_wp2
    go_ret
    exact ⟨ret_bool (by simp [h]), rfl⟩
  · go_enter Try.func94, Try.ntmps94
    go_wp2
    go_ret
    exact ⟨ret_bool (by simp [h]), rfl⟩
/-- The cell of the last number. -/
def LastIs (B0 B : Nat) (p : Int) (w0 w : World) : Prop := w.cell? ⟨B, 0, none⟩ = some (.int .i64 p) ∧ w.frozen? ⟨B, 0, none⟩ = false ∧ Below B0 w0 w ∧ B < w.heap.size
theorem LastIs.set {B0 B : Nat} {p : Int} {w0 w : World} (h : LastIs B0 B p w0 w) (hB : B0 ≤ B) (n : Int) : LastIs B0 B n w0 (w.setCell ⟨B, 0, none⟩ (.int .i64 n)) := by
  obtain ⟨h1, h2, h3, h4⟩ := h
  refine ⟨?_, ?_, h3.setCell hB _, by simpa using h4⟩
  · go_simp
  · go_simp
set_option maxRecDepth 100000 in
theorem allasc_any (B : Nat) (p : Int) (a : Option Addr) (xs : List Int) (cap : Nat) (w : World) (hl : xs.length ≤ 9223372036854775807) (hw : LastIs B B p w w) (hs : Sl w a xs) (hap : ∀ ad, a = some ad → xs ≠ [] → ad.block < B) :
    Calls Try.prog 68 #[.slice a xs.length cap, .func (.func 94) #[] #[.pointer (some ⟨B, 0, none⟩)]] w fun e w' => e = .returned (.bool (ascB p xs)) ∧ Below B w w' := by
  have HS := Lib.hid hs; clear hs
  have HW := Lib.hid hw; clear hw
  have HAP := Lib.hid hap; clear hap
  go_enter Try.func68, Try.ntmps68
  go_wp2
  go_loopw [9] (fun i wr => ∃ k : Nat, k ≤ xs.length ∧ i = .int .i64 k ∧ LastIs B B (prevOf p xs k) w wr ∧ ∀ j, j < k → prevOf p xs j < gt xs j) (fun i _ => xs.length - (intOf i).toNat)
  case atStart => exact ⟨0, Nat.zero_le _, rfl, HW.out, fun j h => by omega⟩
  case round =>
    obtain ⟨k, hk, rfl, hL, hno⟩ := hrel
    have HN := Lib.hid hno; clear hno
    have HL := Lib.hid hL; clear hL
    by_cases hlt : k < xs.length
    · obtain ⟨b, off, x, rfl, hcell0, HX⟩ := HS.out.at hlt
      have hbB : b < B := HAP.out _ rfl (fun e => by rw [e] at hlt; simp at hlt)
      have hcell := (HL.out.2.2.1.cell (p := ⟨b, off + k, none⟩) hbB).trans hcell0
      clear hcell0
      obtain ⟨q, hq⟩ : ∃ q, prevOf p xs k = q := ⟨_, rfl⟩
      have HQ := Lib.hid hq
      rw [hq] at HL; clear hq
      have HP : Hid (prevOf p xs (k + 1) = x) := by show prevOf p xs (k + 1) = x; unfold prevOf; rw [if_neg (by omega), Nat.add_sub_cancel, gt_some' HX.out]
      cases ho : decide (q < x)
      · have HF : Hid (ascB p xs = false) := ascB_no hlt (by rw [HQ.out, gt_some' HX.out]; simpa using ho)
        have HO := Lib.hid ho; clear ho
        go_wp2_with (go_at_call 94; refine (asc1_any _ q _ _ HL.out.1 HL.out.2.1).mono ?_; rintro e w1 ⟨rfl, rfl⟩; rw [HO.out])
        go_ret
        exact ⟨ret_bool HF.out.symm, HL.out.2.2.1.setCell (Nat.le_refl _) _⟩
      · have HT : Hid (prevOf p xs k < gt xs k) := by show _ < _; rw [HQ.out, gt_some' HX.out]; simpa using ho
        have HO := Lib.hid ho; clear ho
        go_wp2_with (go_at_call 94; refine (asc1_any _ q _ _ HL.out.1 HL.out.2.1).mono ?_; rintro e w1 ⟨rfl, rfl⟩; rw [HO.out])
        go_roundw
        case rel => exact ⟨k + 1, by omega, by go_num, by rw [HP.out]; exact HL.out.set (Nat.le_refl _) _, fun j hj => by
            by_cases hj' : j = k
            · subst hj'; exact HT.out
            · exact HN.out j (by omega)⟩
        case measure => simp [intOf]; omega
    · go_wp2
      go_ret
      exact ⟨ret_bool (ascB_yes (fun j hj => HN.out j (by omega))).symm, HL.out.2.2.1⟩
theorem asc_any (a : Option Addr) (xs : List Int) (cap : Nat) (w : World) (hl : xs.length ≤ 9223372036854775807) (hs : Sl w a xs) :
    Calls Try.prog 73 #[.slice a xs.length cap] w fun e w' => e = .returned (.bool (ascB (-1) xs)) ∧ Below w.heap.size w w' := by
  have HAP : Hid (∀ ad, a = some ad → xs ≠ [] → ad.block < w.heap.size) := by
    intro ad ha hne
    obtain ⟨b, off, he, hc⟩ := hs 0 (by cases xs with | nil => exact absurd rfl hne | cons _ _ => simp)
    obtain rfl : ad = ⟨b, off, none⟩ := by rw [ha] at he; simpa using he
    exact cell_lt hc
  have HS := Lib.hid hs; clear hs
  have HB : Hid (Below w.heap.size w ((w.alloc (.cells #[.int .i64 0] 3)).setCell ⟨w.heap.size, 0, none⟩ (.int .i64 (-1)))) := ((Below.refl _ _).alloc (Nat.le_refl _) _).setCell (by simp) _
  go_enter Try.func73, Try.ntmps73
  go_wp2_with fail
  have HB0 : Hid (Below w.heap.size w (w.alloc (.cells #[.int .i64 (-1)] 3))) := (Below.refl _ _).alloc (Nat.le_refl _) _
  refine (allasc_any w.heap.size (-1) _ _ _ _ hl ⟨alloc_cell _ _ _ _ _ rfl, by simp, Below.refl _ _, by simp⟩ (HS.out.below HB0.out) HAP.out).mono ?_
  rintro e w1 ⟨rfl, hb1⟩
  go_wp2
  go_ret
  exact ⟨rfl, HB0.out.trans hb1⟩
end Go.Proofs.Ytacbciamehchjaa
