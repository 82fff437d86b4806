
/- Walsh and Lift of layer 1, SameInts of its answers, and awake of the statements: contracts. -/
import Derived.Test.YtacbciamehchjaaLift
import Derived.Test.YtacbciamehchjaaSame
namespace Go.Proofs.Ytacbciamehchjaa
open Go.RowKit

theorem some_of {w : World} {a : Option Addr} {xs : List Int} (h : Sl w a xs) (h1 : 1 ≤ xs.length) : ∃ b off, a = some ⟨b, off, none⟩ := by
  obtain ⟨b, off, e, _⟩ := h 0 (by omega)
  exact ⟨b, off, e⟩
theorem powerB_of {xs : List Int} (h : powerB xs = true) : validListB xs = true ∧ powB xs.length = true := by simpa [powerB] using h
/-- The exponent of a power. -/
def lg (n : Nat) : Nat := Nat.log2 n
theorem lg_of : ∀ k : Nat, k ≤ 8 → lg (2 ^ k) = k := by decide +kernel
theorem lg_pow {n k : Nat} (hp : powB n = true) (h : n = 2 ^ k) : lg n = k := by
  have hk : k ≤ 8 := by
    have := powB_le hp
    rw [h] at this
    exact (Nat.pow_le_pow_iff_right (a := 2) (by omega)).1 (show 2 ^ k ≤ 2 ^ 8 by omega)
  rw [h]; exact lg_of k hk

/-- What Walsh returns: the list behind all levels; or nothing and the error. -/
def WalshPost (base : Nat) (xs : List Int) (w : World) (e : Ending) (w' : World) : Prop :=
  Below base w w' ∧
  ((powerB xs = true ∧ ∃ g cap, e = .returned (.tuple #[.slice (some ⟨g, 0, none⟩) xs.length cap, .int .i64 0]) ∧ OwnI w' base (.slice (some ⟨g, 0, none⟩) xs.length cap) (walshTo xs (lg xs.length))) ∨
   (powerB xs = false ∧ e = .returned (.tuple #[.slice none 0 0, .int .i64 1])))
theorem walsh_any (a : Option Addr) (xs : List Int) (cap : Nat) (w : World) (hl : xs.length ≤ 140737488351232) (hs : Sl w a xs) :
    Calls Try.prog 26 #[.slice a xs.length cap] w (WalshPost w.heap.size xs w) := by
  cases hp : powerB xs
  · have HS := Lib.hid hs; clear hs
    go_enter Try.func26, Try.ntmps26
    go_wp2_with (go_at_call 54; refine (power_any _ _ _ _ hl HS.out).mono ?_; rintro e w1 ⟨rfl, hb⟩)
    go_ret2
    exact ⟨hb, .inr ⟨hp, rfl⟩⟩
  · have hpw := (powerB_of hp).2
    have hle := powB_le hpw
    obtain ⟨b, off, rfl⟩ := some_of hs hle.1
    have HS := Lib.hid hs; clear hs
    have HP := Lib.hid hpw; clear hpw
    go_enter Try.func26, Try.ntmps26
    go_wp2_with (first | (go_at_call 54; refine (power_any _ _ _ _ hl HS.out).mono ?_; rintro e w1 ⟨rfl, hb⟩; have HB := Lib.hid hb; clear hb) | (go_at_call 55; refine (transformed_any b off xs cap _ HP.out (HS.out.below HB.out)).mono ?_; rintro e w2 ⟨g, cap', k, rfl, hk, ho, hb2⟩; have HK := Lib.hid hk; clear hk; have HO := Lib.hid ho; clear ho; have HB2 := Lib.hid hb2; clear hb2))
    go_ret2
    refine ⟨HB.out.trans (HB2.out.mono HB.out.size), .inl ⟨hp, g, cap', rfl, ?_⟩⟩
    rw [lg_pow HP.out HK.out]
    exact HO.out.mono HB.out.size

/-- The list behind k steps of lifting. -/
def liftTo (xs : List Int) : Nat → List Int
  | 0 => xs
  | k + 1 => splitL (xs.length / 2 ^ (k + 1)) (liftTo xs k)
theorem splitL_length (m : Nat) (ys : List Int) : (splitL m ys).length = ys.length := splits_length _ _ _ _
theorem liftTo_length (xs : List Int) (k : Nat) : (liftTo xs k).length = xs.length := by
  induction k with
  | zero => rfl
  | succ k ih => show (splitL _ _).length = _; rw [splitL_length, ih]
def LiftPost (base : Nat) (xs : List Int) (w : World) (e : Ending) (w' : World) : Prop :=
  Below base w w' ∧
  ((powerB xs = true ∧ ∃ g cap, e = .returned (.tuple #[.slice (some ⟨g, 0, none⟩) xs.length cap, .int .i64 0]) ∧ OwnI w' base (.slice (some ⟨g, 0, none⟩) xs.length cap) (liftTo xs (lg xs.length))) ∨
   (powerB xs = false ∧ e = .returned (.tuple #[.slice none 0 0, .int .i64 1])))
set_option maxRecDepth 100000 in
theorem lift_any (a : Option Addr) (xs : List Int) (cap : Nat) (w : World) (hl : xs.length ≤ 140737488351232) (hs : Sl w a xs) :
    Calls Try.prog 27 #[.slice a xs.length cap] w (LiftPost w.heap.size xs w) := by
  cases hp : powerB xs
  · have HS := Lib.hid hs; clear hs
    go_enter Try.func27, Try.ntmps27
    go_wp2_with (go_at_call 54; refine (power_any _ _ _ _ hl HS.out).mono ?_; rintro e w1 ⟨rfl, hb⟩)
    go_ret2
    exact ⟨hb, .inr ⟨hp, rfl⟩⟩
  · have hpw := (powerB_of hp).2
    have hle := powB_le hpw
    obtain ⟨b, off, rfl⟩ := some_of hs hle.1
    obtain ⟨p, hp8, hxp⟩ := powB_two hpw
    have HS := Lib.hid hs; clear hs
    have HP := Lib.hid hpw; clear hpw
    have HX := Lib.hid hxp; clear hxp
    go_enter Try.func27, Try.ntmps27
    go_wp2_with (first | (go_at_call 54; refine (power_any _ _ _ _ hl HS.out).mono ?_; rintro e w1 ⟨rfl, hb⟩; have HB := Lib.hid hb; clear hb) | (go_at_call 56; refine (clone_any b off xs cap _ (by omega) (by omega) (HS.out.below HB.out)).mono ?_; rintro e w2 ⟨g, cap', rfl, ho, hb2⟩; have HO := Lib.hid ho; clear ho; have HB2 := Lib.hid hb2; clear hb2))
    have hB12 : Hid (Below w.heap.size w w2) := HB.out.trans (HB2.out.mono HB.out.size)
    have hO2 : Hid (OwnI w2 w.heap.size (.slice (some ⟨g, 0, none⟩) xs.length cap') xs) := HO.out.mono HB.out.size
    go_loopw [5] (fun i wr => ∃ k n : Nat, k ≤ p ∧ n = 2 ^ (p - k) ∧ i = .int .i64 n ∧ OwnI wr w.heap.size (.slice (some ⟨g, 0, none⟩) xs.length cap') (liftTo xs k) ∧ Below w.heap.size w wr) (fun i _ => (intOf i).toNat)
    case atStart => exact ⟨0, xs.length, Nat.zero_le _, HX.out, rfl, hO2.out, hB12.out⟩
    case round =>
      obtain ⟨k, n, hk, hn, rfl, hO, hB⟩ := hrel
      have HN := Lib.hid hn; clear hn
      have HO3 := Lib.hid hO; clear hO
      have HB3 := Lib.hid hB; clear hB
      have hnl : n ≤ xs.length := by rw [HN.out, HX.out]; exact Nat.pow_le_pow_right (by omega) (by omega)
      by_cases hgt : 1 < n
      · obtain ⟨m, hm⟩ : ∃ m, n = 2 * m := by
          have : k < p := by
            rcases Nat.lt_or_ge k p with h | h
            · exact h
            · have h0 : p - k = 0 := by omega
              have h2 := HN.out; rw [h0] at h2; omega
          exact ⟨2 ^ (p - k - 1), by rw [HN.out, ← Nat.pow_succ', show (p - k - 1).succ = p - k by omega]⟩
        subst hm
        have hcap : xs.length ≤ cap' := HO3.out.cap_le
        have hm2 : 2 * m ≤ cap' := by omega
        have hm3 : 2 * (m : Int) ≤ (cap' : Int) := by omega
        have hm4 : m ≤ 128 := by omega
        have hkp : k < p := by
          rcases Nat.lt_or_ge k p with h | h
          · exact h
          · have h0 : p - k = 0 := by omega
            have h2 := HN.out; rw [h0] at h2; omega
        have hml : Hid (xs.length / 2 ^ (k + 1) = m) := by
          show xs.length / 2 ^ (k + 1) = m
          have e1 : 2 ^ p = 2 ^ (p - k - 1) * 2 ^ (k + 1) := by rw [← Nat.pow_add]; congr 1; omega
          have e2 : 2 ^ (p - k) = 2 ^ (p - k - 1) * 2 := by rw [← Nat.pow_succ]; congr 1; omega
          have e3 := HN.out
          rw [HX.out, e1, Nat.mul_div_cancel _ (by exact Nat.two_pow_pos _)]
          omega
        go_wp2_with (go_at_call 57; refine (split_any w.heap.size g xs.length cap' m (liftTo xs k) _ (by omega) hm4 (by rw [liftTo_length]; exact hnl) HB3.out.size HO3.out).mono ?_; rintro e w4 ⟨⟨v, rfl⟩, ho, hb⟩; have HO4 := Lib.hid ho; clear ho; have HB4 := Lib.hid hb; clear hb)
        go_roundw
        case rel =>
          refine ⟨k + 1, m, by omega, ?_, by go_num, ?_, HB3.out.trans HB4.out⟩
          · have e2 : 2 ^ (p - k) = 2 ^ (p - (k + 1)) * 2 := by rw [← Nat.pow_succ]; congr 1; omega
            have e3 := HN.out
            omega
          · show OwnI w4 _ _ (splitL (xs.length / 2 ^ (k + 1)) (liftTo xs k))
            rw [hml.out]; exact HO4.out
        case measure => simp [intOf]; omega
      · have hkp : Hid (k = p) := by
          show k = p
          rcases Nat.lt_or_ge k p with h | h
          · have : 2 ^ 1 ≤ 2 ^ (p - k) := Nat.pow_le_pow_right (by omega) (by omega)
            have := HN.out
            omega
          · omega
        go_wp2
        go_ret2
        refine ⟨HB3.out, .inl ⟨hp, g, cap', rfl, ?_⟩⟩
        rw [lg_pow HP.out HX.out, ← hkp.out]
        exact HO3.out
end Go.Proofs.Ytacbciamehchjaa
