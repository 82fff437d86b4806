
/- Texts of masks: what is read of them; strings.Cut at a line feed: plain facts, contracts. -/
import Derived.Test.YtknhfliefkkpfabMParse1
namespace Go.Proofs.Ytknhfliefkkpfab
open Go.RowKit

theorem idx_lt (c : UInt8) : ∀ l : List UInt8, 0 ≤ Lib.indexByte l c → Lib.indexByte l c < l.length
  | [], h => by simp [Lib.indexByte] at h
  | b :: l, h => by
    have ih := idx_lt c l
    have g := Lib.indexByte_ge l c
    unfold Lib.indexByte at h ⊢
    split
    · simp
    · rename_i hb
      rw [if_neg hb] at h
      split at h
      · simp at h
      · rename_i h2
        rw [if_neg h2]
        have : 0 ≤ Lib.indexByte l c := by
          have : ¬ Lib.indexByte l c = -1 := by simpa using h2
          omega
        have := ih this
        simp only [List.length_cons]; omega
def rowL (l : List UInt8) : List Int := l.map sgnB
/-- What is read of the rest of a text behind some rows. -/
def parseF : Nat → List UInt8 → List (List Int) → List (List Int) × Int × Int
  | 0, _, _ => ([], 0, 0)
  | f + 1, s, read =>
    if s = [] ∧ read ≠ [] then (read, 0, 0) else
    if Lib.indexByte s 10 < 0 then ([], (read.length : Int), 2) else
    if validM (read ++ [rowL (s.take (Lib.indexByte s 10).toNat)]) = true then parseF f (s.drop ((Lib.indexByte s 10).toNat + 1)) (read ++ [rowL (s.take (Lib.indexByte s 10).toNat)]) else ([], (read.length : Int), 2)
def parseV (s : List UInt8) : List (List Int) × Int × Int := if 65536 < s.length then ([], 0, 3) else parseF (s.length + 1) s []
theorem parseF_end {f : Nat} {read : List (List Int)} (h : read ≠ []) : parseF (f + 1) [] read = (read, 0, 0) := by
  unfold parseF; rw [if_pos ⟨rfl, h⟩]
theorem parseF_no {f : Nat} {s : List UInt8} {read : List (List Int)} (h : ¬ (s = [] ∧ read ≠ [])) (hi : Lib.indexByte s 10 < 0) : parseF (f + 1) s read = ([], (read.length : Int), 2) := by
  unfold parseF; rw [if_neg h, if_pos hi]
theorem parseF_bad {f : Nat} {s : List UInt8} {read : List (List Int)} (h : ¬ (s = [] ∧ read ≠ [])) {n : Nat} (hi : Lib.indexByte s 10 = n) (hv : validM (read ++ [rowL (s.take n)]) = false) : parseF (f + 1) s read = ([], (read.length : Int), 2) := by
  unfold parseF; rw [if_neg h, hi, if_neg (by omega), Int.toNat_natCast, hv, if_neg (by decide)]
theorem parseF_next {f : Nat} {s : List UInt8} {read : List (List Int)} (h : ¬ (s = [] ∧ read ≠ [])) {n : Nat} (hi : Lib.indexByte s 10 = n) (hv : validM (read ++ [rowL (s.take n)]) = true) : parseF (f + 1) s read = parseF f (s.drop (n + 1)) (read ++ [rowL (s.take n)]) := by
  show (if s = [] ∧ read ≠ [] then _ else _) = _
  rw [if_neg h, hi, if_neg (by omega), Int.toNat_natCast, if_pos hv]
theorem get_last {m : List (List Int)} {r : List Int} : (m ++ [r])[m.length]? = some r := by simp
theorem valid_last_row {m : List (List Int)} {r : List Int} (h : validM (m ++ [r]) = true) : allB 1 r = true := (validM_row h get_last).2
theorem rowL_bad {l : List UInt8} (h : l.all isSgn = false) : allB 1 (rowL l) = false := by
  obtain ⟨c, hc, hs⟩ := List.all_eq_false.1 h
  obtain ⟨k, hk, e⟩ := List.mem_iff_getElem.1 hc
  have : (rowL l)[k]? = some (sgnB c) := by unfold rowL; simp [hk, e]
  refine allB_no this ?_
  rw [sgn_not (by simpa using hs)]
  decide
/-- The program's row and the answers' are valid together, and then the same. -/
theorem row_same (m : List (List Int)) (l : List UInt8) : validM (m ++ [rowP l]) = validM (m ++ [rowL l]) ∧ (validM (m ++ [rowL l]) = true → rowP l = rowL l) := by
  cases h : l.all isSgn
  · have h1 : validM (m ++ [rowL l]) = false := by
      cases hv : validM (m ++ [rowL l])
      · rfl
      · have := valid_last_row hv
        rw [rowL_bad h] at this; cases this
    have h2 : rowP l = [] := by unfold rowP; rw [if_neg (by rw [h]; decide)]
    refine ⟨?_, fun e => by rw [h1] at e; cases e⟩
    rw [h1, h2]
    refine validM_no get_last ?_
    have : rowB [] = false := by decide
    rw [this, Bool.and_false]
  · have h2 : rowP l = rowL l := by unfold rowP; rw [if_pos h]; rfl
    rw [h2]; exact ⟨rfl, fun _ => rfl⟩
theorem rowP_len (l : List UInt8) : (rowP l).length ≤ l.length := by unfold rowP; split <;> simp
theorem rowP_in (l : List UInt8) : ∀ x ∈ rowP l, I64 x := by
  intro x hx
  unfold rowP at hx
  split at hx
  · obtain ⟨c, _, rfl⟩ := List.mem_map.1 hx
    have := sgnB_in c
    unfold I64; omega
  · cases hx
theorem rowL_in (l : List UInt8) : ∀ x ∈ rowL l, I64 x := by
  intro x hx
  obtain ⟨c, _, rfl⟩ := List.mem_map.1 hx
  have := sgnB_in c
  unfold I64; omega
theorem mok_snoc {m : List (List Int)} {r : List Int} (h : MOk m) (hm : m.length ≤ 100) (hr : r.length ≤ 65536) (hx : ∀ x ∈ r, I64 x) : MOk (m ++ [r]) := by
  refine ⟨by simp; omega, fun q hq => ?_⟩
  rcases List.mem_append.1 hq with h' | h'
  · exact h.2 q h'
  · obtain rfl : q = r := by simpa using h'
    exact ⟨by omega, hx⟩
theorem mok_nil : MOk [] := ⟨by simp, fun r hr => by cases hr⟩

set_option maxRecDepth 100000 in
set_option maxHeartbeats 400000 in
theorem cut_yes (s : ByteArray) (n : Nat) (hn : Lib.indexByte s.data.toList 10 = n) (hs : s.size ≤ 65536) (w : World) :
    Calls Try.prog 64 #[.string s, .string ⟨#[10]⟩] w fun e w' => e = .returned (.tuple #[.string (s.extract 0 n), .string (s.extract (n + 1) s.size), .bool true]) ∧ ∃ nd, w' = w.drewN nd := by
  have hlt := idx_lt 10 s.data.toList (by rw [hn]; omega)
  rw [hn, ← str_size] at hlt
  have hlt' : n < s.size := by omega
  have HN := Lib.hid hn; clear hn hlt
  have s1 : IntKind.i64.wrap ((n : Int) + 1) = (n : Int) + 1 := IntWalk.i64_in _ (by omega)
  have s2 : (0 : Int) ≤ (n : Int) + 1 := by omega
  have s3 : ((n : Int) + 1).toNat = n + 1 := by omega
  go_enter Try.func64, Try.ntmps64
  go_wp2_with fail
  refine (show Calls Try.prog 101 #[.string s, .string ⟨#[10]⟩] w fun e w' => e = .returned (.tuple #[.string (s.extract 0 n), .string (s.extract (n + 1) s.size), .bool true]) ∧ ∃ nd, w' = w.drewN nd from ?_).mono ?_
  · go_enter Try.func101, Try.ntmps101
    go_wp2_with fail
    refine (Try.stringslite_Index_one s 10 _).mono ?_
    rintro e w' ⟨rfl, rfl⟩
    rw [HN.out]
    go_wp2
    go_quiet (fail)
    clear s1 s2 s3
    go_wp2
    go_ret3
    exact ⟨rfl, _, rfl⟩
  · rintro e w' ⟨rfl, nd, rfl⟩
    clear s1 s2 s3
    go_wp2
    go_ret3
    exact ⟨rfl, _, rfl⟩
set_option maxRecDepth 100000 in
set_option maxHeartbeats 400000 in
theorem cut_no (s : ByteArray) (hn : Lib.indexByte s.data.toList 10 < 0) (w : World) :
    Calls Try.prog 64 #[.string s, .string ⟨#[10]⟩] w fun e w' => e = .returned (.tuple #[.string s, .string ⟨#[]⟩, .bool false]) ∧ w = w' := by
  have hg := Lib.indexByte_ge s.data.toList 10
  have hm : Lib.indexByte s.data.toList 10 = -1 := by omega
  have HN := Lib.hid hm; clear hn hg hm
  go_enter Try.func64, Try.ntmps64
  go_wp2_with fail
  refine (show Calls Try.prog 101 #[.string s, .string ⟨#[10]⟩] w fun e w' => e = .returned (.tuple #[.string s, .string ⟨#[]⟩, .bool false]) ∧ w = w' from ?_).mono ?_
  · go_enter Try.func101, Try.ntmps101
    go_wp2_with fail
    refine (Try.stringslite_Index_one s 10 _).mono ?_
    rintro e w' ⟨rfl, rfl⟩
    rw [HN.out]
    go_wp2
    go_ret3
    exact ⟨rfl, rfl⟩
  · rintro e w' ⟨rfl, rfl⟩
    go_wp2
    go_ret3
    exact ⟨rfl, rfl⟩
end Go.Proofs.Ytknhfliefkkpfab
