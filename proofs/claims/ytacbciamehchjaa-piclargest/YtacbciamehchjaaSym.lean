
/- The merge of two sorted neighbours, by the comparison of Largest: a contract. -/
import Derived.Test.YtacbciamehchjaaSymT
import Derived.Test.YtacbciamehchjaaRotate
import Derived.Test.YtacbciamehchjaaMergeMath
import Derived.Deep.RegionHeldLaw
import Derived.Deep.RegionLaw
namespace Go.Proofs.Ytacbciamehchjaa
open Go.RowKit

set_option maxRecDepth 100000 in
set_option maxHeartbeats 3200000 in
theorem sym_any (g cap B : Nat) (a : Option Addr) (L : List Int) (lc : Nat) (hl : L.length ≤ 256) (hall : allB 1000000 L = true) : ∀ (d : Nat) (lo m hi : Nat) (xs : List Int) (w : World) (_hd : hi - lo ≤ d) (_h1 : lo < m) (_h2 : m < hi) (_h3 : hi ≤ xs.length) (_hx : xs.length ≤ 256) (_hr : ∀ k, k < xs.length → 0 ≤ gt xs k ∧ gt xs k < L.length) (_hm : Mg L lo m hi xs) (_ho : OwnI w g (Dat g xs.length cap) xs) (_hc : Clo B a L lc g w),
    Calls Try.prog 81 #[Dat g xs.length cap, .int .i64 lo, .int .i64 m, .int .i64 hi, Clv B] w fun e w' => ∃ ys, SPost g xs.length cap ys w e w' ∧ Rearr lo hi xs ys ∧ Srt L lo hi ys
  | 0, lo, m, hi, xs, w, hd, h1, h2, h3, hx, hr, hm, ho, hc => by omega
  | d + 1, lo, m, hi, xs, w, hd, h1, h2, h3, hx, hr, hm, ho, hc => by
    by_cases hm1 : m - lo = 1
    · exact sym_one g cap B a L lc hl hall lo m hi xs w h1 h2 h3 hx hr hm ho hc hm1
    by_cases hm2 : hi - m = 1
    · exact sym_last g cap B a L lc hl hall lo m hi xs w h1 h2 h3 hx hr hm ho hc (by omega) hm2
    have IH : Hid (SymIH g cap B a L lc d) := sym_any g cap B a L lc hl hall d
    obtain ⟨d1, hd1⟩ : ∃ x, m - lo = x := ⟨_, rfl⟩
    obtain ⟨d2, hd2⟩ : ∃ x, hi - m = x := ⟨_, rfl⟩
    have s1 : (m : Int) - (lo : Int) = (d1 : Int) := by omega
    have s2 : (hi : Int) - (m : Int) = (d2 : Int) := by omega
    have s3 : ((d1 : Int) == 1) = false := by simp; omega
    have s4 : ((d2 : Int) == 1) = false := by simp; omega
    have HD : Hid (lo < m ∧ m < hi ∧ hi - lo ≤ d + 1) := ⟨h1, h2, hd⟩
    have H3 := Lib.hid h3
    have HX := Lib.hid hx
    clear hm1 hm2 hd1 hd2
    obtain ⟨mid, hmid⟩ : ∃ mid, mid = (lo + hi) / 2 := ⟨_, rfl⟩
    have HMID := Lib.hid hmid
    have hbin0 : ((lo : Int) + (hi : Int)) / 2 = (mid : Int) := by omega
    have hmid6 : mid ≤ 256 := by omega
    obtain ⟨N0, hN0⟩ : ∃ N0, N0 = mid + m := ⟨_, rfl⟩
    have HN0 := Lib.hid hN0
    have n0 : (mid : Int) + (m : Int) = (N0 : Int) := by omega
    obtain ⟨P0, hP0⟩ : ∃ P0, P0 = N0 - 1 := ⟨_, rfl⟩
    have HP0 : Hid (P0 = mid + m - 1) := by show _ = _; omega
    have n1 : (N0 : Int) - 1 = (P0 : Int) := by omega
    have n6 : N0 ≤ 512 := by omega
    clear hN0 hP0 hmid
    have HO := Lib.hid ho; clear ho
    have HC := Lib.hid hc; clear hc
    have HA := Lib.hid hall
    have HR := Lib.hid hr; clear hr
    have HM := Lib.hid hm; clear hm
    unfold Dat Clv
    go_enter Try.func81, Try.ntmps81
    refine wp_seq_k (fun K hK => ?_)
    have HK := Lib.hid hK; clear hK
    go_wp2
    have HK1 := HK.out
    refine HK1 _ _ ?_
    clear HK1 HK K
    refine wp_seq_k (fun K hK => ?_)
    have HK := Lib.hid hK; clear hK
    go_wp2
    have HK1 := HK.out
    refine HK1 _ _ ?_
    clear HK1 HK K
    refine wp_seq_k (fun K hK => ?_)
    have HK := Lib.hid hK; clear hK
    go_wp2
    have HK1 := HK.out
    refine HK1 _ _ ?_
    clear HK1 HK K
    refine wp_seq_k (fun K hK => ?_)
    have HK := Lib.hid hK; clear hK
    go_wp2
    have HK1 := HK.out
    refine HK1 _ _ ?_
    clear HK1 HK K
    refine wp_seq_k (fun K hK => ?_)
    have HK := Lib.hid hK; clear hK
    go_wp2
    have HK1 := HK.out
    refine HK1 _ _ ?_
    clear HK1 HK K
    by_cases hmm : mid < m
    · obtain ⟨L0, hL0⟩ : ∃ L0, L0 = mid + m - hi := ⟨_, rfl⟩
      have l0 : (N0 : Int) - (hi : Int) = (L0 : Int) := by have := HN0.out; omega
      have HCS0 : Hid (mid < m ∧ L0 = mid + m - hi) := ⟨hmm, hL0⟩
      clear hL0
      refine wp_seq_k (fun K hK => ?_)
      have HK := Lib.hid hK; clear hK
      go_wp2
      have HK1 := HK.out
      refine HK1 _ _ ?_
      clear HK1 HK K
      refine wp_seq_k (fun K hK => ?_)
      have HK := Lib.hid hK; clear hK
      go_wp2
      have HK1 := HK.out
      refine HK1 _ _ ?_
      clear HK1 HK K
      exact sym_t1 hl HA IH HM HR HC H3 HX HD HMID HN0 HP0 (.inl ⟨HCS0.out.1, HCS0.out.2, rfl⟩) HO _ _ _ _ _ _ _ _ _ _ _ _ _ _ _ _ _ _ _ _ _ _ _ _ _ _ _ _ _ _ _ _ _ _ _ _ _ _ _ _ _ _ _ _ _ _ _ _ _ _ _ _ _ _ _ _ _ _ _ _ _ _ _ _ _ _ _ _ _ _ _ _ _ _ _ _ _ _ _ _ _ _ _ _ _ _ _ _ _ _ _ _ _ _ _ _ _ _ _ _ _ _ _ _ _ _ _ _ _ _ _ _ _ _ _ _ _ _ _ _ _ _ _ _ _ _ _ _ _ _ _ _ _ _ _ _ _ _ _ _ _ _ _ _ _ _ _ _ _ _ _ _ _ _ _ _ _ _ _ _ _ _ _ _ _ _ _ _ _ _ _ _ _ _ _ _ _ _ _ _ _ _ _ _ _ _ _ _ _ _ _ _ _ _ _ _ _ _ _ _ _ _ _ _ _ _ _ _ _ _
    · have HCS0 : Hid (m ≤ mid) := by show _ ≤ _; omega
      refine wp_seq_k (fun K hK => ?_)
      have HK := Lib.hid hK; clear hK
      go_wp2
      have HK1 := HK.out
      refine HK1 _ _ ?_
      clear HK1 HK K
      refine wp_seq_k (fun K hK => ?_)
      have HK := Lib.hid hK; clear hK
      go_wp2
      have HK1 := HK.out
      refine HK1 _ _ ?_
      clear HK1 HK K
      exact sym_t1 hl HA IH HM HR HC H3 HX HD HMID HN0 HP0 (.inr ⟨HCS0.out, rfl, rfl⟩) HO _ _ _ _ _ _ _ _ _ _ _ _ _ _ _ _ _ _ _ _ _ _ _ _ _ _ _ _ _ _ _ _ _ _ _ _ _ _ _ _ _ _ _ _ _ _ _ _ _ _ _ _ _ _ _ _ _ _ _ _ _ _ _ _ _ _ _ _ _ _ _ _ _ _ _ _ _ _ _ _ _ _ _ _ _ _ _ _ _ _ _ _ _ _ _ _ _ _ _ _ _ _ _ _ _ _ _ _ _ _ _ _ _ _ _ _ _ _ _ _ _ _ _ _ _ _ _ _ _ _ _ _ _ _ _ _ _ _ _ _ _ _ _ _ _ _ _ _ _ _ _ _ _ _ _ _ _ _ _ _ _ _ _ _ _ _ _ _ _ _ _ _ _ _ _ _ _ _ _ _ _ _ _ _ _ _ _ _ _ _ _ _ _ _ _ _ _ _ _ _ _ _ _ _ _ _ _ _ _ _
end Go.Proofs.Ytacbciamehchjaa
