
/- Largest of layer 1: a contract. -/
import Derived.Test.YtacbciamehchjaaStable
import Derived.Test.YtacbciamehchjaaTopMath
import Derived.Test.YtacbciamehchjaaShelf
import Derived.Test.YtacbciamehchjaaVal2
import Derived.Test.YtacbciamehchjaaPush
import Derived.Sort.OwnSortedInts
namespace Go.Proofs.Ytacbciamehchjaa
open Go.RowKit

set_option maxRecDepth 100000 in
theorem sortStable_any (g cap B : Nat) (a : Option Addr) (L : List Int) (lc : Nat) (hl : L.length ≤ 256) (hall : allB 1000000 L = true) (xs : List Int) (w : World) (hn : xs.length = L.length) (hid : ∀ k, k < xs.length → gt xs k = (k : Int))
    (ho : OwnI w g (Dat g xs.length cap) xs) (hc : Clo B a L lc g w) :
    Calls Try.prog 31 #[Dat g xs.length cap, Clv B] w fun e w' => ∃ ys, SPost g xs.length cap ys w e w' ∧ Rearr 0 xs.length xs ys ∧ Srt L 0 xs.length ys := by
  have H := Lib.hid (stable_any g cap B a L lc hl hall xs w hn hid ho hc)
  clear hn hid ho hc
  unfold Dat Clv at *
  go_enter Try.func31, Try.ntmps31
  go_wp2_with fail
  refine H.out.mono ?_
  rintro e w1 ⟨ys, ⟨rfl, hb, ho, hln⟩, hre, hsr⟩
  have HB := Lib.hid hb
  have HO := Lib.hid ho
  have HL := Lib.hid hln
  have HR := Lib.hid hre
  have HS := Lib.hid hsr
  clear H hb ho hln hre hsr
  go_wp2
  go_end0
  exact ⟨ys, ⟨rfl, HB.out, HO.out, HL.out⟩, HR.out, HS.out⟩
/-- The first k of a slice of the call's own, sorted. -/
theorem sortI_any (g n cap k c : Nat) (ys : List Int) (w : World) (hk : k ≤ ys.length) (hl : ys.length ≤ 256) (ho : OwnI w g (Dat g n cap) ys) (hg : g < w.heap.size) :
    Calls Try.prog 34 #[.slice (some ⟨g, 0, none⟩) k c] w fun e w' => e = .returned (.tuple #[]) ∧ Below g w w' ∧ Sl w' (some ⟨g, 0, none⟩) ((ys.take k).mergeSort (fun x y => decide (x ≤ y))) := by
  have hlen : (ys.take k).length = k := by rw [List.length_take]; omega
  have hH : Go.Sort.Holds (Value.int .i64) w g 0 (ys.take k).toArray := by
    intro j hj
    have hj' : j < k := by simpa [hlen] using hj
    obtain ⟨c1, f1⟩ := OwnI.cell (g := g) ho (j := j) (by omega)
    rw [Nat.zero_add]
    refine ⟨c1.trans ?_, f1⟩
    congr 2
    have : j < (ys.take k).length := by omega
    simp [hj', show j < ys.length by omega]
  have h := Try.slices_Sort_int g 0 c (ys.take k) w hH hg (by omega)
  rw [hlen] at h
  refine h.mono ?_
  rintro e w' ⟨rfl, n', os, rfl⟩
  refine ⟨rfl, (Below.refl g w).grown (grownBy_sortedI _) (Nat.le_of_lt hg) (fun r e => by cases e; exact Nat.le_refl _), fun j hj => ?_⟩
  refine ⟨g, 0, rfl, ?_⟩
  have hj2 : j < ((ys.take k).mergeSort fun x y => decide (x ≤ y)).toArray.size := by simpa using hj
  rw [Nat.zero_add, Go.Sort.cell?_grow _ _ _ (by simpa using hg)]
  have hh := (Go.Sort.holds_putRow (Value.int .i64) (Sort.ahead w n') g 0 (ys.take k).toArray ((ys.take k).mergeSort fun x y => decide (x ≤ y)).toArray (Go.Sort.holds_ahead _ _ _ _ _ _ hH) (by simp) j hj2).1
  rw [Nat.zero_add] at hh
  rw [hh]
  simp at hj
  simp [hj]
def largestV (L : List Int) (k : Int) : List Int × Int := if validListB L = true then (if 0 ≤ k ∧ k ≤ L.length then (topTo L k L.length, 0) else ([], 7)) else ([], 1)
theorem list_one {xs : List Int} (h : validListB xs = true) : 1 ≤ xs.length := by
  simp [validListB, rangeB] at h; omega
/-- The indexes, as far as they have been laid. -/
structure Idx (n k : Nat) (zs : List Int) : Prop where
  len : zs.length = n
  at_ : ∀ j, j < k → gt zs j = (j : Int)
theorem Idx.next {n k : Nat} {zs : List Int} (h : Idx n k zs) (hk : k < n) : Idx n (k + 1) (zs.set k (k : Int)) :=
  ⟨by rw [List.length_set]; exact h.len, fun j hj => by
    rw [gt_set (by rw [h.len]; exact hk)]
    split
    · rename_i e; rw [e]
    · exact h.at_ j (by omega)⟩
set_option maxRecDepth 100000 in
set_option maxHeartbeats 1600000 in
theorem largest_any (a : Option Addr) (L : List Int) (cap : Nat) (k : Int) (w : World) (hl : L.length ≤ 140737488351232) (hs : Sl w a L) :
    Calls Try.prog 13 #[.slice a L.length cap, .int .i64 k] w (LPost (largestV L k) w) := by
  have HS := Lib.hid hs; clear hs
  obtain ⟨i0, hi, hz0, hz1, hz2⟩ := info_parts Try.infoInt
  go_enter Try.func13, Try.ntmps13
  go_wp2_with fail
  have HB0 : Hid (Below w.heap.size w (w.alloc (.cells #[.slice a L.length cap] 22))) := (Below.refl _ _).alloc (Nat.le_refl _) _
  have hbox : (w.alloc (.cells #[.slice a L.length cap] 22)).cell? ⟨w.heap.size, 0, none⟩ = some (.slice a L.length cap) := alloc_cell _ _ _ _ _ rfl
  have hB : w.heap.size < (w.alloc (.cells #[.slice a L.length cap] 22)).heap.size := by rw [World.size_alloc]; omega
  have HLOW : Hid (1 ≤ L.length → ∀ ad, a = some ad → ad.block < w.heap.size) := fun h1 ad e => by
    obtain ⟨b, o, x, e2, hc, _⟩ := HS.out.at (k := 0) (by omega)
    rw [e] at e2; cases e2
    exact cell_lt hc
  generalize w.alloc (.cells #[.slice a L.length cap] 22) = W at *
  refine (validList_any a L cap W hl (HS.out.below HB0.out)).mono ?_
  rintro e w1 ⟨rfl, hb⟩
  have HB1 : Hid (Below w.heap.size w w1) := HB0.out.trans (hb.mono HB0.out.size)
  have hbox1 : w1.cell? ⟨w.heap.size, 0, none⟩ = some (.slice a L.length cap) := (hb.cell (p := ⟨w.heap.size, 0, none⟩) hB).trans hbox
  have hB1 : w.heap.size < w1.heap.size := Nat.lt_of_lt_of_le hB hb.size
  clear hbox hb hB HB0
  cases hv : validListB L
  · have HR : Hid (largestV L k = ([], 1)) := by show _ = _; unfold largestV; rw [hv]; rfl
    clear hv
    go_wp2
    go_ret2
    exact LPost.err 1 HR.out HB1.out
  · obtain ⟨h256, hall⟩ := list_256 hv
    have h1 := list_one hv
    have HV := Lib.hid hv
    have HA := Lib.hid hall
    clear hv hall
    by_cases hk : 0 ≤ k ∧ k ≤ L.length
    · obtain ⟨kk, rfl⟩ := Int.eq_ofNat_of_zero_le hk.1
      have hkk : kk ≤ L.length := by omega
      have HR : Hid (largestV L (kk : Int) = (topTo L (kk : Int) L.length, 0)) := by show _ = _; unfold largestV; rw [HV.out, if_pos rfl, if_pos hk]
      have HCL0 : Hid (Clo w.heap.size a L cap w1.heap.size w1) := ⟨hbox1, HS.out.below HB1.out, hB1, fun ad e => Nat.lt_trans (HLOW.out h1 ad e) hB1⟩
      clear hk
      go_wp2_with (with_reducible refine wpList_make_full _ rfl (.tmp 21) (.tmp 21) 22 rfl w1.heap.size 3 i0 (.int .i64 0) 1 Try.underlying22 hi hz0 hz1 .i64 .i64 (L.length : Int) (L.length : Int) L.length rfl rfl rfl rfl (by rw [hz2]; omega) (by unfold maxLen; omega) (Nat.le_refl _) ?_)
      rotate_left
      intro w4 hown hgrow
      have HO4 : Hid (OwnI w4 w1.heap.size (Dat w1.heap.size L.length L.length) (List.replicate L.length 0)) := by
        have z := zeros_are L.length
        rw [Nat.mul_one] at z
        show w4.ownsRow _ _ _ _ _ _
        rw [List.length_replicate, ← z]; exact hown
      have hb4 : Below w1.heap.size w1 w4 := (Below.refl _ _).grown hgrow (Nat.le_refl _) (fun k e => by cases e)
      have HCL4 := Lib.hid (HCL0.out.below hb4)
      have HB4 : Hid (Below w.heap.size w w4) := HB1.out.trans (hb4.mono (Nat.le_of_lt hB1))
      have hg : w.heap.size ≤ w1.heap.size := Nat.le_of_lt hB1
      clear hown hgrow hb4 hbox1 hB1 HCL0
      generalize w1.heap.size = g at *
      go_wp2
      go_loopw [25] (fun i wr => ∃ (j : Nat) (zs : List Int), j ≤ L.length ∧ i = .int .i64 j ∧ OwnI wr g (Dat g L.length L.length) zs ∧ Hid (Idx L.length j zs) ∧ Below g w4 wr) (fun i _ => L.length - (intOf i).toNat)
      case atStart => exact ⟨0, _, Nat.zero_le _, rfl, HO4.out, ⟨by simp, fun j hj => by omega⟩, Below.refl _ _⟩
      case round =>
        obtain ⟨j, zs, hj, rfl, hO, HI, hB⟩ := hrel
        have HO := Lib.hid hO; clear hO HO4
        have HB := Lib.hid hB; clear hB
        by_cases hlt : j < L.length
        · obtain ⟨hcz, hfz⟩ := HO.out.at' (j := j) (by rw [HI.out.len]; exact hlt)
          have HST := Lib.hid (HO.out.stored j (j : Int))
          go_wp2
          go_roundw
          case rel => exact ⟨j + 1, zs.set j (j : Int), by omega, by go_num, HST.out, HI.out.next hlt, HB.out.setCell (Nat.le_refl _) _⟩
          case measure => simp [intOf]; omega
        · obtain rfl : j = L.length := by omega
          have HZL : Hid (zs.length = L.length) := HI.out.len
          have HC := Lib.hid (HCL4.out.below HB.out)
          have HB5 : Hid (Below w.heap.size w wr) := HB4.out.trans (HB.out.mono hg)
          have HSF : Hid (Calls Try.prog 31 #[.slice (some ⟨g, 0, none⟩) L.length L.length, .func (.func 32) #[] #[.pointer (some ⟨w.heap.size, 0, none⟩)]] wr fun e' w' => ∃ ys, SPost g L.length L.length ys wr e' w' ∧ Rearr 0 zs.length zs ys ∧ Srt L 0 zs.length ys) := by
            have h := sortStable_any g L.length w.heap.size a L cap h256 HA.out zs wr HZL.out (fun q hq => HI.out.at_ q (by rw [← HZL.out]; exact hq)) (by rw [HZL.out]; exact HO.out) HC.out
            rw [HZL.out] at h ⊢
            exact h
          go_wp2_with fail
          refine HSF.out.mono ?_
          rintro e' w5 ⟨ys, ⟨rfl, hb, ho, hln⟩, hre, hsr⟩
          have HTOP : Hid ((ys.take kk).mergeSort (fun x y => decide (x ≤ y)) = topTo L (kk : Int) L.length) := top_is HZL.out (fun q hq => HI.out.at_ q (by rw [← HZL.out]; exact hq)) hre hsr hkk
          have HO6 := Lib.hid ho
          have HL6 := Lib.hid hln
          have HB6 : Hid (Below w.heap.size w w5) := HB5.out.trans (hb.mono hg)
          have hg6 : g < w5.heap.size := HO6.out.size_lt
          have HTL : Hid ((topTo L (kk : Int) L.length).length = kk) := by
            show _ = _
            rw [← HTOP.out, List.length_mergeSort, List.length_take, HL6.out]; omega
          clear hb ho hln hre hsr HSF HO HI HB HC HB5 HCL4 HB4
          go_wp2_with fail
          refine (sortI_any g L.length L.length kk kk ys w5 (by rw [HL6.out]; exact hkk) (by rw [HL6.out]; exact h256) HO6.out hg6).mono ?_
          rintro e' w6 ⟨rfl, hb, hsl⟩
          rw [HTOP.out] at hsl
          have HB7 : Hid (Below w.heap.size w w6) := HB6.out.trans (hb.mono hg)
          have HSL := Lib.hid hsl
          clear hb hsl
          go_wp2
          go_ret2
          rw [HR.out]
          exact ⟨HB7.out, _, _, by rw [HTL.out]; rfl, HSL.out⟩
    · have HR : Hid (largestV L k = ([], 7)) := by show _ = _; unfold largestV; rw [HV.out, if_pos rfl, if_neg hk]
      by_cases hk0 : k < 0
      · go_wp2
        go_ret2
        exact LPost.err 7 HR.out HB1.out
      · have hk2 : (L.length : Int) < k := by omega
        go_wp2
        go_ret2
        exact LPost.err 7 HR.out HB1.out
end Go.Proofs.Ytacbciamehchjaa
