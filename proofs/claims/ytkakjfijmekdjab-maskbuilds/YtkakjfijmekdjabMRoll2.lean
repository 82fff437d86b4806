/- Rolled of the answers of layer 2: a contract. -/
import Derived.Test.YtkakjfijmekdjabMRoll
import Derived.Test.YtkakjfijmekdjabMStepM
import Derived.Test.YtkakjfijmekdjabMWalsh3
namespace Go.Proofs.Ytkakjfijmekdjab
open Go.RowKit

theorem own_empty (w : World) (B : Nat) (hB : B ≤ w.heap.size) : OwnI (w.alloc (.cells #[] 3)).drew B (.slice (some ⟨w.heap.size, 0, none⟩) 0 0) [] := by
  refine ⟨by simp, .inr ⟨w.heap.size, 0, #[], rfl, hB, ?_, by simp, by unfold maxLen; omega, by simp, by simp⟩⟩
  show (w.heap.push (.cells #[] 3))[w.heap.size]? = _
  rw [Array.getElem?_push_size]

set_option maxRecDepth 100000 in
set_option maxHeartbeats 800000 in
theorem rRolled_any (a : Option Addr) (xs : List Int) (cap : Nat) (n : Int) (w : World) (hl : xs.length ≤ 9223372036854775807) (hcap : xs.length ≤ cap) (hcm : cap ≤ 9223372036854775807) (hs : Sl w a xs) :
    Calls Try.prog 40 #[.slice a xs.length cap, .int .i64 n] w (MPost (rolledV xs n) w) := by
  have HS := Lib.hid hs; clear hs
  go_enter Try.func40, Try.ntmps40
  go_wp2_with fail
  refine (rrow_any _ _ _ _ hl HS.out).mono ?_
  rintro e w1 ⟨rfl, rfl⟩
  cases hr : rowB xs
  · have HV : Hid (rolledV xs n = ([], 1)) := rolledV_1 hr
    clear hr
    go_wp2
    go_ret2
    exact MPost.err 1 HV.out (Below.refl _ _)
  · go_wp2_with fail
    refine (mwithin_any _ _ _ _).mono ?_
    rintro e w1 ⟨rfl, rfl⟩
    cases hn : rangeB n 1 6
    · have HV : Hid (rolledV xs n = ([], 7)) := rolledV_7 hr hn
      clear hr hn
      go_wp2
      go_ret2
      exact MPost.err 7 HV.out (Below.refl _ _)
    · have hnb : 1 ≤ n ∧ n ≤ 6 := by simpa [rangeB] using hn
      obtain ⟨n, rfl⟩ : ∃ m : Nat, n = (m : Int) := ⟨n.toNat, by omega⟩
      have HV : Hid (rolledV xs n = (rollM xs n, 0)) := rolledV_0 hr hn
      obtain ⟨hr1, hr10⟩ := rowB_len hr
      have hn1 : 1 ≤ n := by omega
      have hn6 : n ≤ 6 := by omega
      clear hr hn hnb
      go_wp2
      go_loopw [6, 16] (fun v i wr => ∃ (k : Nat) (hs : List RH), k ≤ n ∧ i = .int .i64 k ∧ OwnM wr w.heap.size v hs hs.length ∧ hs.length = k ∧ rowsOf hs = (rollM xs n).take k ∧ Below w.heap.size w wr) (fun _ i _ => n - (intOf i).toNat)
      case atStart => exact ⟨0, [], Nat.zero_le _, rfl, OwnM.nil _ _ _, rfl, rfl, Below.refl _ _⟩
      case round =>
        obtain ⟨k, hs, hk, rfl, hO, hkl, hrows, hB⟩ := hrel
        have HO := Lib.hid hO; clear hO
        have HKL := Lib.hid hkl; clear hkl
        have HRW := Lib.hid hrows; clear hrows
        have HB := Lib.hid hB; clear hB
        by_cases hlt : k < n
        · obtain ⟨b, off, x0, rfl, hx0, _⟩ := HS.out.at (show 0 < xs.length by omega)
          have hbw0 := cell_lt hx0
          clear hx0
          have e0 : ((xs.length : Int) == 0) = false := by rw [beq_eq_false_iff_ne]; omega
          have e1 : ((xs.length : Int) != 0) = true := by rw [bne_iff_ne]; omega
          have hme : (k : Int) % (xs.length : Int) = ((k % xs.length : Nat) : Int) := by simp
          obtain ⟨q, hq⟩ : ∃ q, k % xs.length = q := ⟨_, rfl⟩
          have hql : q < xs.length := by rw [← hq]; exact Nat.mod_lt _ (by omega)
          rw [hq] at hme
          obtain ⟨F, hF⟩ : ∃ F, xs.length - q = F := ⟨_, rfl⟩
          have hF1 : 1 ≤ F := by omega
          have hF2 : F ≤ xs.length := by omega
          have hsub : (xs.length : Int) - (q : Int) = (F : Int) := by omega
          have HROW : Hid (([] ++ xs.drop F) ++ xs.take F = rollRow xs k) := by show _ = _; unfold rollRow; rw [hq, hF]; rfl
          have HQ := Lib.hid hq; clear hq
          have HFF := Lib.hid hF; clear hF
          obtain ⟨o1, ho1, hso⟩ : ∃ o1, (if cap = F then (some ⟨b, off, none⟩ : Option Addr) else some ⟨b, off + F, none⟩) = some ⟨b, o1, none⟩ ∧ Sl wr (some ⟨b, o1, none⟩) (xs.drop F) := by
            by_cases e : cap = F
            · refine ⟨off, by rw [if_pos e], ?_⟩
              rw [List.drop_eq_nil_of_le (by omega)]; exact sl_empty _ _
            · exact ⟨off + F, by rw [if_neg e], sl_dropped (HS.out.below HB.out) F⟩
          have HSO := Lib.hid hso; clear hso
          have HST := Lib.hid (sl_taken (HS.out.below HB.out) F)
          have HDL : Hid ((xs.drop F).length = xs.length - F) := by show _ = _; simp
          have HTL : Hid ((xs.take F).length = F) := by show _ = _; simp; omega
          have HOE := Lib.hid (own_empty wr wr.heap.size (Nat.le_refl _))
          have HBE : Hid (Below wr.heap.size wr (wr.alloc (.cells #[] 3)).drew) := ((Below.refl _ _).alloc (Nat.le_refl _) _).drew
          have HTK : Hid ((rollM xs n).take (k + 1) = (rollM xs n).take k ++ [rollRow xs k]) := take_range_succ (rollRow xs) hlt
          have hkl6 : hs.length ≤ 1000 := by have := HKL.out; omega
          have hFi : (0 : Int) ≤ (F : Int) := by omega
          have hFj : (F : Int) ≤ (cap : Int) := by omega
          have hFk : (F : Int) ≤ (xs.length : Int) := by omega
          have hFl : (xs.length : Int) ≤ (cap : Int) := by omega
          have hFm : F ≤ cap := by omega
          have HN : Hid (xs.length - F + F ≤ 1000 ∧ F ≤ 1000) := ⟨by omega, by omega⟩
          go_wp2
          go_region_law (first
            | (refine step_pushL rfl (.tmp 27) (.tmp 30) rfl wr.heap.size _ [] b o1 (xs.drop F) (cap - F) _ (by rfl) (by rw [HDL.out]; rfl) HOE.out (HSO.out.below HBE.out) (by rw [HDL.out]; simp; omega) HBE.out.size ?_; intro v1 w5 ho1 hb1; have hbw5 := HBE.out.trans hb1)
            | (refine step_pushL rfl (.tmp 31) (.tmp 34) rfl wr.heap.size _ ([] ++ xs.drop F) b off (xs.take F) cap _ (by rfl) (by rw [HTL.out]; rfl) ho1 (HST.out.below hbw5) (by rw [HTL.out, List.nil_append, HDL.out]; omega) hbw5.size ?_; intro v2 w6 ho2 hb2; rw [HROW.out] at ho2; obtain ⟨ar, cr, rfl, sr, ltr⟩ := ho2.row; have hbw6 := hbw5.trans hb2)
            | (refine step_pushM rfl (.tmp 26) (.tmp 36) rfl w.heap.size _ hs ar (rollRow xs k) cr _ w6.heap.size (by rfl) (by rfl) (alloc_cell w6 _ _ _ _ rfl) ((HO.out.below hbw6).below ((Below.refl _ _).alloc (Nat.le_refl _) _)) (sr.alloc _) (fun ad e => ⟨by rw [World.size_alloc]; have := (ltr ad e).1; omega, HO.out.apart_of (Nat.le_refl _) (fun ad e => (ltr ad e).2) ad e⟩) hkl6 (by rw [World.size_alloc]; have := hbw6.size; have := HB.out.size; omega) ?_; intro v3 w7 ho3 hb3))
          all_goals
            have HBW6 := Lib.hid hbw6; clear hbw6
            have HB7 : Hid (Below w.heap.size w w7) := (Below.next HB.out HBW6.out (Nat.le_refl _)).trans (((Below.refl _ _).alloc (by have := HBW6.out.size; have := HB.out.size; omega) _).trans hb3)
            have HO3 := Lib.hid ho3; clear ho3
            clear hFi hFj hFk hFl hFm
            go_wp2
            go_roundw
            case rel => exact ⟨k + 1, _, by omega, by go_num, by rw [List.length_append]; exact HO3.out, by rw [List.length_append, HKL.out]; rfl, by rw [rowsOf_snoc, HRW.out, HTK.out], HB7.out⟩
            case measure => simp [intOf]; omega
        · obtain rfl : k = n := by omega
          have htk : (rollM xs k).take k = rollM xs k := List.take_of_length_le (by simp [rollM])
          go_wp2
          go_ret2
          exact MPost.own (by rw [HV.out, HRW.out, htk]) HB.out HO.out (Nat.le_refl _)
end Go.Proofs.Ytkakjfijmekdjab
