/- Rolled of layer 2: words and a contract. -/
import Derived.Test.YtkakjfijmekdjabMFill
import Derived.Test.YtkakjfijmekdjabPushL
import Derived.Test.YtkakjfijmekdjabMVal2
import Derived.Deep.RegionLaw
import Derived.Deep.QuietTactic
import Derived.BigQuiet
namespace Go.Proofs.Ytkakjfijmekdjab
open Go.RowKit

def rollRow (r : List Int) (k : Nat) : List Int := r.drop (r.length - k % r.length) ++ r.take (r.length - k % r.length)
def rollM (r : List Int) (n : Nat) : List (List Int) := (List.range n).map (rollRow r)
def rolledV (r : List Int) (n : Int) : List (List Int) × Int := if rowB r = true then (if rangeB n 1 6 = true then (rollM r n.toNat, 0) else ([], 7)) else ([], 1)
theorem rolledV_1 {r : List Int} {n : Int} (h : rowB r = false) : rolledV r n = ([], 1) := by unfold rolledV; rw [h]; rfl
theorem rolledV_7 {r : List Int} {n : Int} (h : rowB r = true) (h2 : rangeB n 1 6 = false) : rolledV r n = ([], 7) := by unfold rolledV; rw [h, h2]; rfl
theorem rolledV_0 {r : List Int} {n : Nat} (h : rowB r = true) (h2 : rangeB (n : Int) 1 6 = true) : rolledV r (n : Int) = (rollM r n, 0) := by unfold rolledV; rw [h, h2]; simp
theorem rowB_len {r : List Int} (h : rowB r = true) : 1 ≤ r.length ∧ r.length ≤ 10 := by
  unfold rowB at h
  simp only [Bool.and_eq_true] at h
  have := h.1
  simp [rangeB] at this; omega
theorem sl_dropped {w : World} {b off : Nat} {xs : List Int} (h : Sl w (some ⟨b, off, none⟩) xs) (F : Nat) : Sl w (some ⟨b, off + F, none⟩) (xs.drop F) := by
  intro k hk
  have hk' : F + k < xs.length := by simp at hk; omega
  obtain ⟨b', o', e, hc⟩ := h (F + k) hk'
  obtain ⟨rfl, rfl⟩ : b = b' ∧ off = o' := by simpa using e
  refine ⟨b, off + F, rfl, ?_⟩
  rw [Nat.add_assoc, hc]
  simp
theorem sl_taken {w : World} {a : Option Addr} {xs : List Int} (h : Sl w a xs) (F : Nat) : Sl w a (xs.take F) := by
  intro k hk
  have h1 : k < xs.length := by rw [List.length_take] at hk; omega
  have h2 : k < F := by rw [List.length_take] at hk; omega
  obtain ⟨b', o', e, hc⟩ := h k h1
  exact ⟨b', o', e, by rw [hc]; simp [h1, h2]⟩
theorem sl_empty (w : World) (a : Option Addr) : Sl w a [] := fun k h => absurd h (by simp)
theorem concat_two (B b o1 o2 c1 c2 : Nat) (xs ys : List Int) (w : World) (hx : Sl w (some ⟨b, o1, none⟩) xs) (hy : Sl w (some ⟨b, o2, none⟩) ys) (k0 : w.cell? ⟨B, 0, none⟩ = some (.slice (some ⟨b, o1, none⟩) xs.length c1)) (k1 : w.cell? ⟨B, 1, none⟩ = some (.slice (some ⟨b, o2, none⟩) ys.length c2))
    (h1 : 1 ≤ xs.length + ys.length) (h2 : xs.length + ys.length ≤ 1000) :
    Calls Try.prog 75 #[.slice (some ⟨B, 0, none⟩) 2 2] w fun e w' => ∃ v, e = .returned v ∧ OwnI w' w.heap.size v (xs ++ ys) ∧ Below w.heap.size w w' := by
  have hcat : catTo [(b, o1, xs, c1), (b, o2, ys, c2)] 2 = xs ++ ys := by simp [catTo]
  have hB : B < w.heap.size := cell_lt k0
  have := concat_any B [(b, o1, xs, c1), (b, o2, ys, c2)] w (by simp) (by show 1 ≤ (catTo _ 2).length; rw [hcat, List.length_append]; exact h1) (by show (catTo _ 2).length ≤ 1000; rw [hcat, List.length_append]; exact h2) (fun k hk => by
    obtain rfl | rfl : k = 0 ∨ k = 1 := by simp at hk; omega
    · exact ⟨b, o1, xs, c1, rfl, k0, hx⟩
    · exact ⟨b, o2, ys, c2, rfl, k1, hy⟩) hB
  rw [show catTo [(b, o1, xs, c1), (b, o2, ys, c2)] [(b, o1, xs, c1), (b, o2, ys, c2)].length = xs ++ ys from hcat] at this
  exact this

set_option maxRecDepth 100000 in
set_option maxHeartbeats 800000 in
theorem mRolled_any (a : Option Addr) (xs : List Int) (cap : Nat) (n : Int) (w : World) (hl : xs.length ≤ 9223372036854775807) (hcap : xs.length ≤ cap) (hcm : cap ≤ 9223372036854775807) (hs : Sl w a xs) :
    Calls Try.prog 39 #[.slice a xs.length cap, .int .i64 n] w (MPost (rolledV xs n) w) := by
  have HS := Lib.hid hs; clear hs
  obtain ⟨i0, hi, hz0, hz1, hz2⟩ := info_parts Try.infoRow
  go_enter Try.func39, Try.ntmps39
  go_wp2_with fail
  refine (validRow_any _ _ _ _ hl HS.out).mono ?_
  rintro e w1 ⟨rfl, hb1⟩
  have HB1 := Lib.hid hb1; clear hb1
  cases hr : rowB xs
  · have HV : Hid (rolledV xs n = ([], 1)) := rolledV_1 hr
    clear hr
    go_wp2
    go_ret2
    exact MPost.err 1 HV.out HB1.out
  · cases hn : rangeB n 1 6
    · have HV : Hid (rolledV xs n = ([], 7)) := rolledV_7 hr hn
      have hn' : n < 1 ∨ 6 < n := by simp [rangeB] at hn; omega
      clear hr hn
      rcases hn' with h | h
      · go_wp2
        go_ret2
        exact MPost.err 7 HV.out HB1.out
      · have h' : 1 ≤ n := by omega
        go_wp2
        go_ret2
        exact MPost.err 7 HV.out HB1.out
    · have hnb : 1 ≤ n ∧ n ≤ 6 := by simpa [rangeB] using hn
      obtain ⟨n, rfl⟩ : ∃ m : Nat, n = (m : Int) := ⟨n.toNat, by omega⟩
      have HV : Hid (rolledV xs n = (rollM xs n, 0)) := rolledV_0 hr hn
      obtain ⟨hr1, hr10⟩ := rowB_len hr
      have hn1 : 1 ≤ n := by omega
      have hn6 : n ≤ 6 := by omega
      clear hr hn hnb
      go_wp2_with (with_reducible refine wpList_make_full _ rfl (.tmp 18) (.tmp 18) 23 rfl w1.heap.size 26 i0 (.slice none 0 0) 1 Try.underlying23 hi hz0 hz1 .i64 .i64 (n : Int) (n : Int) n rfl rfl rfl rfl (by rw [hz2]; omega) (by unfold maxLen; omega) (Nat.le_refl _) ?_)
      rotate_left
      intro w4 hown hgrow
      have HO4 : Hid (OwnM w4 w1.heap.size (.slice (some ⟨w1.heap.size, 0, none⟩) n n) (List.replicate n (none, [], 0)) (List.replicate n ((none, [], 0) : RH)).length) := OwnM.made _ (by rw [Nat.mul_one]; exact hown)
      have HB4 : Hid (Below w.heap.size w w4) := Below.next HB1.out ((Below.refl _ _).grown hgrow (Nat.le_refl _) (fun k e => by cases e)) (Nat.le_refl _)
      obtain ⟨g, hg⟩ : ∃ g, w1.heap.size = g := ⟨_, rfl⟩
      rw [hg] at HO4 ⊢
      have HG : Hid (w.heap.size ≤ g) := by show _ ≤ g; rw [← hg]; exact HB1.out.size
      clear hown hgrow hg
      go_wp2
      go_loopw [22] (fun i wr => ∃ (k : Nat) (hs : List RH), k ≤ n ∧ i = .int .i64 k ∧ OwnM wr g (.slice (some ⟨g, 0, none⟩) n n) hs hs.length ∧ FillM (rollRow xs) n k hs ∧ Below w.heap.size w wr) (fun i _ => n - (intOf i).toNat)
      case atStart => exact ⟨0, _, Nat.zero_le _, rfl, HO4.out, FillM.start _ _, HB4.out⟩
      case round =>
        obtain ⟨k, hs, hk, rfl, hO, hF, hB⟩ := hrel
        have HO := Lib.hid hO; clear hO
        have HF := Lib.hid hF; clear hF
        have HB := Lib.hid hB; clear hB
        by_cases hlt : k < n
        · obtain ⟨b, off, x0, rfl, _, _⟩ := HS.out.at (show 0 < xs.length by omega)
          have e0 : ((xs.length : Int) == 0) = false := by rw [beq_eq_false_iff_ne]; omega
          have e1 : ((xs.length : Int) != 0) = true := by rw [bne_iff_ne]; omega
          have hme : (k : Int) % (xs.length : Int) = ((k % xs.length : Nat) : Int) := by simp
          obtain ⟨q, hq⟩ : ∃ q, k % xs.length = q := ⟨_, rfl⟩
          have hql : q < xs.length := by rw [← hq]; exact Nat.mod_lt _ (by omega)
          rw [hq] at hme
          obtain ⟨F, hF⟩ : ∃ F, xs.length - q = F := ⟨_, rfl⟩
          have hF1 : 1 ≤ F := by omega
          have hF2 : F ≤ xs.length := by omega
          have hsub : (xs.length : Int) - (q : Int) = (F : Int) := by omega
          have HROW : Hid (rollRow xs k = xs.drop F ++ xs.take F) := by show _ = _; unfold rollRow; rw [hq, hF]
          have HQ := Lib.hid hq; clear hq
          have HFF := Lib.hid hF; clear hF
          have hkl : k < hs.length := by rw [HF.out.len]; exact hlt
          obtain ⟨hcz, hfz⟩ := HO.out.cell (HF.out.todo k (Nat.le_refl _) hlt)
          clear hkl
          obtain ⟨o1, ho1, hso⟩ : ∃ o1, (if cap = F then (some ⟨b, off, none⟩ : Option Addr) else some ⟨b, off + F, none⟩) = some ⟨b, o1, none⟩ ∧ Sl wr (some ⟨b, o1, none⟩) (xs.drop F) := by
            by_cases e : cap = F
            · refine ⟨off, by rw [if_pos e], ?_⟩
              rw [List.drop_eq_nil_of_le (by omega)]; exact sl_empty _ _
            · exact ⟨off + F, by rw [if_neg e], sl_dropped (HS.out.below HB.out) F⟩
          have hgs := HO.out.lt.1
          obtain ⟨W2, hW2⟩ : ∃ W2, W2 = (wr.alloc (.cells #[.slice (some ⟨b, o1, none⟩) (xs.length - F) (cap - F), .slice (some ⟨b, off, none⟩) F cap] 26)).drew := ⟨_, rfl⟩
          have HBW : Hid (Below wr.heap.size wr W2) := by show Below _ _ _; rw [hW2]; exact ((Below.refl _ _).alloc (Nat.le_refl _) _).drew
          have HSZ : Hid (wr.heap.size < W2.heap.size) := by show _ < _; rw [hW2]; simp
          have HDL : Hid ((xs.drop F).length = xs.length - F) := by show _ = _; simp
          have HTL : Hid ((xs.take F).length = F) := by show _ = _; simp; omega
          have HK0 : Hid (W2.cell? ⟨wr.heap.size, 0, none⟩ = some (.slice (some ⟨b, o1, none⟩) (xs.drop F).length (cap - F))) := by show _ = _; rw [hW2, HDL.out]; exact alloc_cell wr _ _ _ _ rfl
          have HK1 : Hid (W2.cell? ⟨wr.heap.size, 1, none⟩ = some (.slice (some ⟨b, off, none⟩) (xs.take F).length cap)) := by show _ = _; rw [hW2, HTL.out]; exact alloc_cell wr _ _ _ _ rfl
          have HCC := Lib.hid (concat_two wr.heap.size b o1 off (cap - F) cap (xs.drop F) (xs.take F) W2 (hso.below HBW.out) (sl_taken ((HS.out.below HB.out).below HBW.out) F) HK0.out HK1.out (by rw [HDL.out, HTL.out]; omega) (by rw [HDL.out, HTL.out]; omega))
          have HGS := Lib.hid hgs
          clear hso HK0 HK1 HDL HTL
          have HW2 := Lib.hid hW2; clear hW2
          have hFi : (0 : Int) ≤ (F : Int) := by omega
          have hFj : (F : Int) ≤ (cap : Int) := by omega
          have hFk : (F : Int) ≤ (xs.length : Int) := by omega
          have hFl : (xs.length : Int) ≤ (cap : Int) := by omega
          have hFm : F ≤ cap := by omega
          go_wp2
          go_region_law (first | (go_simp; rw [← HW2.out]; go_at_call 75; refine HCC.out.mono ?_; rintro e w9 ⟨v', rfl, ho', hb'⟩; rw [← HROW.out] at ho'; obtain ⟨ar', cr', rfl, sr', ltr'⟩ := ho'.row; have hbw := HBW.out.trans (hb'.mono (Nat.le_of_lt HSZ.out)); have hc9 := (hbw.cell (p := ⟨g, k, none⟩) HGS.out).trans hcz; have hf9 := (hbw.frozen (p := ⟨g, k, none⟩) HGS.out).trans hfz))
          all_goals
            have HS9 := Lib.hid sr'; clear sr'
            have HL9 := Lib.hid ltr'; clear ltr'
            have HBW9 := Lib.hid hbw; clear hbw hb' ho'
            have hgne : Hid (∀ ad, ar' = some ad → ad.block < w9.heap.size ∧ ad.block ≠ g) := fun ad ha => ⟨(HL9.out ad ha).1, by have := (HL9.out ad ha).2; have := HGS.out; have := HSZ.out; omega⟩
            have HPUT := Lib.hid ((((HO.out.skip (Nat.le_refl _) k).below HBW9.out)).put (hs.set k (ar', rollRow xs k, cr')).length cr' HS9.out hgne.out)
            have HFN := Lib.hid (HF.out.next hlt (a := ar') (r := rollRow xs k) (c := cr') rfl)
            clear hFi hFj hFk hFl hFm
            go_wp2
            go_roundw
            case rel => exact ⟨k + 1, _, by omega, by go_num, HPUT.out, HFN.out, (Below.next HB.out HBW9.out (Nat.le_refl _)).setCell HG.out _⟩
            case measure => simp [intOf]; omega
        · obtain rfl : k = n := by omega
          have HZ := Lib.hid HF.out.all
          go_wp2
          go_ret2
          exact MPost.own (by rw [HV.out, HZ.out]; rfl) HB.out HO.out (Nat.le_refl _)
end Go.Proofs.Ytkakjfijmekdjab
