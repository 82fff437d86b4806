/- Parts of the proof of SparseWhole: plain words, walks and contracts, each under its own heading. -/
import Derived.Test.YtfkmlonhhdcfpaaSparseWholePF
import Derived.Test.YtfkmlonhhdcfpaaSparseWholePD
import Derived.Test.YtfkmlonhhdcfpaaSparseWholePE
/- Whole of layer 4: both sides answer the same. -/
namespace Go.Proofs.Ytfkmlonhhdcfpaa
open Go.RowKit Go.Shelf

theorem up_fits {m : List (List Int)} {y : List Int} {k : Int} : (fitsKV m y k).2 = upE m y k := by
  unfold fitsKV upE
  split
  · split <;> rfl
  · rfl
theorem whole_ok {m : List (List Int)} {y : List Int} {kk : Nat} (hr : readE m y = 0) (hk : kk ≤ 10) : wholeV m y kk = ((fitsTo whB m y (min kk (rankM m) + 1)).map (picF (colsM m)), 0) := by
  have hb : rangeB (kk : Int) 0 10 = true := by simp [rangeB]; omega
  have e : fitsKV m y kk = (shortF kk (allFits m y), 0) := by unfold fitsKV; rw [if_pos hr, if_pos hb]
  unfold wholeV wholeTo
  rw [e]
  dsimp only
  rw [List.take_length, whole_eq hr hk]
theorem whole_no {m : List (List Int)} {y : List Int} {k : Int} (h : upE m y k ≠ 0) : wholeV m y k = ([], upE m y k) := by
  have e : (fitsKV m y k).1 = [] := by
    unfold upE at h
    unfold fitsKV
    split
    · rename_i h1
      rw [if_pos h1] at h
      split
      · rename_i h2; rw [if_pos h2] at h; exact absurd rfl h
      · rfl
    · rfl
  unfold wholeV wholeTo
  rw [e, up_fits]
  rfl
set_option maxRecDepth 100000 in
set_option maxHeartbeats 1600000 in
theorem swhole_any (a : Option Addr) (m : List (List Int)) (cap : Nat) (ya : Option Addr) (y : List Int) (yc : Nat) (k : Int) (w : World) (hm : MOk m) (hly : y.length ≤ 1000) (hs : Ms w a m) (hy : Sl w ya y) :
    Calls Try.prog 31 #[.slice a m.length cap, .slice ya y.length yc, .int .i64 k] w (LLPost (wholeV m y k) w) := by
  by_cases hu : upE m y k = 0
  · have hr : readE m y = 0 := by
      unfold upE at hu
      split at hu
      · assumption
      · exact hu
    have hk : 0 ≤ k ∧ k ≤ 10 := by
      unfold upE at hu
      rw [if_pos hr] at hu
      split at hu
      · rename_i h; simpa [rangeB] using h
      · cases hu
    obtain ⟨kk, rfl⟩ := Int.eq_ofNat_of_zero_le hk.1
    rw [whole_ok hr (by omega)]
    exact callsIn_wide.1 (whole_in a m cap ya y yc kk w hm hly hs hy hr (by omega))
  · rw [whole_no hu]
    obtain ⟨V, hV⟩ : ∃ V, w.alloc (.cells #[.slice a m.length cap] 23) = V := ⟨_, rfl⟩
    have hbv : Below w.heap.size w V := by rw [← hV]; exact (Below.refl _ _).alloc (Nat.le_refl _) _
    have HBV := Lib.hid hbv
    obtain ⟨e0, he0⟩ : ∃ e0, upE m y k = e0 := ⟨_, rfl⟩
    have HUP : Hid (Calls Try.prog 68 #[.slice a m.length cap, .slice ya y.length yc, .int .i64 k] V fun e w' => e = .returned (.tuple #[.agg #[.slice none 0 0, .slice none 0 0], .int .i64 e0]) ∧ Below V.heap.size V w') := by
      have h := askUp_any a m cap ya y yc k V hm (by omega) (hs.below hbv) (hy.below hbv)
      rw [if_neg hu, he0] at h
      exact h
    have t0 : V.cell? ⟨w.heap.size, 0, none⟩ = some (.slice a m.length cap) := by rw [← hV]; exact alloc_cell _ _ _ _ _ rfl
    rw [he0] at hu ⊢
    have y1 : (e0 == 0) = false := by simpa using hu
    have y2 : (e0 != 0) = true := by simpa using hu
    clear hbv he0 hu hm hs hy
    go_enter Try.func31, Try.ntmps31
    go_wp2_with (go_at_call 68; refine HUP.out.mono ?_; rintro e w1 ⟨rfl, hb1⟩; have HB1 : Hid (Below w.heap.size w w1) := HBV.out.trans (hb1.mono HBV.out.size); clear hb1)
    go_ret2
    exact ⟨HB1.out.alloc HB1.out.size _, none, 0, rfl, fun i hi => by simp at hi⟩
end Go.Proofs.Ytfkmlonhhdcfpaa
/- Circuit and Spark of the answers: contracts. -/
namespace Go.Proofs.Ytfkmlonhhdcfpaa
open Go.RowKit

set_option maxRecDepth 100000 in
set_option maxHeartbeats 800000 in
theorem rcircuits_no (a : Option Addr) (m : List (List Int)) (cap : Nat) (w : World) (hv : validM m = false) (hm : MOk m) (hs : Ms w a m) :
    Calls Try.prog 108 #[.slice a m.length cap] w fun e w' => e = .returned (.tuple #[.slice none 0 0, .int .i64 1]) ∧ w = w' := by
  have HVA : Hid (Calls Try.prog 45 #[.slice a m.length cap] w fun e w' => e = .returned (.bool false) ∧ w = w') := by rw [← hv]; exact rvalid_any a m cap w hm hs
  clear hv hm hs
  go_enter Try.func108, Try.ntmps108
  go_wp2_with (go_at_call 45; refine HVA.out.mono ?_; rintro e w1 ⟨rfl, rfl⟩)
  go_ret2
  exact ⟨rfl, rfl⟩
set_option maxRecDepth 100000 in
set_option maxHeartbeats 800000 in
theorem rcircuit_any (a : Option Addr) (m : List (List Int)) (cap : Nat) (w : World) (hm : MOk m) (hs : Ms w a m) : Calls Try.prog 79 #[.slice a m.length cap] w (LPost (circuitV m) w) := by
  cases hv : validM m with
  | false =>
    have HC := Lib.hid (rcircuits_no a m cap w hv hm hs)
    have HE : Hid (circuitV m = ([], 1)) := by show _ = _; unfold circuitV; rw [hv]; rfl
    clear hv hm hs
    go_enter Try.func79, Try.ntmps79
    go_wp2_with (go_at_call 108; refine HC.out.mono ?_; rintro e w1 ⟨rfl, rfl⟩)
    go_ret2
    exact LPost.err 1 HE.out (Below.refl _ _)
  | true =>
    have h0 := rcircuits_any a m cap w hv hm hs
    rw [circs_same hv] at h0
    have HC := Lib.hid h0
    have HE : Hid (circuitV m = match circsAll m with | [] => ([], 8) | h :: _ => (h, 0)) := by show _ = _; unfold circuitV; rw [if_pos hv]; cases circsAll m <;> rfl
    obtain ⟨L, hL⟩ : ∃ L, circsAll m = L := ⟨_, rfl⟩
    rw [hL] at HC HE
    clear hv hm hs h0 hL
    cases L with
    | nil =>
      go_enter Try.func79, Try.ntmps79
      go_wp2_with (go_at_call 108; refine HC.out.mono ?_; rintro e w1 ⟨ca, cc, rfl, _, hb⟩; have HB := Lib.hid hb; clear hb)
      go_ret2
      exact LPost.err 8 HE.out HB.out
    | cons h t =>
      obtain ⟨n, hn⟩ : ∃ n, (h :: t).length = n := ⟨_, rfl⟩
      have hn1 : (0 : Int) < (n : Int) := by have : n = t.length + 1 := by rw [← hn]; rfl
                                             omega
      have hn2 : ((n : Int) == 0) = false := by simp; omega
      rw [hn] at HC
      have HN := Lib.hid hn
      clear hn
      go_enter Try.func79, Try.ntmps79
      go_wp2_with fail
      refine HC.out.mono ?_
      rintro e w1 ⟨ca, cc, rfl, hms, hb⟩
      have HB := Lib.hid hb
      obtain ⟨b, o, ah, ch, rfl, hc, hsl⟩ := hms 0 (by rw [HN.out]; omega)
      have hc : w1.cell? ⟨b, o, none⟩ = some (.slice ah h.length ch) := hc
      have hsl : Sl w1 ah h := hsl
      have HSL := Lib.hid hsl
      clear hb hms hsl
      go_wp2
      go_ret2
      exact ⟨HB.out, ah, ch, by rw [HE.out]; rfl, by rw [HE.out]; exact HSL.out⟩
set_option maxRecDepth 100000 in
set_option maxHeartbeats 800000 in
theorem rspark_any (a : Option Addr) (m : List (List Int)) (cap : Nat) (w : World) (hm : MOk m) (hs : Ms w a m) :
    Calls Try.prog 39 #[.slice a m.length cap] w fun e w' => e = .returned (.tuple #[.int .i64 (sparkV m).1, .int .i64 (sparkV m).2]) ∧ Below w.heap.size w w' := by
  have HCI : Hid (Calls Try.prog 79 #[.slice a m.length cap] w (LPost (circuitV m) w)) := rcircuit_any a m cap w hm hs
  have HL := Lib.hid (circuitV_len (m := m))
  have HSP : Hid (sparkV m = if (circuitV m).2 = 0 then (nzTo (circuitV m).1 (circuitV m).1.length, 0) else (0, (circuitV m).2)) := rfl
  clear hm hs
  obtain ⟨⟨h, e0⟩, hr⟩ : ∃ r, circuitV m = r := ⟨_, rfl⟩
  rw [hr] at HCI HL HSP
  dsimp only at HL HSP
  clear hr
  by_cases he : e0 = 0
  · subst he
    rw [if_pos rfl] at HSP
    rw [HSP.out]
    dsimp only
    clear HSP
    go_enter Try.func39, Try.ntmps39
    go_wp2_with (go_at_call 79; refine HCI.out.mono ?_; rintro e w1 ⟨hb1, ah, ch, rfl, hsl⟩; dsimp only at hsl ⊢; have HB := Lib.hid hb1; have HS := Lib.hid hsl; clear hb1 hsl)
    go_loopw [6, 19] (fun v i wr => ∃ k : Nat, k ≤ h.length ∧ i = .int .i64 k ∧ v = .int .i64 (nzTo h k) ∧ wr = w1) (fun _ i _ => h.length - (intOf i).toNat)
    case atStart => exact ⟨0, Nat.zero_le _, rfl, rfl, rfl⟩
    case round =>
      obtain ⟨k, hk, rfl, rfl, rfl⟩ := hrel
      have hl := HL.out
      by_cases hlt : k < h.length
      · obtain ⟨b, o, x, rfl, hc, hx⟩ := HS.out.at hlt
        have hgx := gt_some' hx.out
        have hin := nzTo_in h k
        by_cases h0 : x = 0
        · subst h0
          have HT : Hid (nzTo h (k + 1) = nzTo h k) := by show _ = _; rw [nzTo, if_pos hgx]
          clear hgx
          go_wp2
          go_roundw
          case rel => exact ⟨k + 1, by omega, by go_num, by rw [HT.out], by first | trivial | rfl⟩
          case measure => simp [intOf]; omega
        · have HT : Hid (nzTo h (k + 1) = nzTo h k + 1) := by show _ = _; rw [nzTo, if_neg (by rw [hgx]; exact h0)]
          clear hgx
          have hne : (x != 0) = true := by simpa using h0
          obtain ⟨n, hn⟩ : ∃ n, nzTo h k = n := ⟨_, rfl⟩
          rw [hn] at hin HT ⊢
          clear hn
          go_wp2
          go_roundw
          case rel => exact ⟨k + 1, by omega, by go_num, by rw [HT.out], by first | trivial | rfl⟩
          case measure => simp [intOf]; omega
      · obtain rfl : k = h.length := by omega
        go_wp2
        go_ret2
        exact ⟨rfl, HB.out⟩
  · rw [if_neg he] at HSP
    rw [HSP.out]
    dsimp only
    have hne : (e0 != 0) = true := by simpa using he
    clear HSP he
    go_enter Try.func39, Try.ntmps39
    go_wp2_with (go_at_call 79; refine HCI.out.mono ?_; rintro e w1 ⟨hb1, ah, ch, rfl, hsl⟩; dsimp only; have HB := Lib.hid hb1; clear hb1 hsl)
    go_ret2
    exact ⟨rfl, HB.out⟩
end Go.Proofs.Ytfkmlonhhdcfpaa
/- Light of the statements, whatever it says; Circuits of the answers, whole. -/
namespace Go.Proofs.Ytfkmlonhhdcfpaa
open Go.RowKit

set_option maxRecDepth 100000 in
set_option maxHeartbeats 800000 in
theorem light_any (a : Option Addr) (m : List (List Int)) (cap : Nat) (w : World) (hl : m.length ≤ 9223372036854775807) (hs : Ms w a m) :
    Calls Try.prog 8 #[.slice a m.length cap] w fun e w' => (∃ b, e = .returned (.bool b)) ∧ w = w' := by
  have HS := Lib.hid hs; clear hs
  go_enter Try.func8, Try.ntmps8
  go_wp2
  go_loopw [3, 8] (fun v i wr => ∃ k : Nat, k ≤ m.length ∧ i = .int .i64 k ∧ (∃ n, v = .int .i64 n) ∧ wr = w) (fun _ i _ => m.length - (intOf i).toNat)
  case atStart => exact ⟨0, Nat.zero_le _, rfl, ⟨_, rfl⟩, rfl⟩
  case round =>
    obtain ⟨k, hk, rfl, ⟨n, rfl⟩, rfl⟩ := hrel
    by_cases hlt : k < m.length
    · obtain ⟨b, o, ai, r, ci, rfl, hc, _, hr⟩ := HS.out.at hlt
      clear hr
      obtain ⟨rl, hrl⟩ : ∃ rl, r.length = rl := ⟨_, rfl⟩
      rw [hrl] at hc
      clear hrl
      by_cases h7 : (7 : Int) < rl
      · by_cases h10 : (rl : Int) ≤ 10
        · go_wp2
          go_ret
          exact ⟨⟨_, rfl⟩, rfl⟩
        · go_wp2
          go_roundw
          case rel => exact ⟨k + 1, by omega, by go_num, ⟨_, rfl⟩, by first | trivial | rfl⟩
          case measure => simp [intOf]; omega
      · go_wp2
        go_roundw
        case rel => exact ⟨k + 1, by omega, by go_num, ⟨_, rfl⟩, by first | trivial | rfl⟩
        case measure => simp [intOf]; omega
    · obtain rfl : k = m.length := by omega
      go_wp2
      go_ret
      exact ⟨⟨_, rfl⟩, rfl⟩
theorem rcircuitsV_any (a : Option Addr) (m : List (List Int)) (cap : Nat) (w : World) (hm : MOk m) (hs : Ms w a m) :
    Calls Try.prog 108 #[.slice a m.length cap] w fun e w' => ∃ ca cc, e = .returned (.tuple #[.slice ca (circsV m).1.length cc, .int .i64 (circsV m).2]) ∧ Ms w' ca (circsV m).1 ∧ Below w.heap.size w w' := by
  cases hv : validM m with
  | false =>
    have e0 : circsV m = ([], 1) := by unfold circsV; rw [hv]; rfl
    rw [e0]
    refine (rcircuits_no a m cap w hv hm hs).mono ?_
    rintro e w' ⟨rfl, rfl⟩
    exact ⟨none, 0, rfl, fun k hk => by simp at hk, Below.refl _ _⟩
  | true =>
    have e0 : circsV m = (circsAll m, 0) := by unfold circsV; rw [if_pos hv]
    rw [e0]
    have h := rcircuits_any a m cap w hv hm hs
    rw [circs_same hv] at h
    exact h
theorem circsV_bd (m : List (List Int)) : (circsV m).1.length ≤ 10000 ∧ ∀ r ∈ (circsV m).1, r.length ≤ 10 := by
  cases hv : validM m with
  | false =>
    have e0 : circsV m = ([], 1) := by unfold circsV; rw [hv]; rfl
    rw [e0]; exact ⟨by simp, fun r hr => by cases hr⟩
  | true =>
    have e0 : circsV m = (circsAll m, 0) := by unfold circsV; rw [if_pos hv]
    rw [e0]
    exact ⟨circsAll_small hv, fun r hr => by rw [circsAll_len hr]; exact (validM_of hv).2.2.2.1⟩
end Go.Proofs.Ytfkmlonhhdcfpaa
/- SparseWhole: the walk. -/
namespace Go.Proofs.Ytfkmlonhhdcfpaa.sparseWhole
open Go.RowKit Go.Shelf

theorem bel_tr {w V V' : World} (hb : Below w.heap.size w V) (h : Below V.heap.size V V') : Below w.heap.size w V' := hb.trans (h.mono hb.size)
/-- What is shown: few rows, and short ones. -/
theorem whole_small (m : List (List Int)) (y : List Int) (k : Int) : (wholeV m y k).1.length ≤ 3300 := by
  have hYL : (fitsKV m y k).1.length ≤ 3300 := by
    unfold fitsKV
    split
    · rename_i h1
      split
      · refine Nat.le_trans (List.length_filter_le _ _) ?_
        have := allFits_len (readE_ok h1).1 y zB (min 10 (rankM m) + 1) (by omega)
        show (fitsTo _ _ _ _).length ≤ _
        omega
      · simp
    · simp
  unfold wholeV wholeTo
  rw [List.length_map]
  exact Nat.le_trans (List.length_filter_le _ _) (by rw [List.length_take]; omega)
theorem same_l {R : List (List Int)} {rl : Nat} {V : World} {a b : Option Addr} {ca cb : Nat} (h : Hid (R.length ≤ 3300 ∧ ∀ r ∈ R, r.length ≤ 1000)) (hl : Hid (R.length = rl)) (ha : Hid (Ms V a R)) (hb : Hid (Ms V b R)) : Calls Try.prog 33 #[.slice a rl ca, .slice b rl cb] V fun e w' => e = .returned (.bool true) ∧ Below V.heap.size V w' := by
  have e := hl.out
  subst e
  have hs : R.length ≤ 100000 ∧ ∀ r ∈ R, r.length ≤ 100000 := ⟨by have := h.out.1; omega, fun r hr => by have := h.out.2 r hr; omega⟩
  refine (sameLists_any a R ca b R cb V hs hs ha.out hb.out).mono ?_
  rintro e w' ⟨h1, h2⟩
  exact ⟨by rw [h1]; simp, h2⟩
set_option maxRecDepth 1000000 in
set_option maxHeartbeats 8000000 in
theorem walk (b0 : Option Addr) (m0 : List (List Int)) (c0 : Nat) (b1 : Option Addr) (xs1 : List Int) (c1 : Nat) (m2 : Int) (w : World) (h0 : Ms w b0 m0) (r0 : MOk m0) (h1 : Sl w b1 xs1) (l1 : xs1.length ≤ 9223372036854775807) (_r1 : ∀ x ∈ xs1, I64 x) (_r2 : I64 m2) :
    Calls Try.prog 6 #[.slice b0 m0.length c0, .slice b1 xs1.length c1, .int .i64 m2] w fun e w' => e = .returned (.bool true) ∧ Below w.heap.size w w' := by
  have HLI : Hid (Calls Try.prog 8 #[.slice b0 m0.length c0] w fun e w' => (∃ b, e = .returned (.bool b)) ∧ w = w') := light_any b0 m0 c0 w r0.1 h0
  obtain ⟨wl, hwl⟩ : ∃ wl, (w.alloc (.cells #[.slice b1 xs1.length c1] 24)) = wl := ⟨_, rfl⟩
  have HLN : Hid (Calls Try.prog 20 #[.slice (some ⟨w.heap.size, 0, none⟩) 1 1] wl fun e w' => w' = wl ∧ (e = .returned (.bool true) ∨ e = .returned (.bool false) ∧ Hid (xs1.length ≤ 100))) := by
    have k := long4_any w.heap.size 0 b1 xs1.length c1 1 wl l1 (by rw [← hwl]; exact alloc_cell w _ _ _ _ rfl)
    refine k.mono ?_
    rintro e w' ⟨k1, k2⟩
    refine ⟨k2.symm, ?_⟩
    by_cases h : 100 < xs1.length
    · exact .inl (by rw [k1]; simp [h])
    · exact .inr ⟨by rw [k1]; simp [h], (by omega : xs1.length ≤ 100)⟩
  have HB1 : Hid (Below w.heap.size w wl) := by rw [← hwl]; exact (Below.refl _ _).alloc (Nat.le_refl _) _
  have HW1 : Hid (xs1.length ≤ 100 → ∀ V, Below w.heap.size w V → Calls Try.prog 31 #[.slice b0 m0.length c0, .slice b1 xs1.length c1, .int .i64 m2] V (LLPost (wholeV m0 xs1 m2) V)) := fun hl V hb => swhole_any b0 m0 c0 b1 xs1 c1 m2 V r0 (by omega) (h0.below hb) (h1.below hb)
  have HW2 : Hid (xs1.length ≤ 100 → ∀ V, Below w.heap.size w V → Calls Try.prog 32 #[.slice b0 m0.length c0, .slice b1 xs1.length c1, .int .i64 m2] V (LLPost (wholeV m0 xs1 m2) V)) := fun hl V hb => rwhole_any b0 m0 c0 b1 xs1 c1 m2 V r0 (by omega) (h0.below hb) (h1.below hb)
  have hsm := whole_small m0 xs1 m2
  have hrw : ∀ r ∈ (wholeV m0 xs1 m2).1, r.length ≤ 1000 := fun r hr => by
    unfold wholeV wholeTo at hr
    obtain ⟨q, hq, rfl⟩ := List.mem_map.1 hr
    have hq1 := List.mem_of_mem_take (List.mem_filter.1 hq).1
    have h0 : readE m0 xs1 = 0 := by
      unfold fitsKV at hq1
      split at hq1
      · assumption
      · cases hq1
    unfold picF
    rw [putTo_len]
    have := (validM_of (readE_ok h0).1).2.2.2.1
    omega
  obtain ⟨⟨R, e0⟩, hR⟩ : ∃ r, wholeV m0 xs1 m2 = r := ⟨_, rfl⟩
  rw [hR] at HW1 HW2 hsm hrw
  dsimp only at hsm hrw
  have HSM : Hid (R.length ≤ 3300 ∧ ∀ r ∈ R, r.length ≤ 1000) := ⟨hsm, hrw⟩
  obtain ⟨rl, hrl⟩ : ∃ rl, R.length = rl := ⟨_, rfl⟩
  have HRL := Lib.hid hrl
  have HW1 : Hid (xs1.length ≤ 100 → ∀ V, Below w.heap.size w V → Calls Try.prog 31 #[.slice b0 m0.length c0, .slice b1 xs1.length c1, .int .i64 m2] V fun e w' => ∃ a cap, e = .returned (.tuple #[.slice a rl cap, .int .i64 e0]) ∧ Below V.heap.size V w' ∧ Ms w' a R) := fun hl V hb => by
    refine (HW1.out hl V hb).mono ?_
    rintro e w' ⟨k1, a, c, k2, k3⟩
    exact ⟨a, c, by rw [k2, ← hrl], k1, k3⟩
  have HW2 : Hid (xs1.length ≤ 100 → ∀ V, Below w.heap.size w V → Calls Try.prog 32 #[.slice b0 m0.length c0, .slice b1 xs1.length c1, .int .i64 m2] V fun e w' => ∃ a cap, e = .returned (.tuple #[.slice a rl cap, .int .i64 e0]) ∧ Below V.heap.size V w' ∧ Ms w' a R) := fun hl V hb => by
    refine (HW2.out hl V hb).mono ?_
    rintro e w' ⟨k1, a, c, k2, k3⟩
    exact ⟨a, c, by rw [k2, ← hrl], k1, k3⟩
  clear h0 h1 r0 hsm hrw hR hrl _r1 _r2
  go_enter Try.func6, Try.ntmps6
  go_wp2_with (first
    | (go_at_call 8; refine HLI.out.mono ?_; rintro e w0 ⟨⟨bb, rfl⟩, rfl⟩; cases bb)
    | (go_at_call 20; refine HLN.out.mono ?_; rintro e w1 ⟨rfl, rfl | ⟨rfl, HQ⟩⟩)
    | (go_at_call 21; refine (awake4_any _).mono ?_; rintro e w20 ⟨rfl, hb20⟩)
    | (go_at_call 31; refine (HW1.out HQ.out _ HB1.out).mono ?_; rintro e w2 ⟨xa, xc, rfl, hb2, hm2⟩; have HB2 : Hid (Below w.heap.size w w2) := bel_tr HB1.out hb2; have HM2 := Lib.hid hm2; clear hb2 hm2)
    | (go_at_call 32; refine (HW2.out HQ.out _ HB2.out).mono ?_; rintro e w3 ⟨ya, yc, rfl, hb3, hm3⟩; have HB3 : Hid (Below w.heap.size w w3) := bel_tr HB2.out hb3; have HM3 := Lib.hid hm3; have HM2 : Hid (Ms w3 xa R) := HM2.out.below hb3; clear hb3 hm3)
    | (go_at_call 33; refine (same_l HSM HRL HM2 HM3).mono ?_; rintro e w4 ⟨rfl, hb4⟩; have HB4 : Hid (Below w.heap.size w w4) := bel_tr HB3.out hb4; clear hb4))
  all_goals go_ret
  all_goals first
    | exact ⟨rfl, bel_tr HB4.out hb20⟩
    | exact ⟨rfl, bel_tr HB1.out hb20⟩
    | exact ⟨rfl, hb20⟩
end Go.Proofs.Ytfkmlonhhdcfpaa.sparseWhole
