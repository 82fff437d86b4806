/- Walsh of the answers of layer 2: a contract. -/
import Derived.Test.YtkakjfijmekdjabMWalsh
namespace Go.Proofs.Ytkakjfijmekdjab
open Go.RowKit

theorem allR_no' {lo hi : Int} {xs : List Int} {k : Nat} {x : Int} (hx : xs[k]? = some x) (ho : rangeB x lo hi = false) : allR lo hi xs = false := allR_no hx ho
/-- The answers' Walsh asks in another order, and answers the same. -/
theorem walshV_ref {p : Int} {rows : List Int} (h : longB p = true) (h1 : rangeB rows.length 1 6 = true) (h2 : rascB rows = true) (h3 : allR 0 (p - 1) rows = true) : walshV p rows = (walshM p.toNat rows, 0) := by
  refine walshV_ok ?_
  have h4 : ascB (-1) rows = true := by
    rw [asc_same (fun k hk => by have := (allR_get h3 hk).1; omega)]; exact h2
  rw [h]; unfold wrowsB; rw [h1, h3, h4]; rfl
theorem walshV_ref_no {p : Int} {rows : List Int} (h : rangeB rows.length 1 6 = false ∨ rascB rows = false ∨ allR 0 (p - 1) rows = false) : walshV p rows = ([], 7) := by
  refine walshV_no ?_
  have : wrowsB p rows = false := by
    unfold wrowsB
    rcases h with h | h | h
    · rw [h]; rfl
    · by_cases h3 : allR 0 (p - 1) rows = true
      · rw [asc_same (fun k hk => by have := (allR_get h3 hk).1; omega), h]; simp
      · have h3' : allR 0 (p - 1) rows = false := by simpa using h3
        rw [h3']; simp
    · rw [h]; simp
  rw [this, Bool.and_false]
theorem OwnM.lenof {w : World} {base : Nat} {v : Value} {hs : List RH} {sk : Nat} (h : OwnM w base v hs sk) : ∃ a c, v = .slice a hs.length c := by
  obtain ⟨_, ⟨rfl, h0⟩ | ⟨g, c, cur, rfl, _⟩⟩ := h.own
  · exact ⟨none, 0, by rw [h0]⟩
  · exact ⟨_, c, rfl⟩
theorem OwnM.apart_of {w : World} {base : Nat} {v : Value} {hs : List RH} {sk : Nat} (h : OwnM w base v hs sk) {a : Option Addr} {B : Nat} (hB : w.heap.size ≤ B) (ha : ∀ ad, a = some ad → B ≤ ad.block) : ∀ ad, a = some ad → v.ownBlock ≠ some ad.block := by
  intro ad e hv
  have := (World.ownsRow.lt h.own ad.block hv).2
  have := ha ad e
  omega

set_option maxRecDepth 100000 in
set_option maxHeartbeats 3200000 in
theorem rWalsh_lit (p t : Int) (n : Nat) (hp : (p = 1 ∧ t = 0 ∧ n = 1) ∨ (p = 2 ∧ t = 1 ∧ n = 2) ∨ (p = 4 ∧ t = 3 ∧ n = 4) ∨ (p = 8 ∧ t = 7 ∧ n = 8)) (a : Option Addr) (rows : List Int) (cap : Nat) (w : World) (hl : rows.length ≤ 9223372036854775807) (hs : Sl w a rows)
    (V : List (List Int) × Int) (hyes : rangeB rows.length 1 6 = true → rascB rows = true → allR 0 t rows = true → V = (walshM n rows, 0)) (hno : rangeB rows.length 1 6 = false ∨ rascB rows = false ∨ allR 0 t rows = false → V = ([], 7)) :
    Calls Try.prog 42 #[.int .i64 p, .slice a rows.length cap] w (MPost V w) := by
  have HS := Lib.hid hs; clear hs
  have HREF := Lib.hid hyes; clear hyes
  have HNO := Lib.hid hno; clear hno
  cases hr : rangeB rows.length 1 6
  · have HV : Hid (V = ([], 7)) := HNO.out (.inl hr)
    have HR := Lib.hid hr; clear hr
    rcases hp with ⟨rfl, rfl, rfl⟩ | ⟨rfl, rfl, rfl⟩ | ⟨rfl, rfl, rfl⟩ | ⟨rfl, rfl, rfl⟩
    all_goals
      go_enter Try.func42, Try.ntmps42
      go_wp2_with (go_at_call 71; refine (mwithin_any _ _ _ _).mono ?_; rintro e w' ⟨rfl, rfl⟩; rw [HR.out])
      go_ret2
      exact MPost.err 7 HV.out (Below.refl _ _)
  · have h6 : rows.length ≤ 6 := by have := hr; simp [rangeB] at this; omega
    have HR := Lib.hid hr; clear hr
    rcases hp with ⟨rfl, rfl, rfl⟩ | ⟨rfl, rfl, rfl⟩ | ⟨rfl, rfl, rfl⟩ | ⟨rfl, rfl, rfl⟩
    · as_aux_lemma =>
          go_enter Try.func42, Try.ntmps42
          go_wp2_with fail
          refine (mwithin_any _ _ _ _).mono ?_
          rintro e w' ⟨rfl, rfl⟩
          rw [HR.out]
          go_wp2_with fail
          refine (rasc_any _ _ _ _ hl HS.out).mono ?_
          rintro e w1 ⟨rfl, n1, hw1⟩
          have hb1 := drew_below hw1; clear hw1
          have HB1 := Lib.hid hb1; clear hb1
          cases ha : rascB rows
          · have HV : Hid (V = ([], 7)) := HNO.out (.inr (.inl ha))
            clear ha
            go_wp2
            go_ret2
            exact MPost.err 7 HV.out HB1.out
          · have HA := Lib.hid ha; clear ha
            go_wp2
            go_loopw [6, 38] (fun v i wr => ∃ (k : Nat) (hs : List RH), k ≤ rows.length ∧ i = .int .i64 k ∧ OwnM wr w.heap.size v hs hs.length ∧ hs.length = k ∧ rowsOf hs = (walshM 1 rows).take k ∧ (∀ j, j < k → rangeB (gt rows j) 0 0 = true) ∧ Below w.heap.size w wr) (fun _ i _ => rows.length - (intOf i).toNat)
            case atStart => exact ⟨0, [], Nat.zero_le _, rfl, OwnM.nil _ _ _, rfl, rfl, fun j h => by omega, HB1.out⟩
            case round =>
              obtain ⟨k, hs, hk, rfl, hO, hkl, hrows, hin, hB⟩ := hrel
              have HO := Lib.hid hO; clear hO
              have HKL := Lib.hid hkl; clear hkl
              have HRW := Lib.hid hrows; clear hrows
              have HIN := Lib.hid hin; clear hin
              have HB := Lib.hid hB; clear hB
              by_cases hlt : k < rows.length
              · obtain ⟨b, off, x, rfl, hcell, HX⟩ := (HS.out.below HB.out).at hlt
                cases hx : rangeB x 0 0
                · as_aux_lemma =>
                    have HV : Hid (V = ([], 7)) := HNO.out (.inr (.inr (allR_no HX.out hx)))
                    have HXR := Lib.hid hx; clear hx
                    go_wp2_with fail
                    refine (mwithin_any _ _ _ _).mono ?_
                    rintro e w' ⟨rfl, rfl⟩
                    rw [HXR.out]
                    go_wp2
                    go_ret2
                    exact MPost.err 7 HV.out HB.out
                · have hxb : 0 ≤ x ∧ x ≤ 0 := by simpa [rangeB] using hx
                  have HXR := Lib.hid hx; clear hx
                  obtain ⟨m, rfl⟩ : ∃ m : Nat, x = (m : Int) := ⟨x.toNat, by omega⟩
                  have hm8 : m < 8 := by omega
                  clear hxb
                  go_wp2_with fail
                  refine (mwithin_any _ _ _ _).mono ?_
                  rintro e w' ⟨rfl, rfl⟩
                  rw [HXR.out]
                  obtain ⟨wo, rfl⟩ : ∃ wo : World, wo = wr := ⟨_, rfl⟩
                  go_wp2
                  clear hcell
                  go_loopw [9, 48] (fun v i wr => ∃ (j : Nat), j ≤ 1 ∧ i = .int .i64 j ∧ OwnI wr wo.heap.size v ((walshRow 1 m).take j) ∧ Below wo.heap.size wo wr) (fun _ i _ => 1 - (intOf i).toNat)
                  case atStart => exact ⟨0, Nat.zero_le _, rfl, OwnI.nil _ _, Below.refl _ _⟩
                  case round =>
                    obtain ⟨j, hj, rfl, hOI, hBj⟩ := hrel
                    have HOI := Lib.hid hOI; clear hOI
                    have HBj := Lib.hid hBj; clear hBj
                    by_cases hjt : j < 1
                    · as_aux_lemma =>
                        obtain ⟨c, hc, hc0, hc9, hws⟩ := wsign_some m j
                        have HC := Lib.hid hc; clear hc
                        have HWS : Hid ((walshRow 1 m).take (j + 1) = (walshRow 1 m).take j ++ [1 - 2 * (c % 2)]) := by
                          show _ = _
                          rw [← hws]; exact take_range_succ' (wsign m) hjt
                        clear hws
                        have hband := i64_and m j (by omega) (by omega)
                        have hmn : m &&& j < 257 := Nat.lt_of_le_of_lt Nat.and_le_left (by omega)
                        obtain ⟨q, hq⟩ : ∃ q, m &&& j = q := ⟨_, rfl⟩
                        rw [hq] at hband hmn HC
                        have hmq : (0 : Int) ≤ (q : Int) := by omega
                        clear hq
                        go_wp2_with (first | (go_at_call 79; refine (ones_any q hmn _).mono ?_; rintro e w' ⟨rfl, rfl⟩; rw [HC.out]) | (at_builtin; go_must (refine wpList_push rfl (.tmp 51) (.tmp 60) rfl wo.heap.size _ ((walshRow 1 m).take j) _ _ _ _ rfl rfl rfl HOI.out (by rw [List.length_take]; omega) HBj.out.size ?_); intro v' w9 ho' hb'))
                        go_roundw
                        case rel => exact ⟨j + 1, by omega, by go_num, by rw [HWS.out]; exact ho', HBj.out.trans hb'⟩
                        case measure => simp [intOf]; omega
                    · as_aux_lemma =>
                        obtain rfl : j = 1 := by omega
                        have hrow : (walshRow 1 m).take 1 = walshRow 1 m := List.take_of_length_le (by simp [walshRow])
                        rw [hrow] at HOI
                        obtain ⟨ar, cr, rfl, hsr, hap⟩ := HOI.out.row
                        have HSR := Lib.hid hsr; clear hsr
                        have HAP : Hid (∀ ad, ar = some ad → ad.block < wr.heap.size ∧ Value.ownBlock _ ≠ some ad.block) := fun ad e => ⟨(hap ad e).1, HO.out.apart_of (Nat.le_refl _) (fun ad e => (hap ad e).2) ad e⟩
                        have HOw := Lib.hid (HO.out.below HBj.out)
                        have HBw : Hid (Below w.heap.size w wr) := Below.next HB.out HBj.out (Nat.le_refl _)
                        have hlen : (walshRow 1 m).length = 1 := by simp [walshRow]
                        have hkl6 : hs.length ≤ 1000 := by have := HKL.out; omega
                        have HTK : Hid ((walshM 1 rows).take (k + 1) = (walshM 1 rows).take k ++ [walshRow 1 m]) := by
                          show _ = _
                          have := take_range_succ (fun k => walshRow 1 (gt rows k).toNat) hlt
                          rw [gt_some' HX.out, Int.toNat_natCast] at this
                          exact this
                        clear hap hrow hlen HOI
                        go_wp2_with (at_builtin; go_must (refine wpList_pushM rfl (.tmp 63) (.tmp 65) rfl w.heap.size _ hs ar (walshRow 1 m) cr _ _ _ rfl rfl rfl HOw.out HSR.out HAP.out hkl6 HBw.out.size ?_); intro v' w9 ho' hb')
                        go_roundw
                        case rel => exact ⟨k + 1, _, by omega, by go_num, by rw [List.length_append]; exact ho', by rw [List.length_append, HKL.out]; rfl, by rw [rowsOf_snoc, HRW.out, HTK.out], fun i hi => by
                            by_cases hik : i = k
                            · subst hik; rw [gt_some' HX.out]; exact HXR.out
                            · exact HIN.out i (by omega), HBw.out.trans hb'⟩
                        case measure => simp [intOf]; omega
              · as_aux_lemma =>
                  obtain rfl : k = rows.length := by omega
                  have HV : Hid (V = (walshM 1 rows, 0)) := HREF.out HR.out HA.out (by
                    unfold allR; rw [List.all_eq_true]
                    intro x hx
                    obtain ⟨i, hi, rfl⟩ := List.mem_iff_getElem.1 hx
                    have := HIN.out i hi
                    unfold gt at this
                    simpa [hi] using this)
                  have htk : (walshM 1 rows).take rows.length = walshM 1 rows := List.take_of_length_le (by simp [walshM])
                  go_wp2
                  go_ret2
                  exact MPost.own (by rw [HV.out, HRW.out, htk]) HB.out HO.out (Nat.le_refl _)
    · as_aux_lemma =>
          go_enter Try.func42, Try.ntmps42
          go_wp2_with fail
          refine (mwithin_any _ _ _ _).mono ?_
          rintro e w' ⟨rfl, rfl⟩
          rw [HR.out]
          go_wp2_with fail
          refine (rasc_any _ _ _ _ hl HS.out).mono ?_
          rintro e w1 ⟨rfl, n1, hw1⟩
          have hb1 := drew_below hw1; clear hw1
          have HB1 := Lib.hid hb1; clear hb1
          cases ha : rascB rows
          · have HV : Hid (V = ([], 7)) := HNO.out (.inr (.inl ha))
            clear ha
            go_wp2
            go_ret2
            exact MPost.err 7 HV.out HB1.out
          · have HA := Lib.hid ha; clear ha
            go_wp2
            go_loopw [6, 38] (fun v i wr => ∃ (k : Nat) (hs : List RH), k ≤ rows.length ∧ i = .int .i64 k ∧ OwnM wr w.heap.size v hs hs.length ∧ hs.length = k ∧ rowsOf hs = (walshM 2 rows).take k ∧ (∀ j, j < k → rangeB (gt rows j) 0 1 = true) ∧ Below w.heap.size w wr) (fun _ i _ => rows.length - (intOf i).toNat)
            case atStart => exact ⟨0, [], Nat.zero_le _, rfl, OwnM.nil _ _ _, rfl, rfl, fun j h => by omega, HB1.out⟩
            case round =>
              obtain ⟨k, hs, hk, rfl, hO, hkl, hrows, hin, hB⟩ := hrel
              have HO := Lib.hid hO; clear hO
              have HKL := Lib.hid hkl; clear hkl
              have HRW := Lib.hid hrows; clear hrows
              have HIN := Lib.hid hin; clear hin
              have HB := Lib.hid hB; clear hB
              by_cases hlt : k < rows.length
              · obtain ⟨b, off, x, rfl, hcell, HX⟩ := (HS.out.below HB.out).at hlt
                cases hx : rangeB x 0 1
                · as_aux_lemma =>
                    have HV : Hid (V = ([], 7)) := HNO.out (.inr (.inr (allR_no HX.out hx)))
                    have HXR := Lib.hid hx; clear hx
                    go_wp2_with fail
                    refine (mwithin_any _ _ _ _).mono ?_
                    rintro e w' ⟨rfl, rfl⟩
                    rw [HXR.out]
                    go_wp2
                    go_ret2
                    exact MPost.err 7 HV.out HB.out
                · have hxb : 0 ≤ x ∧ x ≤ 1 := by simpa [rangeB] using hx
                  have HXR := Lib.hid hx; clear hx
                  obtain ⟨m, rfl⟩ : ∃ m : Nat, x = (m : Int) := ⟨x.toNat, by omega⟩
                  have hm8 : m < 8 := by omega
                  clear hxb
                  go_wp2_with fail
                  refine (mwithin_any _ _ _ _).mono ?_
                  rintro e w' ⟨rfl, rfl⟩
                  rw [HXR.out]
                  obtain ⟨wo, rfl⟩ : ∃ wo : World, wo = wr := ⟨_, rfl⟩
                  go_wp2
                  clear hcell
                  go_loopw [9, 48] (fun v i wr => ∃ (j : Nat), j ≤ 2 ∧ i = .int .i64 j ∧ OwnI wr wo.heap.size v ((walshRow 2 m).take j) ∧ Below wo.heap.size wo wr) (fun _ i _ => 2 - (intOf i).toNat)
                  case atStart => exact ⟨0, Nat.zero_le _, rfl, OwnI.nil _ _, Below.refl _ _⟩
                  case round =>
                    obtain ⟨j, hj, rfl, hOI, hBj⟩ := hrel
                    have HOI := Lib.hid hOI; clear hOI
                    have HBj := Lib.hid hBj; clear hBj
                    by_cases hjt : j < 2
                    · as_aux_lemma =>
                        obtain ⟨c, hc, hc0, hc9, hws⟩ := wsign_some m j
                        have HC := Lib.hid hc; clear hc
                        have HWS : Hid ((walshRow 2 m).take (j + 1) = (walshRow 2 m).take j ++ [1 - 2 * (c % 2)]) := by
                          show _ = _
                          rw [← hws]; exact take_range_succ' (wsign m) hjt
                        clear hws
                        have hband := i64_and m j (by omega) (by omega)
                        have hmn : m &&& j < 257 := Nat.lt_of_le_of_lt Nat.and_le_left (by omega)
                        obtain ⟨q, hq⟩ : ∃ q, m &&& j = q := ⟨_, rfl⟩
                        rw [hq] at hband hmn HC
                        have hmq : (0 : Int) ≤ (q : Int) := by omega
                        clear hq
                        go_wp2_with (first | (go_at_call 79; refine (ones_any q hmn _).mono ?_; rintro e w' ⟨rfl, rfl⟩; rw [HC.out]) | (at_builtin; go_must (refine wpList_push rfl (.tmp 51) (.tmp 60) rfl wo.heap.size _ ((walshRow 2 m).take j) _ _ _ _ rfl rfl rfl HOI.out (by rw [List.length_take]; omega) HBj.out.size ?_); intro v' w9 ho' hb'))
                        go_roundw
                        case rel => exact ⟨j + 1, by omega, by go_num, by rw [HWS.out]; exact ho', HBj.out.trans hb'⟩
                        case measure => simp [intOf]; omega
                    · as_aux_lemma =>
                        obtain rfl : j = 2 := by omega
                        have hrow : (walshRow 2 m).take 2 = walshRow 2 m := List.take_of_length_le (by simp [walshRow])
                        rw [hrow] at HOI
                        obtain ⟨ar, cr, rfl, hsr, hap⟩ := HOI.out.row
                        have HSR := Lib.hid hsr; clear hsr
                        have HAP : Hid (∀ ad, ar = some ad → ad.block < wr.heap.size ∧ Value.ownBlock _ ≠ some ad.block) := fun ad e => ⟨(hap ad e).1, HO.out.apart_of (Nat.le_refl _) (fun ad e => (hap ad e).2) ad e⟩
                        have HOw := Lib.hid (HO.out.below HBj.out)
                        have HBw : Hid (Below w.heap.size w wr) := Below.next HB.out HBj.out (Nat.le_refl _)
                        have hlen : (walshRow 2 m).length = 2 := by simp [walshRow]
                        have hkl6 : hs.length ≤ 1000 := by have := HKL.out; omega
                        have HTK : Hid ((walshM 2 rows).take (k + 1) = (walshM 2 rows).take k ++ [walshRow 2 m]) := by
                          show _ = _
                          have := take_range_succ (fun k => walshRow 2 (gt rows k).toNat) hlt
                          rw [gt_some' HX.out, Int.toNat_natCast] at this
                          exact this
                        clear hap hrow hlen HOI
                        go_wp2_with (at_builtin; go_must (refine wpList_pushM rfl (.tmp 63) (.tmp 65) rfl w.heap.size _ hs ar (walshRow 2 m) cr _ _ _ rfl rfl rfl HOw.out HSR.out HAP.out hkl6 HBw.out.size ?_); intro v' w9 ho' hb')
                        go_roundw
                        case rel => exact ⟨k + 1, _, by omega, by go_num, by rw [List.length_append]; exact ho', by rw [List.length_append, HKL.out]; rfl, by rw [rowsOf_snoc, HRW.out, HTK.out], fun i hi => by
                            by_cases hik : i = k
                            · subst hik; rw [gt_some' HX.out]; exact HXR.out
                            · exact HIN.out i (by omega), HBw.out.trans hb'⟩
                        case measure => simp [intOf]; omega
              · as_aux_lemma =>
                  obtain rfl : k = rows.length := by omega
                  have HV : Hid (V = (walshM 2 rows, 0)) := HREF.out HR.out HA.out (by
                    unfold allR; rw [List.all_eq_true]
                    intro x hx
                    obtain ⟨i, hi, rfl⟩ := List.mem_iff_getElem.1 hx
                    have := HIN.out i hi
                    unfold gt at this
                    simpa [hi] using this)
                  have htk : (walshM 2 rows).take rows.length = walshM 2 rows := List.take_of_length_le (by simp [walshM])
                  go_wp2
                  go_ret2
                  exact MPost.own (by rw [HV.out, HRW.out, htk]) HB.out HO.out (Nat.le_refl _)
    · as_aux_lemma =>
          go_enter Try.func42, Try.ntmps42
          go_wp2_with fail
          refine (mwithin_any _ _ _ _).mono ?_
          rintro e w' ⟨rfl, rfl⟩
          rw [HR.out]
          go_wp2_with fail
          refine (rasc_any _ _ _ _ hl HS.out).mono ?_
          rintro e w1 ⟨rfl, n1, hw1⟩
          have hb1 := drew_below hw1; clear hw1
          have HB1 := Lib.hid hb1; clear hb1
          cases ha : rascB rows
          · have HV : Hid (V = ([], 7)) := HNO.out (.inr (.inl ha))
            clear ha
            go_wp2
            go_ret2
            exact MPost.err 7 HV.out HB1.out
          · have HA := Lib.hid ha; clear ha
            go_wp2
            go_loopw [6, 38] (fun v i wr => ∃ (k : Nat) (hs : List RH), k ≤ rows.length ∧ i = .int .i64 k ∧ OwnM wr w.heap.size v hs hs.length ∧ hs.length = k ∧ rowsOf hs = (walshM 4 rows).take k ∧ (∀ j, j < k → rangeB (gt rows j) 0 3 = true) ∧ Below w.heap.size w wr) (fun _ i _ => rows.length - (intOf i).toNat)
            case atStart => exact ⟨0, [], Nat.zero_le _, rfl, OwnM.nil _ _ _, rfl, rfl, fun j h => by omega, HB1.out⟩
            case round =>
              obtain ⟨k, hs, hk, rfl, hO, hkl, hrows, hin, hB⟩ := hrel
              have HO := Lib.hid hO; clear hO
              have HKL := Lib.hid hkl; clear hkl
              have HRW := Lib.hid hrows; clear hrows
              have HIN := Lib.hid hin; clear hin
              have HB := Lib.hid hB; clear hB
              by_cases hlt : k < rows.length
              · obtain ⟨b, off, x, rfl, hcell, HX⟩ := (HS.out.below HB.out).at hlt
                cases hx : rangeB x 0 3
                · as_aux_lemma =>
                    have HV : Hid (V = ([], 7)) := HNO.out (.inr (.inr (allR_no HX.out hx)))
                    have HXR := Lib.hid hx; clear hx
                    go_wp2_with fail
                    refine (mwithin_any _ _ _ _).mono ?_
                    rintro e w' ⟨rfl, rfl⟩
                    rw [HXR.out]
                    go_wp2
                    go_ret2
                    exact MPost.err 7 HV.out HB.out
                · have hxb : 0 ≤ x ∧ x ≤ 3 := by simpa [rangeB] using hx
                  have HXR := Lib.hid hx; clear hx
                  obtain ⟨m, rfl⟩ : ∃ m : Nat, x = (m : Int) := ⟨x.toNat, by omega⟩
                  have hm8 : m < 8 := by omega
                  clear hxb
                  go_wp2_with fail
                  refine (mwithin_any _ _ _ _).mono ?_
                  rintro e w' ⟨rfl, rfl⟩
                  rw [HXR.out]
                  obtain ⟨wo, rfl⟩ : ∃ wo : World, wo = wr := ⟨_, rfl⟩
                  go_wp2
                  clear hcell
                  go_loopw [9, 48] (fun v i wr => ∃ (j : Nat), j ≤ 4 ∧ i = .int .i64 j ∧ OwnI wr wo.heap.size v ((walshRow 4 m).take j) ∧ Below wo.heap.size wo wr) (fun _ i _ => 4 - (intOf i).toNat)
                  case atStart => exact ⟨0, Nat.zero_le _, rfl, OwnI.nil _ _, Below.refl _ _⟩
                  case round =>
                    obtain ⟨j, hj, rfl, hOI, hBj⟩ := hrel
                    have HOI := Lib.hid hOI; clear hOI
                    have HBj := Lib.hid hBj; clear hBj
                    by_cases hjt : j < 4
                    · as_aux_lemma =>
                        obtain ⟨c, hc, hc0, hc9, hws⟩ := wsign_some m j
                        have HC := Lib.hid hc; clear hc
                        have HWS : Hid ((walshRow 4 m).take (j + 1) = (walshRow 4 m).take j ++ [1 - 2 * (c % 2)]) := by
                          show _ = _
                          rw [← hws]; exact take_range_succ' (wsign m) hjt
                        clear hws
                        have hband := i64_and m j (by omega) (by omega)
                        have hmn : m &&& j < 257 := Nat.lt_of_le_of_lt Nat.and_le_left (by omega)
                        obtain ⟨q, hq⟩ : ∃ q, m &&& j = q := ⟨_, rfl⟩
                        rw [hq] at hband hmn HC
                        have hmq : (0 : Int) ≤ (q : Int) := by omega
                        clear hq
                        go_wp2_with (first | (go_at_call 79; refine (ones_any q hmn _).mono ?_; rintro e w' ⟨rfl, rfl⟩; rw [HC.out]) | (at_builtin; go_must (refine wpList_push rfl (.tmp 51) (.tmp 60) rfl wo.heap.size _ ((walshRow 4 m).take j) _ _ _ _ rfl rfl rfl HOI.out (by rw [List.length_take]; omega) HBj.out.size ?_); intro v' w9 ho' hb'))
                        go_roundw
                        case rel => exact ⟨j + 1, by omega, by go_num, by rw [HWS.out]; exact ho', HBj.out.trans hb'⟩
                        case measure => simp [intOf]; omega
                    · as_aux_lemma =>
                        obtain rfl : j = 4 := by omega
                        have hrow : (walshRow 4 m).take 4 = walshRow 4 m := List.take_of_length_le (by simp [walshRow])
                        rw [hrow] at HOI
                        obtain ⟨ar, cr, rfl, hsr, hap⟩ := HOI.out.row
                        have HSR := Lib.hid hsr; clear hsr
                        have HAP : Hid (∀ ad, ar = some ad → ad.block < wr.heap.size ∧ Value.ownBlock _ ≠ some ad.block) := fun ad e => ⟨(hap ad e).1, HO.out.apart_of (Nat.le_refl _) (fun ad e => (hap ad e).2) ad e⟩
                        have HOw := Lib.hid (HO.out.below HBj.out)
                        have HBw : Hid (Below w.heap.size w wr) := Below.next HB.out HBj.out (Nat.le_refl _)
                        have hlen : (walshRow 4 m).length = 4 := by simp [walshRow]
                        have hkl6 : hs.length ≤ 1000 := by have := HKL.out; omega
                        have HTK : Hid ((walshM 4 rows).take (k + 1) = (walshM 4 rows).take k ++ [walshRow 4 m]) := by
                          show _ = _
                          have := take_range_succ (fun k => walshRow 4 (gt rows k).toNat) hlt
                          rw [gt_some' HX.out, Int.toNat_natCast] at this
                          exact this
                        clear hap hrow hlen HOI
                        go_wp2_with (at_builtin; go_must (refine wpList_pushM rfl (.tmp 63) (.tmp 65) rfl w.heap.size _ hs ar (walshRow 4 m) cr _ _ _ rfl rfl rfl HOw.out HSR.out HAP.out hkl6 HBw.out.size ?_); intro v' w9 ho' hb')
                        go_roundw
                        case rel => exact ⟨k + 1, _, by omega, by go_num, by rw [List.length_append]; exact ho', by rw [List.length_append, HKL.out]; rfl, by rw [rowsOf_snoc, HRW.out, HTK.out], fun i hi => by
                            by_cases hik : i = k
                            · subst hik; rw [gt_some' HX.out]; exact HXR.out
                            · exact HIN.out i (by omega), HBw.out.trans hb'⟩
                        case measure => simp [intOf]; omega
              · as_aux_lemma =>
                  obtain rfl : k = rows.length := by omega
                  have HV : Hid (V = (walshM 4 rows, 0)) := HREF.out HR.out HA.out (by
                    unfold allR; rw [List.all_eq_true]
                    intro x hx
                    obtain ⟨i, hi, rfl⟩ := List.mem_iff_getElem.1 hx
                    have := HIN.out i hi
                    unfold gt at this
                    simpa [hi] using this)
                  have htk : (walshM 4 rows).take rows.length = walshM 4 rows := List.take_of_length_le (by simp [walshM])
                  go_wp2
                  go_ret2
                  exact MPost.own (by rw [HV.out, HRW.out, htk]) HB.out HO.out (Nat.le_refl _)
    · as_aux_lemma =>
          go_enter Try.func42, Try.ntmps42
          go_wp2_with fail
          refine (mwithin_any _ _ _ _).mono ?_
          rintro e w' ⟨rfl, rfl⟩
          rw [HR.out]
          go_wp2_with fail
          refine (rasc_any _ _ _ _ hl HS.out).mono ?_
          rintro e w1 ⟨rfl, n1, hw1⟩
          have hb1 := drew_below hw1; clear hw1
          have HB1 := Lib.hid hb1; clear hb1
          cases ha : rascB rows
          · have HV : Hid (V = ([], 7)) := HNO.out (.inr (.inl ha))
            clear ha
            go_wp2
            go_ret2
            exact MPost.err 7 HV.out HB1.out
          · have HA := Lib.hid ha; clear ha
            go_wp2
            go_loopw [6, 38] (fun v i wr => ∃ (k : Nat) (hs : List RH), k ≤ rows.length ∧ i = .int .i64 k ∧ OwnM wr w.heap.size v hs hs.length ∧ hs.length = k ∧ rowsOf hs = (walshM 8 rows).take k ∧ (∀ j, j < k → rangeB (gt rows j) 0 7 = true) ∧ Below w.heap.size w wr) (fun _ i _ => rows.length - (intOf i).toNat)
            case atStart => exact ⟨0, [], Nat.zero_le _, rfl, OwnM.nil _ _ _, rfl, rfl, fun j h => by omega, HB1.out⟩
            case round =>
              obtain ⟨k, hs, hk, rfl, hO, hkl, hrows, hin, hB⟩ := hrel
              have HO := Lib.hid hO; clear hO
              have HKL := Lib.hid hkl; clear hkl
              have HRW := Lib.hid hrows; clear hrows
              have HIN := Lib.hid hin; clear hin
              have HB := Lib.hid hB; clear hB
              by_cases hlt : k < rows.length
              · obtain ⟨b, off, x, rfl, hcell, HX⟩ := (HS.out.below HB.out).at hlt
                cases hx : rangeB x 0 7
                · as_aux_lemma =>
                    have HV : Hid (V = ([], 7)) := HNO.out (.inr (.inr (allR_no HX.out hx)))
                    have HXR := Lib.hid hx; clear hx
                    go_wp2_with fail
                    refine (mwithin_any _ _ _ _).mono ?_
                    rintro e w' ⟨rfl, rfl⟩
                    rw [HXR.out]
                    go_wp2
                    go_ret2
                    exact MPost.err 7 HV.out HB.out
                · have hxb : 0 ≤ x ∧ x ≤ 7 := by simpa [rangeB] using hx
                  have HXR := Lib.hid hx; clear hx
                  obtain ⟨m, rfl⟩ : ∃ m : Nat, x = (m : Int) := ⟨x.toNat, by omega⟩
                  have hm8 : m < 8 := by omega
                  clear hxb
                  go_wp2_with fail
                  refine (mwithin_any _ _ _ _).mono ?_
                  rintro e w' ⟨rfl, rfl⟩
                  rw [HXR.out]
                  obtain ⟨wo, rfl⟩ : ∃ wo : World, wo = wr := ⟨_, rfl⟩
                  go_wp2
                  clear hcell
                  go_loopw [9, 48] (fun v i wr => ∃ (j : Nat), j ≤ 8 ∧ i = .int .i64 j ∧ OwnI wr wo.heap.size v ((walshRow 8 m).take j) ∧ Below wo.heap.size wo wr) (fun _ i _ => 8 - (intOf i).toNat)
                  case atStart => exact ⟨0, Nat.zero_le _, rfl, OwnI.nil _ _, Below.refl _ _⟩
                  case round =>
                    obtain ⟨j, hj, rfl, hOI, hBj⟩ := hrel
                    have HOI := Lib.hid hOI; clear hOI
                    have HBj := Lib.hid hBj; clear hBj
                    by_cases hjt : j < 8
                    · as_aux_lemma =>
                        obtain ⟨c, hc, hc0, hc9, hws⟩ := wsign_some m j
                        have HC := Lib.hid hc; clear hc
                        have HWS : Hid ((walshRow 8 m).take (j + 1) = (walshRow 8 m).take j ++ [1 - 2 * (c % 2)]) := by
                          show _ = _
                          rw [← hws]; exact take_range_succ' (wsign m) hjt
                        clear hws
                        have hband := i64_and m j (by omega) (by omega)
                        have hmn : m &&& j < 257 := Nat.lt_of_le_of_lt Nat.and_le_left (by omega)
                        obtain ⟨q, hq⟩ : ∃ q, m &&& j = q := ⟨_, rfl⟩
                        rw [hq] at hband hmn HC
                        have hmq : (0 : Int) ≤ (q : Int) := by omega
                        clear hq
                        go_wp2_with (first | (go_at_call 79; refine (ones_any q hmn _).mono ?_; rintro e w' ⟨rfl, rfl⟩; rw [HC.out]) | (at_builtin; go_must (refine wpList_push rfl (.tmp 51) (.tmp 60) rfl wo.heap.size _ ((walshRow 8 m).take j) _ _ _ _ rfl rfl rfl HOI.out (by rw [List.length_take]; omega) HBj.out.size ?_); intro v' w9 ho' hb'))
                        go_roundw
                        case rel => exact ⟨j + 1, by omega, by go_num, by rw [HWS.out]; exact ho', HBj.out.trans hb'⟩
                        case measure => simp [intOf]; omega
                    · as_aux_lemma =>
                        obtain rfl : j = 8 := by omega
                        have hrow : (walshRow 8 m).take 8 = walshRow 8 m := List.take_of_length_le (by simp [walshRow])
                        rw [hrow] at HOI
                        obtain ⟨ar, cr, rfl, hsr, hap⟩ := HOI.out.row
                        have HSR := Lib.hid hsr; clear hsr
                        have HAP : Hid (∀ ad, ar = some ad → ad.block < wr.heap.size ∧ Value.ownBlock _ ≠ some ad.block) := fun ad e => ⟨(hap ad e).1, HO.out.apart_of (Nat.le_refl _) (fun ad e => (hap ad e).2) ad e⟩
                        have HOw := Lib.hid (HO.out.below HBj.out)
                        have HBw : Hid (Below w.heap.size w wr) := Below.next HB.out HBj.out (Nat.le_refl _)
                        have hlen : (walshRow 8 m).length = 8 := by simp [walshRow]
                        have hkl6 : hs.length ≤ 1000 := by have := HKL.out; omega
                        have HTK : Hid ((walshM 8 rows).take (k + 1) = (walshM 8 rows).take k ++ [walshRow 8 m]) := by
                          show _ = _
                          have := take_range_succ (fun k => walshRow 8 (gt rows k).toNat) hlt
                          rw [gt_some' HX.out, Int.toNat_natCast] at this
                          exact this
                        clear hap hrow hlen HOI
                        go_wp2_with (at_builtin; go_must (refine wpList_pushM rfl (.tmp 63) (.tmp 65) rfl w.heap.size _ hs ar (walshRow 8 m) cr _ _ _ rfl rfl rfl HOw.out HSR.out HAP.out hkl6 HBw.out.size ?_); intro v' w9 ho' hb')
                        go_roundw
                        case rel => exact ⟨k + 1, _, by omega, by go_num, by rw [List.length_append]; exact ho', by rw [List.length_append, HKL.out]; rfl, by rw [rowsOf_snoc, HRW.out, HTK.out], fun i hi => by
                            by_cases hik : i = k
                            · subst hik; rw [gt_some' HX.out]; exact HXR.out
                            · exact HIN.out i (by omega), HBw.out.trans hb'⟩
                        case measure => simp [intOf]; omega
              · as_aux_lemma =>
                  obtain rfl : k = rows.length := by omega
                  have HV : Hid (V = (walshM 8 rows, 0)) := HREF.out HR.out HA.out (by
                    unfold allR; rw [List.all_eq_true]
                    intro x hx
                    obtain ⟨i, hi, rfl⟩ := List.mem_iff_getElem.1 hx
                    have := HIN.out i hi
                    unfold gt at this
                    simpa [hi] using this)
                  have htk : (walshM 8 rows).take rows.length = walshM 8 rows := List.take_of_length_le (by simp [walshM])
                  go_wp2
                  go_ret2
                  exact MPost.own (by rw [HV.out, HRW.out, htk]) HB.out HO.out (Nat.le_refl _)
theorem rWalsh_any (p : Int) (a : Option Addr) (rows : List Int) (cap : Nat) (w : World) (hl : rows.length ≤ 9223372036854775807) (hs : Sl w a rows) :
    Calls Try.prog 42 #[.int .i64 p, .slice a rows.length cap] w (MPost (walshV p rows) w) := by
  cases h : longB p
  · have HV : Hid (walshV p rows = ([], 7)) := walshV_no (by rw [h]; rfl)
    obtain ⟨h1, h2, h4, h8⟩ := longB_no h
    have e1 : (p != 1) = true := by simpa using h1
    have e2 : (p != 2) = true := by simpa using h2
    have e4 : (p != 4) = true := by simpa using h4
    have e8 : (p != 8) = true := by simpa using h8
    clear h1 h2 h4 h8 h
    go_enter Try.func42, Try.ntmps42
    go_wp2
    go_ret2
    exact MPost.err 7 HV.out (Below.refl _ _)
  · have hp := longB_of h
    refine rWalsh_lit p (p - 1) p.toNat (by omega) a rows cap w hl hs _ (fun h1 h2 h3 => walshV_ref h h1 h2 h3) (fun h' => walshV_ref_no h')
end Go.Proofs.Ytkakjfijmekdjab
