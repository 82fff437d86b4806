/- Seeded of the answers of layer 2: a contract. -/
import Derived.Test.YtkakjfijmekdjabMSeed
import Derived.Test.YtkakjfijmekdjabMWalsh3
namespace Go.Proofs.Ytkakjfijmekdjab
open Go.RowKit

set_option maxRecDepth 100000 in
set_option maxHeartbeats 800000 in
theorem rSeeded_any (s r p : Int) (w : World) :
    Calls Try.prog 44 #[.int .i64 s, .int .i64 r, .int .i64 p] w (MPost (seededV s r p) w) := by
  cases h1 : rangeB s 1 2147483646
  · have HV : Hid (seededV s r p = ([], 7)) := seededV_no (by unfold seedOk; rw [h1]; rfl)
    have H1 := Lib.hid h1; clear h1
    go_enter Try.func44, Try.ntmps44
    go_wp2_with (go_at_call 71; refine (mwithin_any _ _ _ _).mono ?_; rintro e w' ⟨rfl, rfl⟩; rw [H1.out])
    go_ret2
    exact MPost.err 7 HV.out (Below.refl _ _)
  · cases h2 : rangeB r 1 6
    · have HV : Hid (seededV s r p = ([], 7)) := seededV_no (by unfold seedOk; rw [h1, h2]; rfl)
      have H1 := Lib.hid h1; clear h1
      have H2 := Lib.hid h2; clear h2
      go_enter Try.func44, Try.ntmps44
      go_wp2_with fail
      refine (mwithin_any _ _ _ _).mono ?_
      rintro e w' ⟨rfl, rfl⟩
      rw [H1.out]
      go_wp2_with fail
      refine (mwithin_any _ _ _ _).mono ?_
      rintro e w' ⟨rfl, rfl⟩
      rw [H2.out]
      go_wp2
      go_ret2
      exact MPost.err 7 HV.out (Below.refl _ _)
    · cases h3 : rangeB p 1 10
      · have HV : Hid (seededV s r p = ([], 7)) := seededV_no (by unfold seedOk; rw [h1, h2, h3]; rfl)
        have H1 := Lib.hid h1; clear h1
        have H2 := Lib.hid h2; clear h2
        have H3 := Lib.hid h3; clear h3
        go_enter Try.func44, Try.ntmps44
        go_wp2_with fail
        refine (mwithin_any _ _ _ _).mono ?_
        rintro e w' ⟨rfl, rfl⟩
        rw [H1.out]
        go_wp2_with fail
        refine (mwithin_any _ _ _ _).mono ?_
        rintro e w' ⟨rfl, rfl⟩
        rw [H2.out]
        go_wp2_with fail
        refine (mwithin_any _ _ _ _).mono ?_
        rintro e w' ⟨rfl, rfl⟩
        rw [H3.out]
        go_wp2
        go_ret2
        exact MPost.err 7 HV.out (Below.refl _ _)
      · have hok : seedOk s r p = true := by unfold seedOk; rw [h1, h2, h3]; rfl
        have H1 := Lib.hid h1; clear h1
        have H2 := Lib.hid h2; clear h2
        have H3 := Lib.hid h3; clear h3
        obtain ⟨a1, a2, a3, a4, a5, a6⟩ := seedOk_parts hok
        obtain ⟨s, rfl⟩ : ∃ n : Nat, s = (n : Int) := ⟨s.toNat, by omega⟩
        obtain ⟨r, rfl⟩ : ∃ n : Nat, r = (n : Int) := ⟨r.toNat, by omega⟩
        obtain ⟨p, rfl⟩ : ∃ n : Nat, p = (n : Int) := ⟨p.toNat, by omega⟩
        have HV := Lib.hid (seededV_ok hok); clear hok
        have b2 : s ≤ 2147483646 := by omega
        have b4 : r ≤ 6 := by omega
        have b6 : p ≤ 10 := by omega
        clear a1 a2 a3 a4 a5 a6
        have HLT := Lib.hid (sdN_lt s b2)
        go_enter Try.func44, Try.ntmps44
        go_wp2_with fail
        refine (mwithin_any _ _ _ _).mono ?_
        rintro e w' ⟨rfl, rfl⟩
        rw [H1.out]
        go_wp2_with fail
        refine (mwithin_any _ _ _ _).mono ?_
        rintro e w' ⟨rfl, rfl⟩
        rw [H2.out]
        go_wp2_with fail
        refine (mwithin_any _ _ _ _).mono ?_
        rintro e w' ⟨rfl, rfl⟩
        rw [H3.out]
        go_wp2
        go_loopw [0, 8, 24] (fun t v i wr => ∃ (k : Nat) (hs : List RH), k ≤ r ∧ i = .int .i64 k ∧ t = .int .i64 (sdN s (k * p)) ∧ OwnM wr w.heap.size v hs hs.length ∧ hs.length = k ∧ rowsOf hs = (seedM s r p).take k ∧ Below w.heap.size w wr) (fun _ _ i _ => r - (intOf i).toNat)
        case atStart => exact ⟨0, [], Nat.zero_le _, rfl, by rw [Nat.zero_mul]; rfl, OwnM.nil _ _ _, rfl, rfl, Below.refl _ _⟩
        case round =>
          obtain ⟨k, hs, hk, rfl, rfl, hO, hkl, hrows, hB⟩ := hrel
          have HO := Lib.hid hO; clear hO
          have HKL := Lib.hid hkl; clear hkl
          have HRW := Lib.hid hrows; clear hrows
          have HB := Lib.hid hB; clear hB
          by_cases hlt : k < r
          · obtain ⟨wo, rfl⟩ : ∃ wo : World, wo = wr := ⟨_, rfl⟩
            go_wp2
            go_loopw [0, 9, 27] (fun t v i wr => ∃ (j : Nat), j ≤ p ∧ i = .int .i64 j ∧ t = .int .i64 (sdN s (k * p + j)) ∧ OwnI wr wo.heap.size v ((seedRow s p k).take j) ∧ Below wo.heap.size wo wr) (fun _ _ i _ => p - (intOf i).toNat)
            case atStart => exact ⟨0, Nat.zero_le _, rfl, rfl, OwnI.nil _ _, Below.refl _ _⟩
            case round =>
              obtain ⟨j, hj, rfl, rfl, hOI, hBj⟩ := hrel
              have HOI := Lib.hid hOI; clear hOI
              have HBj := Lib.hid hBj; clear hBj
              by_cases hjt : j < p
              · as_aux_lemma =>
                  have hS0 := HLT.out (k * p + j)
                  have HS1 : Hid (sdN s (k * p + (j + 1)) = sdN s (k * p + j) * 48271 % 2147483647) := rfl
                  obtain ⟨S, hS⟩ : ∃ S, sdN s (k * p + j) = S := ⟨_, rfl⟩
                  rw [hS] at hS0 HS1 ⊢
                  clear hS
                  obtain ⟨S1, hS1⟩ : ∃ S1, S * 48271 % 2147483647 = S1 := ⟨_, rfl⟩
                  have hmod : (S : Int) * 48271 % 2147483647 = (S1 : Int) := by rw [← hS1]; simp
                  have hS1b : S1 ≤ 2147483646 := by have : S * 48271 % 2147483647 < 2147483647 := Nat.mod_lt _ (by decide); omega
                  rw [hS1] at HS1
                  obtain ⟨d, hd⟩ : ∃ d : Nat, S1 % 3 = d := ⟨_, rfl⟩
                  have hd3 : (S1 : Int) % 3 = (d : Int) := by rw [← hd]; simp
                  have hd2 : d ≤ 2 := by omega
                  have HNX : Hid ((seedRow s p k).take (j + 1) = (seedRow s p k).take j ++ [(d : Int) - 1]) := by
                    show _ = _
                    rw [seedRow_next s p k hjt]
                    have : sdV s (k * p + j + 1) = (d : Int) - 1 := by
                      unfold sdV
                      have e := HS1.out
                      rw [← Nat.add_assoc] at e
                      rw [e, hd]
                    rw [this]
                  have HS1b := Lib.hid hS1; clear hS1
                  have HD := Lib.hid hd; clear hd
                  have hS0' : (S : Int) * 48271 ≤ 103661186000000 := by omega
                  go_wp2_with (at_builtin; go_must (refine wpList_push rfl (.tmp 32) (.tmp 36) rfl wo.heap.size _ ((seedRow s p k).take j) _ _ _ _ rfl rfl rfl HOI.out (by rw [List.length_take]; omega) HBj.out.size ?_); intro v' w9 ho' hb')
                  go_roundw
                  case rel => exact ⟨j + 1, by omega, by go_num, by rw [HS1.out], by rw [HNX.out]; exact ho', HBj.out.trans hb'⟩
                  case measure => simp [intOf]; omega
              · as_aux_lemma =>
                  obtain rfl : j = p := by omega
                  have hrow : (seedRow s j k).take j = seedRow s j k := List.take_of_length_le (by rw [seedRow_len]; exact Nat.le_refl _)
                  rw [hrow] at HOI
                  obtain ⟨ar, cr, rfl, hsr, hap⟩ := HOI.out.row
                  have HSR := Lib.hid hsr; clear hsr
                  have HAP : Hid (∀ ad, ar = some ad → ad.block < wr.heap.size ∧ Value.ownBlock _ ≠ some ad.block) := fun ad e => ⟨(hap ad e).1, HO.out.apart_of (Nat.le_refl _) (fun ad e => (hap ad e).2) ad e⟩
                  have HOw := Lib.hid (HO.out.below HBj.out)
                  have HBw : Hid (Below w.heap.size w wr) := Below.next HB.out HBj.out (Nat.le_refl _)
                  have hkl6 : hs.length ≤ 1000 := by have := HKL.out; omega
                  have HTK : Hid ((seedM s r j).take (k + 1) = (seedM s r j).take k ++ [seedRow s j k]) := take_range_succ (seedRow s j) hlt
                  clear hap hrow HOI
                  go_wp2_with (at_builtin; go_must (refine wpList_pushM rfl (.tmp 39) (.tmp 41) rfl w.heap.size _ hs ar (seedRow s j k) cr _ _ _ rfl rfl rfl HOw.out HSR.out HAP.out hkl6 HBw.out.size ?_); intro v' w9 ho' hb')
                  go_roundw
                  case rel => exact ⟨k + 1, _, by omega, by go_num, by rw [Nat.succ_mul], by rw [List.length_append]; exact ho', by rw [List.length_append, HKL.out]; rfl, by rw [rowsOf_snoc, HRW.out, HTK.out], HBw.out.trans hb'⟩
                  case measure => simp [intOf]; omega
          · as_aux_lemma =>
              obtain rfl : k = r := by omega
              have htk : (seedM s k p).take k = seedM s k p := List.take_of_length_le (by simp [seedM])
              go_wp2
              go_ret2
              exact MPost.own (by rw [HV.out, HRW.out, htk]) HB.out HO.out (Nat.le_refl _)
end Go.Proofs.Ytkakjfijmekdjab
