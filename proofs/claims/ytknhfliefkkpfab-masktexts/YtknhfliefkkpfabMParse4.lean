
/- Parse of the answers of layer 2: contract. -/
import Derived.Test.YtknhfliefkkpfabMParse3
namespace Go.Proofs.Ytknhfliefkkpfab
open Go.RowKit

theorem idxByte_sgn (c : UInt8) (w : World) :
    Calls Try.prog 66 #[.string ⟨#[45, 46, 43]⟩, .int .u8 (c.toNat : Int)] w fun e w' => e = .returned (.int .i64 (sgnB c + 1)) ∧ w = w' := by
  refine (Try.strings_IndexByte ⟨#[45, 46, 43]⟩ (c.toNat : Int) w).mono ?_
  rintro e w' ⟨rfl, rfl⟩
  refine ⟨?_, rfl⟩
  have e : ((c.toNat : Int)).toNat.toUInt8 = c := by simp
  rw [e]
  exact ret_i64 (sgn_index c)
theorem idxByte_lf (s : ByteArray) (w : World) :
    Calls Try.prog 66 #[.string s, .int .u8 10] w fun e w' => e = .returned (.int .i64 (Lib.indexByte s.data.toList 10)) ∧ w = w' := by
  refine (Try.strings_IndexByte s 10 w).mono ?_
  rintro e w' ⟨rfl, rfl⟩
  exact ⟨rfl, rfl⟩
set_option maxRecDepth 100000 in
set_option maxHeartbeats 1000000 in
theorem rParse_any (S0 : ByteArray) (hsz : S0.size ≤ maxLen) (w : World) :
    Calls Try.prog 36 #[.string S0] w (PPostM (parseV S0.data.toList) w) := by
  unfold maxLen at hsz
  by_cases hl : 65536 < S0.size
  · have HX : Hid (parseV S0.data.toList = ([], 0, 3)) := by show _ = _; unfold parseV; rw [← str_size, if_pos hl]
    go_enter Try.func36, Try.ntmps36
    go_wp2
    go_ret3
    exact PPostM.err HX.out (Below.refl _ _)
  · have HX : Hid (parseF (S0.size + 1) S0.data.toList [] = parseV S0.data.toList) := by show _ = _; unfold parseV; rw [← str_size, if_neg hl]
    generalize parseV S0.data.toList = R at *
    have HI : Hid (ParI w R [] S0 (S0.size + 1) (.slice none 0 0) w) := ⟨OwnM.nil _ _ _, Below.refl _ _, mok_nil, .inl rfl, by omega, by omega, HX.out⟩
    go_enter Try.func36, Try.ntmps36
    go_wp2
    go_loopw [0, 2, 5] (fun s v i wr => ∃ (hs : List RH) (S : ByteArray) (f : Nat), s = .string S ∧ i = .int .i64 hs.length ∧ ParI w R hs S f v wr) (fun s _ _ _ => strOf s)
    case atStart => exact ⟨[], S0, _, rfl, rfl, HI.out⟩
    case round =>
      clear HI HX hl hsz
      obtain ⟨wo, rfl⟩ : ∃ wo : World, wo = wr := ⟨_, rfl⟩
      obtain ⟨hs, S, f, rfl, rfl, hI⟩ := hrel
      obtain ⟨a5, c5, rfl, hms⟩ := hI.own.any (Nat.le_refl _)
      have HMS := Lib.hid hms; clear hms
      have HI := Lib.hid hI
      have hlen6 : hs.length ≤ 6 := by
        rcases hI.valid with rfl | h
        · simp
        · have := (validM_of h).2.1; rwa [rowsOf_length] at this
      obtain ⟨m, hm⟩ : ∃ m, rowsOf hs = m := ⟨_, rfl⟩
      have hml : m.length ≤ 6 := by rw [← hm, rowsOf_length]; exact hlen6
      have HML : Hid (hs.length = m.length) := by show _ = _; rw [← hm, rowsOf_length]
      have HM := Lib.hid hm
      have hszS := hI.sz
      obtain ⟨f, rfl⟩ : ∃ g, f = g + 1 := ⟨f - 1, by have := hI.fuel; omega⟩
      have HEQ := Lib.hid hI.eq
      rw [hm] at HEQ HI
      rw [hm, HML.out]
      clear hm hI hlen6
      by_cases hA : S.data.toList = [] ∧ m ≠ []
      · obtain ⟨hS, hh⟩ := hA
        obtain rfl := str_empty hS
        have h0 : ((m.length : Int) == 0) = false := by
          have : m.length ≠ 0 := fun e => hh (List.eq_nil_of_length_eq_zero e)
          simp; omega
        have HR := Lib.hid (HEQ.out.symm.trans (parseF_end hh))
        have HOK := Lib.hid HI.out.ok
        rw [HM.out] at HMS HOK
        clear hS hh HEQ
        go_wp2
        go_ret3
        exact PPostM.own HR.out rfl HI.out.below HOK.out HMS.out
      · have HA := Lib.hid hA
        by_cases hi : Lib.indexByte S.data.toList 10 < 0
        · have HNO := Lib.hid ((parseF_no hA hi).symm.trans HEQ.out)
          by_cases hS : S.data.toList = []
          · obtain rfl := str_empty hS
            obtain rfl : m = [] := Classical.byContradiction fun h => hA ⟨hS, h⟩
            clear hA hS
            go_wp2_with (go_at_call 66; refine (idxByte_lf _ _).mono ?_; rintro e w1 ⟨rfl, rfl⟩)
            go_ret3
            exact PPostM.err HNO.out.symm HI.out.below
          · have hSt : ¬ S.toList = [] := by rw [ByteArray.toList_eq]; exact hS
            have hSe : S.toList.isEmpty = false := by simpa using hSt
            have hcase : ((m.length : Int) == 0) = true ∨ ((m.length : Int) == 0) = false := by cases ((m.length : Int) == 0) <;> simp
            clear hA hS
            rcases hcase with hz | hz
            all_goals
              go_wp2_with (go_at_call 66; refine (idxByte_lf _ _).mono ?_; rintro e w1 ⟨rfl, rfl⟩)
              go_ret3
              exact PPostM.err HNO.out.symm HI.out.below
        · have hg := Lib.indexByte_ge S.data.toList 10
          obtain ⟨n, hn⟩ : ∃ n : Nat, Lib.indexByte S.data.toList 10 = n := ⟨(Lib.indexByte S.data.toList 10).toNat, by omega⟩
          have hlt := idx_lt 10 S.data.toList (by omega)
          rw [hn, ← str_size] at hlt
          have hnS : n < S.size := by omega
          have hSt : ¬ S.toList = [] := by
            rw [ByteArray.toList_eq]; intro e
            rw [str_size, e] at hnS
            simp at hnS
          have HIN := Lib.hid hn
          have HDR := Lib.hid (ex_drop S (n + 1))
          clear hg hn hlt hi hA
          have hcase : ((m.length : Int) == 0) = true ∨ ((m.length : Int) == 0) = false := by cases ((m.length : Int) == 0) <;> simp
          have hSe : S.toList.isEmpty = false := by simpa using hSt
          rcases hcase with hz | hz
          all_goals
            go_wp2_with (go_at_call 66; refine (idxByte_lf _ _).mono ?_; rintro e w1 ⟨rfl, rfl⟩; rw [HIN.out])
            clear hz
            go_loopw [7, 8] (fun v i wr' => ∃ k : Nat, k ≤ n ∧ i = .int .i64 k ∧ OwnI wr' wo.heap.size v (rowL (S.data.toList.take k)) ∧ Below wo.heap.size wo wr') (fun _ i _ => n - (intOf i).toNat)
            case atStart => exact ⟨0, Nat.zero_le _, rfl, OwnI.nil _ _, Below.refl _ _⟩
            case round =>
              obtain ⟨k, hk, rfl, hO, hB⟩ := hrel
              have HO := Lib.hid hO
              have HB := Lib.hid hB
              clear hO hB
              by_cases hlt : k < n
              · have hkS : k < S.size := by omega
                have hx := sgnB_in (S[k]'hkS)
                obtain ⟨hx1, hx2⟩ := hx
                have HT : Hid (rowL (S.data.toList.take (k + 1)) = rowL (S.data.toList.take k) ++ [sgnB (S[k]'hkS)]) := by
                  show _ = _
                  unfold rowL
                  rw [take_succ' (c := S[k]'hkS) (by simp [hkS]; rfl)]
                  simp
                have hlen : (rowL (S.data.toList.take k)).length ≤ 100000 := by unfold rowL; rw [List.length_map, List.length_take]; omega
                have HLEN := Lib.hid hlen; clear hlen
                go_wp2_with (first | (go_at_call 66; refine (idxByte_sgn _ _).mono ?_; rintro e w1 ⟨rfl, rfl⟩) | (at_builtin; go_must (refine wpList_push rfl (.tmp 30) (.tmp 36) rfl wo.heap.size _ (rowL (S.data.toList.take k)) _ _ _ _ rfl rfl rfl HO.out HLEN.out HB.out.size ?_); intro v' w9 ho' hb'))
                go_roundw
                case rel => exact ⟨k + 1, by omega, by go_num, by rw [HT.out]; exact ho', HB.out.trans hb'⟩
                case measure => simp [intOf]; omega
              · obtain rfl : k = n := by omega
                have hrl : (rowL (S.data.toList.take k)).length ≤ 65536 := by unfold rowL; rw [List.length_map, List.length_take, ← str_size]; omega
                have hpin := Lib.hid (rowL_in (S.data.toList.take k))
                obtain ⟨r, hr⟩ : ∃ r, rowL (S.data.toList.take k) = r := ⟨_, rfl⟩
                rw [hr] at hrl hpin HO
                have HRL := Lib.hid hr; clear hr
                obtain ⟨ar, cr, rfl, hsr, hap⟩ := HO.out.row
                have HO2 := Lib.hid (HI.out.own.below HB.out)
                have HB2 : Hid (Below w.heap.size w wr) := Below.next HI.out.below HB.out (Nat.le_refl _)
                have HAP : Hid (∀ ad, ar = some ad → ad.block < wr.heap.size ∧ (Value.slice a5 m.length c5).ownBlock ≠ some ad.block) := fun ad e => by
                  obtain ⟨q1, q2⟩ := hap ad e
                  exact ⟨q1, fun h => by have h1 := HI.out.own.low' _ h; omega⟩
                have HSR := Lib.hid hsr
                have hh6 : hs.length ≤ 1000 := by have := HML.out; omega
                clear hsr hap
                have HMK : Hid (MOk (rowsOf (hs ++ [(ar, r, cr)]))) := by
                  show MOk _
                  rw [rowsOf_snoc]
                  exact mok_snoc HI.out.ok (by rw [rowsOf_length]; have := HML.out; omega) hrl hpin.out
                have HRS : Hid (rowsOf (hs ++ [(ar, r, cr)]) = m ++ [r]) := by show _ = _; rw [rowsOf_snoc, HM.out]
                go_wp2_with (at_builtin; go_must (refine wpList_pushM rfl (.tmp 38) (.tmp 40) rfl w.heap.size _ hs ar r cr _ _ _ rfl rfl rfl HO2.out HSR.out HAP.out hh6 HB2.out.size ?_); intro v' w9 ho' hb'; have HO9 := Lib.hid ho'; have HB9 := Lib.hid hb'; clear ho' hb'; obtain ⟨a9, c9, hv9, hms9⟩ := HO9.out.any (by simp); subst hv9; have HMS9 := Lib.hid hms9; clear hms9)
                refine (rvalid_any _ _ _ _ HMK.out HMS9.out).mono ?_
                rintro e w10 ⟨rfl, rfl⟩
                rw [HRS.out]
                have HB10 : Hid (Below w.heap.size w w9) := HB2.out.trans HB9.out
                have HVR := Lib.hid HRL.out
                cases hv : validM (m ++ [r])
                · have HX := Lib.hid ((parseF_bad HA.out HIN.out (by rw [HRL.out]; exact hv)).symm.trans HEQ.out)
                  clear hv
                  go_wp2
                  go_ret3
                  exact PPostM.err HX.out.symm HB10.out
                · have HX := Lib.hid ((parseF_next HA.out HIN.out (by rw [HRL.out]; exact hv)).symm.trans HEQ.out)
                  have HV := Lib.hid hv; clear hv
                  have hkm : ((m.length : Int) + 1) = ((hs ++ [(ar, r, cr)]).length : Nat) := by have := HML.out; simp; omega
                  have HKM := Lib.hid hkm; clear hkm
                  go_wp2
                  go_roundw
                  case rel =>
                    refine ⟨hs ++ [(ar, r, cr)], _, f, rfl, by rw [HKM.out], ?_, HB10.out, HMK.out, .inr (by rw [HRS.out]; exact HV.out), ?_, ?_, ?_⟩
                    · have h := HO9.out
                      rw [HRS.out] at h
                      simpa using h
                    · have h1 := HI.out.fuel
                      rw [str_size, HDR.out, List.length_drop, ← str_size]; omega
                    · rw [str_size, HDR.out, List.length_drop, ← str_size]; omega
                    · rw [HDR.out, HRS.out, ← HRL.out]; exact HX.out
                  case measure =>
                    show (S.extract (k + 1) S.size).size < S.size
                    rw [str_size, HDR.out, List.length_drop, ← str_size]; omega
end Go.Proofs.Ytknhfliefkkpfab
