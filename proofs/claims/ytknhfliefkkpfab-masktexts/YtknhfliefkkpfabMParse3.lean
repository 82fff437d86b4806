
/- Parse of layer 2: contract. -/
import Derived.Test.YtknhfliefkkpfabMParse2
import Derived.Test.YtknhfliefkkpfabMRows
namespace Go.Proofs.Ytknhfliefkkpfab
open Go.RowKit

theorem OwnM.any {w : World} {base : Nat} {v : Value} {hs : List RH} {sk : Nat} (h : OwnM w base v hs sk) (hk : hs.length ≤ sk) : ∃ a cap, v = .slice a (rowsOf hs).length cap ∧ Ms w a (rowsOf hs) := by
  have h' := h.own
  obtain ⟨hx, ⟨rfl, h0⟩ | ⟨g, cap, cur, rfl, _⟩⟩ := h'
  · have : hs = [] := List.eq_nil_of_length_eq_zero h0
    subst this
    exact ⟨none, 0, rfl, Ms.none _⟩
  · exact ⟨_, cap, by rw [rowsOf_length], h.ms hk⟩
theorem OwnM.low' {w : World} {base : Nat} {v : Value} {hs : List RH} {sk : Nat} (h : OwnM w base v hs sk) : ∀ k, v.ownBlock = some k → k < w.heap.size := fun k e => (World.ownsRow.lt h.own k e).2
/-- The length of a string in a slot. -/
def strOf : Value → Nat
  | .string s => s.size
  | _ => 0
/-- What a function that returns a mask, a line and an error returns. -/
def PPostM (R : List (List Int) × Int × Int) (w : World) (e : Ending) (w' : World) : Prop :=
  Below w.heap.size w w' ∧ MOk R.1 ∧ ∃ a cap, e = .returned (.tuple #[.slice a R.1.length cap, .int .i64 R.2.1, .int .i64 R.2.2]) ∧ Ms w' a R.1
theorem PPostM.err {w w' : World} {n k : Int} {R : List (List Int) × Int × Int} (hr : R = ([], n, k)) (hb : Below w.heap.size w w') : PPostM R w (.returned (.tuple #[.slice none 0 0, .int .i64 n, .int .i64 k])) w' := by
  subst hr; exact ⟨hb, mok_nil, none, 0, rfl, Ms.none _⟩
theorem PPostM.own {w w' : World} {a : Option Addr} {cap n : Nat} {m : List (List Int)} {R : List (List Int) × Int × Int} (hr : R = (m, 0, 0)) (hn : n = m.length) (hb : Below w.heap.size w w') (hm : MOk m) (hs : Ms w' a m) : PPostM R w (.returned (.tuple #[.slice a n cap, .int .i64 0, .int .i64 0])) w' := by
  subst hr hn; exact ⟨hb, hm, a, cap, rfl, hs⟩
theorem str_empty {S : ByteArray} (h : S.data.toList = []) : S = ⟨#[]⟩ := by
  obtain ⟨⟨l⟩⟩ := S
  have : l = [] := h
  subst this; rfl
theorem ex_take (S : ByteArray) (n : Nat) : (S.extract 0 n).data.toList = S.data.toList.take n := by
  rw [ByteArray.data_extract, Array.toList_extract]
  simp only [List.extract_eq_take_drop, List.drop_zero, Nat.sub_zero]
theorem ex_drop (S : ByteArray) (n : Nat) : (S.extract n S.size).data.toList = S.data.toList.drop n := by
  rw [ByteArray.data_extract, Array.toList_extract]
  simp only [List.extract_eq_take_drop]
  refine List.take_of_length_le ?_
  rw [List.length_drop, str_size]; exact Nat.le_refl _

/-- What holds ahead of each line. -/
structure ParI (w : World) (R : List (List Int) × Int × Int) (hs : List RH) (S : ByteArray) (f : Nat) (v : Value) (wr : World) : Prop where
  own : OwnM wr w.heap.size v hs hs.length
  below : Below w.heap.size w wr
  ok : MOk (rowsOf hs)
  valid : hs = [] ∨ validM (rowsOf hs) = true
  fuel : S.size < f
  sz : S.size ≤ 65536
  eq : parseF f S.data.toList (rowsOf hs) = R
set_option maxRecDepth 100000 in
set_option maxHeartbeats 1000000 in
theorem mParse_any (S0 : ByteArray) (hsz : S0.size ≤ maxLen) (w : World) :
    Calls Try.prog 35 #[.string S0] w (PPostM (parseV S0.data.toList) w) := by
  unfold maxLen at hsz
  by_cases hl : 65536 < S0.size
  · have HX : Hid (parseV S0.data.toList = ([], 0, 3)) := by show _ = _; unfold parseV; rw [← str_size, if_pos hl]
    go_enter Try.func35, Try.ntmps35
    go_wp2
    go_ret3
    exact PPostM.err HX.out (Below.refl _ _)
  · have HX : Hid (parseF (S0.size + 1) S0.data.toList [] = parseV S0.data.toList) := by show _ = _; unfold parseV; rw [← str_size, if_neg hl]
    generalize parseV S0.data.toList = R at *
    have HI : Hid (ParI w R [] S0 (S0.size + 1) (.slice none 0 0) w) := ⟨OwnM.nil _ _ _, Below.refl _ _, mok_nil, .inl rfl, by omega, by omega, HX.out⟩
    go_enter Try.func35, Try.ntmps35
    go_wp2
    go_loopw [5, 6] (fun v s wr => ∃ (hs : List RH) (S : ByteArray) (f : Nat), s = .string S ∧ ParI w R hs S f v wr) (fun _ s _ => strOf s)
    case atStart => exact ⟨[], S0, _, rfl, HI.out⟩
    case round =>
      clear HI HX hl hsz
      obtain ⟨hs, S, f, rfl, hI⟩ := hrel
      obtain ⟨a5, c5, rfl, hms⟩ := hI.own.any (Nat.le_refl _)
      have HMS := Lib.hid hms; clear hms
      have HI := Lib.hid hI
      have hlen6 : hs.length ≤ 6 := by
        rcases hI.valid with rfl | h
        · simp
        · have := (validM_of h).2.1; rwa [rowsOf_length] at this
      obtain ⟨m, hm⟩ : ∃ m, rowsOf hs = m := ⟨_, rfl⟩
      have hml : m.length ≤ 6 := by rw [← hm, rowsOf_length]; exact hlen6
      have HM := Lib.hid hm
      have hszS := hI.sz
      obtain ⟨f, rfl⟩ : ∃ g, f = g + 1 := ⟨f - 1, by have := hI.fuel; omega⟩
      have HEQ := Lib.hid hI.eq
      rw [hm] at HEQ HI
      rw [hm]
      clear hm hI
      by_cases hA : S.data.toList = [] ∧ m ≠ []
      · obtain ⟨hS, hh⟩ := hA
        obtain rfl := str_empty hS
        have h0 : ((m.length : Int) == 0) = false := by
          have : m.length ≠ 0 := fun e => hh (List.eq_nil_of_length_eq_zero e)
          simp; omega
        have HR := Lib.hid (HEQ.out.symm.trans (parseF_end hh))
        have HOK := Lib.hid HI.out.ok
        rw [HM.out] at HMS HOK
        clear hS hh HEQ
        go_wp2
        go_ret3
        exact PPostM.own HR.out rfl HI.out.below HOK.out HMS.out
      · have HA := Lib.hid hA
        by_cases hi : Lib.indexByte S.data.toList 10 < 0
        · have HNO := Lib.hid ((parseF_no hA hi).symm.trans HEQ.out)
          by_cases hS : S.data.toList = []
          · obtain rfl := str_empty hS
            obtain rfl : m = [] := Classical.byContradiction fun h => hA ⟨hS, h⟩
            clear hA hS
            go_wp2_with fail
            refine (cut_no _ hi _).mono ?_
            rintro e w1 ⟨rfl, rfl⟩
            go_wp2_with fail
            refine (parseRow_any _ hszS _).mono ?_
            rintro e w2 ⟨hb2, vr, rfl, hor⟩
            obtain ⟨ar, cr, rfl, hsr, hap⟩ := hor.row
            generalize rowP _ = r at *
            have HO2 := Lib.hid (HI.out.own.below hb2)
            have HB2 : Hid (Below w.heap.size w w2) := Below.next HI.out.below hb2 (Nat.le_refl _)
            have HAP : Hid (∀ ad, ar = some ad → ad.block < w2.heap.size ∧ (Value.slice a5 0 c5).ownBlock ≠ some ad.block) := fun ad e => by
              obtain ⟨q1, q2⟩ := hap ad e
              exact ⟨q1, fun h => by have := HI.out.own.low' _ h; omega⟩
            have HSR := Lib.hid hsr
            clear hor hsr hap hb2
            go_wp2_with (at_builtin; go_must (refine wpList_pushM rfl (.tmp 28) (.tmp 31) rfl w.heap.size _ hs ar r cr _ _ _ rfl rfl rfl HO2.out HSR.out HAP.out (by omega) HB2.out.size ?_); intro v' w9 ho' hb')
            go_ret3
            exact PPostM.err HNO.out.symm (HB2.out.trans hb')
          · have hSt : ¬ S.toList = [] := by rw [ByteArray.toList_eq]; exact hS
            clear hA hS
            go_wp2_with fail
            refine (cut_no _ hi _).mono ?_
            rintro e w1 ⟨rfl, rfl⟩
            go_wp2_with fail
            refine (parseRow_any _ hszS _).mono ?_
            rintro e w2 ⟨hb2, vr, rfl, hor⟩
            obtain ⟨ar, cr, rfl, hsr, hap⟩ := hor.row
            generalize rowP _ = r at *
            have HO2 := Lib.hid (HI.out.own.below hb2)
            have HB2 : Hid (Below w.heap.size w w2) := Below.next HI.out.below hb2 (Nat.le_refl _)
            have HAP : Hid (∀ ad, ar = some ad → ad.block < w2.heap.size ∧ (Value.slice a5 m.length c5).ownBlock ≠ some ad.block) := fun ad e => by
              obtain ⟨q1, q2⟩ := hap ad e
              exact ⟨q1, fun h => by have := HI.out.own.low' _ h; omega⟩
            have HSR := Lib.hid hsr
            clear hor hsr hap hb2
            go_wp2_with (at_builtin; go_must (refine wpList_pushM rfl (.tmp 28) (.tmp 31) rfl w.heap.size _ hs ar r cr _ _ _ rfl rfl rfl HO2.out HSR.out HAP.out (by omega) HB2.out.size ?_); intro v' w9 ho' hb')
            go_ret3
            exact PPostM.err HNO.out.symm (HB2.out.trans hb')
        · have hg := Lib.indexByte_ge S.data.toList 10
          obtain ⟨n, hn⟩ : ∃ n : Nat, Lib.indexByte S.data.toList 10 = n := ⟨(Lib.indexByte S.data.toList 10).toNat, by omega⟩
          have hlt := idx_lt 10 S.data.toList (by omega)
          rw [hn, ← str_size] at hlt
          have hnS : n < S.size := by omega
          have hSt : ¬ S.toList = [] := by
            rw [ByteArray.toList_eq]; intro e
            rw [str_size, e] at hnS
            simp at hnS
          have HIN := Lib.hid hn
          have HTK := Lib.hid (ex_take S n)
          have hszT : (S.extract 0 n).size ≤ 65536 := by rw [str_size, ex_take, List.length_take]; omega
          have HDR := Lib.hid (ex_drop S (n + 1))
          clear hg hn hlt hi hA
          go_wp2_with fail
          refine (cut_yes _ n HIN.out hszS _).mono ?_
          rintro e w1 ⟨rfl, nd, hw1⟩
          have hb1 := drew_below hw1
          have HB1 : Hid (Below w.heap.size w w1) := Below.next HI.out.below hb1 (Nat.le_refl _)
          have HO1 := Lib.hid (HI.out.own.below hb1)
          clear hw1 hb1
          go_wp2_with fail
          refine (parseRow_any _ hszT _).mono ?_
          rintro e w2 ⟨hb2, vr, rfl, hor⟩
          obtain ⟨ar, cr, rfl, hsr, hap⟩ := hor.row
          rw [HTK.out] at hsr ⊢
          have hpl := rowP_len (S.data.toList.take n)
          have hpin := Lib.hid (rowP_in (S.data.toList.take n))
          have htl : (S.data.toList.take n).length ≤ 65536 := by rw [List.length_take, ← str_size]; omega
          have HSAME := Lib.hid (row_same m (S.data.toList.take n))
          obtain ⟨r, hr⟩ : ∃ r, rowP (S.data.toList.take n) = r := ⟨_, rfl⟩
          rw [hr] at hsr hpl hpin HSAME
          rw [hr]
          have hrl : r.length ≤ 65536 := by omega
          have HO2 := Lib.hid (HO1.out.below hb2)
          have HB2 : Hid (Below w.heap.size w w2) := Below.next HB1.out hb2 (Nat.le_refl _)
          have HAP : Hid (∀ ad, ar = some ad → ad.block < w2.heap.size ∧ (Value.slice a5 m.length c5).ownBlock ≠ some ad.block) := fun ad e => by
            obtain ⟨q1, q2⟩ := hap ad e
            exact ⟨q1, fun h => by have h1 := HO1.out.low' _ h; omega⟩
          have HSR := Lib.hid hsr
          clear hor hsr hap hb2 hr hpl htl
          have HMK : Hid (MOk (rowsOf (hs ++ [(ar, r, cr)]))) := by
            show MOk _
            rw [rowsOf_snoc]
            exact mok_snoc HI.out.ok (by rw [rowsOf_length]; omega) hrl hpin.out
          have HRS : Hid (rowsOf (hs ++ [(ar, r, cr)]) = m ++ [r]) := by show _ = _; rw [rowsOf_snoc, HM.out]
          go_wp2_with (at_builtin; go_must (refine wpList_pushM rfl (.tmp 28) (.tmp 31) rfl w.heap.size _ hs ar r cr _ _ _ rfl rfl rfl HO2.out HSR.out HAP.out (by omega) HB2.out.size ?_); intro v' w9 ho' hb'; have HO9 := Lib.hid ho'; have HB9 := Lib.hid hb'; clear ho' hb'; obtain ⟨a9, c9, hv9, hms9⟩ := HO9.out.any (by simp); subst hv9; have HMS9 := Lib.hid hms9; clear hms9)
          refine (mvalid_any _ _ _ _ HMK.out HMS9.out).mono ?_
          rintro e w10 ⟨rfl, hb10⟩
          rw [HRS.out, HSAME.out.1]
          have HB10 : Hid (Below w.heap.size w w10) := Below.next (HB2.out.trans HB9.out) hb10 (Nat.le_refl _)
          have HO10 := Lib.hid (HO9.out.below hb10); clear hb10
          cases hv : validM (m ++ [rowL (S.data.toList.take n)])
          · have HX := Lib.hid ((parseF_bad HA.out HIN.out hv).symm.trans HEQ.out)
            clear hv
            go_wp2
            go_ret3
            exact PPostM.err HX.out.symm HB10.out
          · have HX := Lib.hid ((parseF_next HA.out HIN.out hv).symm.trans HEQ.out)
            have HV := Lib.hid hv; clear hv
            go_wp2
            go_roundw
            case rel =>
              refine ⟨hs ++ [(ar, r, cr)], _, f, rfl, ?_, HB10.out, HMK.out, .inr (by rw [HRS.out, HSAME.out.1]; exact HV.out), ?_, ?_, ?_⟩
              · have h := HO10.out
                rw [HRS.out] at h
                simpa using h
              · have h1 := HI.out.fuel
                rw [str_size, HDR.out, List.length_drop, ← str_size]; omega
              · rw [str_size, HDR.out, List.length_drop, ← str_size]; omega
              · rw [HDR.out, HRS.out, HSAME.out.2 HV.out]; exact HX.out
            case measure =>
              show (S.extract (n + 1) S.size).size < S.size
              rw [str_size, HDR.out, List.length_drop, ← str_size]; omega
end Go.Proofs.Ytknhfliefkkpfab
