
/- Format of both: masks written as signs (layer 2): contracts. -/
import Derived.Test.YtknhfliefkkpfabBuild
import Derived.Test.YtknhfliefkkpfabShelf
import Derived.Test.YtknhfliefkkpfabMVal2
import Derived.Test.YtknhfliefkkpfabMCol2
namespace Go.Proofs.Ytknhfliefkkpfab
open Go.RowKit

/-- The sign of -1, 0 and 1. -/
def sgn (n : Int) : UInt8 := if n = -1 then 45 else if n = 0 then 46 else 43
def lineM (r : List Int) : List UInt8 := r.map sgn ++ [10]
def fmtM (m : List (List Int)) : List UInt8 := m.flatMap lineM
def fmtV (m : List (List Int)) : List UInt8 := if validM m = true then fmtM m else []
theorem fmtM_succ {m : List (List Int)} {k : Nat} {r : List Int} (h : m[k]? = some r) : fmtM (m.take (k + 1)) = fmtM (m.take k) ++ lineM r := by
  have hk := (List.getElem?_eq_some_iff.1 h)
  rw [List.take_succ_eq_append_getElem hk.1, hk.2]
  simp [fmtM]
theorem signs_succ {r : List Int} {j : Nat} {x : Int} (h : r[j]? = some x) : (r.take (j + 1)).map sgn = (r.take j).map sgn ++ [sgn x] := by
  have hk := (List.getElem?_eq_some_iff.1 h)
  rw [List.take_succ_eq_append_getElem hk.1, hk.2]
  simp
theorem fmtM_len {m : List (List Int)} (h : ∀ r ∈ m, r.length ≤ 10) : (fmtM m).length ≤ m.length * 11 := by
  induction m with
  | nil => simp [fmtM]
  | cons r m ih =>
    have h1 := ih (fun r hr => h r (List.mem_cons_of_mem _ hr))
    have h2 := h r (List.mem_cons_self ..)
    simp only [fmtM, List.flatMap_cons, List.length_append, List.length_cons, lineM, List.length_map, List.length_nil] at h1 ⊢
    omega
theorem byteCells_snoc (l : List UInt8) (c : UInt8) : Lib.byteCells l ++ [.int .u8 c.toNat] = Lib.byteCells (l ++ [c]) := by simp [Lib.byteCells]
theorem byteCells_length (l : List UInt8) : (Lib.byteCells l).length = l.length := by simp [Lib.byteCells]
theorem builder_new (w : World) (B : Nat) (hB : B ≤ w.heap.size) : Lib.IsBuilder 90 5 B w.heap.size [] (w.alloc (.cells #[.pointer none, .slice none 0 0] 90)) := by
  refine .inl ⟨hB, .slice none 0 0, ?_, World.ownsRow_nil _ _ _ _, by simp [Value.ownBlock]⟩
  show (w.heap.push _)[w.heap.size]? = _
  simp
theorem str_app (S T : ByteArray) : (S ++ T).data.toList = S.data.toList ++ T.data.toList := by simp
theorem str_size (S : ByteArray) : S.size = S.data.toList.length := by
  show S.data.size = _
  exact (Array.length_toList).symm
/-- A string with the bytes l is returned. -/
def SPost (l : List UInt8) (w : World) (e : Ending) (w' : World) : Prop := Below w.heap.size w w' ∧ e = .returned (.string ⟨l.toArray⟩)

set_option maxRecDepth 100000 in
set_option maxHeartbeats 1000000 in
theorem mFormat_any (a : Option Addr) (m : List (List Int)) (cap : Nat) (w : World) (hm : MOk m) (hs : Ms w a m) :
    Calls Try.prog 37 #[.slice a m.length cap] w (SPost (fmtV m) w) := by
  have HM := Lib.hid hm
  have hml := hm.1
  clear hm
  have HS := Lib.hid hs; clear hs
  go_enter Try.func37, Try.ntmps37
  go_wp2_with fail
  refine (mvalid_any _ _ _ _ HM.out HS.out).mono ?_
  rintro e w1 ⟨rfl, hb1⟩
  have HB1 := Lib.hid hb1
  have HS1 := Lib.hid (HS.out.below hb1); clear hb1
  cases hv : validM m
  · have HV := Lib.hid hv; clear hv
    go_wp2
    go_ret
    exact ⟨HB1.out, by unfold fmtV; rw [HV.out]; rfl⟩
  · have HV := Lib.hid hv; clear hv
    obtain ⟨hm1, hm6, hc1, hc10, _⟩ := validM_of HV.out
    have HN : Hid (Lib.IsBuilder 90 5 w.heap.size w1.heap.size (Lib.byteCells (fmtM (m.take 0))) (w1.alloc (.cells #[.pointer none, .slice none 0 0] 90))) := builder_new w1 w.heap.size HB1.out.size
    have HBA : Hid (Below w.heap.size w (w1.alloc (.cells #[.pointer none, .slice none 0 0] 90))) := HB1.out.alloc HB1.out.size _
    go_wp2
    generalize w1.alloc (.cells #[.pointer none, .slice none 0 0] 90) = W1 at *
    generalize w1.heap.size = G at *
    go_loopw [13] (fun i wr => ∃ k : Nat, k ≤ m.length ∧ i = .int .i64 k ∧ Lib.IsBuilder 90 5 w.heap.size G (Lib.byteCells (fmtM (m.take k))) wr ∧ Below w.heap.size w wr) (fun i _ => m.length - (intOf i).toNat)
    case atStart => exact ⟨0, Nat.zero_le _, rfl, HN.out, HBA.out⟩
    case round =>
      clear HN HBA HB1 HS1
      obtain ⟨k, hk, rfl, hN, hB⟩ := hrel
      have HN := Lib.hid hN
      have HB := Lib.hid hB
      clear hN hB
      have HLN : Hid ((fmtM (m.take k)).length ≤ 66) := by
        have := fmtM_len (m := m.take k) (fun r hr => by have := (validM_of HV.out).2.2.2.2 r (List.mem_of_mem_take hr); omega)
        have h2 : (m.take k).length ≤ 6 := by rw [List.length_take]; omega
        show _ ≤ 66
        omega
      by_cases hlt : k < m.length
      · obtain ⟨b, off, ai, r, ci, rfl, hcr0, hsl, HX⟩ := HS.out.at hlt
        have hcr := (HB.out.cell (p := ⟨b, off + k, none⟩) (cell_lt hcr0)).trans hcr0
        clear hcr0
        obtain ⟨hrl, hr1⟩ := validM_row HV.out HX.out
        have HSL := Lib.hid hsl; clear hsl
        have hr10 : r.length ≤ 10 := by omega
        have HR1 := Lib.hid hr1; clear hr1 hrl
        have HFS := Lib.hid (fmtM_succ HX.out)
        have HN0 : Hid (Lib.IsBuilder 90 5 w.heap.size G (Lib.byteCells (fmtM (m.take k) ++ (r.take 0).map sgn)) wr) := by show Lib.IsBuilder _ _ _ _ _ _; simpa using HN.out
        clear HN
        go_wp2
        go_loopw [19] (fun i wr' => ∃ j : Nat, j ≤ r.length ∧ i = .int .i64 j ∧ Lib.IsBuilder 90 5 w.heap.size G (Lib.byteCells (fmtM (m.take k) ++ (r.take j).map sgn)) wr' ∧ Below w.heap.size w wr') (fun i _ => r.length - (intOf i).toNat)
        case atStart => exact ⟨0, Nat.zero_le _, rfl, HN0.out, HB.out⟩
        case round =>
          clear HN0 HB
          obtain ⟨j, hj, rfl, hN, hB⟩ := hrel
          have HN := Lib.hid hN
          have HB := Lib.hid hB
          clear hN hB
          have HLJ : Hid ((Lib.byteCells (fmtM (m.take k) ++ (r.take j).map sgn)).length ≤ 100000) := by
            show _ ≤ _
            have := HLN.out
            rw [byteCells_length, List.length_append, List.length_map, List.length_take]; omega
          have hbs := HB.out.size
          by_cases hlj : j < r.length
          · obtain ⟨b3, o3, x, rfl, hcx, HX3⟩ := (HSL.out.below HB.out).at hlj
            have hx1 := allB_get HR1.out HX3.out
            have HSS := Lib.hid (signs_succ HX3.out)
            have hx : x = -1 ∨ x = 0 ∨ x = 1 := by omega
            clear hx1
            rcases hx with rfl | rfl | rfl
            all_goals
              go_wp2_with (go_at_call 67; refine (writeByte_any w.heap.size G _ _ _ HN.out HLJ.out hbs).mono ?_; rintro e w9 ⟨rfl, hn9, hb9⟩; have HN9 := Lib.hid hn9; have HB9 := Lib.hid hb9; clear hn9 hb9)
              go_roundw
              case rel =>
                refine ⟨j + 1, by omega, by go_num, ?_, HB.out.trans HB9.out⟩
                rw [HSS.out, ← List.append_assoc, ← byteCells_snoc]; exact HN9.out
              case measure => simp [intOf]; omega
          · obtain rfl : j = r.length := by omega
            go_wp2_with (go_at_call 67; refine (writeByte_any w.heap.size G _ _ _ HN.out HLJ.out hbs).mono ?_; rintro e w9 ⟨rfl, hn9, hb9⟩; have HN9 := Lib.hid hn9; have HB9 := Lib.hid hb9; clear hn9 hb9)
            go_roundw
            case rel => exact ⟨k + 1, by omega, by go_num, by rw [HFS.out]; unfold lineM; rw [← List.append_assoc, ← byteCells_snoc]; rw [List.take_length] at HN9; exact HN9.out, HB.out.trans HB9.out⟩
            case measure => simp [intOf]; omega
      · obtain rfl : k = m.length := by omega
        have HE : Hid (fmtM (m.take m.length) = fmtV m) := by show _ = _; unfold fmtV; rw [HV.out, List.take_length]; rfl
        rw [HE.out] at HN
        have hbs := HB.out.size
        go_wp2_with (go_at_call 68; refine (Try.Builder_String_any w.heap.size G (fmtV m) _ HN.out hbs).mono ?_; rintro e w9 ⟨rfl, hb9⟩)
        go_ret
        exact ⟨HB.out.trans hb9, rfl⟩

set_option maxRecDepth 100000 in
set_option maxHeartbeats 1000000 in
theorem rFormat_any (a : Option Addr) (m : List (List Int)) (cap : Nat) (w : World) (hm : MOk m) (hs : Ms w a m) :
    Calls Try.prog 38 #[.slice a m.length cap] w fun e w' => e = .returned (.string ⟨(fmtV m).toArray⟩) ∧ w = w' := by
  have HM := Lib.hid hm
  have hml := hm.1
  clear hm
  have HS := Lib.hid hs; clear hs
  go_enter Try.func38, Try.ntmps38
  go_wp2_with fail
  refine (rvalid_any _ _ _ _ HM.out HS.out).mono ?_
  rintro e w1 ⟨rfl, rfl⟩
  cases hv : validM m
  · have HV := Lib.hid hv; clear hv
    go_wp2
    go_ret
    exact ⟨by unfold fmtV; rw [HV.out]; rfl, rfl⟩
  · have HV := Lib.hid hv; clear hv
    obtain ⟨hm1, hm6, hc1, hc10, _⟩ := validM_of HV.out
    go_wp2
    go_loop [13, 3] (fun i s => ∃ (k : Nat) (S : ByteArray), k ≤ m.length ∧ i = .int .i64 k ∧ s = .string S ∧ S.data.toList = fmtM (m.take k)) (fun i _ => m.length - (intOf i).toNat)
    case atStart => exact ⟨0, _, Nat.zero_le _, rfl, rfl, rfl⟩
    case round =>
      obtain ⟨k, S, hk, rfl, rfl, hS⟩ := hrel
      have HLS := Lib.hid hS; clear hS
      have HLN : Hid ((fmtM (m.take k)).length ≤ 66) := by
        have := fmtM_len (m := m.take k) (fun r hr => by have := (validM_of HV.out).2.2.2.2 r (List.mem_of_mem_take hr); omega)
        have h2 : (m.take k).length ≤ 6 := by rw [List.length_take]; omega
        show _ ≤ 66
        omega
      by_cases hlt : k < m.length
      · obtain ⟨b, off, ai, r, ci, rfl, hcr, hsl, HX⟩ := HS.out.at hlt
        obtain ⟨hrl, hr1⟩ := validM_row HV.out HX.out
        have HSL := Lib.hid hsl; clear hsl
        have hr10 : r.length ≤ 10 := by omega
        have HR1 := Lib.hid hr1; clear hr1 hrl
        have HFS := Lib.hid (fmtM_succ HX.out)
        go_wp2
        go_loop [19, 3] (fun i s => ∃ (j : Nat) (S : ByteArray), j ≤ r.length ∧ i = .int .i64 j ∧ s = .string S ∧ S.data.toList = fmtM (m.take k) ++ (r.take j).map sgn) (fun i _ => r.length - (intOf i).toNat)
        case atStart => exact ⟨0, S, Nat.zero_le _, rfl, rfl, by rw [HLS.out]; simp⟩
        case round =>
          clear HLS
          obtain ⟨j, S, hj, rfl, rfl, hS⟩ := hrel
          have hsz : S.size ≤ 100 := by
            have h1 := HLN.out
            rw [str_size, hS, List.length_append, List.length_map, List.length_take]; omega
          have HLS := Lib.hid hS; clear hS
          by_cases hlj : j < r.length
          · obtain ⟨b3, o3, x, rfl, hcx, HX3⟩ := HSL.out.at hlj
            have hx1 := allB_get HR1.out HX3.out
            have HSS := Lib.hid (signs_succ HX3.out)
            have hx : x = -1 ∨ x = 0 ∨ x = 1 := by omega
            clear hx1
            rcases hx with rfl | rfl | rfl
            all_goals
              go_wp2
              exact ⟨⟨j + 1, _, by omega, by go_num, rfl, by rw [str_app, HLS.out, HSS.out, ← List.append_assoc]; rfl⟩, by simp [intOf]; omega⟩
          · obtain rfl : j = r.length := by omega
            go_wp2
            exact ⟨⟨k + 1, _, by omega, by go_num, rfl, by rw [str_app, HLS.out, HFS.out, List.take_length]; unfold lineM; rw [List.append_assoc]⟩, by simp [intOf]; omega⟩
      · obtain rfl : k = m.length := by omega
        have HE : Hid (S = ⟨(fmtV m).toArray⟩) := by
          show S = _
          have h : S.data.toList = fmtV m := by rw [HLS.out]; unfold fmtV; rw [HV.out, List.take_length]; rfl
          rw [← h]
        go_wp2
        go_ret
        exact ⟨by rw [HE.out]; rfl, rfl⟩
end Go.Proofs.Ytknhfliefkkpfab
