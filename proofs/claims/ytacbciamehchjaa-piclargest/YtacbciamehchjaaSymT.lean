
/- The merge of two sorted neighbours, by the comparison of Largest: a contract. -/
import Derived.Test.YtacbciamehchjaaSymSmall
import Derived.Test.YtacbciamehchjaaRotate
import Derived.Test.YtacbciamehchjaaMergeMath
import Derived.Deep.RegionHeldLaw
import Derived.Deep.RegionLaw
namespace Go.Proofs.Ytacbciamehchjaa
open Go.RowKit

/-- What stands behind the first n pieces of a row of code. -/
def seqTail : Nat → Code → Code
  | 0, c => c
  | n + 1, .seq _ b => seqTail n b
  | _ + 1, c => c
/-- The merge of shorter ranges. -/
def SymIH (g cap B : Nat) (a : Option Addr) (L : List Int) (lc d : Nat) : Prop := ∀ (lo m hi : Nat) (xs : List Int) (w : World) (_hd : hi - lo ≤ d) (_h1 : lo < m) (_h2 : m < hi) (_h3 : hi ≤ xs.length) (_hx : xs.length ≤ 256) (_hr : ∀ k, k < xs.length → 0 ≤ gt xs k ∧ gt xs k < L.length) (_hm : Mg L lo m hi xs) (_ho : OwnI w g (Dat g xs.length cap) xs) (_hc : Clo B a L lc g w),
    Calls Try.prog 81 #[Dat g xs.length cap, .int .i64 lo, .int .i64 m, .int .i64 hi, Clv B] w fun e w' => ∃ ys, SPost g xs.length cap ys w e w' ∧ Rearr lo hi xs ys ∧ Srt L lo hi ys
/-- All that is known once the two ranges are to be parted at p and e. -/
structure SC (g cap B : Nat) (a : Option Addr) (L : List Int) (lc d lo m hi mid p e : Nat) (xs : List Int) (w : World) : Prop where
  ih : Hid (SymIH g cap B a L lc d)
  mg : Hid (Mg L lo m hi xs)
  hf : Hid (Half L lo m hi mid p e xs)
  hr : Hid (∀ k, k < xs.length → 0 ≤ gt xs k ∧ gt xs k < L.length)
  cl : Hid (Clo B a L lc g w)
  hl : Hid (hi ≤ xs.length)
  hx : Hid (xs.length ≤ 256)
  hd : Hid (lo < m ∧ m < hi ∧ hi - lo ≤ d + 1)
  mid : Hid (mid = (lo + hi) / 2)
set_option maxRecDepth 100000 in
set_option maxHeartbeats 3200000 in
theorem sym_t4 {g cap B : Nat} {a : Option Addr} {L : List Int} {lc d lo m hi mid p e : Nat} {xs : List Int} {w : World} (c : SC g cap B a L lc d lo m hi mid p e xs w) (w2 : World) (zs : List Int) (HZ : Hid (Rearr lo mid (hlf xs m p e) zs)) (SZ : Hid (Srt L lo mid zs)) (HO2 : Hid (OwnI w2 g (Dat g xs.length cap) zs)) (HB2 : Hid (Below g w w2)) (u5 u6 u7 u8 u9 u10 u11 u12 u13 u14 u15 u16 u17 u19 u21 u22 u23 u25 u26 u27 u28 u29 u30 u31 u32 u33 u34 u35 u36 u37 u38 u39 u40 u41 u42 u43 u44 u45 u46 u47 u48 u49 u50 u51 u52 u53 u54 u55 u56 u57 u58 u59 u60 u61 u62 u63 u64 u65 u66 u67 u68 u69 u70 u71 u72 u73 u74 u75 u76 u77 u78 u79 u80 u81 u82 u83 u84 u85 u86 u87 u88 u89 u90 u91 u92 u93 u94 u95 u96 u97 u98 u99 u100 u101 u102 u103 u104 u105 u106 u107 u108 u109 u110 u111 u112 u113 u114 u115 u116 u117 u118 u119 u120 u121 u122 u123 u124 u125 u126 u127 u128 u129 u130 u131 u132 u133 u134 u135 u136 u137 u138 u139 u140 u141 u142 u143 u144 u145 u146 u147 u148 u149 u150 u151 u152 u153 u154 u155 u156 u157 u158 u159 u160 u161 u162 u163 u164 u165 u166 u167 u168 u169 u170 u171 u172 u173 u174 u175 u176 u177 u178 u179 u180 u181 u182 u183 u184 u185 u186 u187 u188 u189 u190 u191 u192 u193 u194 u195 u196 u197 u198 u199 u200 u201 u202 u203 u204 u205 u206 u207 u208 u209 u210 u211 u212 u213 u214 u215 u216 u217 u218 u219 : Value) :
    Code.wp Try.prog (seqTail 11 ((Try.f81.body).getD .skip)) (bodyPost Try.prog Try.f81 (fun e1 w1 => ∃ ys, SPost g xs.length cap ys w e1 w1 ∧ Rearr lo hi xs ys ∧ Srt L lo hi ys)) { tmps := #[.slice (some ⟨g, 0, none⟩) xs.length cap, .int .i64 (lo : Nat), .int .i64 (m : Nat), .int .i64 (hi : Nat), .func (.func 32) #[] #[.pointer (some ⟨B, 0, none⟩)], u5, u6, u7, u8, u9, u10, u11, u12, u13, u14, u15, u16, u17, .int .i64 (mid : Nat), u19, .int .i64 (p : Nat), u21, u22, u23, .int .i64 (e : Nat), u25, u26, u27, u28, u29, u30, u31, u32, u33, u34, u35, u36, u37, u38, u39, u40, u41, u42, u43, u44, u45, u46, u47, u48, u49, u50, u51, u52, u53, u54, u55, u56, u57, u58, u59, u60, u61, u62, u63, u64, u65, u66, u67, u68, u69, u70, u71, u72, u73, u74, u75, u76, u77, u78, u79, u80, u81, u82, u83, u84, u85, u86, u87, u88, u89, u90, u91, u92, u93, u94, u95, u96, u97, u98, u99, u100, u101, u102, u103, u104, u105, u106, u107, u108, u109, u110, u111, u112, u113, u114, u115, u116, u117, u118, u119, u120, u121, u122, u123, u124, u125, u126, u127, u128, u129, u130, u131, u132, u133, u134, u135, u136, u137, u138, u139, u140, u141, u142, u143, u144, u145, u146, u147, u148, u149, u150, u151, u152, u153, u154, u155, u156, u157, u158, u159, u160, u161, u162, u163, u164, u165, u166, u167, u168, u169, u170, u171, u172, u173, u174, u175, u176, u177, u178, u179, u180, u181, u182, u183, u184, u185, u186, u187, u188, u189, u190, u191, u192, u193, u194, u195, u196, u197, u198, u199, u200, u201, u202, u203, u204, u205, u206, u207, u208, u209, u210, u211, u212, u213, u214, u215, u216, u217, u218, u219], defers := [] } w2 := by
  obtain ⟨IH, HM, HH, HR, HC, h3, hx, hd, hmid⟩ := c
  obtain ⟨k1, k2, k3, k4, k5, k6, k7, _, _⟩ := HH.out
  have h3' := h3.out
  have hx' := hx.out
  have HL2 : Hid (zs.length = xs.length) := HZ.out.len.trans (hlf_len _ _ _ _)
  have HYL : Hid ((hlf xs m p e).length = xs.length) := hlf_len _ _ _ _
  conv => arg 2; whnf
  by_cases qA : mid < e
  · by_cases qD : e < hi
    · have HRZ : Hid (∀ k, k < zs.length → 0 ≤ gt zs k ∧ gt zs k < L.length) := HZ.out.every (P := fun z => 0 ≤ z ∧ z < L.length) (by rw [HYL.out]; omega) ((hlf_rearr HH.out h3').every (P := fun z => 0 ≤ z ∧ z < L.length) h3' HR.out)
      have HC1 : Hid (Calls Try.prog 81 #[.slice (some ⟨g, 0, none⟩) xs.length cap, .int .i64 (mid : Nat), .int .i64 (e : Nat), .int .i64 (hi : Nat), .func (.func 32) #[] #[.pointer (some ⟨B, 0, none⟩)]] w2 fun e' w' => ∃ us, SPost g xs.length cap us w2 e' w' ∧ Rearr mid hi zs us ∧ Srt L mid hi us) := by
        have h := IH.out mid e hi zs w2 (by have := hd.out; have := hmid.out; omega) (by omega) (by omega) (by rw [HL2.out]; exact h3') (by rw [HL2.out]; exact hx') HRZ.out (half_next HH.out HM.out h3' HZ.out) (by rw [HL2.out]; exact HO2.out) (HC.out.below HB2.out)
        rw [HL2.out] at h
        exact h
      go_wp2_with fail
      refine HC1.out.mono ?_
      rintro e' w3 ⟨us, ⟨rfl, hb, ho, hln⟩, hre, hsr⟩
      have HB3 := Lib.hid (HB2.out.trans hb)
      have HO3 := Lib.hid ho
      have HL3 := Lib.hid hln
      have HDN := Lib.hid (half_done HH.out HM.out h3.out HZ.out SZ.out hre hsr)
      clear hb ho hln hre hsr HC1
      go_wp2
      go_end0
      exact ⟨_, ⟨rfl, HB3.out, HO3.out, HL3.out⟩, HDN.out.2, HDN.out.1⟩
    · have HB3 := HB2
      have HO3 := HO2
      have HL3 := HL2
      have HDN := Lib.hid (half_done HH.out HM.out h3.out HZ.out SZ.out (Rearr.refl _ _ _) (half_skip2 HH.out HM.out h3.out HZ.out (by omega)))
      go_wp2
      go_end0
      exact ⟨_, ⟨rfl, HB3.out, HO3.out, HL3.out⟩, HDN.out.2, HDN.out.1⟩
  · have HB3 := HB2
    have HO3 := HO2
    have HL3 := HL2
    have HDN := Lib.hid (half_done HH.out HM.out h3.out HZ.out SZ.out (Rearr.refl _ _ _) (half_skip2 HH.out HM.out h3.out HZ.out (by omega)))
    go_wp2
    go_end0
    exact ⟨_, ⟨rfl, HB3.out, HO3.out, HL3.out⟩, HDN.out.2, HDN.out.1⟩
set_option maxRecDepth 100000 in
set_option maxHeartbeats 3200000 in
theorem sym_t3 {g cap B : Nat} {a : Option Addr} {L : List Int} {lc d lo m hi mid p e : Nat} {xs : List Int} {w : World} (c : SC g cap B a L lc d lo m hi mid p e xs w) (w1 : World) (HO1 : Hid (OwnI w1 g (Dat g xs.length cap) (hlf xs m p e))) (HB1 : Hid (Below g w w1)) (u5 u6 u7 u8 u9 u10 u11 u12 u13 u14 u15 u16 u17 u19 u21 u22 u23 u25 u26 u27 u28 u29 u30 u31 u32 u33 u34 u35 u36 u37 u38 u39 u40 u41 u42 u43 u44 u45 u46 u47 u48 u49 u50 u51 u52 u53 u54 u55 u56 u57 u58 u59 u60 u61 u62 u63 u64 u65 u66 u67 u68 u69 u70 u71 u72 u73 u74 u75 u76 u77 u78 u79 u80 u81 u82 u83 u84 u85 u86 u87 u88 u89 u90 u91 u92 u93 u94 u95 u96 u97 u98 u99 u100 u101 u102 u103 u104 u105 u106 u107 u108 u109 u110 u111 u112 u113 u114 u115 u116 u117 u118 u119 u120 u121 u122 u123 u124 u125 u126 u127 u128 u129 u130 u131 u132 u133 u134 u135 u136 u137 u138 u139 u140 u141 u142 u143 u144 u145 u146 u147 u148 u149 u150 u151 u152 u153 u154 u155 u156 u157 u158 u159 u160 u161 u162 u163 u164 u165 u166 u167 u168 u169 u170 u171 u172 u173 u174 u175 u176 u177 u178 u179 u180 u181 u182 u183 u184 u185 u186 u187 u188 u189 u190 u191 u192 u193 u194 u195 u196 u197 u198 u199 u200 u201 u202 u203 u204 u205 u206 u207 u208 u209 u210 u211 u212 u213 u214 u215 u216 u217 u218 u219 : Value) :
    Code.wp Try.prog (seqTail 10 ((Try.f81.body).getD .skip)) (bodyPost Try.prog Try.f81 (fun e1 w1 => ∃ ys, SPost g xs.length cap ys w e1 w1 ∧ Rearr lo hi xs ys ∧ Srt L lo hi ys)) { tmps := #[.slice (some ⟨g, 0, none⟩) xs.length cap, .int .i64 (lo : Nat), .int .i64 (m : Nat), .int .i64 (hi : Nat), .func (.func 32) #[] #[.pointer (some ⟨B, 0, none⟩)], u5, u6, u7, u8, u9, u10, u11, u12, u13, u14, u15, u16, u17, .int .i64 (mid : Nat), u19, .int .i64 (p : Nat), u21, u22, u23, .int .i64 (e : Nat), u25, u26, u27, u28, u29, u30, u31, u32, u33, u34, u35, u36, u37, u38, u39, u40, u41, u42, u43, u44, u45, u46, u47, u48, u49, u50, u51, u52, u53, u54, u55, u56, u57, u58, u59, u60, u61, u62, u63, u64, u65, u66, u67, u68, u69, u70, u71, u72, u73, u74, u75, u76, u77, u78, u79, u80, u81, u82, u83, u84, u85, u86, u87, u88, u89, u90, u91, u92, u93, u94, u95, u96, u97, u98, u99, u100, u101, u102, u103, u104, u105, u106, u107, u108, u109, u110, u111, u112, u113, u114, u115, u116, u117, u118, u119, u120, u121, u122, u123, u124, u125, u126, u127, u128, u129, u130, u131, u132, u133, u134, u135, u136, u137, u138, u139, u140, u141, u142, u143, u144, u145, u146, u147, u148, u149, u150, u151, u152, u153, u154, u155, u156, u157, u158, u159, u160, u161, u162, u163, u164, u165, u166, u167, u168, u169, u170, u171, u172, u173, u174, u175, u176, u177, u178, u179, u180, u181, u182, u183, u184, u185, u186, u187, u188, u189, u190, u191, u192, u193, u194, u195, u196, u197, u198, u199, u200, u201, u202, u203, u204, u205, u206, u207, u208, u209, u210, u211, u212, u213, u214, u215, u216, u217, u218, u219], defers := [] } w1 := by
  obtain ⟨IH, HM, HH, HR, HC, h3, hx, hd, hmid⟩ := c
  obtain ⟨k1, k2, k3, k4, k5, k6, k7, _, _⟩ := HH.out
  have h3' := h3.out
  have hx' := hx.out
  have HYL : Hid ((hlf xs m p e).length = xs.length) := hlf_len _ _ _ _
  conv => arg 2; whnf
  refine wp_seq_k (fun K hK => ?_)
  have HK := Lib.hid hK; clear hK
  by_cases qC : lo < p
  · by_cases qB : p < mid
    · have HRAN : Hid (∀ k, k < (hlf xs m p e).length → 0 ≤ gt (hlf xs m p e) k ∧ gt (hlf xs m p e) k < L.length) := (hlf_rearr HH.out h3').every (P := fun z => 0 ≤ z ∧ z < L.length) h3' HR.out
      have HC1 : Hid (Calls Try.prog 81 #[.slice (some ⟨g, 0, none⟩) xs.length cap, .int .i64 (lo : Nat), .int .i64 (p : Nat), .int .i64 (mid : Nat), .func (.func 32) #[] #[.pointer (some ⟨B, 0, none⟩)]] w1 fun e' w' => ∃ us, SPost g xs.length cap us w1 e' w' ∧ Rearr lo mid (hlf xs m p e) us ∧ Srt L lo mid us) := by
        have h := IH.out lo p mid (hlf xs m p e) w1 (by have := hd.out; have := hmid.out; omega) (by omega) (by omega) (by rw [HYL.out]; omega) (by rw [HYL.out]; exact hx') HRAN.out (half_left HH.out HM.out h3') (by rw [HYL.out]; exact HO1.out) (HC.out.below HB1.out)
        rw [HYL.out] at h
        exact h
      go_wp2_with fail
      refine HC1.out.mono ?_
      rintro e' w3 ⟨us, ⟨rfl, hb, ho, hln⟩, hre, hsr⟩
      have HB2 := Lib.hid (HB1.out.trans hb)
      have HO2 := Lib.hid ho
      have HZ := Lib.hid hre
      have SZ := Lib.hid hsr
      clear hb ho hln hre hsr HC1
      go_wp2
      have HK1 := HK.out
      refine HK1 _ _ ?_
      exact sym_t4 ⟨IH, HM, HH, HR, HC, h3, hx, hd, hmid⟩ _ _ HZ SZ HO2 HB2 _ _ _ _ _ _ _ _ _ _ _ _ _ _ _ _ _ _ _ _ _ _ _ _ _ _ _ _ _ _ _ _ _ _ _ _ _ _ _ _ _ _ _ _ _ _ _ _ _ _ _ _ _ _ _ _ _ _ _ _ _ _ _ _ _ _ _ _ _ _ _ _ _ _ _ _ _ _ _ _ _ _ _ _ _ _ _ _ _ _ _ _ _ _ _ _ _ _ _ _ _ _ _ _ _ _ _ _ _ _ _ _ _ _ _ _ _ _ _ _ _ _ _ _ _ _ _ _ _ _ _ _ _ _ _ _ _ _ _ _ _ _ _ _ _ _ _ _ _ _ _ _ _ _ _ _ _ _ _ _ _ _ _ _ _ _ _ _ _ _ _ _ _ _ _ _ _ _ _ _ _ _ _ _ _ _ _ _ _ _ _ _ _ _ _ _ _ _ _ _ _ _ _ _ _ _ _ _ _ _ _ _
    · have HZ : Hid (Rearr lo mid (hlf xs m p e) (hlf xs m p e)) := Rearr.refl _ _ _
      have SZ : Hid (Srt L lo mid (hlf xs m p e)) := half_skip1 HH.out HM.out h3.out (by omega)
      have HO2 := HO1
      have HB2 := HB1
      go_wp2
      have HK1 := HK.out
      refine HK1 _ _ ?_
      exact sym_t4 ⟨IH, HM, HH, HR, HC, h3, hx, hd, hmid⟩ _ _ HZ SZ HO2 HB2 _ _ _ _ _ _ _ _ _ _ _ _ _ _ _ _ _ _ _ _ _ _ _ _ _ _ _ _ _ _ _ _ _ _ _ _ _ _ _ _ _ _ _ _ _ _ _ _ _ _ _ _ _ _ _ _ _ _ _ _ _ _ _ _ _ _ _ _ _ _ _ _ _ _ _ _ _ _ _ _ _ _ _ _ _ _ _ _ _ _ _ _ _ _ _ _ _ _ _ _ _ _ _ _ _ _ _ _ _ _ _ _ _ _ _ _ _ _ _ _ _ _ _ _ _ _ _ _ _ _ _ _ _ _ _ _ _ _ _ _ _ _ _ _ _ _ _ _ _ _ _ _ _ _ _ _ _ _ _ _ _ _ _ _ _ _ _ _ _ _ _ _ _ _ _ _ _ _ _ _ _ _ _ _ _ _ _ _ _ _ _ _ _ _ _ _ _ _ _ _ _ _ _ _ _ _ _ _ _ _ _ _
  · have HZ : Hid (Rearr lo mid (hlf xs m p e) (hlf xs m p e)) := Rearr.refl _ _ _
    have SZ : Hid (Srt L lo mid (hlf xs m p e)) := half_skip1 HH.out HM.out h3.out (by omega)
    have HO2 := HO1
    have HB2 := HB1
    go_wp2
    have HK1 := HK.out
    refine HK1 _ _ ?_
    exact sym_t4 ⟨IH, HM, HH, HR, HC, h3, hx, hd, hmid⟩ _ _ HZ SZ HO2 HB2 _ _ _ _ _ _ _ _ _ _ _ _ _ _ _ _ _ _ _ _ _ _ _ _ _ _ _ _ _ _ _ _ _ _ _ _ _ _ _ _ _ _ _ _ _ _ _ _ _ _ _ _ _ _ _ _ _ _ _ _ _ _ _ _ _ _ _ _ _ _ _ _ _ _ _ _ _ _ _ _ _ _ _ _ _ _ _ _ _ _ _ _ _ _ _ _ _ _ _ _ _ _ _ _ _ _ _ _ _ _ _ _ _ _ _ _ _ _ _ _ _ _ _ _ _ _ _ _ _ _ _ _ _ _ _ _ _ _ _ _ _ _ _ _ _ _ _ _ _ _ _ _ _ _ _ _ _ _ _ _ _ _ _ _ _ _ _ _ _ _ _ _ _ _ _ _ _ _ _ _ _ _ _ _ _ _ _ _ _ _ _ _ _ _ _ _ _ _ _ _ _ _ _ _ _ _ _ _ _ _ _ _
set_option maxRecDepth 100000 in
set_option maxHeartbeats 3200000 in
theorem sym_t2 {g cap B : Nat} {a : Option Addr} {L : List Int} {lc d lo m hi mid p e : Nat} {xs : List Int} {w : World} (c : SC g cap B a L lc d lo m hi mid p e xs w) (wr : World) (HOW : Hid (OwnI wr g (Dat g xs.length cap) xs)) (HBW : Hid (Below g w wr)) (u5 u6 u7 u8 u9 u10 u11 u12 u13 u14 u15 u16 u17 u19 u21 u22 u23 u25 u26 u27 u28 u29 u30 u31 u32 u33 u34 u35 u36 u37 u38 u39 u40 u41 u42 u43 u44 u45 u46 u47 u48 u49 u50 u51 u52 u53 u54 u55 u56 u57 u58 u59 u60 u61 u62 u63 u64 u65 u66 u67 u68 u69 u70 u71 u72 u73 u74 u75 u76 u77 u78 u79 u80 u81 u82 u83 u84 u85 u86 u87 u88 u89 u90 u91 u92 u93 u94 u95 u96 u97 u98 u99 u100 u101 u102 u103 u104 u105 u106 u107 u108 u109 u110 u111 u112 u113 u114 u115 u116 u117 u118 u119 u120 u121 u122 u123 u124 u125 u126 u127 u128 u129 u130 u131 u132 u133 u134 u135 u136 u137 u138 u139 u140 u141 u142 u143 u144 u145 u146 u147 u148 u149 u150 u151 u152 u153 u154 u155 u156 u157 u158 u159 u160 u161 u162 u163 u164 u165 u166 u167 u168 u169 u170 u171 u172 u173 u174 u175 u176 u177 u178 u179 u180 u181 u182 u183 u184 u185 u186 u187 u188 u189 u190 u191 u192 u193 u194 u195 u196 u197 u198 u199 u200 u201 u202 u203 u204 u205 u206 u207 u208 u209 u210 u211 u212 u213 u214 u215 u216 u217 u218 u219 : Value) :
    Code.wp Try.prog (seqTail 9 ((Try.f81.body).getD .skip)) (bodyPost Try.prog Try.f81 (fun e1 w1 => ∃ ys, SPost g xs.length cap ys w e1 w1 ∧ Rearr lo hi xs ys ∧ Srt L lo hi ys)) { tmps := #[.slice (some ⟨g, 0, none⟩) xs.length cap, .int .i64 (lo : Nat), .int .i64 (m : Nat), .int .i64 (hi : Nat), .func (.func 32) #[] #[.pointer (some ⟨B, 0, none⟩)], u5, u6, u7, u8, u9, u10, u11, u12, u13, u14, u15, u16, u17, .int .i64 (mid : Nat), u19, .int .i64 (p : Nat), u21, u22, u23, .int .i64 (e : Nat), u25, u26, u27, u28, u29, u30, u31, u32, u33, u34, u35, u36, u37, u38, u39, u40, u41, u42, u43, u44, u45, u46, u47, u48, u49, u50, u51, u52, u53, u54, u55, u56, u57, u58, u59, u60, u61, u62, u63, u64, u65, u66, u67, u68, u69, u70, u71, u72, u73, u74, u75, u76, u77, u78, u79, u80, u81, u82, u83, u84, u85, u86, u87, u88, u89, u90, u91, u92, u93, u94, u95, u96, u97, u98, u99, u100, u101, u102, u103, u104, u105, u106, u107, u108, u109, u110, u111, u112, u113, u114, u115, u116, u117, u118, u119, u120, u121, u122, u123, u124, u125, u126, u127, u128, u129, u130, u131, u132, u133, u134, u135, u136, u137, u138, u139, u140, u141, u142, u143, u144, u145, u146, u147, u148, u149, u150, u151, u152, u153, u154, u155, u156, u157, u158, u159, u160, u161, u162, u163, u164, u165, u166, u167, u168, u169, u170, u171, u172, u173, u174, u175, u176, u177, u178, u179, u180, u181, u182, u183, u184, u185, u186, u187, u188, u189, u190, u191, u192, u193, u194, u195, u196, u197, u198, u199, u200, u201, u202, u203, u204, u205, u206, u207, u208, u209, u210, u211, u212, u213, u214, u215, u216, u217, u218, u219], defers := [] } wr := by
  obtain ⟨IH, HM, HH, HR, HC, h3, hx, hd, hmid⟩ := c
  obtain ⟨k1, k2, k3, k4, k5, k6, k7, _, _⟩ := HH.out
  have h3' := h3.out
  have hx' := hx.out
  conv => arg 2; whnf
  refine wp_seq_k (fun K hK => ?_)
  have HK := Lib.hid hK; clear hK
  by_cases qA : p < m
  · by_cases qB : m < e
    · go_wp2_with fail
      refine (rotate_any g cap p m e (Clv B) xs wr qA qB (by omega) hx' HOW.out).mono ?_
      rintro e' w1 ⟨rfl, hb, ho, hln⟩
      have HB1 := Lib.hid (HBW.out.trans hb)
      have HO1 : Hid (OwnI w1 g (Dat g xs.length cap) (hlf xs m p e)) := ho
      clear hb ho hln HBW HOW
      go_wp2
      have HK1 := HK.out
      refine HK1 _ _ ?_
      exact sym_t3 ⟨IH, HM, HH, HR, HC, h3, hx, hd, hmid⟩ _ HO1 HB1 _ _ _ _ _ _ _ _ _ _ _ _ _ _ _ _ _ _ _ _ _ _ _ _ _ _ _ _ _ _ _ _ _ _ _ _ _ _ _ _ _ _ _ _ _ _ _ _ _ _ _ _ _ _ _ _ _ _ _ _ _ _ _ _ _ _ _ _ _ _ _ _ _ _ _ _ _ _ _ _ _ _ _ _ _ _ _ _ _ _ _ _ _ _ _ _ _ _ _ _ _ _ _ _ _ _ _ _ _ _ _ _ _ _ _ _ _ _ _ _ _ _ _ _ _ _ _ _ _ _ _ _ _ _ _ _ _ _ _ _ _ _ _ _ _ _ _ _ _ _ _ _ _ _ _ _ _ _ _ _ _ _ _ _ _ _ _ _ _ _ _ _ _ _ _ _ _ _ _ _ _ _ _ _ _ _ _ _ _ _ _ _ _ _ _ _ _ _ _ _ _ _ _ _ _ _ _ _ _ _ _ _
    · have HB1 := HBW
      have HO1 : Hid (OwnI wr g (Dat g xs.length cap) (hlf xs m p e)) := by show OwnI _ _ _ _; rw [hlf_none HH.out (by omega)]; exact HOW.out
      go_wp2
      have HK1 := HK.out
      refine HK1 _ _ ?_
      exact sym_t3 ⟨IH, HM, HH, HR, HC, h3, hx, hd, hmid⟩ _ HO1 HB1 _ _ _ _ _ _ _ _ _ _ _ _ _ _ _ _ _ _ _ _ _ _ _ _ _ _ _ _ _ _ _ _ _ _ _ _ _ _ _ _ _ _ _ _ _ _ _ _ _ _ _ _ _ _ _ _ _ _ _ _ _ _ _ _ _ _ _ _ _ _ _ _ _ _ _ _ _ _ _ _ _ _ _ _ _ _ _ _ _ _ _ _ _ _ _ _ _ _ _ _ _ _ _ _ _ _ _ _ _ _ _ _ _ _ _ _ _ _ _ _ _ _ _ _ _ _ _ _ _ _ _ _ _ _ _ _ _ _ _ _ _ _ _ _ _ _ _ _ _ _ _ _ _ _ _ _ _ _ _ _ _ _ _ _ _ _ _ _ _ _ _ _ _ _ _ _ _ _ _ _ _ _ _ _ _ _ _ _ _ _ _ _ _ _ _ _ _ _ _ _ _ _ _ _ _ _ _ _ _ _ _ _
  · have HB1 := HBW
    have HO1 : Hid (OwnI wr g (Dat g xs.length cap) (hlf xs m p e)) := by show OwnI _ _ _ _; rw [hlf_none HH.out (by omega)]; exact HOW.out
    go_wp2
    have HK1 := HK.out
    refine HK1 _ _ ?_
    exact sym_t3 ⟨IH, HM, HH, HR, HC, h3, hx, hd, hmid⟩ _ HO1 HB1 _ _ _ _ _ _ _ _ _ _ _ _ _ _ _ _ _ _ _ _ _ _ _ _ _ _ _ _ _ _ _ _ _ _ _ _ _ _ _ _ _ _ _ _ _ _ _ _ _ _ _ _ _ _ _ _ _ _ _ _ _ _ _ _ _ _ _ _ _ _ _ _ _ _ _ _ _ _ _ _ _ _ _ _ _ _ _ _ _ _ _ _ _ _ _ _ _ _ _ _ _ _ _ _ _ _ _ _ _ _ _ _ _ _ _ _ _ _ _ _ _ _ _ _ _ _ _ _ _ _ _ _ _ _ _ _ _ _ _ _ _ _ _ _ _ _ _ _ _ _ _ _ _ _ _ _ _ _ _ _ _ _ _ _ _ _ _ _ _ _ _ _ _ _ _ _ _ _ _ _ _ _ _ _ _ _ _ _ _ _ _ _ _ _ _ _ _ _ _ _ _ _ _ _ _ _ _ _ _ _ _ _
set_option maxRecDepth 100000 in
set_option maxHeartbeats 3200000 in
theorem sym_t1 {g cap B : Nat} {a : Option Addr} {L : List Int} {lc d lo m hi mid N0 P0 L0 H0 : Nat} {xs : List Int} {w : World} (hl : L.length ≤ 256) (HA : Hid (allB 1000000 L = true)) (IH : Hid (SymIH g cap B a L lc d)) (HM : Hid (Mg L lo m hi xs)) (HR : Hid (∀ k, k < xs.length → 0 ≤ gt xs k ∧ gt xs k < L.length)) (HC : Hid (Clo B a L lc g w))
    (h3 : Hid (hi ≤ xs.length)) (hx : Hid (xs.length ≤ 256)) (hd : Hid (lo < m ∧ m < hi ∧ hi - lo ≤ d + 1)) (HMID : Hid (mid = (lo + hi) / 2)) (HN0 : Hid (N0 = mid + m)) (HP0 : Hid (P0 = mid + m - 1)) (HCS : Hid ((mid < m ∧ L0 = mid + m - hi ∧ H0 = mid) ∨ (m ≤ mid ∧ L0 = lo ∧ H0 = m))) (HO : Hid (OwnI w g (Dat g xs.length cap) xs)) (u5 u6 u7 u8 u9 u10 u11 u12 u13 u14 u15 u16 u17 u23 u24 u25 u26 u27 u28 u29 u30 u31 u32 u33 u34 u35 u36 u37 u38 u39 u40 u41 u42 u43 u44 u45 u46 u47 u48 u49 u50 u51 u52 u53 u54 u55 u56 u57 u58 u59 u60 u61 u62 u63 u64 u65 u66 u67 u68 u69 u70 u71 u72 u73 u74 u75 u76 u77 u78 u79 u80 u81 u82 u83 u84 u85 u86 u87 u88 u89 u90 u91 u92 u93 u94 u95 u96 u97 u98 u99 u100 u101 u102 u103 u104 u105 u106 u107 u108 u109 u110 u111 u112 u113 u114 u115 u116 u117 u118 u119 u120 u121 u122 u123 u124 u125 u126 u127 u128 u129 u130 u131 u132 u133 u134 u135 u136 u137 u138 u139 u140 u141 u142 u143 u144 u145 u146 u147 u148 u149 u150 u151 u152 u153 u154 u155 u156 u157 u158 u159 u160 u161 u162 u163 u164 u165 u166 u167 u168 u169 u170 u171 u172 u173 u174 u175 u176 u177 u178 u179 u180 u181 u182 u183 u184 u185 u186 u187 u188 u189 u190 u191 u192 u193 u194 u195 u196 u197 u198 u199 u200 u201 u202 u203 u204 u205 u206 u207 u208 u209 u210 u211 u212 u213 u214 u215 u216 u217 u218 u219 : Value) :
    Code.wp Try.prog (seqTail 7 ((Try.f81.body).getD .skip)) (bodyPost Try.prog Try.f81 (fun e1 w1 => ∃ ys, SPost g xs.length cap ys w e1 w1 ∧ Rearr lo hi xs ys ∧ Srt L lo hi ys)) { tmps := #[.slice (some ⟨g, 0, none⟩) xs.length cap, .int .i64 (lo : Nat), .int .i64 (m : Nat), .int .i64 (hi : Nat), .func (.func 32) #[] #[.pointer (some ⟨B, 0, none⟩)], u5, u6, u7, u8, u9, u10, u11, u12, u13, u14, u15, u16, u17, .int .i64 (mid : Nat), .int .i64 (N0 : Nat), .int .i64 (L0 : Nat), .int .i64 (H0 : Nat), .int .i64 (P0 : Nat), u23, u24, u25, u26, u27, u28, u29, u30, u31, u32, u33, u34, u35, u36, u37, u38, u39, u40, u41, u42, u43, u44, u45, u46, u47, u48, u49, u50, u51, u52, u53, u54, u55, u56, u57, u58, u59, u60, u61, u62, u63, u64, u65, u66, u67, u68, u69, u70, u71, u72, u73, u74, u75, u76, u77, u78, u79, u80, u81, u82, u83, u84, u85, u86, u87, u88, u89, u90, u91, u92, u93, u94, u95, u96, u97, u98, u99, u100, u101, u102, u103, u104, u105, u106, u107, u108, u109, u110, u111, u112, u113, u114, u115, u116, u117, u118, u119, u120, u121, u122, u123, u124, u125, u126, u127, u128, u129, u130, u131, u132, u133, u134, u135, u136, u137, u138, u139, u140, u141, u142, u143, u144, u145, u146, u147, u148, u149, u150, u151, u152, u153, u154, u155, u156, u157, u158, u159, u160, u161, u162, u163, u164, u165, u166, u167, u168, u169, u170, u171, u172, u173, u174, u175, u176, u177, u178, u179, u180, u181, u182, u183, u184, u185, u186, u187, u188, u189, u190, u191, u192, u193, u194, u195, u196, u197, u198, u199, u200, u201, u202, u203, u204, u205, u206, u207, u208, u209, u210, u211, u212, u213, u214, u215, u216, u217, u218, u219], defers := [] } w := by
  have h3' := h3.out
  have hx' := hx.out
  have hlh : L0 ≤ H0 ∧ lo ≤ L0 ∧ H0 ≤ m ∧ L0 ≤ 512 := by have := HCS.out; have := HMID.out; have := hd.out; omega
  have HST : Hid (Find L L0 H0 (mid + m) L0 H0 xs) := Find.start L _ _ hlh.1
  have hN6 : N0 ≤ 512 := by have := HN0.out; have := HMID.out; have := hd.out; omega
  have hP6 : P0 ≤ 512 := by have := HP0.out; have := HMID.out; have := hd.out; omega
  have HM1 : Hid (1 ≤ m ∧ 1 ≤ hi) := by show _ ∧ _; have := hd.out; omega
  have hm6 : m ≤ 256 ∧ hi ≤ 256 := by have := hd.out; omega
  clear hlh
  conv => arg 2; whnf
  refine wp_seq_k (fun K hK => ?_)
  have HK := Lib.hid hK; clear hK
  go_wp2
  go_loopw [20, 21] (fun i j wr => ∃ p q : Nat, i = .int .i64 p ∧ j = .int .i64 q ∧ Hid (Find L L0 H0 (mid + m) p q xs) ∧ OwnI wr g (Dat g xs.length cap) xs ∧ Below g w wr) (fun i j _ => (intOf j).toNat - (intOf i).toNat)
  case atStart => exact ⟨L0, H0, rfl, rfl, HST.out, HO.out, Below.refl _ _⟩
  case round =>
    obtain ⟨p, q, rfl, rfl, HFI, hO, hB⟩ := hrel
    have HOR := Lib.hid hO; clear hO
    have HB := Lib.hid hB; clear hB
    have hpq : p ≤ q := HFI.out.b
    have hq6 : q ≤ 256 := by have := HFI.out.c; have := HCS.out; omega
    by_cases hlt : p < q
    · obtain ⟨h, hh⟩ : ∃ h, (p + q) / 2 = h := ⟨_, rfl⟩
      have hb1 : p ≤ h := by omega
      have hb2 : h < q := by omega
      have hbin : ((p : Int) + (q : Int)) / 2 = (h : Int) := by omega
      clear hh
      have HIN : Hid (lo ≤ h ∧ h < m ∧ m ≤ mid + m - 1 - h ∧ mid + m - 1 - h < hi) := by
        show _ ∧ _
        have := HFI.out.a; have := HFI.out.c; have := HCS.out; have := HMID.out
        omega
      obtain ⟨r, hr⟩ : ∃ r, mid + m - 1 - h = r := ⟨_, rfl⟩
      have HRE := Lib.hid hr
      rw [hr] at HIN
      have hsub : (P0 : Int) - (h : Int) = (r : Int) := by have := HP0.out; have := HIN.out; have := HM1.out; omega
      clear hr
      obtain ⟨i1, i2, i3, i4⟩ := HIN.out
      have d4 : IntKind.i64.wrap (r : Int) = (r : Int) := IntWalk.i64_in _ (by omega)
      have g2 : (h : Int) < (xs.length : Int) := by omega
      have g4 : (r : Int) < (xs.length : Int) := by omega
      have g1 : 0 ≤ (h : Int) := by omega
      have g3 : 0 ≤ (r : Int) := by omega
      obtain ⟨c1, f1⟩ := HOR.out.at' (j := r) (by omega)
      obtain ⟨c2, f2⟩ := HOR.out.at' (j := h) (by omega)
      obtain ⟨u, hu⟩ : ∃ u, gt xs r = u := ⟨_, rfl⟩
      obtain ⟨v, hv⟩ : ∃ v, gt xs h = v := ⟨_, rfl⟩
      have ru : 0 ≤ u ∧ u < L.length := by rw [← hu]; exact HR.out _ (by omega)
      have rv : 0 ≤ v ∧ v < L.length := by rw [← hv]; exact HR.out _ (by omega)
      have hvu : v < u := by rw [← hu, ← hv]; exact HM.out.lt _ _ i1 i2 i3 i4
      have HCM : Hid (cmpI (keyL L v) (keyL L u) < 0 ↔ bef L u v) := cmp_less hvu
      have HNE : Hid (u ≠ v) := by show _ ≠ _; omega
      have HCC := Lib.hid (HC.out.below HB.out.drew)
      have hs := HOR.out.size_lt
      rw [hu] at c1
      rw [hv] at c2
      have HU := Lib.hid hu
      have HV := Lib.hid hv
      clear hvu hu hv
      go_wp2
      go_region_held_law (fun w' => w'.cell? ⟨g, r, none⟩ = some (.int .i64 u) ∧ w'.cell? ⟨g, h, none⟩ = some (.int .i64 v)) (first | exact ⟨by assumption, by assumption⟩ | go_keep | exact ⟨(hb1.cell (p := ⟨g, r, none⟩) hs).trans (by assumption), (hb1.cell (p := ⟨g, h, none⟩) hs).trans (by assumption)⟩) (first | (go_at_call 32; with_reducible refine (clo_any hl HA.out HCC.out u v ru rv).mono ?_; rintro e w1 ⟨rfl, hb1⟩))
      rename_i hHeld; clear hHeld c1 c2 f1 f2 ru rv
      have HO1 := Lib.hid (HOR.out.drew.below hb1)
      have HB1 := Lib.hid (HB.out.drew.trans (hb1.mono (Nat.le_of_lt hs)))
      clear hb1 HOR HB HCC hs
      obtain ⟨cc, hcc⟩ : ∃ cc, cmpI (keyL L v) (keyL L u) = cc := ⟨_, rfl⟩
      rw [hcc] at HCM
      rw [hcc]
      clear hcc
      by_cases hlt0 : cc < 0
      · have hb0 : (!decide (cc < 0)) = false := by simpa using hlt0
        rw [hb0]
        have HFN : Hid (Find L L0 H0 (mid + m) p h xs) := HFI.out.dn HM.out hd.out.2.1 HMID.out HCS.out hb1 hb2 (by rw [HRE.out, HU.out, HV.out]; exact HCM.out.1 hlt0)
        clear HFI
        go_wp2
        go_roundw
        case rel => exact ⟨p, h, rfl, by go_num, HFN, HO1.out, HB1.out⟩
        case measure => simp [intOf]; omega
      · have hb0 : (!decide (cc < 0)) = true := by simpa using hlt0
        rw [hb0]
        have HFN : Hid (Find L L0 H0 (mid + m) (h + 1) q xs) := HFI.out.up HM.out hd.out.2.1 HMID.out HCS.out hb1 hb2 (by
          rw [HRE.out, HU.out, HV.out]
          rcases bef_tot (L := L) HNE.out with k | k
          · exact absurd (HCM.out.2 k) hlt0
          · exact k)
        clear HFI
        go_wp2
        go_roundw
        case rel => exact ⟨h + 1, q, by go_num, rfl, HFN, HO1.out, HB1.out⟩
        case measure => simp [intOf]; omega
    · obtain rfl : p = q := by omega
      have HH : Hid (Half L lo m hi mid p (mid + m - p) xs) := find_half hd.out.1 hd.out.2.1 HMID.out HCS.out HFI.out
      obtain ⟨e, he⟩ : ∃ e, mid + m - p = e := ⟨_, rfl⟩
      rw [he] at HH
      obtain ⟨k1, k2, k3, k4, k5, k6, k7, _, _⟩ := HH.out
      have dse : (N0 : Int) - (p : Int) = (e : Int) := by have := HN0.out; omega
      clear he HFI hlt hpq
      go_wp2
      have HK1 := HK.out
      refine HK1 _ _ ?_
      clear HK1 HK
      refine wp_seq_k (fun K' hK' => ?_)
      have HK := Lib.hid hK'; clear hK'
      go_wp2
      have HK1 := HK.out
      refine HK1 _ _ ?_
      exact sym_t2 ⟨IH, HM, HH, HR, HC, h3, hx, hd, HMID⟩ _ HOR HB _ _ _ _ _ _ _ _ _ _ _ _ _ _ _ _ _ _ _ _ _ _ _ _ _ _ _ _ _ _ _ _ _ _ _ _ _ _ _ _ _ _ _ _ _ _ _ _ _ _ _ _ _ _ _ _ _ _ _ _ _ _ _ _ _ _ _ _ _ _ _ _ _ _ _ _ _ _ _ _ _ _ _ _ _ _ _ _ _ _ _ _ _ _ _ _ _ _ _ _ _ _ _ _ _ _ _ _ _ _ _ _ _ _ _ _ _ _ _ _ _ _ _ _ _ _ _ _ _ _ _ _ _ _ _ _ _ _ _ _ _ _ _ _ _ _ _ _ _ _ _ _ _ _ _ _ _ _ _ _ _ _ _ _ _ _ _ _ _ _ _ _ _ _ _ _ _ _ _ _ _ _ _ _ _ _ _ _ _ _ _ _ _ _ _ _ _ _ _ _ _ _ _ _ _ _ _ _ _ _ _ _
end Go.Proofs.Ytacbciamehchjaa
