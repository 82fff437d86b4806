/- Parts of the proof of BitPlays: plain words, walks and contracts, each under its own heading. -/
import Derived.Test.YtoedbbpjddjbnaaBitPlaysPB
import Derived.Test.YtoedbbpjddjbnaaBitPlaysPA
import Derived.Deep.AppendLies
import Derived.Deep.RegionLaw
/- Parts of layer 7 and of its answers: contracts. -/
namespace Go.Proofs.Ytoedbbpjddjbnaa
open Go.RowKit

/-- The sums of a row times some pictures. -/
def sumsB (row : List Int) (L : List (List Int)) : List Int := L.map fun x => prodL row x
def celB (p t : Int) (cs : List Cl) (row : List Int) : Bool := valsB p t cs && browB p t row
def partsV (p t : Int) (cs : List Cl) (row : List Int) (th : Int) : (Int × Int) × Int :=
  if celB p t cs row = true then (if rangeB th (-100) 100 = true then (((cntLo (sumsB row (fitP t.toNat p.toNat cs)) th : Int), (cntHi (sumsB row (fitP t.toNat p.toNat cs)) th : Int)), 0) else ((0, 0), 7)) else ((0, 0), 1)
/-- Those of the first k pictures. -/
def paLo (row : List Int) (L : List (List Int)) (th : Int) (k : Nat) : Nat := cntLo (sumsB row (L.take k)) th
def paHi (row : List Int) (L : List (List Int)) (th : Int) (k : Nat) : Nat := cntHi (sumsB row (L.take k)) th
theorem pa_yes {row x : List Int} {L : List (List Int)} {th : Int} {k : Nat} (h : L[k]? = some x) (hx : prodL row x < th) : paLo row L th (k + 1) = paLo row L th k + 1 ∧ paHi row L th (k + 1) = paHi row L th k := by
  unfold paLo paHi cntLo cntHi sumsB
  rw [List.take_add_one, h, Option.toList_some, List.map_append, List.filter_append, List.filter_append]
  simp [hx]
theorem pa_no {row x : List Int} {L : List (List Int)} {th : Int} {k : Nat} (h : L[k]? = some x) (hx : ¬ prodL row x < th) : paLo row L th (k + 1) = paLo row L th k ∧ paHi row L th (k + 1) = paHi row L th k + 1 := by
  unfold paLo paHi cntLo cntHi sumsB
  rw [List.take_add_one, h, Option.toList_some, List.map_append, List.filter_append, List.filter_append]
  simp [hx]
theorem pa_le (row : List Int) (L : List (List Int)) (th : Int) (k : Nat) : paLo row L th k ≤ L.length ∧ paHi row L th k ≤ L.length := by
  unfold paLo paHi cntLo cntHi sumsB
  have h : (List.map (fun x => prodL row x) (L.take k)).length ≤ L.length := by rw [List.length_map, List.length_take]; omega
  exact ⟨Nat.le_trans (List.length_filter_le _ _) h, Nat.le_trans (List.length_filter_le _ _) h⟩
set_option maxRecDepth 100000 in
set_option maxHeartbeats 1000000 in
theorem rparts_any {P : Nat} (hP : P ≤ 8) (base : Nat) (va : Option Addr) (vc : Nat) (ads : List (Option Addr × Nat)) (L : List (List Int)) (a : Option Addr) (row : List Int) (ca : Nat) (th : Int) (w : World) (hl : L.length ≤ 1000000) (hL : ∀ x ∈ L, x.length = P ∧ okL 0 3 x = true) (hrow : row.length = P ∧ okL (-1) 1 row = true) (hr : HR base (.slice va L.length vc) ads L w) (ha : Sl w a row) :
    Calls Try.prog 75 #[.slice va L.length vc, .slice a row.length ca, .int .i64 th] w fun e w' => e = .returned (.tuple #[.int .i64 (cntLo (sumsB row L) th : Int), .int .i64 (cntHi (sumsB row L) th : Int)]) ∧ Below w.heap.size w w' := by
  have HRR := Lib.hid hr; clear hr
  have HA := Lib.hid ha; clear ha
  have HLL := Lib.hid hL; clear hL
  have HROW := Lib.hid hrow; clear hrow
  obtain ⟨N, hN⟩ : ∃ N, L.length = N := ⟨_, rfl⟩
  have HNL := Lib.hid hN
  rw [hN] at hl
  simp only [hN]
  clear hN
  go_enter Try.func75, Try.ntmps75
  go_wp2
  go_loop [6, 7, 9, 12] (fun v6 v7 _ i => ∃ k : Nat, k ≤ N ∧ i = .int .i64 k ∧ v6 = .int .i64 (paLo row L th k : Int) ∧ v7 = .int .i64 (paHi row L th k : Int)) (fun _ _ _ i => N - (intOf i).toNat)
  case atStart => exact ⟨0, Nat.zero_le _, rfl, rfl, rfl⟩
  case round =>
    obtain ⟨k, hk, rfl, rfl, rfl⟩ := hrel
    have hb := pa_le row L th k
    rw [HNL.out] at hb
    by_cases hlt : k < N
    · obtain ⟨g, rfl⟩ : ∃ g, va = some ⟨g, 0, none⟩ := by
        have h1 := HRR.out
        rcases h1.shape with ⟨_, e⟩ | ⟨g, c, e, _⟩
        · have h2 := HNL.out; rw [e] at h2; simp at h2; omega
        · exact ⟨g, by simpa using congrArg (fun v => match v with | .slice a _ _ => a | _ => none) e⟩
      obtain ⟨ra, rc, _, hcell, _, hsl, _⟩ := HRR.out.at (i := k) (by rw [HNL.out]; exact hlt)
      obtain ⟨x, hx⟩ : ∃ x, L[k]? = some x := ⟨L[k]'(by rw [HNL.out]; exact hlt), by simp⟩
      rw [rowL_some hx] at hcell hsl
      have hxr := HLL.out x (List.mem_of_getElem? hx)
      have HPR := Lib.hid (rsum_any a row ca ra x rc w (by rw [HROW.out.1]; exact hP) (by rw [HROW.out.1, hxr.1]) HROW.out.2 hxr.2 HA.out hsl)
      by_cases ht : prodL row x < th
      · have HE := Lib.hid (pa_yes hx ht)
        clear hx hxr hsl
        generalize paLo row L th k = A at *
        generalize paHi row L th k = B at *
        go_wp2_with (go_at_call 58; refine HPR.out.mono ?_; rintro e w9 ⟨rfl, rfl⟩)
        exact ⟨⟨k + 1, by omega, by go_num, by (rw [HE.out.1]; try rw [Int.natCast_add]; try rfl), by (rw [HE.out.2]; try rw [Int.natCast_add]; try rfl)⟩, by simp [intOf]; omega⟩
      · have HE := Lib.hid (pa_no hx ht)
        clear hx hxr hsl
        generalize paLo row L th k = A at *
        generalize paHi row L th k = B at *
        go_wp2_with (go_at_call 58; refine HPR.out.mono ?_; rintro e w9 ⟨rfl, rfl⟩)
        exact ⟨⟨k + 1, by omega, by go_num, by (rw [HE.out.1]; try rw [Int.natCast_add]; try rfl), by (rw [HE.out.2]; try rw [Int.natCast_add]; try rfl)⟩, by simp [intOf]; omega⟩
    · obtain rfl : N = k := by omega
      have HE : Hid (paLo row L th N = cntLo (sumsB row L) th ∧ paHi row L th N = cntHi (sumsB row L) th) := by
        show _ ∧ _
        unfold paLo paHi
        rw [List.take_of_length_le (by rw [HNL.out]; exact Nat.le_refl _)]
        exact ⟨rfl, rfl⟩
      go_wp2
      go_ret2
      exact ⟨by rw [← HE.out.1, ← HE.out.2]; rfl, Below.refl _ _⟩
theorem ms_one (W : World) (a : Option Addr) (row : List Int) (ca : Nat) (ty : TypeId) (hs : Sl W a row) : Ms (W.alloc (.cells #[.slice a row.length ca] ty)) (some ⟨W.heap.size, 0, none⟩) [row] := by
  intro i hi
  match i, hi with
  | 0, _ => exact ⟨W.heap.size, 0, a, ca, rfl, alloc_cell _ _ _ _ _ rfl, hs.alloc _⟩
theorem fitP_ok {T P : Nat} (hT : T ≤ 3) {cs : List Cl} {x : List Int} (hx : x ∈ fitP T P cs) : x.length = P ∧ okL 0 3 x = true := dig_ok hT (List.mem_filter.1 hx).1
/-- counts of one row, asked of the pictures that fit. -/
theorem counts_fit (P T : Nat) (hP1 : 1 ≤ P) (hP : P ≤ 8) (hT : T ≤ 3) (a : Option Addr) (cs : List Cl) (cap : Nat) (hn : cs.length ≤ 1000000) (hv : ∀ c ∈ cs, c.1.length = P ∧ okL (-1) 1 c.1 = true) (F : Nat) (w0 w : World) (hcs : Cs w0 a cs) (hw0 : Below w0.heap.size w0 w)
    (h0 : w.cell? ⟨F, 0, none⟩ = some (.int .i64 P)) (h1 : w.cell? ⟨F, 1, none⟩ = some (.int .i64 T)) (hq : w.cell? ⟨F + 1, 0, none⟩ = some (.slice a cs.length cap)) (ra : Option Addr) (rows : List (List Int)) (rc : Nat) (hR : rows.length ≤ 1000) (hrow : ∀ r ∈ rows, r.length = P ∧ okL (-1) 1 r = true) (hr : Ms w ra rows) :
    Calls Try.prog 73 #[.func (.func 95) #[] #[.pointer (some ⟨F, 0, none⟩), .pointer (some ⟨F + 1, 0, none⟩)], .slice ra rows.length rc] w fun e w' => ∃ X, e = .returned (.slice (some ⟨w.heap.size + 1, 0, none⟩) rows.length rows.length) ∧ CoI w X rows.length ra rc (fun i => (fitP T P cs).map fun x => prodL (rowL rows i) x) w' := by
  have l1 : F < w.heap.size := cell_lt h0
  have l2 : F + 1 < w.heap.size := cell_lt hq
  refine counts_any hP 95 #[.pointer (some ⟨F, 0, none⟩), .pointer (some ⟨F + 1, 0, none⟩)] (enters_of Try.func95 (by kernel_rfl) rfl) (fitP T P cs) (fitP_len hT hP cs) (fun x hx => fitP_ok hT hx) _ w w (fitting1_seq P T F (F + 1) hP1 hP hT a cs cap hn hv w0 w hcs hw0 h0 h1 hq) (Below.refl _ _) ?_ ra rows rc hR hrow hr
  rintro b (hb | rfl | rfl)
  · exact Nat.lt_of_lt_of_le hb hw0.size
  · exact l1
  · exact l2
theorem cel_row {p t : Int} {cs : List Cl} {row : List Int} (h : celB p t cs row = true) : ∃ P T : Nat, p = (P : Int) ∧ t = (T : Int) ∧ 1 ≤ P ∧ P ≤ 8 ∧ T ≤ 3 ∧ valsB P T cs = true ∧ row.length = P ∧ okL (-1) 1 row = true := by
  unfold celB at h
  rw [Bool.and_eq_true] at h
  obtain ⟨P, T, rfl, rfl, h1, h2, h3⟩ := vals_field h.1
  obtain ⟨_, _, _, _, q, q2⟩ := brow_of h.2
  exact ⟨P, T, rfl, rfl, h1, h2, h3, h.1, by omega, q2⟩
set_option maxRecDepth 100000 in
set_option maxHeartbeats 2000000 in
theorem bparts_any (p t : Int) (a : Option Addr) (cs : List Cl) (cap : Nat) (b : Option Addr) (row : List Int) (cb : Nat) (th : Int) (w : World) (hn : cs.length ≤ 1000000) (hlc : CLen cs) (hs : Cs w a cs) (hl : row.length ≤ 140737488351232) (hb : Sl w b row) :
    Calls Try.prog 34 #[.agg #[.int .i64 p, .int .i64 t], .slice a cs.length cap, .slice b row.length cb, .int .i64 th] w fun e w' => e = .returned (.tuple #[.int .i64 (partsV p t cs row th).1.1, .int .i64 (partsV p t cs row th).1.2, .int .i64 (partsV p t cs row th).2]) ∧ Below w.heap.size w w' := by
  have HF := Lib.hid (Fb.new w p t 23)
  have HS := Lib.hid hs; clear hs
  have HLC := Lib.hid hlc; clear hlc
  have HB := Lib.hid hb; clear hb
  cases hv : valsB p t cs
  · have HV := Lib.hid (show partsV p t cs row th = ((0, 0), 1) by unfold partsV celB; rw [hv]; rfl)
    go_enter Try.func34, Try.ntmps34
    go_wp2_with (go_at_call 21; refine (bvalid_any p t a cs cap _ hn HLC.out (HF.out.below_cs HS.out)).mono ?_; rintro e w1 ⟨rfl, hb1⟩; have F1 := Fb.next HF.out hb1; obtain ⟨k0, k1⟩ := And.intro F1.c0 F1.c1; rw [hv])
    go_ret3
    exact ⟨by rw [HV.out]; rfl, F1.below⟩
  · cases hw : browB p t row
    · have HV := Lib.hid (show partsV p t cs row th = ((0, 0), 1) by unfold partsV celB; rw [hv, hw]; rfl)
      go_enter Try.func34, Try.ntmps34
      go_wp2_with (first
        | (go_at_call 21; refine (bvalid_any p t a cs cap _ hn HLC.out (HF.out.below_cs HS.out)).mono ?_; rintro e w1 ⟨rfl, hb1⟩; have F1 := Fb.next HF.out hb1; obtain ⟨k0, k1⟩ := And.intro F1.c0 F1.c1; rw [hv])
        | (go_at_call 53; refine (vrow_any p t b row cb _ hl (F1.sl HB.out)).mono ?_; rintro e w2 ⟨rfl, hb2⟩; have F2 := Fb.next F1 hb2; obtain ⟨k2, k3⟩ := And.intro F2.c0 F2.c1; rw [hw]))
      go_ret3
      exact ⟨by rw [HV.out]; rfl, F2.below⟩
    · have hc : celB p t cs row = true := by unfold celB; rw [hv, hw]; rfl
      by_cases ht : -100 ≤ th ∧ th ≤ 100
      case neg =>
        have HV := Lib.hid (show partsV p t cs row th = ((0, 0), 7) by unfold partsV; rw [if_pos hc, if_neg (by simp [rangeB]; omega)])
        have HT : Hid (th < -100 ∨ (¬ th < -100 ∧ 100 < th)) := by show _ ∨ _; omega
        clear ht hc
        rcases HT.out with h1 | ⟨h1, h2⟩
        all_goals
          go_enter Try.func34, Try.ntmps34
          go_wp2_with (first
            | (go_at_call 21; refine (bvalid_any p t a cs cap _ hn HLC.out (HF.out.below_cs HS.out)).mono ?_; rintro e w1 ⟨rfl, hb1⟩; have F1 := Fb.next HF.out hb1; obtain ⟨k0, k1⟩ := And.intro F1.c0 F1.c1; rw [hv])
            | (go_at_call 53; refine (vrow_any p t b row cb _ hl (F1.sl HB.out)).mono ?_; rintro e w2 ⟨rfl, hb2⟩; have F2 := Fb.next F1 hb2; obtain ⟨k2, k3⟩ := And.intro F2.c0 F2.c1; rw [hw]))
          go_ret3
          exact ⟨by rw [HV.out]; rfl, F2.below⟩
      case pos =>
        obtain ⟨P, T, rfl, rfl, hP1, hP, hT, _, hrl, hrk⟩ := cel_row hc
        have HV := Lib.hid (show partsV P T cs row th = (((cntLo (sumsB row (fitP T P cs)) th : Int), (cntHi (sumsB row (fitP T P cs)) th : Int)), 0) by unfold partsV; rw [if_pos hc, if_pos (by simp [rangeB]; omega), Int.toNat_natCast, Int.toNat_natCast])
        have HVO := Lib.hid (vals_of hv).2
        have HRW : Hid (∀ r ∈ [row], r.length = P ∧ okL (-1) 1 r = true) := fun r hr => by rw [List.mem_singleton.1 hr]; exact ⟨hrl, hrk⟩
        have HZ : Hid ((sumsB row (fitP T P cs)).length ≤ 1000000) := by show _ ≤ _; unfold sumsB; rw [List.length_map]; have := fitP_len hT hP cs; omega
        have HCT : Hid (∀ W, Fb w P T W → Calls Try.prog 73 #[.func (.func 95) #[] #[.pointer (some ⟨W.heap.size, 0, none⟩), .pointer (some ⟨W.heap.size + 1, 0, none⟩)], .slice (some ⟨W.heap.size + 1 + 1, 0, none⟩) 1 1] (((W.alloc (.cells #[.int .i64 P, .int .i64 T] 23)).alloc (.cells #[.slice a cs.length cap] 24)).alloc (.cells #[.slice b row.length cb] 25)) fun e w' => ∃ G M, e = .returned (.slice (some ⟨G, 0, none⟩) 1 1) ∧ w'.cell? ⟨G, 0, none⟩ = some (.map (some M)) ∧ OC w' M (sumsB row (fitP T P cs)) ∧ Below W.heap.size W w') := fun W hf => by
          obtain ⟨A, hA⟩ : ∃ A, W.alloc (.cells #[.int .i64 P, .int .i64 T] 23) = A := ⟨_, rfl⟩
          obtain ⟨B, hB⟩ : ∃ B, A.alloc (.cells #[.slice a cs.length cap] 24) = B := ⟨_, rfl⟩
          obtain ⟨D, hD⟩ : ∃ D, B.alloc (.cells #[.slice b row.length cb] 25) = D := ⟨_, rfl⟩
          rw [hA, hB, hD]
          have sA : A.heap.size = W.heap.size + 1 := by rw [← hA]; exact World.size_alloc _ _
          have sB : B.heap.size = W.heap.size + 1 + 1 := by rw [← hB, World.size_alloc, sA]
          have bA : Below W.heap.size W A := by rw [← hA]; exact (Below.refl _ _).alloc (Nat.le_refl _) _
          have bB : Below A.heap.size A B := by rw [← hB]; exact (Below.refl _ _).alloc (Nat.le_refl _) _
          have bD : Below B.heap.size B D := by rw [← hD]; exact (Below.refl _ _).alloc (Nat.le_refl _) _
          have bWB : Below W.heap.size W B := bA.trans (bB.mono bA.size)
          have bWD : Below W.heap.size W D := bWB.trans (bD.mono bWB.size)
          have bAD : Below A.heap.size A D := bB.trans (bD.mono bB.size)
          have f0 : A.cell? ⟨W.heap.size, 0, none⟩ = some (.int .i64 P) := by rw [← hA]; exact alloc_cell _ _ _ _ _ rfl
          have f1 : A.cell? ⟨W.heap.size, 1, none⟩ = some (.int .i64 T) := by rw [← hA]; exact alloc_cell _ _ _ _ _ rfl
          have f2 : B.cell? ⟨W.heap.size + 1, 0, none⟩ = some (.slice a cs.length cap) := by rw [← hB, ← sA]; exact alloc_cell _ _ _ _ _ rfl
          have ms : Ms D (some ⟨W.heap.size + 1 + 1, 0, none⟩) [row] := by
            have h := ms_one B b row cb 25 (((hf.sl HB.out).below bA).below bB)
            rw [hD, sB] at h; exact h
          refine (counts_fit P T hP1 hP hT a cs cap hn HVO.out W.heap.size w D HS.out (hf.below.trans (bWD.mono hf.below.size)) ((bAD.cell (p := ⟨W.heap.size, 0, none⟩) (cell_lt f0)).trans f0) ((bAD.cell (p := ⟨W.heap.size, 1, none⟩) (cell_lt f1)).trans f1) ((bD.cell (p := ⟨W.heap.size + 1, 0, none⟩) (cell_lt f2)).trans f2) (some ⟨W.heap.size + 1 + 1, 0, none⟩) [row] 1 (by simp) HRW.out ms).mono ?_
          rintro e w' ⟨X, rfl, hc⟩
          exact ⟨D.heap.size + 1, X + 1 + 0, rfl, hc.cG 0 (by simp), hc.mp 0 (by simp), bWD.trans (hc.bw.mono bWD.size)⟩
        have HSD : Hid (∀ W M, OC W M (sumsB row (fitP T P cs)) → Calls Try.prog 72 #[.map (some M), .int .i64 th] W fun e w' => e = .returned (.tuple #[.int .i64 (cntLo (sumsB row (fitP T P cs)) th : Int), .int .i64 (cntHi (sumsB row (fitP T P cs)) th : Int)]) ∧ Below W.heap.size W w') := fun W M ⟨n, D, _, h2, h3⟩ => sides_any M n D _ th W HZ.out h2 h3
        obtain ⟨ht1, ht2⟩ := ht
        clear hc hrl hrk
        go_enter Try.func34, Try.ntmps34
        go_wp2_with (first
          | (go_at_call 21; refine (bvalid_any P T a cs cap _ hn HLC.out (HF.out.below_cs HS.out)).mono ?_; rintro e w1 ⟨rfl, hb1⟩; have F1 := Fb.next HF.out hb1; obtain ⟨k0, k1⟩ := And.intro F1.c0 F1.c1; rw [hv])
          | (go_at_call 53; refine (vrow_any P T b row cb _ hl (F1.sl HB.out)).mono ?_; rintro e w2 ⟨rfl, hb2⟩; have F2 := Fb.next F1 hb2; obtain ⟨k2, k3⟩ := And.intro F2.c0 F2.c1; rw [hw])
          | (go_at_call 67; refine (fittingmk_any _ _ _ _ _ _).mono ?_; rintro e w3 ⟨rfl, rfl⟩)
          | (go_at_call 73; refine (HCT.out _ F2).mono ?_; rintro e w4 ⟨G, M, rfl, hg, hoc, hb4⟩; have F4 := F2.next hb4; have HOC := Lib.hid hoc; clear hoc)
          | (go_at_call 72; refine (HSD.out _ _ HOC.out).mono ?_; rintro e w5 ⟨rfl, hb5⟩; have F5 := F4.next hb5))
        go_ret3
        exact ⟨by rw [HV.out]; rfl, F5.below⟩
theorem vals_brow {p t : Int} {cs : List Cl} {row : List Int} (h : valsB p t cs = true) : browB p t row = (decide ((row.length : Int) = p) && okL (-1) 1 row) := by
  unfold valsB at h
  rw [Bool.and_eq_true] at h
  unfold browB; rw [h.1]; rfl
def celE (p t : Int) (cs : List Cl) (row : List Int) : Int := if celB p t cs row = true then 0 else 1
set_option maxRecDepth 100000 in
theorem celled_any (p t : Int) (a : Option Addr) (cs : List Cl) (cap : Nat) (b : Option Addr) (row : List Int) (cb : Nat) (w : World) (hn : cs.length ≤ 1000000) (hlc : CLen cs) (hs : Cs w a cs) (hl : row.length ≤ 140737488351232) (hb : Sl w b row) :
    Calls Try.prog 74 #[.agg #[.int .i64 p, .int .i64 t], .slice a cs.length cap, .slice b row.length cb] w fun e w' => e = .returned (.int .i64 (celE p t cs row)) ∧ Below w.heap.size w w' := by
  have HF := Lib.hid (Fb.new w p t 23)
  have HS := Lib.hid hs; clear hs
  have HLC := Lib.hid hlc; clear hlc
  have HB := Lib.hid hb; clear hb
  cases hv : valsB p t cs
  · have HV := Lib.hid (show celE p t cs row = 1 by unfold celE celB; rw [hv]; rfl)
    go_enter Try.func74, Try.ntmps74
    go_wp2_with (go_at_call 22; refine (rvalid_any p t a cs cap _ hn HLC.out (HF.out.below_cs HS.out)).mono ?_; rintro e w1 ⟨rfl, hb1⟩; have F1 := Fb.next HF.out hb1; obtain ⟨k0, k1⟩ := And.intro F1.c0 F1.c1; rw [hv])
    go_ret
    exact ⟨by rw [HV.out]; rfl, F1.below⟩
  · have HQ := Lib.hid (vals_brow (row := row) hv)
    cases hw : browB p t row
    · have HV := Lib.hid (show celE p t cs row = 1 by unfold celE celB; rw [hv, hw]; rfl)
      rw [hw] at HQ
      go_enter Try.func74, Try.ntmps74
      go_wp2_with (first
        | (go_at_call 22; refine (rvalid_any p t a cs cap _ hn HLC.out (HF.out.below_cs HS.out)).mono ?_; rintro e w1 ⟨rfl, hb1⟩; have F1 := Fb.next HF.out hb1; obtain ⟨k0, k1⟩ := And.intro F1.c0 F1.c1; rw [hv])
        | (go_at_call 90; refine (rvrow_any p b row cb _ hl (F1.sl HB.out)).mono ?_; rintro e w2 ⟨rfl, rfl⟩; rw [← HQ.out]))
      go_ret
      exact ⟨by rw [HV.out]; rfl, F1.below⟩
    · have HV := Lib.hid (show celE p t cs row = 0 by unfold celE celB; rw [hv, hw]; rfl)
      rw [hw] at HQ
      go_enter Try.func74, Try.ntmps74
      go_wp2_with (first
        | (go_at_call 22; refine (rvalid_any p t a cs cap _ hn HLC.out (HF.out.below_cs HS.out)).mono ?_; rintro e w1 ⟨rfl, hb1⟩; have F1 := Fb.next HF.out hb1; obtain ⟨k0, k1⟩ := And.intro F1.c0 F1.c1; rw [hv])
        | (go_at_call 90; refine (rvrow_any p b row cb _ hl (F1.sl HB.out)).mono ?_; rintro e w2 ⟨rfl, rfl⟩; rw [← HQ.out]))
      go_ret
      exact ⟨by rw [HV.out]; rfl, F1.below⟩
set_option maxRecDepth 100000 in
set_option maxHeartbeats 2000000 in
theorem rParts_any (p t : Int) (a : Option Addr) (cs : List Cl) (cap : Nat) (b : Option Addr) (row : List Int) (cb : Nat) (th : Int) (w : World) (hn : cs.length ≤ 1000000) (hlc : CLen cs) (hs : Cs w a cs) (hl : row.length ≤ 140737488351232) (hb : Sl w b row) :
    Calls Try.prog 35 #[.agg #[.int .i64 p, .int .i64 t], .slice a cs.length cap, .slice b row.length cb, .int .i64 th] w fun e w' => e = .returned (.tuple #[.int .i64 (partsV p t cs row th).1.1, .int .i64 (partsV p t cs row th).1.2, .int .i64 (partsV p t cs row th).2]) ∧ Below w.heap.size w w' := by
  have HF := Lib.hid (Fb.new w p t 23)
  have HS := Lib.hid hs; clear hs
  have HLC := Lib.hid hlc; clear hlc
  have HB := Lib.hid hb; clear hb
  have HCE : Hid (∀ W, Fb w p t W → Calls Try.prog 74 #[.agg #[.int .i64 p, .int .i64 t], .slice a cs.length cap, .slice b row.length cb] W fun e w' => e = .returned (.int .i64 (celE p t cs row)) ∧ Fb w p t w') := fun W hf => (celled_any p t a cs cap b row cb W hn HLC.out (hf.below_cs HS.out) hl (hf.sl HB.out)).mono fun e w' ⟨k1, k2⟩ => ⟨k1, hf.next k2⟩
  cases hc : celB p t cs row
  · have HV := Lib.hid (show partsV p t cs row th = ((0, 0), 1) by unfold partsV; rw [hc]; rfl)
    have hce : celE p t cs row = 1 := by unfold celE; rw [hc]; rfl
    rw [hce] at HCE
    clear hce
    go_enter Try.func35, Try.ntmps35
    go_wp2_with (go_at_call 74; refine (HCE.out _ HF.out).mono ?_; rintro e w1 ⟨rfl, F1⟩; obtain ⟨k0, k1⟩ := And.intro F1.c0 F1.c1)
    go_ret3
    exact ⟨by rw [HV.out]; rfl, F1.below⟩
  · have hce : celE p t cs row = 0 := by unfold celE; rw [hc]; rfl
    rw [hce] at HCE
    clear hce
    cases ht : rangeB th (-100) 100
    · have HV := Lib.hid (show partsV p t cs row th = ((0, 0), 7) by unfold partsV; rw [if_pos hc, ht]; rfl)
      go_enter Try.func35, Try.ntmps35
      go_wp2_with (first
        | (go_at_call 74; refine (HCE.out _ HF.out).mono ?_; rintro e w1 ⟨rfl, F1⟩; obtain ⟨k0, k1⟩ := And.intro F1.c0 F1.c1)
        | (go_at_call 60; refine (bin_any _ _ _ _).mono ?_; rintro e w2 ⟨rfl, rfl⟩; rw [ht]))
      go_ret3
      exact ⟨by rw [HV.out]; rfl, F1.below⟩
    · obtain ⟨P, T, rfl, rfl, hP1, hP, hT, hv, hrl, hrk⟩ := cel_row hc
      have HV := Lib.hid (show partsV P T cs row th = (((cntLo (sumsB row (fitP T P cs)) th : Int), (cntHi (sumsB row (fitP T P cs)) th : Int)), 0) by unfold partsV; rw [if_pos hc, if_pos ht, Int.toNat_natCast, Int.toNat_natCast])
      have HVO := Lib.hid (vals_of hv).2
      have HRF : Hid (∀ W, Cs W a cs → Calls Try.prog 68 #[.agg #[.int .i64 P, .int .i64 T], .slice a cs.length cap] W fun e w' => ∃ va ads vc, e = .returned (.slice va (fitP T P cs).length vc) ∧ HR W.heap.size (.slice va (fitP T P cs).length vc) ads (fitP T P cs) w' ∧ Below W.heap.size W w') := fun W hW => rfitting_two P T hP hT a cs cap W hn HVO.out hW
      have HPA : Hid (∀ base va vc ads W, HR base (.slice va (fitP T P cs).length vc) ads (fitP T P cs) W → Sl W b row → Calls Try.prog 75 #[.slice va (fitP T P cs).length vc, .slice b row.length cb, .int .i64 th] W fun e w' => e = .returned (.tuple #[.int .i64 (cntLo (sumsB row (fitP T P cs)) th : Int), .int .i64 (cntHi (sumsB row (fitP T P cs)) th : Int)]) ∧ Below W.heap.size W w') := fun base va vc ads W h1 h2 => rparts_any hP base va vc ads (fitP T P cs) b row cb th W (by have := fitP_len hT hP cs; omega) (fun x hx => fitP_ok hT hx) ⟨hrl, hrk⟩ h1 h2
      obtain ⟨N, hN⟩ : ∃ N, (fitP T P cs).length = N := ⟨_, rfl⟩
      rw [hN] at HRF HPA
      clear hN hc hrl hrk hv
      go_enter Try.func35, Try.ntmps35
      go_wp2_with (first
        | (go_at_call 74; refine (HCE.out _ HF.out).mono ?_; rintro e w1 ⟨rfl, F1⟩; obtain ⟨k0, k1⟩ := And.intro F1.c0 F1.c1)
        | (go_at_call 60; refine (bin_any _ _ _ _).mono ?_; rintro e w2 ⟨rfl, rfl⟩; rw [ht])
        | (go_at_call 68; refine (HRF.out _ (F1.below_cs HS.out)).mono ?_; rintro e w3 ⟨va, ads, vc, rfl, hr3, hb3⟩; have F3 := F1.next hb3; have HR3 := Lib.hid hr3; clear hr3)
        | (go_at_call 75; refine (HPA.out _ _ _ _ _ HR3.out (F3.sl HB.out)).mono ?_; rintro e w4 ⟨rfl, hb4⟩; have F4 := F3.next hb4))
      go_ret3
      exact ⟨by rw [HV.out]; rfl, F4.below⟩
end Go.Proofs.Ytoedbbpjddjbnaa
/- What slices.Clone makes: a contract. -/
namespace Go.Proofs.Ytoedbbpjddjbnaa
open Go.RowKit

set_option maxHeartbeats 400000 in
/-- slices.Clone of a slice that is not empty: a slice of its own with the same ints; nothing older is written. -/
theorem clone_any (b off : Nat) (xs : List Int) (cap : Nat) (w : World) (h1 : 1 ≤ xs.length) (hl : xs.length * 8 ≤ 140737488351232) (hs : Sl w (some ⟨b, off, none⟩) xs) :
    Calls Try.prog 69 #[.slice (some ⟨b, off, none⟩) xs.length cap] w fun e w' =>
      ∃ g cap', e = .returned (.slice (some ⟨g, 0, none⟩) xs.length cap') ∧ OwnI w' w.heap.size (.slice (some ⟨g, 0, none⟩) xs.length cap') xs ∧ Below w.heap.size w w' := by
  have HN := Lib.hid (hs.alloc (.cells #[] 3)).news; clear hs
  have hown := World.ownsRow_lit (base := w.heap.size) (e := 3) (size := 1) w #[] 0 (Nat.le_refl _) (by unfold maxLen; omega) rfl
  have qT : ∀ (w : World) (a : Option Addr) (n c n' c' : Nat), (binOp .eql 25 (.slice a n c) (.slice none n' c')).run Try.prog w = .ok (.bool a.isNone) w := fun w a n c n' c' => Lib.run_eql_slice_nil w _ _ a n c n' c' Try.underlying25
  obtain ⟨i0, hi, hz0, hz1, hz2⟩ := info_parts Try.infoInt
  go_enter Try.func69, Try.ntmps69
  go_wp2_with (at_builtin; go_must (refine wpList_append_own _ rfl _ _ 25 rfl w.heap.size 3 i0 (.int .i64 0) 1 8 Try.underlying25 hi hz0 hz1 hz2 rfl (by decide) _ 0 [] rfl hown ⟨b, off, none⟩ xs.length cap (xs.map (Value.int .i64)) rfl (by simp) HN.out (map_oneCell xs) (by unfold maxLen; omega) (by omega) (by simp) ?_); intro v' w1 hown' hgrow hnil)
  go_ret
  have ho : OwnI w1 w.heap.size v' xs := by simpa [OwnI] using hown'
  obtain ⟨g, cap', rfl, hg⟩ := ho.shape h1
  refine ⟨g, cap', rfl, ho, ?_⟩
  exact ((Below.refl w.heap.size w).alloc (Nat.le_refl _) _).grown hgrow (by simp) (fun k e => by have : k = w.heap.size := (by simpa [Act.eval, Value.ownBlock] using e.symm); omega)
end Go.Proofs.Ytoedbbpjddjbnaa
/- Bit of layer 7 and of its answers: contracts (round 9: the program's). -/
namespace Go.Proofs.Ytoedbbpjddjbnaa
open Go.RowKit

/-- A box of three values that may be written. -/
structure Bt (W : World) (b : Nat) (u v x : Value) : Prop where
  lt : b < W.heap.size
  c0 : W.cell? ⟨b, 0, none⟩ = some u
  c1 : W.cell? ⟨b, 1, none⟩ = some v
  c2 : W.cell? ⟨b, 2, none⟩ = some x
  f0 : W.frozen? ⟨b, 0, none⟩ = false
  f1 : W.frozen? ⟨b, 1, none⟩ = false
  f2 : W.frozen? ⟨b, 2, none⟩ = false
theorem Bt.next {W W' : World} {b : Nat} {u v x : Value} (h : Bt W b u v x) (hb : Below W.heap.size W W') : Bt W' b u v x :=
  ⟨Nat.lt_of_lt_of_le h.lt hb.size, (hb.cell (p := ⟨b, 0, none⟩) h.lt).trans h.c0, (hb.cell (p := ⟨b, 1, none⟩) h.lt).trans h.c1, (hb.cell (p := ⟨b, 2, none⟩) h.lt).trans h.c2, (hb.frozen (p := ⟨b, 0, none⟩) h.lt).trans h.f0, (hb.frozen (p := ⟨b, 1, none⟩) h.lt).trans h.f1, (hb.frozen (p := ⟨b, 2, none⟩) h.lt).trans h.f2⟩
theorem Bt.new (W : World) (u v x : Value) (t : TypeId) : Bt (W.alloc (.cells #[u, v, x] t)) W.heap.size u v x := ⟨by rw [World.size_alloc]; omega, alloc_cell _ _ _ _ _ rfl, alloc_cell _ _ _ _ _ rfl, alloc_cell _ _ _ _ _ rfl, by simp, by simp, by simp⟩
theorem Bt.set0 {W : World} {b : Nat} {u v x : Value} (h : Bt W b u v x) (y : Value) : Bt (W.setCell ⟨b, 0, none⟩ y) b y v x :=
  ⟨by rw [World.size_setCell]; exact h.lt, World.cell?_setCell_same _ _ _ h.c0, (World.cell?_setCell_other _ ⟨b, 0, none⟩ ⟨b, 1, none⟩ _ (by simp)).trans h.c1, (World.cell?_setCell_other _ ⟨b, 0, none⟩ ⟨b, 2, none⟩ _ (by simp)).trans h.c2, by rw [World.frozen?_setCell]; exact h.f0, by rw [World.frozen?_setCell]; exact h.f1, by rw [World.frozen?_setCell]; exact h.f2⟩
theorem Bt.set1 {W : World} {b : Nat} {u v x : Value} (h : Bt W b u v x) (y : Value) : Bt (W.setCell ⟨b, 1, none⟩ y) b u y x :=
  ⟨by rw [World.size_setCell]; exact h.lt, (World.cell?_setCell_other _ ⟨b, 1, none⟩ ⟨b, 0, none⟩ _ (by simp)).trans h.c0, World.cell?_setCell_same _ _ _ h.c1, (World.cell?_setCell_other _ ⟨b, 1, none⟩ ⟨b, 2, none⟩ _ (by simp)).trans h.c2, by rw [World.frozen?_setCell]; exact h.f0, by rw [World.frozen?_setCell]; exact h.f1, by rw [World.frozen?_setCell]; exact h.f2⟩
theorem Bt.set2 {W : World} {b : Nat} {u v x : Value} (h : Bt W b u v x) (y : Value) : Bt (W.setCell ⟨b, 2, none⟩ y) b u v y :=
  ⟨by rw [World.size_setCell]; exact h.lt, (World.cell?_setCell_other _ ⟨b, 2, none⟩ ⟨b, 0, none⟩ _ (by simp)).trans h.c0, (World.cell?_setCell_other _ ⟨b, 2, none⟩ ⟨b, 1, none⟩ _ (by simp)).trans h.c1, World.cell?_setCell_same _ _ _ h.c2, by rw [World.frozen?_setCell]; exact h.f0, by rw [World.frozen?_setCell]; exact h.f1, by rw [World.frozen?_setCell]; exact h.f2⟩
/-- The cell of a bit, and the error's number. -/
def bitV (p t : Int) (row x : List Int) (th : Int) : (List Int × Int × Int) × Int :=
  if (sumV p t row x).2 = 0 then (if rangeB th (-99) 100 = true then ((row, if th ≤ (sumV p t row x).1 then (th, 100) else (-100, th - 1)), 0) else (([], 0, 0), 7)) else (([], 0, 0), (sumV p t row x).2)
/-- What a call that answers with a cell leaves. -/
def CellPost (r : (List Int × Int × Int) × Int) (w : World) (e : Ending) (w' : World) : Prop := ∃ ra rc, e = .returned (.tuple #[.agg #[.slice ra r.1.1.length rc, .int .i64 r.1.2.1, .int .i64 r.1.2.2], .int .i64 r.2]) ∧ Sl w' ra r.1.1 ∧ Below w.heap.size w w'
theorem CellPost.err {w w' : World} {r : (List Int × Int × Int) × Int} (n : Int) (h : r = (([], 0, 0), n)) (hb : Below w.heap.size w w') : CellPost r w (.returned (.tuple #[.agg #[.slice none 0 0, .int .i64 0, .int .i64 0], .int .i64 n])) w' := by
  subst h; exact ⟨none, 0, rfl, Sl.none _, hb⟩
set_option maxRecDepth 100000 in
set_option maxHeartbeats 1000000 in
theorem bbit_any (p t : Int) (a : Option Addr) (xs : List Int) (ca : Nat) (b : Option Addr) (ys : List Int) (cb : Nat) (th : Int) (w : World) (hl : xs.length ≤ 140737488351232) (hl2 : ys.length ≤ 140737488351232) (ha : Sl w a xs) (hb : Sl w b ys) :
    Calls Try.prog 38 #[.agg #[.int .i64 p, .int .i64 t], .slice a xs.length ca, .slice b ys.length cb, .int .i64 th] w (CellPost (bitV p t xs ys th) w) := by
  obtain ⟨U, hU⟩ : ∃ U, (w.alloc (.cells #[.int .i64 p, .int .i64 t] 23)).alloc (.cells #[.slice none 0 0, .int .i64 0, .int .i64 0] 49) = U := ⟨_, rfl⟩
  have HF : Hid (Fb w p t U) := by rw [← hU]; exact (Fb.new w p t _).next ((Below.refl _ _).alloc (Nat.le_refl _) _)
  have HR : Hid (Bt U (w.heap.size + 1) (.slice none 0 0) (.int .i64 0) (.int .i64 0)) := by
    have h := Bt.new (w.alloc (.cells #[.int .i64 p, .int .i64 t] 23)) (.slice none 0 0) (.int .i64 0) (.int .i64 0) 49
    rw [World.size_alloc, hU] at h; exact h
  have HSU : Hid (∀ V, Fb w p t V → Calls Try.prog 15 #[.agg #[.int .i64 p, .int .i64 t], .slice a xs.length ca, .slice b ys.length cb] V fun e w' => e = .returned (.tuple #[.int .i64 (sumV p t xs ys).1, .int .i64 (sumV p t xs ys).2]) ∧ Below V.heap.size V w') := fun V h => bsum_any p t a xs ca b ys cb V hl hl2 (h.sl ha) (h.sl hb)
  obtain ⟨⟨sm, se⟩, hsm⟩ : ∃ r, sumV p t xs ys = r := ⟨_, rfl⟩
  rw [hsm] at HSU
  have HA := Lib.hid ha
  obtain ⟨z0, z1⟩ := And.intro HF.out.c0 HF.out.c1
  obtain ⟨z2, z3, z4, z5, z6, z7⟩ := And.intro HR.out.c0 (And.intro HR.out.c1 (And.intro HR.out.c2 (And.intro HR.out.f0 (And.intro HR.out.f1 HR.out.f2))))
  by_cases hse : se = 0
  · subst hse
    by_cases hr : -99 ≤ th ∧ th ≤ 100
    · have hbr : browB p t xs = true := by
        by_cases hb : browB p t xs = true
        · exact hb
        · unfold sumV at hsm; rw [if_neg hb] at hsm; cases hsm
      have hx1 : 1 ≤ xs.length := by have := brow_of hbr; omega
      have hx8 : xs.length * 8 ≤ 140737488351232 := by have := brow_of hbr; omega
      have HV := Lib.hid (show bitV p t xs ys th = ((xs, if th ≤ sm then (th, 100) else (-100, th - 1)), 0) by unfold bitV; rw [hsm, if_pos rfl, if_pos (by simp [rangeB, hr])])
      obtain ⟨b0, o0, _, rfl, _, _⟩ := ha.at (k := 0) (by omega)
      have HCL : Hid (∀ V, Fb w p t V → Calls Try.prog 69 #[.slice (some ⟨b0, o0, none⟩) xs.length ca] V fun e w' => ∃ g cap', e = .returned (.slice (some ⟨g, 0, none⟩) xs.length cap') ∧ Sl w' (some ⟨g, 0, none⟩) xs ∧ V.heap.size ≤ g ∧ Below V.heap.size V w') := fun V h => (clone_any b0 o0 xs ca V hx1 hx8 (h.sl HA.out)).mono fun e w' ⟨g, c', k1, k2, k3⟩ => ⟨g, c', k1, OwnI.sl k2, (OwnI.lt k2).2, k3⟩
      obtain ⟨hr1, hr2⟩ := hr
      clear hsm ha hb hx1 hx8 hbr
      by_cases hth : th ≤ sm
      · go_enter Try.func38, Try.ntmps38
        go_wp2_with (first
          | (go_at_call 15; refine (HSU.out _ HF.out).mono ?_; rintro e w1 ⟨rfl, hb1⟩; have F1 := Fb.next HF.out hb1; have R1 := HR.out.next hb1; obtain ⟨k2, k3, k4, k5, k6, k7⟩ := And.intro R1.c0 (And.intro R1.c1 (And.intro R1.c2 (And.intro R1.f0 (And.intro R1.f1 R1.f2)))))
          | (go_at_call 69; refine (HCL.out _ F1).mono ?_; rintro e w2 ⟨g, gc, rfl, hg2, hgg, hb2⟩; have F2 := F1.next hb2; have R2 := R1.next hb2; have HG2 := Lib.hid hg2; have HGG : Hid (w.heap.size + 1 < g) := (by have := R1.lt; show _ < _; omega); have hbA : Below w2.heap.size w2 (w2.alloc (.cells #[.slice (some ⟨g, 0, none⟩) xs.length gc, .int .i64 th, .int .i64 100] 49)) := (Below.refl _ _).alloc (Nat.le_refl _) _; have F3 := F2.next hbA; have R3 := R2.next hbA; have HBA := Lib.hid hbA; clear hbA hg2 hgg; obtain ⟨m2, m3, m4, m5, m6, m7⟩ := And.intro R3.c0 (And.intro R3.c1 (And.intro R3.c2 (And.intro R3.f0 (And.intro R3.f1 R3.f2))))))
        have R4 := ((R3.set0 (.slice (some ⟨g, 0, none⟩) xs.length gc)).set1 (.int .i64 th)).set2 (.int .i64 100)
        have F4 := ((F3.set (b := w.heap.size + 1) (i := 0) (by omega) (.slice (some ⟨g, 0, none⟩) xs.length gc)).set (b := w.heap.size + 1) (i := 1) (by omega) (.int .i64 th)).set (b := w.heap.size + 1) (i := 2) (by omega) (.int .i64 100)
        obtain ⟨y2, y3, y4⟩ := And.intro R4.c0 (And.intro R4.c1 R4.c2)
        have hne : ∀ ad : Addr, some (⟨g, 0, none⟩ : Addr) = some ad → ad.block ≠ w.heap.size + 1 := fun ad e => by cases e; have := HGG.out; show g ≠ _; omega
        refine bodyPost_ret (v := .tuple #[.agg #[.slice (some ⟨g, 0, none⟩) xs.length gc, .int .i64 th, .int .i64 100], .int .i64 0]) ?_ rfl ⟨some ⟨g, 0, none⟩, gc, by rw [HV.out, if_pos hth], ?_, F4.below⟩
        · rw [results_cell_tmp rfl]; go_simp
        · rw [HV.out]
          exact sl_apart (sl_apart (sl_apart (HG2.out.below HBA.out) hne _) hne _) hne _
      · go_enter Try.func38, Try.ntmps38
        go_wp2_with (first
          | (go_at_call 15; refine (HSU.out _ HF.out).mono ?_; rintro e w1 ⟨rfl, hb1⟩; have F1 := Fb.next HF.out hb1; have R1 := HR.out.next hb1; obtain ⟨k2, k3, k4, k5, k6, k7⟩ := And.intro R1.c0 (And.intro R1.c1 (And.intro R1.c2 (And.intro R1.f0 (And.intro R1.f1 R1.f2)))))
          | (go_at_call 69; refine (HCL.out _ F1).mono ?_; rintro e w2 ⟨g, gc, rfl, hg2, hgg, hb2⟩; have F2 := F1.next hb2; have R2 := R1.next hb2; have HG2 := Lib.hid hg2; have HGG : Hid (w.heap.size + 1 < g) := (by have := R1.lt; show _ < _; omega); have hbA : Below w2.heap.size w2 (w2.alloc (.cells #[.slice (some ⟨g, 0, none⟩) xs.length gc, .int .i64 (-100), .int .i64 (th - 1)] 49)) := (Below.refl _ _).alloc (Nat.le_refl _) _; have F3 := F2.next hbA; have R3 := R2.next hbA; have HBA := Lib.hid hbA; clear hbA hg2 hgg; obtain ⟨m2, m3, m4, m5, m6, m7⟩ := And.intro R3.c0 (And.intro R3.c1 (And.intro R3.c2 (And.intro R3.f0 (And.intro R3.f1 R3.f2))))))
        have R4 := ((R3.set0 (.slice (some ⟨g, 0, none⟩) xs.length gc)).set1 (.int .i64 (-100))).set2 (.int .i64 (th - 1))
        have F4 := ((F3.set (b := w.heap.size + 1) (i := 0) (by omega) (.slice (some ⟨g, 0, none⟩) xs.length gc)).set (b := w.heap.size + 1) (i := 1) (by omega) (.int .i64 (-100))).set (b := w.heap.size + 1) (i := 2) (by omega) (.int .i64 (th - 1))
        obtain ⟨y2, y3, y4⟩ := And.intro R4.c0 (And.intro R4.c1 R4.c2)
        have hne : ∀ ad : Addr, some (⟨g, 0, none⟩ : Addr) = some ad → ad.block ≠ w.heap.size + 1 := fun ad e => by cases e; have := HGG.out; show g ≠ _; omega
        refine bodyPost_ret (v := .tuple #[.agg #[.slice (some ⟨g, 0, none⟩) xs.length gc, .int .i64 (-100), .int .i64 (th - 1)], .int .i64 0]) ?_ rfl ⟨some ⟨g, 0, none⟩, gc, by rw [HV.out, if_neg (by omega)], ?_, F4.below⟩
        · rw [results_cell_tmp rfl]; go_simp
        · rw [HV.out]
          exact sl_apart (sl_apart (sl_apart (HG2.out.below HBA.out) hne _) hne _) hne _
    · have HV := Lib.hid (show bitV p t xs ys th = (([], 0, 0), 7) by unfold bitV; rw [hsm, if_pos rfl, if_neg (by simp [rangeB]; omega)])
      clear hsm ha hb
      by_cases hr1 : th ≤ -100
      · go_enter Try.func38, Try.ntmps38
        go_wp2_with (go_at_call 15; refine (HSU.out _ HF.out).mono ?_; rintro e w1 ⟨rfl, hb1⟩; have F1 := Fb.next HF.out hb1; have R1 := HR.out.next hb1; obtain ⟨k2, k3, k4, k5, k6, k7⟩ := And.intro R1.c0 (And.intro R1.c1 (And.intro R1.c2 (And.intro R1.f0 (And.intro R1.f1 R1.f2)))))
        have R4 := ((R1.set0 (.slice none 0 0)).set1 (.int .i64 0)).set2 (.int .i64 0)
        have F4 := ((F1.set (b := w.heap.size + 1) (i := 0) (by omega) (.slice none 0 0)).set (b := w.heap.size + 1) (i := 1) (by omega) (.int .i64 0)).set (b := w.heap.size + 1) (i := 2) (by omega) (.int .i64 0)
        obtain ⟨y2, y3, y4⟩ := And.intro R4.c0 (And.intro R4.c1 R4.c2)
        refine bodyPost_ret (v := .tuple #[.agg #[.slice none 0 0, .int .i64 0, .int .i64 0], .int .i64 7]) ?_ rfl (CellPost.err 7 HV.out F4.below)
        rw [results_cell_tmp rfl]; go_simp
      · have hr2 : 100 < th := by omega
        go_enter Try.func38, Try.ntmps38
        go_wp2_with (go_at_call 15; refine (HSU.out _ HF.out).mono ?_; rintro e w1 ⟨rfl, hb1⟩; have F1 := Fb.next HF.out hb1; have R1 := HR.out.next hb1; obtain ⟨k2, k3, k4, k5, k6, k7⟩ := And.intro R1.c0 (And.intro R1.c1 (And.intro R1.c2 (And.intro R1.f0 (And.intro R1.f1 R1.f2)))))
        have R4 := ((R1.set0 (.slice none 0 0)).set1 (.int .i64 0)).set2 (.int .i64 0)
        have F4 := ((F1.set (b := w.heap.size + 1) (i := 0) (by omega) (.slice none 0 0)).set (b := w.heap.size + 1) (i := 1) (by omega) (.int .i64 0)).set (b := w.heap.size + 1) (i := 2) (by omega) (.int .i64 0)
        obtain ⟨y2, y3, y4⟩ := And.intro R4.c0 (And.intro R4.c1 R4.c2)
        refine bodyPost_ret (v := .tuple #[.agg #[.slice none 0 0, .int .i64 0, .int .i64 0], .int .i64 7]) ?_ rfl (CellPost.err 7 HV.out F4.below)
        rw [results_cell_tmp rfl]; go_simp
  · have HV := Lib.hid (show bitV p t xs ys th = (([], 0, 0), se) by unfold bitV; rw [hsm]; exact if_neg hse)
    clear hsm ha hb
    go_enter Try.func38, Try.ntmps38
    go_wp2_with (go_at_call 15; refine (HSU.out _ HF.out).mono ?_; rintro e w1 ⟨rfl, hb1⟩; have F1 := Fb.next HF.out hb1; have R1 := HR.out.next hb1; obtain ⟨k2, k3, k4, k5, k6, k7⟩ := And.intro R1.c0 (And.intro R1.c1 (And.intro R1.c2 (And.intro R1.f0 (And.intro R1.f1 R1.f2)))))
    have R4 := ((R1.set0 (.slice none 0 0)).set1 (.int .i64 0)).set2 (.int .i64 0)
    have F4 := ((F1.set (b := w.heap.size + 1) (i := 0) (by omega) (.slice none 0 0)).set (b := w.heap.size + 1) (i := 1) (by omega) (.int .i64 0)).set (b := w.heap.size + 1) (i := 2) (by omega) (.int .i64 0)
    obtain ⟨y2, y3, y4⟩ := And.intro R4.c0 (And.intro R4.c1 R4.c2)
    refine bodyPost_ret (v := .tuple #[.agg #[.slice none 0 0, .int .i64 0, .int .i64 0], .int .i64 se]) ?_ rfl (CellPost.err se HV.out F4.below)
    rw [results_cell_tmp rfl]; go_simp
end Go.Proofs.Ytoedbbpjddjbnaa
/- The threshold that halves some sums best, found as layer 7 and its answers find it: mathematics, and the contracts of halved and halve. -/
namespace Go.Proofs.Ytoedbbpjddjbnaa
open Go.RowKit

theorem cnt_sum (S : List Int) (th : Int) : cntLo S th + cntHi S th = S.length := by
  unfold cntLo cntHi
  induction S with
  | nil => rfl
  | cons s S ih =>
    rw [List.filter_cons, List.filter_cons]
    by_cases h : s < th <;> simp [h] <;> omega
/-- The greater and the lesser part at a threshold. -/
def hvG (S : List Int) (t : Int) : Nat := max (cntLo S t) (cntHi S t)
def hvL (S : List Int) (t : Int) : Nat := min (cntLo S t) (cntHi S t)
/-- The best of the first k thresholds from -99 on: the threshold, its greater and its lesser part. -/
def hvTo (S : List Int) : Nat → Int × Nat × Nat
  | 0 => (0, 0, 0)
  | k + 1 => if k = 0 ∨ hvG S ((k : Int) - 99) < (hvTo S k).2.1 then ((k : Int) - 99, hvG S ((k : Int) - 99), hvL S ((k : Int) - 99)) else hvTo S k
def halved (S : List Int) : Int × Nat × Nat := hvTo S 200
theorem hvG_le (S : List Int) (t : Int) : hvG S t ≤ S.length ∧ hvL S t ≤ S.length := by
  have := cnt_sum S t
  unfold hvG hvL; omega
theorem hvTo_le (S : List Int) : ∀ k, (hvTo S k).2.1 ≤ S.length ∧ (hvTo S k).2.2 ≤ S.length
  | 0 => by simp [hvTo]
  | k + 1 => by
    simp only [hvTo]
    split
    · exact hvG_le S _
    · exact hvTo_le S k
theorem hvTo_eq (S : List Int) : ∀ k, 1 ≤ k → (hvTo S k).2.1 = hvG S (hvTo S k).1 ∧ (hvTo S k).2.2 = hvL S (hvTo S k).1 ∧ -99 ≤ (hvTo S k).1 ∧ (hvTo S k).1 ≤ (k : Int) - 100
  | 0, h => by omega
  | k + 1, _ => by
    simp only [hvTo]
    by_cases hk : k = 0 ∨ hvG S ((k : Int) - 99) < (hvTo S k).2.1
    · rw [if_pos hk]; exact ⟨rfl, rfl, by simp only; omega, by simp only; omega⟩
    · rw [if_neg hk]
      have := hvTo_eq S k (by omega)
      exact ⟨this.1, this.2.1, this.2.2.1, by omega⟩
/-- No threshold so far has a lesser greater part. -/
theorem hvTo_least (S : List Int) : ∀ k i, i < k → (hvTo S k).2.1 ≤ hvG S ((i : Int) - 99)
  | 0, _, h => by omega
  | k + 1, i, h => by
    simp only [hvTo]
    by_cases hk : k = 0 ∨ hvG S ((k : Int) - 99) < (hvTo S k).2.1
    · rw [if_pos hk]
      simp only
      by_cases e : i = k
      · subst e; exact Nat.le_refl _
      · have := hvTo_least S k i (by omega)
        rcases hk with hk | hk
        · omega
        · omega
    · rw [if_neg hk]
      by_cases e : i = k
      · subst e; omega
      · exact hvTo_least S k i (by omega)
/-- As the answers look for it. -/
def rhTo (S : List Int) : Nat → Int × Nat
  | 0 => (0, S.length + 1)
  | k + 1 => if hvG S ((k : Int) - 99) < (rhTo S k).2 then ((k : Int) - 99, hvG S ((k : Int) - 99)) else rhTo S k
theorem rhTo_eq (S : List Int) : ∀ k, 1 ≤ k → rhTo S k = ((hvTo S k).1, (hvTo S k).2.1)
  | 0, h => by omega
  | k + 1, _ => by
    by_cases hk : k = 0
    · subst hk
      have := (hvG_le S (((0 : Nat) : Int) - 99)).1
      show (if hvG S (((0 : Nat) : Int) - 99) < S.length + 1 then _ else _) = _
      rw [if_pos (show hvG S (((0 : Nat) : Int) - 99) < S.length + 1 by omega)]
      simp [hvTo]
    · have ih := rhTo_eq S k (by omega)
      simp only [rhTo, hvTo]
      rw [ih]
      by_cases c : hvG S ((k : Int) - 99) < (hvTo S k).2.1
      · rw [if_pos c, if_pos (.inr c)]
      · rw [if_neg c, if_neg (by rintro (h | h); exact hk h; exact c h)]
theorem rhTo_le (S : List Int) : ∀ k, (rhTo S k).2 ≤ S.length + 1
  | 0 => Nat.le_refl _
  | k + 1 => by
    simp only [rhTo]
    split
    · have := (hvG_le S ((k : Int) - 99)).1; simp only; omega
    · exact rhTo_le S k
theorem hv_yes {S : List Int} {k A B : Nat} (hA : cntLo S ((k : Int) - 99) = A) (hB : cntHi S ((k : Int) - 99) = B) (h : k = 0 ∨ max A B < (hvTo S k).2.1) : hvTo S (k + 1) = ((k : Int) - 99, max A B, min A B) := by
  simp only [hvTo]
  unfold hvG hvL
  rw [hA, hB, if_pos h]
theorem hv_no {S : List Int} {k A B : Nat} (hA : cntLo S ((k : Int) - 99) = A) (hB : cntHi S ((k : Int) - 99) = B) (h : ¬ (k = 0 ∨ max A B < (hvTo S k).2.1)) : hvTo S (k + 1) = hvTo S k := by
  simp only [hvTo]
  unfold hvG
  rw [hA, hB, if_neg h]
/-- A choice by value: its row, threshold, greater and lesser part. -/
def chV (r t : Int) (g l : Nat) : Value := .agg #[.int .i64 r, .int .i64 t, .int .i64 g, .int .i64 l]
/-- A box of four numbers that may be written. -/
structure B4 (W : World) (b : Nat) (u v x y : Int) : Prop where
  lt : b < W.heap.size
  c0 : W.cell? ⟨b, 0, none⟩ = some (.int .i64 u)
  c1 : W.cell? ⟨b, 1, none⟩ = some (.int .i64 v)
  c2 : W.cell? ⟨b, 2, none⟩ = some (.int .i64 x)
  c3 : W.cell? ⟨b, 3, none⟩ = some (.int .i64 y)
  f0 : W.frozen? ⟨b, 0, none⟩ = false
  f1 : W.frozen? ⟨b, 1, none⟩ = false
  f2 : W.frozen? ⟨b, 2, none⟩ = false
  f3 : W.frozen? ⟨b, 3, none⟩ = false
theorem B4.next {W W' : World} {b : Nat} {u v x y : Int} (h : B4 W b u v x y) (hb : Below W.heap.size W W') : B4 W' b u v x y :=
  ⟨Nat.lt_of_lt_of_le h.lt hb.size, (hb.cell (p := ⟨b, 0, none⟩) h.lt).trans h.c0, (hb.cell (p := ⟨b, 1, none⟩) h.lt).trans h.c1, (hb.cell (p := ⟨b, 2, none⟩) h.lt).trans h.c2, (hb.cell (p := ⟨b, 3, none⟩) h.lt).trans h.c3, (hb.frozen (p := ⟨b, 0, none⟩) h.lt).trans h.f0, (hb.frozen (p := ⟨b, 1, none⟩) h.lt).trans h.f1, (hb.frozen (p := ⟨b, 2, none⟩) h.lt).trans h.f2, (hb.frozen (p := ⟨b, 3, none⟩) h.lt).trans h.f3⟩
theorem B4.new (W : World) (u v x y : Int) (t : TypeId) : B4 (W.alloc (.cells #[.int .i64 u, .int .i64 v, .int .i64 x, .int .i64 y] t)) W.heap.size u v x y := ⟨by rw [World.size_alloc]; omega, alloc_cell _ _ _ _ _ rfl, alloc_cell _ _ _ _ _ rfl, alloc_cell _ _ _ _ _ rfl, alloc_cell _ _ _ _ _ rfl, by simp, by simp, by simp, by simp⟩
/-- All four written. -/
def set4 (W : World) (b : Nat) (u v x y : Int) : World := (((W.setCell ⟨b, 0, none⟩ (.int .i64 u)).setCell ⟨b, 1, none⟩ (.int .i64 v)).setCell ⟨b, 2, none⟩ (.int .i64 x)).setCell ⟨b, 3, none⟩ (.int .i64 y)
theorem cell_oth {W : World} {b i j : Nat} (h : i ≠ j) (v : Value) : (W.setCell ⟨b, j, none⟩ v).cell? ⟨b, i, none⟩ = W.cell? ⟨b, i, none⟩ := World.cell?_setCell_other _ ⟨b, j, none⟩ ⟨b, i, none⟩ _ (by simp)
theorem B4.set {W : World} {b : Nat} {u v x y : Int} (h : B4 W b u v x y) (u' v' x' y' : Int) : B4 (set4 W b u' v' x' y') b u' v' x' y' := by
  unfold set4
  have g0 : (W.setCell ⟨b, 0, none⟩ (.int .i64 u')).cell? ⟨b, 0, none⟩ = some (.int .i64 u') := World.cell?_setCell_same _ _ _ h.c0
  have g1 : ((W.setCell ⟨b, 0, none⟩ (.int .i64 u')).setCell ⟨b, 1, none⟩ (.int .i64 v')).cell? ⟨b, 1, none⟩ = some (.int .i64 v') := World.cell?_setCell_same _ _ _ ((cell_oth (by decide) _).trans h.c1)
  have g2 : (((W.setCell ⟨b, 0, none⟩ (.int .i64 u')).setCell ⟨b, 1, none⟩ (.int .i64 v')).setCell ⟨b, 2, none⟩ (.int .i64 x')).cell? ⟨b, 2, none⟩ = some (.int .i64 x') := World.cell?_setCell_same _ _ _ ((cell_oth (by decide) _).trans ((cell_oth (by decide) _).trans h.c2))
  refine ⟨by simp only [World.size_setCell]; exact h.lt, ?_, ?_, ?_, ?_, by simp only [World.frozen?_setCell]; exact h.f0, by simp only [World.frozen?_setCell]; exact h.f1, by simp only [World.frozen?_setCell]; exact h.f2, by simp only [World.frozen?_setCell]; exact h.f3⟩
  · exact (cell_oth (by decide) _).trans ((cell_oth (by decide) _).trans ((cell_oth (by decide) _).trans g0))
  · exact (cell_oth (by decide) _).trans ((cell_oth (by decide) _).trans g1)
  · exact (cell_oth (by decide) _).trans g2
  · exact World.cell?_setCell_same _ _ _ ((cell_oth (by decide) _).trans ((cell_oth (by decide) _).trans ((cell_oth (by decide) _).trans h.c3)))
theorem set4_heap (W : World) (b : Nat) (u v x y : Int) {c : Nat} (h : c ≠ b) : (set4 W b u v x y).heap[c]? = W.heap[c]? := by
  unfold set4
  rw [Below.heap_setCell _ _ _ c h, Below.heap_setCell _ _ _ c h, Below.heap_setCell _ _ _ c h, Below.heap_setCell _ _ _ c h]
theorem set4_below {B : Nat} {w W : World} {b : Nat} (h : Below B w W) (hb : B ≤ b) (u v x y : Int) : Below B w (set4 W b u v x y) := (((h.setCell (p := ⟨b, 0, none⟩) hb _).setCell (p := ⟨b, 1, none⟩) hb _).setCell (p := ⟨b, 2, none⟩) hb _).setCell (p := ⟨b, 3, none⟩) hb _
theorem B4.other {W : World} {b c : Nat} {u v x y : Int} (h : B4 W c u v x y) (hc : c ≠ b) (u' v' x' y' : Int) : B4 (set4 W b u' v' x' y') c u v x y := by
  have k := set4_heap W b u' v' x' y' hc
  have hs : (set4 W b u' v' x' y').heap.size = W.heap.size := by unfold set4; simp only [World.size_setCell]
  generalize set4 W b u' v' x' y' = W2 at k hs ⊢
  exact ⟨by rw [hs]; exact h.lt, (World.cell?_of_block (a := ⟨c, 0, none⟩) k).trans h.c0, (World.cell?_of_block (a := ⟨c, 1, none⟩) k).trans h.c1, (World.cell?_of_block (a := ⟨c, 2, none⟩) k).trans h.c2, (World.cell?_of_block (a := ⟨c, 3, none⟩) k).trans h.c3, (World.frozen?_of_block (a := ⟨c, 0, none⟩) k).trans h.f0, (World.frozen?_of_block (a := ⟨c, 1, none⟩) k).trans h.f1, (World.frozen?_of_block (a := ⟨c, 2, none⟩) k).trans h.f2, (World.frozen?_of_block (a := ⟨c, 3, none⟩) k).trans h.f3⟩
set_option maxRecDepth 1000000 in
set_option maxHeartbeats 2000000 in
theorem halved_any (M : Nat) (S : List Int) (w : World) (hS : S.length ≤ 1000000) (ho : OC w M S) :
    Calls Try.prog 99 #[.map (some M)] w fun e w' => e = .returned (chV 0 (halved S).1 (halved S).2.1 (halved S).2.2) ∧ Below w.heap.size w w' := by
  have HOC := Lib.hid ho; clear ho
  have HSD : Hid (∀ W (t : Int), Below w.heap.size w W → Calls Try.prog 72 #[.map (some M), .int .i64 t] W fun e w' => e = .returned (.tuple #[.int .i64 (cntLo S t : Int), .int .i64 (cntHi S t : Int)]) ∧ Below W.heap.size W w') := fun W t hb => by
    obtain ⟨n, D, _, h2, h3⟩ := HOC.out.same (hb.block M HOC.out.lt)
    exact sides_any M n D S t W hS h2 h3
  obtain ⟨U, hU⟩ : ∃ U, (w.alloc (.cells #[.int .i64 0, .int .i64 0, .int .i64 0, .int .i64 0] 97)).alloc (.cells #[.int .i64 0, .int .i64 0, .int .i64 0, .int .i64 0] 97) = U := ⟨_, rfl⟩
  have hw1 : (w.alloc (.cells #[.int .i64 0, .int .i64 0, .int .i64 0, .int .i64 0] 97)).heap.size = w.heap.size + 1 := World.size_alloc _ _
  have HBU : Hid (Below w.heap.size w U) := by rw [← hU]; exact ((Below.refl _ _).alloc (Nat.le_refl _) _).alloc (by omega) _
  have HR : Hid (B4 U w.heap.size 0 0 0 0) := by show B4 _ _ _ _ _ _; rw [← hU]; exact (B4.new w 0 0 0 0 _).next ((Below.refl _ _).alloc (Nat.le_refl _) _)
  have HQ : Hid (B4 U (w.heap.size + 1) 0 0 0 0) := by
    have h := B4.new (w.alloc (.cells #[.int .i64 0, .int .i64 0, .int .i64 0, .int .i64 0] 97)) 0 0 0 0 97
    rw [hw1, hU] at h; exact h
  clear hw1
  go_enter Try.func99, Try.ntmps99
  go_wp2
  (try rw [hU])
  clear hU
  go_loopw [4, 5, 6, 7, 8] (fun tv _ _ _ _ wr => ∃ k : Nat, k ≤ 200 ∧ tv = .int .i64 ((k : Int) - 99) ∧ B4 wr w.heap.size 0 0 0 0 ∧ B4 wr (w.heap.size + 1) 0 (hvTo S k).1 (hvTo S k).2.1 (hvTo S k).2.2 ∧ Below w.heap.size w wr) (fun tv _ _ _ _ _ => (100 - intOf tv + 1).toNat)
  case atStart => exact ⟨0, by omega, rfl, HR.out, HQ.out, HBU.out⟩
  case round =>
    clear HR HQ HBU
    obtain ⟨k, hk, rfl, hr, hq, hb⟩ := hrel
    have HR := Lib.hid hr
    have HQ := Lib.hid hq
    have HB := Lib.hid hb
    have hle := hvTo_le S k
    by_cases hlt : k < 200
    · have hgl := hvG_le S ((k : Int) - 99)
      have hSD := HSD.out wr ((k : Int) - 99) hb
      have htl : (k : Int) - 99 ≤ 100 := by omega
      have hcl := cnt_sum S ((k : Int) - 99)
      have HAB : Hid (∃ A B, cntLo S ((k : Int) - 99) = A ∧ cntHi S ((k : Int) - 99) = B) := ⟨_, _, rfl, rfl⟩
      obtain ⟨A, B, hA, hB⟩ := HAB.out
      have HAB := Lib.hid (And.intro hA hB)
      rw [hA, hB] at hSD hcl
      have HSD2 := Lib.hid hSD
      clear hr hq hb hSD hgl hA hB
      have HXQ : Hid (∀ W, Below wr.heap.size wr W → B4 W (w.heap.size + 1) 0 (hvTo S k).1 (hvTo S k).2.1 (hvTo S k).2.2 ∧ B4 W w.heap.size 0 0 0 0) := fun W hb => ⟨HQ.out.next hb, HR.out.next hb⟩
      obtain ⟨q0, q1, q2, q3⟩ := And.intro HQ.out.c0 (And.intro HQ.out.c1 (And.intro HQ.out.c2 HQ.out.c3))
      obtain ⟨s0, s1, s2, s3⟩ := And.intro HQ.out.f0 (And.intro HQ.out.f1 (And.intro HQ.out.f2 HQ.out.f3))
      by_cases hk0 : k = 0
      · have HK0 := Lib.hid hk0
        have hk1 : (((k : Int) - 99) == -99) = true := by simp; omega
        clear hk0
        go_wp2_with (go_at_call 72; refine HSD2.out.mono ?_; rintro e w9 ⟨rfl, hb9⟩; have HB9 := Lib.hid hb9; have HX9 := Lib.hid (HXQ.out w9 hb9); obtain ⟨x0, x1, x2, x3⟩ := And.intro HX9.out.1.c0 (And.intro HX9.out.1.c1 (And.intro HX9.out.1.c2 HX9.out.1.c3)); obtain ⟨y0, y1, y2, y3⟩ := And.intro HX9.out.1.f0 (And.intro HX9.out.1.f1 (And.intro HX9.out.1.f2 HX9.out.1.f3)); clear hb9)
        all_goals
          have e1 : (if A < B then (B : Int) else (A : Int)) = ((max A B : Nat) : Int) := by split <;> omega
          have e2 : (if B < A then (B : Int) else (A : Int)) = ((min A B : Nat) : Int) := by split <;> omega
          have HY := hv_yes HAB.out.1 HAB.out.2 (.inl HK0.out)
          rw [e1, e2]
          refine ⟨⟨k + 1, by omega, congrArg (Value.int .i64) (by omega), HX9.out.2.other (b := w.heap.size + 1) (by omega) _ _ _ _, ?_, set4_below (HB.out.trans (HB9.out.mono HB.out.size)) (by omega) _ _ _ _⟩, by simp [intOf]; omega⟩
          rw [HY]
          exact HX9.out.1.set 0 _ _ _
      · have hk1 : (((k : Int) - 99) == -99) = false := by simp; omega
        have HK0 := Lib.hid hk0
        clear hk0
        obtain ⟨G0, hG0⟩ : ∃ G0, (hvTo S k).2.1 = G0 := ⟨_, rfl⟩
        rw [hG0] at q2 HXQ hle
        have HG0 := Lib.hid hG0
        clear hG0
        by_cases hlt2 : (if A < B then (B : Int) else (A : Int)) < (G0 : Int)
        · go_wp2_with (go_at_call 72; refine HSD2.out.mono ?_; rintro e w9 ⟨rfl, hb9⟩; have HB9 := Lib.hid hb9; have HX9 := Lib.hid (HXQ.out w9 hb9); obtain ⟨x0, x1, x2, x3⟩ := And.intro HX9.out.1.c0 (And.intro HX9.out.1.c1 (And.intro HX9.out.1.c2 HX9.out.1.c3)); obtain ⟨y0, y1, y2, y3⟩ := And.intro HX9.out.1.f0 (And.intro HX9.out.1.f1 (And.intro HX9.out.1.f2 HX9.out.1.f3)); clear hb9)
          have e1 : (if A < B then (B : Int) else (A : Int)) = ((max A B : Nat) : Int) := by split <;> omega
          have e2 : (if B < A then (B : Int) else (A : Int)) = ((min A B : Nat) : Int) := by split <;> omega
          have HY := hv_yes HAB.out.1 HAB.out.2 (.inr (by rw [HG0.out]; omega))
          rw [e1, e2]
          refine ⟨⟨k + 1, by omega, congrArg (Value.int .i64) (by omega), HX9.out.2.other (b := w.heap.size + 1) (by omega) _ _ _ _, ?_, set4_below (HB.out.trans (HB9.out.mono HB.out.size)) (by omega) _ _ _ _⟩, by simp [intOf]; omega⟩
          rw [HY]
          exact HX9.out.1.set 0 _ _ _
        · go_wp2_with (go_at_call 72; refine HSD2.out.mono ?_; rintro e w9 ⟨rfl, hb9⟩; have HB9 := Lib.hid hb9; have HX9 := Lib.hid (HXQ.out w9 hb9); obtain ⟨x0, x1, x2, x3⟩ := And.intro HX9.out.1.c0 (And.intro HX9.out.1.c1 (And.intro HX9.out.1.c2 HX9.out.1.c3)); obtain ⟨y0, y1, y2, y3⟩ := And.intro HX9.out.1.f0 (And.intro HX9.out.1.f1 (And.intro HX9.out.1.f2 HX9.out.1.f3)); clear hb9)
          have HY := hv_no HAB.out.1 HAB.out.2 (by rw [HG0.out]; rintro (h | h); exact HK0.out h; split at hlt2 <;> omega)
          refine ⟨⟨k + 1, by omega, congrArg (Value.int .i64) (by omega), HX9.out.2, ?_, HB.out.trans (HB9.out.mono HB.out.size)⟩, by simp [intOf]; omega⟩
          rw [HY, HG0.out]
          exact HX9.out.1
    · obtain rfl : k = 200 := by omega
      obtain ⟨q0, q1, q2, q3⟩ := And.intro hq.c0 (And.intro hq.c1 (And.intro hq.c2 hq.c3))
      obtain ⟨r0, r1, r2, r3⟩ := And.intro hr.c0 (And.intro hr.c1 (And.intro hr.c2 hr.c3))
      obtain ⟨s0, s1, s2, s3⟩ := And.intro hr.f0 (And.intro hr.f1 (And.intro hr.f2 hr.f3))
      clear hr hq hb
      go_wp2
      have R4 := HR.out.set 0 (hvTo S 200).1 (hvTo S 200).2.1 (hvTo S 200).2.2
      have hbl := set4_below HB.out (Nat.le_refl w.heap.size) 0 (hvTo S 200).1 (hvTo S 200).2.1 (hvTo S 200).2.2
      unfold set4 at R4 hbl
      obtain ⟨e0, e1, e2, e3⟩ := And.intro R4.c0 (And.intro R4.c1 (And.intro R4.c2 R4.c3))
      refine bodyPost_ret_by (v := chV 0 (hvTo S 200).1 (hvTo S 200).2.1 (hvTo S 200).2.2) ?_ rfl ⟨by unfold halved; rfl, hbl⟩
      rw [results_cell_one1 rfl]
      unfold chV
      go_simp
end Go.Proofs.Ytoedbbpjddjbnaa
/- halve and next of the answers of layer 7: contracts; the best row and threshold. -/
namespace Go.Proofs.Ytoedbbpjddjbnaa
open Go.RowKit

/-- The best of the first k rows, whose sums f tells: row, threshold, greater and lesser part. -/
def bsTo (f : Nat → List Int) : Nat → Nat × Int × Nat × Nat
  | 0 => (0, 0, 0, 0)
  | k + 1 => if k = 0 ∨ (halved (f k)).2.1 < (bsTo f k).2.2.1 then (k, halved (f k)) else bsTo f k
/-- As the answers look for it. -/
def rbTo (L : Nat) (f : Nat → List Int) : Nat → Nat × Int × Nat
  | 0 => (0, 0, L + 1)
  | k + 1 => if (rhTo (f k) 200).2 < (rbTo L f k).2.2 then (k, rhTo (f k) 200) else rbTo L f k
theorem rh_eq (S : List Int) : rhTo S 200 = ((halved S).1, (halved S).2.1) := by unfold halved; exact rhTo_eq S 200 (by omega)
theorem halved_le (S : List Int) : (halved S).2.1 ≤ S.length ∧ (halved S).2.2 ≤ S.length := by unfold halved; exact hvTo_le S 200
theorem rbTo_eq (L : Nat) (f : Nat → List Int) (hf : ∀ i, (f i).length = L) : ∀ k, 1 ≤ k → rbTo L f k = ((bsTo f k).1, (bsTo f k).2.1, (bsTo f k).2.2.1)
  | 0, h => by omega
  | k + 1, _ => by
    simp only [rbTo, bsTo]
    rw [rh_eq]
    by_cases hk : k = 0
    · subst hk
      have h1 := (halved_le (f 0)).1
      rw [hf 0] at h1
      rw [if_pos (show (halved (f 0)).2.1 < (rbTo L f 0).2.2 from Nat.lt_succ_of_le h1), if_pos (.inl rfl)]
    · rw [rbTo_eq L f hf k (by omega)]
      by_cases c : (halved (f k)).2.1 < (bsTo f k).2.2.1
      · rw [if_pos c, if_pos (.inr c)]
      · rw [if_neg c, if_neg (by rintro (h | h); exact hk h; exact c h)]
theorem rbTo_le (L : Nat) (f : Nat → List Int) (hf : ∀ i, (f i).length = L) : ∀ k, (rbTo L f k).2.2 ≤ L + 1
  | 0 => Nat.le_refl _
  | k + 1 => by
    simp only [rbTo]
    split
    · rw [rh_eq]; have := (halved_le (f k)).1; rw [hf k] at this; simp only; omega
    · exact rbTo_le L f hf k
theorem bsTo_pos (f : Nat → List Int) (hf : ∀ i, 1 ≤ (f i).length) : ∀ k, 1 ≤ k → 1 ≤ (bsTo f k).2.2.1
  | 0, h => by omega
  | k + 1, _ => by
    simp only [bsTo]
    split
    · unfold halved
      simp only
      rw [(hvTo_eq (f k) 200 (by omega)).1]
      have := cnt_sum (f k) (hvTo (f k) 200).1
      have := hf k
      unfold hvG; omega
    · next h => exact bsTo_pos f hf k (by omega)
theorem bsTo_zero (f : Nat → List Int) (hf : ∀ i, (f i).length = 0) : ∀ k, (bsTo f k).2.2.1 = 0
  | 0 => rfl
  | k + 1 => by
    simp only [bsTo]
    split
    · have := (halved_le (f k)).1; rw [hf k] at this; simp only; omega
    · exact bsTo_zero f hf k
set_option maxRecDepth 100000 in
set_option maxHeartbeats 2000000 in
theorem rhalve_any {P : Nat} (hP : P ≤ 8) (base : Nat) (va : Option Addr) (vc : Nat) (ads : List (Option Addr × Nat)) (L : List (List Int)) (a : Option Addr) (row : List Int) (ca : Nat) (w : World) (hl : L.length ≤ 1000000) (hL : ∀ x ∈ L, x.length = P ∧ okL 0 3 x = true) (hrow : row.length = P ∧ okL (-1) 1 row = true) (hr : HR base (.slice va L.length vc) ads L w) (ha : Sl w a row) :
    Calls Try.prog 77 #[.slice va L.length vc, .slice a row.length ca] w fun e w' => e = .returned (.tuple #[.int .i64 (rhTo (sumsB row L) 200).1, .int .i64 ((rhTo (sumsB row L) 200).2 : Nat)]) ∧ Below w.heap.size w w' := by
  have HPA : Hid (∀ W (th : Int), Below w.heap.size w W → Calls Try.prog 75 #[.slice va L.length vc, .slice a row.length ca, .int .i64 th] W fun e w' => e = .returned (.tuple #[.int .i64 (cntLo (sumsB row L) th : Int), .int .i64 (cntHi (sumsB row L) th : Int)]) ∧ Below W.heap.size W w') := fun W th hb => rparts_any hP base va vc ads L a row ca th W hl hL hrow (hr.below hb) (ha.below hb)
  have hSL : (sumsB row L).length = L.length := by unfold sumsB; rw [List.length_map]
  obtain ⟨S, hS⟩ : ∃ S, sumsB row L = S := ⟨_, rfl⟩
  rw [hS] at HPA hSL ⊢
  obtain ⟨N, hN⟩ : ∃ N, L.length = N := ⟨_, rfl⟩
  rw [hN] at HPA hSL hl ⊢
  clear hr ha hL hrow hS hN
  go_enter Try.func77, Try.ntmps77
  go_wp2
  go_loopw [6, 7, 8, 9, 10] (fun at_ le tv _ _ wr => ∃ k : Nat, k ≤ 200 ∧ tv = .int .i64 ((k : Int) - 99) ∧ at_ = .int .i64 (rhTo S k).1 ∧ le = .int .i64 ((rhTo S k).2 : Nat) ∧ Below w.heap.size w wr) (fun _ _ tv _ _ _ => (100 - intOf tv + 1).toNat)
  case atStart => exact ⟨0, by omega, rfl, rfl, by simp only [rhTo]; rw [hSL]; rfl, Below.refl _ _⟩
  case round =>
    obtain ⟨k, hk, rfl, rfl, rfl, hb⟩ := hrel
    have HB := Lib.hid hb
    have hle := rhTo_le S k
    by_cases hlt : k < 200
    · have htl : (k : Int) - 99 ≤ 100 := by omega
      have hcl := cnt_sum S ((k : Int) - 99)
      have hPA := HPA.out wr ((k : Int) - 99) hb
      have HAB : Hid (∃ A B, cntLo S ((k : Int) - 99) = A ∧ cntHi S ((k : Int) - 99) = B) := ⟨_, _, rfl, rfl⟩
      obtain ⟨A, B, hA, hB⟩ := HAB.out
      have HG : Hid (hvG S ((k : Int) - 99) = max A B) := by show _ = _; unfold hvG; rw [hA, hB]
      rw [hA, hB] at hPA hcl
      have HP2 := Lib.hid hPA
      clear hPA hA hB hb HAB
      have e1 : (if A < B then (B : Int) else (A : Int)) = ((max A B : Nat) : Int) := by split <;> omega
      have HE1 := Lib.hid e1
      clear e1
      have HS1 : Hid (rhTo S (k + 1) = if max A B < (rhTo S k).2 then ((k : Int) - 99, max A B) else rhTo S k) := by show _ = _; simp only [rhTo]; rw [HG.out]
      obtain ⟨G0, hG0⟩ : ∃ G0, (rhTo S k).2 = G0 := ⟨_, rfl⟩
      obtain ⟨T0, hT0⟩ : ∃ T0, (rhTo S k).1 = T0 := ⟨_, rfl⟩
      have HRK := Lib.hid (And.intro hT0 hG0)
      rw [hG0] at HS1 hle
      simp only [hG0, hT0]
      clear hG0 hT0
      by_cases hlt2 : (if A < B then (B : Int) else (A : Int)) < (G0 : Int)
      · go_wp2_with (go_at_call 75; refine HP2.out.mono ?_; rintro e w9 ⟨rfl, hb9⟩)
        go_roundw
        case rel =>
          rw [HE1.out] at hlt2 ⊢
          have h := HS1.out
          rw [if_pos (by omega)] at h
          exact ⟨k + 1, by omega, congrArg (Value.int .i64) (by omega), by rw [h], by rw [h], HB.out.trans (hb9.mono HB.out.size)⟩
        case measure => simp [intOf]; omega
      · go_wp2_with (go_at_call 75; refine HP2.out.mono ?_; rintro e w9 ⟨rfl, hb9⟩)
        go_roundw
        case rel =>
          rw [HE1.out] at hlt2
          have h := HS1.out
          rw [if_neg (by omega)] at h
          exact ⟨k + 1, by omega, congrArg (Value.int .i64) (by omega), by rw [h, HRK.out.1], by rw [h, HRK.out.2], HB.out.trans (hb9.mono HB.out.size)⟩
        case measure => simp [intOf]; omega
    · obtain rfl : k = 200 := by omega
      go_wp2
      go_ret2
      exact ⟨rfl, hb⟩
set_option maxRecDepth 100000 in
set_option maxHeartbeats 2000000 in
theorem rnext_any {P : Nat} (hP : P ≤ 8) (base : Nat) (va : Option Addr) (vc : Nat) (ads : List (Option Addr × Nat)) (L : List (List Int)) (a : Option Addr) (rows : List (List Int)) (ca : Nat) (w : World) (hl : L.length ≤ 1000000) (hL : ∀ x ∈ L, x.length = P ∧ okL 0 3 x = true) (hn : rows.length ≤ 1000) (hrow : ∀ r ∈ rows, r.length = P ∧ okL (-1) 1 r = true) (hr : HR base (.slice va L.length vc) ads L w) (ha : Ms w a rows) :
    Calls Try.prog 81 #[.slice va L.length vc, .slice a rows.length ca] w fun e w' => e = .returned (.tuple #[.int .i64 ((rbTo L.length (fun i => sumsB (rowL rows i) L) rows.length).1 : Nat), .int .i64 (rbTo L.length (fun i => sumsB (rowL rows i) L) rows.length).2.1, .int .i64 ((rbTo L.length (fun i => sumsB (rowL rows i) L) rows.length).2.2 : Nat)]) ∧ Below w.heap.size w w' := by
  have HPA : Hid (∀ W ra r rc, r ∈ rows → Below w.heap.size w W → Sl W ra r → Calls Try.prog 77 #[.slice va L.length vc, .slice ra r.length rc] W fun e w' => e = .returned (.tuple #[.int .i64 (rhTo (sumsB r L) 200).1, .int .i64 ((rhTo (sumsB r L) 200).2 : Nat)]) ∧ Below W.heap.size W w') := fun W ra r rc hm hb hs => rhalve_any hP base va vc ads L ra r rc W hl hL (hrow r hm) (hr.below hb) hs
  have HMS := Lib.hid ha
  have HSZ : Hid (∀ i, (sumsB (rowL rows i) L).length = L.length) := fun i => by unfold sumsB; rw [List.length_map]
  have HF : Hid (∃ f, (fun i => sumsB (rowL rows i) L) = f) := ⟨_, rfl⟩
  obtain ⟨f, hf⟩ := HF.out
  have HFE : Hid (∀ i r, rows[i]? = some r → f i = sumsB r L) := fun i r h => by rw [← hf]; show sumsB (rowL rows i) L = _; unfold rowL; rw [h]; rfl
  have HSZ2 : Hid (∀ i, (f i).length = L.length) := by rw [← hf]; exact HSZ.out
  rw [hf]
  obtain ⟨N, hN⟩ : ∃ N, L.length = N := ⟨_, rfl⟩
  rw [hN] at HPA HSZ2 hl ⊢
  have HBL : Hid (∀ k, (rbTo N f k).2.2 ≤ N + 1) := rbTo_le N f HSZ2.out
  clear hr ha hL hrow hf hN HF HSZ
  go_enter Try.func81, Try.ntmps81
  go_wp2
  go_loopw [4, 5, 6, 7, 8, 9, 10, 16] (fun rw_ th le _ _ _ _ i wr => ∃ k : Nat, k ≤ rows.length ∧ i = .int .i64 k ∧ rw_ = .int .i64 ((rbTo N f k).1 : Nat) ∧ th = .int .i64 (rbTo N f k).2.1 ∧ le = .int .i64 ((rbTo N f k).2.2 : Nat) ∧ Below w.heap.size w wr) (fun _ _ _ _ _ _ _ i _ => rows.length - (intOf i).toNat)
  case atStart => exact ⟨0, Nat.zero_le _, rfl, rfl, rfl, by simp only [rbTo]; rfl, Below.refl _ _⟩
  case round =>
    obtain ⟨k, hk, rfl, rfl, rfl, rfl, hb⟩ := hrel
    have HB := Lib.hid hb
    by_cases hlt : k < rows.length
    · obtain ⟨b, o, ra, r, rc, rfl, q0, q1, q2⟩ := (HMS.out.below hb).at hlt
      have HX := Lib.hid (HPA.out wr ra r rc (List.mem_of_getElem? q2.out) hb q1)
      have HS1 : Hid (rbTo N f (k + 1) = if (rhTo (sumsB r L) 200).2 < (rbTo N f k).2.2 then (k, rhTo (sumsB r L) 200) else rbTo N f k) := by show _ = _; simp only [rbTo]; rw [HFE.out k r q2.out]
      clear q1 hb
      obtain ⟨G0, hG0⟩ : ∃ G0, (rbTo N f k).2.2 = G0 := ⟨_, rfl⟩
      obtain ⟨G1, hG1⟩ : ∃ G1, rhTo (sumsB r L) 200 = G1 := ⟨_, rfl⟩
      have HRK := Lib.hid hG0
      rw [hG1] at HS1 HX
      rw [hG0] at HS1
      simp only [hG0]
      clear hG0 hG1
      obtain ⟨g1, g2⟩ := G1
      by_cases hlt2 : (g2 : Int) < (G0 : Int)
      · go_wp2_with (go_at_call 77; refine HX.out.mono ?_; rintro e w9 ⟨rfl, hb9⟩)
        go_roundw
        case rel =>
          have h := HS1.out
          rw [if_pos (by omega)] at h
          exact ⟨k + 1, by omega, by go_num, by rw [h], by rw [h], by rw [h], HB.out.trans (hb9.mono HB.out.size)⟩
        case measure => simp [intOf]; omega
      · go_wp2_with (go_at_call 77; refine HX.out.mono ?_; rintro e w9 ⟨rfl, hb9⟩)
        go_roundw
        case rel =>
          have h := HS1.out
          rw [if_neg (by omega)] at h
          exact ⟨k + 1, by omega, by go_num, by rw [h], by rw [h], by rw [h, HRK.out], HB.out.trans (hb9.mono HB.out.size)⟩
        case measure => simp [intOf]; omega
    · obtain rfl : k = rows.length := by omega
      go_wp2
      go_ret3
      exact ⟨rfl, hb⟩
end Go.Proofs.Ytoedbbpjddjbnaa
/- choose of layer 7: a contract. -/
namespace Go.Proofs.Ytoedbbpjddjbnaa
open Go.RowKit

/-- What choose's counts are: maps that tell how often each sum has come, in a slice of their own. -/
structure MpI (S0 G M R : Nat) (f : Nat → List Int) (W : World) : Prop where
  cG : ∀ i, i < R → W.cell? ⟨G, i, none⟩ = some (.map (some (M + i)))
  mp : ∀ i, i < R → OC W (M + i) (f i)
  lG : S0 ≤ G
  lM : S0 ≤ M
theorem MpI.same {S0 G M R : Nat} {f : Nat → List Int} {W W' : World} (h : MpI S0 G M R f W) (hb : ∀ b, S0 ≤ b → b < W.heap.size → W'.heap[b]? = W.heap[b]?) : MpI S0 G M R f W' :=
  ⟨fun i hi => (World.cell?_of_block (hb G h.lG (cell_lt (h.cG i hi)))).trans (h.cG i hi), fun i hi => (h.mp i hi).same (hb _ (Nat.le_trans h.lM (Nat.le_add_right _ _)) (h.mp i hi).lt), h.lG, h.lM⟩
theorem MpI.below {S0 G M R : Nat} {f : Nat → List Int} {W W' : World} (h : MpI S0 G M R f W) (hb : Below W.heap.size W W') : MpI S0 G M R f W' := h.same fun b _ hl => hb.block b hl
set_option maxRecDepth 1000000 in
set_option maxHeartbeats 4000000 in
theorem choose_any (fv : Value) (a : Option Addr) (R rc : Nat) (f : Nat → List Int) (w : World) (hR : R ≤ 1000) (hf : ∀ i, (f i).length ≤ 1000000)
    (hc : ∀ W, Below w.heap.size w W → Calls Try.prog 73 #[fv, .slice a R rc] W fun e w' => ∃ G M, e = .returned (.slice (some ⟨G, 0, none⟩) R R) ∧ MpI W.heap.size G M R f w' ∧ Below W.heap.size W w') :
    Calls Try.prog 79 #[fv, .slice a R rc] w fun e w' => e = .returned (chV (bsTo f R).1 (bsTo f R).2.1 (bsTo f R).2.2.1 (bsTo f R).2.2.2) ∧ Below w.heap.size w w' := by
  have HC := Lib.hid hc; clear hc
  have HFL := Lib.hid hf; clear hf
  obtain ⟨U, hU⟩ : ∃ U, (w.alloc (.cells #[.int .i64 0, .int .i64 0, .int .i64 0, .int .i64 0] 97)).alloc (.cells #[.int .i64 0, .int .i64 0, .int .i64 0, .int .i64 0] 97) = U := ⟨_, rfl⟩
  have hw1 : (w.alloc (.cells #[.int .i64 0, .int .i64 0, .int .i64 0, .int .i64 0] 97)).heap.size = w.heap.size + 1 := World.size_alloc _ _
  have HBU : Hid (Below w.heap.size w U) := by rw [← hU]; exact ((Below.refl _ _).alloc (Nat.le_refl _) _).alloc (by omega) _
  have HSU : Hid (U.heap.size = w.heap.size + 2) := by show _ = _; rw [← hU, World.size_alloc, hw1]
  have HR : Hid (B4 U w.heap.size 0 0 0 0) := by show B4 _ _ _ _ _ _; rw [← hU]; exact (B4.new w 0 0 0 0 _).next ((Below.refl _ _).alloc (Nat.le_refl _) _)
  have HQ : Hid (B4 U (w.heap.size + 1) 0 0 0 0) := by
    have h := B4.new (w.alloc (.cells #[.int .i64 0, .int .i64 0, .int .i64 0, .int .i64 0] 97)) 0 0 0 0 97
    rw [hw1, hU] at h; exact h
  clear hw1
  go_enter Try.func79, Try.ntmps79
  go_wp2_with (go_at_call 73; (try rw [hU]); refine (HC.out U HBU.out).mono ?_; rintro e w2 ⟨G, M, rfl, hm, hb2⟩; rw [HSU.out] at hm; have HM2 := Lib.hid hm; have HB2 := Lib.hid hb2; clear hm hb2)
  clear hU
  go_loopw [6, 7, 8, 13] (fun _ _ _ i wr => ∃ k : Nat, k ≤ R ∧ i = .int .i64 k ∧ B4 wr w.heap.size 0 0 0 0 ∧ B4 wr (w.heap.size + 1) (bsTo f k).1 (bsTo f k).2.1 (bsTo f k).2.2.1 (bsTo f k).2.2.2 ∧ MpI (w.heap.size + 2) G M R f wr ∧ Below w.heap.size w wr) (fun _ _ _ i _ => R - (intOf i).toNat)
  case atStart => exact ⟨0, by omega, rfl, HR.out.next HB2.out, HQ.out.next HB2.out, HM2.out, HBU.out.trans (HB2.out.mono HBU.out.size)⟩
  case round =>
    clear HR HQ HBU HM2 HB2
    obtain ⟨k, hk, rfl, hr, hq, hm, hb⟩ := hrel
    have HR := Lib.hid hr
    have HQ := Lib.hid hq
    have HB := Lib.hid hb
    have HM := Lib.hid hm
    by_cases hlt : k < R
    · have q := hm.cG k hlt
      have HHV := Lib.hid (halved_any (M + k) (f k) wr (HFL.out k) (hm.mp k hlt))
      have HBS : Hid (bsTo f (k + 1) = if k = 0 ∨ (halved (f k)).2.1 < (bsTo f k).2.2.1 then (k, halved (f k)) else bsTo f k) := rfl
      obtain ⟨C, hC⟩ : ∃ C, halved (f k) = C := ⟨_, rfl⟩
      rw [hC] at HBS HHV
      clear hC hr hq hm hb
      obtain ⟨c1, c2, c3⟩ := C
      have HRS : Hid (∀ W, Below wr.heap.size wr W → B4 W (w.heap.size + 1) (bsTo f k).1 (bsTo f k).2.1 (bsTo f k).2.2.1 (bsTo f k).2.2.2 ∧ B4 W w.heap.size 0 0 0 0 ∧ MpI (w.heap.size + 2) G M R f W) := fun W hb => ⟨HQ.out.next hb, HR.out.next hb, HM.out.below hb⟩
      obtain ⟨⟨b1, b2, b3, b4⟩, hBB⟩ : ∃ B, bsTo f k = B := ⟨_, rfl⟩
      rw [hBB] at HBS HRS
      by_cases hk0 : k = 0
      · have hk1 : ((k : Int) == 0) = true := by simp; omega
        have HK0 := Lib.hid hk0
        clear hk0
        go_wp2_with (go_at_call 99; refine HHV.out.mono ?_; rintro e w9 ⟨rfl, hb9⟩; unfold chV; have HB9 := Lib.hid hb9; have HX9 := Lib.hid (HRS.out w9 hb9); obtain ⟨WA, hWA⟩ : ∃ WA, w9.alloc (.cells #[.int .i64 (k : Int), .int .i64 c1, .int .i64 (c2 : Int), .int .i64 (c3 : Int)] 97) = WA := ⟨_, rfl⟩; have hbA : Below w9.heap.size w9 WA := hWA ▸ (Below.refl w9.heap.size w9).alloc (Nat.le_refl _) _; have hnA : B4 WA w9.heap.size (k : Int) c1 c2 c3 := hWA ▸ B4.new w9 _ _ _ _ _; have HBA := Lib.hid hbA; have HXA := Lib.hid (HRS.out WA (HB9.out.trans (hbA.mono HB9.out.size))); obtain ⟨n0, n1, n2, n3⟩ := And.intro hnA.c0 (And.intro hnA.c1 (And.intro hnA.c2 hnA.c3)); obtain ⟨x0, x1, x2, x3⟩ := And.intro HXA.out.1.c0 (And.intro HXA.out.1.c1 (And.intro HXA.out.1.c2 HXA.out.1.c3)); obtain ⟨y0, y1, y2, y3⟩ := And.intro HXA.out.1.f0 (And.intro HXA.out.1.f1 (And.intro HXA.out.1.f2 HXA.out.1.f3)); clear hb9 hbA hnA)
        refine ⟨⟨k + 1, by omega, congrArg (Value.int .i64) (by omega), HXA.out.2.1.other (b := w.heap.size + 1) (by omega) _ _ _ _, ?_, HXA.out.2.2.same fun b hb _ => set4_heap _ _ _ _ _ _ (by omega), set4_below (HB.out.trans ((HB9.out.trans (HBA.out.mono HB9.out.size)).mono HB.out.size)) (by omega) _ _ _ _⟩, by simp [intOf]; omega⟩
        rw [HBS.out, if_pos (.inl HK0.out)]
        exact HXA.out.1.set k c1 c2 c3
      · have hk1 : ((k : Int) == 0) = false := by simp; omega
        have HK0 := Lib.hid hk0
        clear hk0
        by_cases hlt2 : (c2 : Int) < (b3 : Int)
        · go_wp2_with (go_at_call 99; refine HHV.out.mono ?_; rintro e w9 ⟨rfl, hb9⟩; unfold chV; have HB9 := Lib.hid hb9; have HX9 := Lib.hid (HRS.out w9 hb9); have z0 := (HX9.out.1.next ((Below.refl w9.heap.size w9).alloc (Nat.le_refl _) (.cells #[.int .i64 0, .int .i64 c1, .int .i64 (c2 : Int), .int .i64 (c3 : Int)] 97))).c2; obtain ⟨WA, hWA⟩ : ∃ WA, w9.alloc (.cells #[.int .i64 (k : Int), .int .i64 c1, .int .i64 (c2 : Int), .int .i64 (c3 : Int)] 97) = WA := ⟨_, rfl⟩; have hbA : Below w9.heap.size w9 WA := hWA ▸ (Below.refl w9.heap.size w9).alloc (Nat.le_refl _) _; have hnA : B4 WA w9.heap.size (k : Int) c1 c2 c3 := hWA ▸ B4.new w9 _ _ _ _ _; have HBA := Lib.hid hbA; have HXA := Lib.hid (HRS.out WA (HB9.out.trans (hbA.mono HB9.out.size))); obtain ⟨n0, n1, n2, n3⟩ := And.intro hnA.c0 (And.intro hnA.c1 (And.intro hnA.c2 hnA.c3)); obtain ⟨x0, x1, x2, x3⟩ := And.intro HXA.out.1.c0 (And.intro HXA.out.1.c1 (And.intro HXA.out.1.c2 HXA.out.1.c3)); obtain ⟨y0, y1, y2, y3⟩ := And.intro HXA.out.1.f0 (And.intro HXA.out.1.f1 (And.intro HXA.out.1.f2 HXA.out.1.f3)); clear hb9 hbA hnA)
          refine ⟨⟨k + 1, by omega, congrArg (Value.int .i64) (by omega), HXA.out.2.1.other (b := w.heap.size + 1) (by omega) _ _ _ _, ?_, HXA.out.2.2.same fun b hb _ => set4_heap _ _ _ _ _ _ (by omega), set4_below (HB.out.trans ((HB9.out.trans (HBA.out.mono HB9.out.size)).mono HB.out.size)) (by omega) _ _ _ _⟩, by simp [intOf]; omega⟩
          rw [HBS.out, if_pos (.inr (by omega))]
          exact HXA.out.1.set k c1 c2 c3
        · go_wp2_with (go_at_call 99; refine HHV.out.mono ?_; rintro e w9 ⟨rfl, hb9⟩; unfold chV; have HB9 := Lib.hid hb9; have HX9 := Lib.hid (HRS.out w9 hb9); obtain ⟨WA, hWA⟩ : ∃ WA, w9.alloc (.cells #[.int .i64 (0 : Int), .int .i64 c1, .int .i64 (c2 : Int), .int .i64 (c3 : Int)] 97) = WA := ⟨_, rfl⟩; have hbA : Below w9.heap.size w9 WA := hWA ▸ (Below.refl w9.heap.size w9).alloc (Nat.le_refl _) _; have hnA : B4 WA w9.heap.size (0 : Int) c1 c2 c3 := hWA ▸ B4.new w9 _ _ _ _ _; have HBA := Lib.hid hbA; have HXA := Lib.hid (HRS.out WA (HB9.out.trans (hbA.mono HB9.out.size))); obtain ⟨n0, n1, n2, n3⟩ := And.intro hnA.c0 (And.intro hnA.c1 (And.intro hnA.c2 hnA.c3)); obtain ⟨x0, x1, x2, x3⟩ := And.intro HXA.out.1.c0 (And.intro HXA.out.1.c1 (And.intro HXA.out.1.c2 HXA.out.1.c3)); obtain ⟨y0, y1, y2, y3⟩ := And.intro HXA.out.1.f0 (And.intro HXA.out.1.f1 (And.intro HXA.out.1.f2 HXA.out.1.f3)); clear hb9 hbA hnA)
          exact ⟨⟨k + 1, by omega, congrArg (Value.int .i64) (by omega), HXA.out.2.1, by rw [HBS.out, if_neg (by rintro (h | h); exact HK0.out h; omega)]; exact HXA.out.1, HXA.out.2.2, HB.out.trans ((HB9.out.trans (HBA.out.mono HB9.out.size)).mono HB.out.size)⟩, by simp [intOf]; omega⟩
    · obtain rfl : k = R := by omega
      obtain ⟨q0, q1, q2, q3⟩ := And.intro hq.c0 (And.intro hq.c1 (And.intro hq.c2 hq.c3))
      obtain ⟨r0, r1, r2, r3⟩ := And.intro hr.c0 (And.intro hr.c1 (And.intro hr.c2 hr.c3))
      obtain ⟨s0, s1, s2, s3⟩ := And.intro hr.f0 (And.intro hr.f1 (And.intro hr.f2 hr.f3))
      clear hr hq hb hm
      go_wp2
      have R4 := HR.out.set (bsTo f k).1 (bsTo f k).2.1 (bsTo f k).2.2.1 (bsTo f k).2.2.2
      have hbl := set4_below HB.out (Nat.le_refl w.heap.size) (bsTo f k).1 (bsTo f k).2.1 (bsTo f k).2.2.1 (bsTo f k).2.2.2
      unfold set4 at R4 hbl
      obtain ⟨e0, e1, e2, e3⟩ := And.intro R4.c0 (And.intro R4.c1 (And.intro R4.c2 R4.c3))
      refine bodyPost_ret_by (v := chV (bsTo f k).1 (bsTo f k).2.1 (bsTo f k).2.2.1 (bsTo f k).2.2.2) ?_ rfl ⟨rfl, hbl⟩
      rw [results_cell_one1 rfl]
      unfold chV
      go_simp
end Go.Proofs.Ytoedbbpjddjbnaa
/- all over rows, with validRows$1 of bit: a contract. Written by mk_allrows.py. -/
namespace Go.Proofs.Ytoedbbpjddjbnaa
open Go.RowKit

set_option maxRecDepth 100000 in
set_option maxHeartbeats 2000000 in
theorem ballrows_any (lb : Array Value) (P : List Int → Bool) (a : Option Addr) (rows : List (List Int)) (cap : Nat) (w : World) (hn : rows.length ≤ 1000000) (hs : Ms w a rows)
    (h1 : ∀ W, Below w.heap.size w W → ∀ r ∈ rows, ∀ ra rc, Sl W ra r → Calls Try.prog 98 (#[.slice ra r.length rc] ++ lb) W fun e w' => e = .returned (.bool (P r)) ∧ Below W.heap.size W w') :
    Calls Try.prog 97 #[.slice a rows.length cap, .func (.func 98) #[] lb] w fun e w' => e = .returned (.bool (rows.all P)) ∧ Below w.heap.size w w' := by
  obtain ⟨V, hV⟩ : ∃ V, w.alloc (.cells #[.func (.func 98) #[] lb] 112) = V := ⟨_, rfl⟩
  have HB0 : Hid (Below w.heap.size w V) := by rw [← hV]; exact (Below.refl _ _).alloc (Nat.le_refl _) _
  have HCC : Hid (V.cell? ⟨w.heap.size, 0, none⟩ = some (.func (.func 98) #[] lb)) := by show _ = _; rw [← hV]; exact alloc_cell _ _ _ _ _ rfl
  have H1 := Lib.hid h1; clear h1
  have HS := Lib.hid hs; clear hs
  have HA1 : Hid (∀ W, Below V.heap.size V W → ∀ r ∈ rows, ∀ ra rc, Sl W ra r → Calls Try.prog 109 #[.slice ra r.length rc, .pointer (some ⟨w.heap.size, 0, none⟩)] W fun e w' => e = .returned (.bool (!P r)) ∧ Below W.heap.size W w') := fun W hb r hr ra rc hsl => by
    have HX := Lib.hid (H1.out W (HB0.out.trans (hb.mono HB0.out.size)) r hr ra rc hsl)
    have hc : W.cell? ⟨w.heap.size, 0, none⟩ = some (.func (.func 98) #[] lb) := (hb.cell (p := ⟨w.heap.size, 0, none⟩) (cell_lt HCC.out)).trans HCC.out
    clear hsl hb
    go_enter Try.func109, Try.ntmps109
    go_wp2_with (go_at_call 98; refine HX.out.mono ?_; rintro e w1 ⟨rfl, hb1⟩)
    go_ret
    exact ⟨ret_bool rfl, hb1⟩
  have HI : Hid (∀ c, Calls Try.prog 113 #[.slice a rows.length c, .func (.func 109) #[] #[.pointer (some ⟨w.heap.size, 0, none⟩)]] V fun e w' => e = .returned (.int .i64 (nix P rows)) ∧ Below V.heap.size V w') := fun c => by
    have HSV := Lib.hid (HS.out.below HB0.out)
    clear hV HCC
    go_enter Try.func113, Try.ntmps113
    go_wp2
    go_loopw [8] (fun i wr => ∃ k : Nat, k ≤ rows.length ∧ i = .int .i64 k ∧ (∀ j y, j < k → rows[j]? = some y → P y = true) ∧ Below V.heap.size V wr) (fun i _ => rows.length - (intOf i).toNat)
    case atStart => exact ⟨0, Nat.zero_le _, rfl, fun j y h => by omega, Below.refl _ _⟩
    case round =>
      obtain ⟨k, hk, rfl, hno, hb⟩ := hrel
      have HN := Lib.hid hno; clear hno
      have HB := Lib.hid hb; clear hb
      by_cases hlt : k < rows.length
      · obtain ⟨b, o, ra, r, rc, rfl, q0, q1, q2⟩ := (HSV.out.below HB.out).at hlt
        have HX := Lib.hid (HA1.out wr HB.out r (List.mem_of_getElem? q2.out) ra rc q1)
        clear q1
        cases ho : P r
        · go_wp2_with (go_at_call 109; refine HX.out.mono ?_; rintro e w' ⟨rfl, hb1⟩; rw [ho])
          go_ret
          exact ⟨ret_i64 (nix_hit HN.out q2.out ho).symm, HB.out.trans (hb1.mono HB.out.size)⟩
        · go_wp2_with (go_at_call 109; refine HX.out.mono ?_; rintro e w' ⟨rfl, hb1⟩; rw [ho])
          have HB2 : Hid (Below V.heap.size V w') := HB.out.trans (hb1.mono HB.out.size)
          clear hb1
          go_roundw
          case rel => exact ⟨k + 1, by omega, by go_num, fun j y hj hy => by
              by_cases hj' : j = k
              · subst hj'; rw [q2.out] at hy; cases hy; exact ho
              · exact HN.out j y (by omega) hy, HB2.out⟩
          case measure => simp [intOf]; omega
      · go_wp2
        go_ret
        exact ⟨ret_i64 (nix_miss (fun j y hy => HN.out j y (by have := (List.getElem?_eq_some_iff.1 hy).1; omega) hy)).symm, HB.out⟩
  have HCF : Hid (∀ c, Calls Try.prog 108 #[.slice a rows.length c, .func (.func 109) #[] #[.pointer (some ⟨w.heap.size, 0, none⟩)]] V fun e w' => e = .returned (.bool (decide (0 ≤ nix P rows))) ∧ Below V.heap.size V w') := fun c => by
    clear hV HCC
    go_enter Try.func108, Try.ntmps108
    go_wp2_with (go_at_call 113; refine (HI.out _).mono ?_; rintro e w' ⟨rfl, hb⟩)
    go_ret
    exact ⟨ret_bool rfl, hb⟩
  have HOK := Lib.hid (nix_ok P rows)
  clear HCC
  go_enter Try.func97, Try.ntmps97
  go_wp2_with (go_at_call 108; refine (HCF.out _).mono ?_; rintro e w' ⟨rfl, hb⟩)
  go_ret
  exact ⟨ret_bool HOK.out, HB0.out.trans (hb.mono HB0.out.size)⟩
end Go.Proofs.Ytoedbbpjddjbnaa
/- validRows of layer 7 and of its answers: contracts. -/
namespace Go.Proofs.Ytoedbbpjddjbnaa
open Go.RowKit

theorem bvrows1_any (b : Nat) (p t : Int) (ra : Option Addr) (r : List Int) (rc : Nat) (W : World) (h0 : W.cell? ⟨b, 0, none⟩ = some (.int .i64 p)) (h1 : W.cell? ⟨b, 1, none⟩ = some (.int .i64 t)) (hl : r.length ≤ 140737488351232) (hs : Sl W ra r) :
    Calls Try.prog 98 #[.slice ra r.length rc, .pointer (some ⟨b, 0, none⟩)] W fun e w' => e = .returned (.bool (browB p t r)) ∧ Below W.heap.size W w' := by
  have HX := Lib.hid (vrow_any p t ra r rc W hl hs); clear hs
  go_enter Try.func98, Try.ntmps98
  go_wp2_with (go_at_call 53; refine HX.out.mono ?_; rintro e w1 ⟨rfl, hb1⟩)
  go_ret
  exact ⟨ret_bool rfl, hb1⟩
theorem bvrows_any (p t : Int) (a : Option Addr) (rows : List (List Int)) (cap : Nat) (w : World) (hn : rows.length ≤ 1000000) (hl : ∀ r ∈ rows, r.length ≤ 140737488351232) (hs : Ms w a rows) :
    Calls Try.prog 78 #[.agg #[.int .i64 p, .int .i64 t], .slice a rows.length cap] w fun e w' => e = .returned (.bool (rows.all (browB p t))) ∧ Below w.heap.size w w' := by
  obtain ⟨V, hV⟩ : ∃ V, w.alloc (.cells #[.int .i64 p, .int .i64 t] 23) = V := ⟨_, rfl⟩
  have HB0 : Hid (Below w.heap.size w V) := by rw [← hV]; exact (Below.refl _ _).alloc (Nat.le_refl _) _
  have h0 : V.cell? ⟨w.heap.size, 0, none⟩ = some (.int .i64 p) := by rw [← hV]; exact alloc_cell _ _ _ _ _ rfl
  have h1 : V.cell? ⟨w.heap.size, 1, none⟩ = some (.int .i64 t) := by rw [← hV]; exact alloc_cell _ _ _ _ _ rfl
  have HA := Lib.hid (ballrows_any #[.pointer (some ⟨w.heap.size, 0, none⟩)] (browB p t) a rows cap V hn (hs.below HB0.out) fun W hb r hr ra rc hsl => bvrows1_any w.heap.size p t ra r rc W ((hb.cell (p := ⟨w.heap.size, 0, none⟩) (cell_lt h0)).trans h0) ((hb.cell (p := ⟨w.heap.size, 1, none⟩) (cell_lt h1)).trans h1) (hl r hr) hsl)
  clear hs h0 h1
  go_enter Try.func78, Try.ntmps78
  go_wp2_with (go_at_call 97; refine HA.out.mono ?_; rintro e w1 ⟨rfl, hb1⟩)
  go_ret
  exact ⟨ret_bool rfl, HB0.out.trans (hb1.mono HB0.out.size)⟩
def rowB (p : Int) (r : List Int) : Bool := decide ((r.length : Int) = p) && okL (-1) 1 r
set_option maxHeartbeats 2000000 in
theorem rvrows_any (p t : Int) (a : Option Addr) (rows : List (List Int)) (cap : Nat) (w : World) (hn : rows.length ≤ 1000000) (hl : ∀ r ∈ rows, r.length ≤ 140737488351232) (hs : Ms w a rows) :
    Calls Try.prog 80 #[.agg #[.int .i64 p, .int .i64 t], .slice a rows.length cap] w fun e w' => e = .returned (.bool (rows.all (rowB p))) ∧ Below w.heap.size w w' := by
  have HF := Lib.hid (Fb.new w p t 23)
  have HS := Lib.hid hs; clear hs
  have HL := Lib.hid hl; clear hl
  obtain ⟨k0, k1⟩ := And.intro HF.out.c0 HF.out.c1
  go_enter Try.func80, Try.ntmps80
  go_wp2
  go_loopw [6, 9] (fun _ i wr => ∃ k : Nat, k ≤ rows.length ∧ i = .int .i64 k ∧ (∀ j y, j < k → rows[j]? = some y → rowB p y = true) ∧ Fb w p t wr) (fun _ i _ => rows.length - (intOf i).toNat)
  case atStart => exact ⟨0, Nat.zero_le _, rfl, fun j y h => by omega, HF.out⟩
  case round =>
    clear k0 k1
    obtain ⟨k, hk, rfl, hno, hf⟩ := hrel
    have HN := Lib.hid hno; clear hno
    obtain ⟨k0, k1⟩ := And.intro hf.c0 hf.c1
    have HFB := Lib.hid hf; clear hf
    by_cases hlt : k < rows.length
    · obtain ⟨b, o, ra, r, rc, rfl, q0, q1, q2⟩ := (HS.out.below HFB.out.below).at hlt
      have HX := Lib.hid (rvrow_any p ra r rc wr (HL.out r (List.mem_of_getElem? q2.out)) q1)
      clear q1
      cases ho : rowB p r
      · go_wp2_with (go_at_call 90; refine HX.out.mono ?_; rintro e w' ⟨rfl, rfl⟩; rw [show (decide ((r.length : Int) = p) && okL (-1) 1 r) = false from ho])
        go_ret
        exact ⟨ret_bool (by rw [eq_comm, List.all_eq_false]; exact ⟨r, List.mem_of_getElem? q2.out, by rw [ho]; decide⟩), HFB.out.below⟩
      · go_wp2_with (go_at_call 90; refine HX.out.mono ?_; rintro e w' ⟨rfl, rfl⟩; rw [show (decide ((r.length : Int) = p) && okL (-1) 1 r) = true from ho])
        go_roundw
        case rel => exact ⟨k + 1, by omega, by go_num, fun j y hj hy => by
            by_cases hj' : j = k
            · subst hj'; rw [q2.out] at hy; cases hy; exact ho
            · exact HN.out j y (by omega) hy, HFB.out⟩
        case measure => simp [intOf]; omega
    · go_wp2
      go_ret
      exact ⟨ret_bool (by rw [eq_comm, List.all_eq_true]; intro y hy; obtain ⟨j, hj⟩ := List.mem_iff_getElem?.1 hy; exact HN.out j y (by have := (List.getElem?_eq_some_iff.1 hj).1; omega) hj), HFB.out.below⟩
end Go.Proofs.Ytoedbbpjddjbnaa
/- Next and Halve of layer 7 and of its answers: contracts. -/
namespace Go.Proofs.Ytoedbbpjddjbnaa
open Go.RowKit

/-- What the rows' sums are. -/
def smF (P T : Nat) (cs : List Cl) (rows : List (List Int)) (i : Nat) : List Int := sumsB (rowL rows i) (fitP T P cs)
theorem smF_len (P T : Nat) (cs : List Cl) (rows : List (List Int)) (i : Nat) : (smF P T cs rows i).length = (fitP T P cs).length := by unfold smF sumsB; rw [List.length_map]
def nextV (p t : Int) (cs : List Cl) (rows : List (List Int)) : Int × Int × Int :=
  if (valsB p t cs && rows.all (rowB p)) = true then
    (if 1 ≤ rows.length ∧ rows.length ≤ 20 then
      (if (fitP t.toNat p.toNat cs).length = 0 then (0, 0, 8)
       else (((bsTo (smF p.toNat t.toNat cs rows) rows.length).1 : Int), (bsTo (smF p.toNat t.toNat cs rows) rows.length).2.1, 0))
     else (0, 0, 7))
  else (0, 0, 1)
theorem choose_fit (P T : Nat) (hP1 : 1 ≤ P) (hP : P ≤ 8) (hT : T ≤ 3) (a : Option Addr) (cs : List Cl) (cap : Nat) (hn : cs.length ≤ 1000000) (hv : ∀ c ∈ cs, c.1.length = P ∧ okL (-1) 1 c.1 = true) (F : Nat) (w0 w : World) (hcs : Cs w0 a cs) (hw0 : Below w0.heap.size w0 w)
    (h0 : w.cell? ⟨F, 0, none⟩ = some (.int .i64 P)) (h1 : w.cell? ⟨F, 1, none⟩ = some (.int .i64 T)) (hq : w.cell? ⟨F + 1, 0, none⟩ = some (.slice a cs.length cap)) (ra : Option Addr) (rows : List (List Int)) (rc : Nat) (hR : rows.length ≤ 1000) (hrow : ∀ r ∈ rows, r.length = P ∧ okL (-1) 1 r = true) (hr : Ms w ra rows) :
    Calls Try.prog 79 #[.func (.func 95) #[] #[.pointer (some ⟨F, 0, none⟩), .pointer (some ⟨F + 1, 0, none⟩)], .slice ra rows.length rc] w fun e w' => e = .returned (chV (bsTo (smF P T cs rows) rows.length).1 (bsTo (smF P T cs rows) rows.length).2.1 (bsTo (smF P T cs rows) rows.length).2.2.1 (bsTo (smF P T cs rows) rows.length).2.2.2) ∧ Below w.heap.size w w' :=
  choose_any _ ra rows.length rc (smF P T cs rows) w hR (fun i => by rw [smF_len]; have := fitP_len hT hP cs; omega) fun W hb =>
    (counts_fit P T hP1 hP hT a cs cap hn hv F w0 W hcs (hw0.trans (hb.mono hw0.size)) ((hb.cell (p := ⟨F, 0, none⟩) (cell_lt h0)).trans h0) ((hb.cell (p := ⟨F, 1, none⟩) (cell_lt h1)).trans h1) ((hb.cell (p := ⟨F + 1, 0, none⟩) (cell_lt hq)).trans hq) ra rows rc hR hrow (hr.below hb)).mono fun e w' ⟨X, e1, hc⟩ =>
      ⟨W.heap.size + 1, X + 1, e1, ⟨hc.cG, hc.mp, by omega, by have := hc.wX; omega⟩, hc.bw⟩
theorem rows_of {p t : Int} {cs : List Cl} {rows : List (List Int)} (hv : valsB p t cs = true) : rows.all (browB p t) = rows.all (rowB p) := by
  congr 1; funext r; exact vals_brow hv
set_option maxRecDepth 100000 in
set_option maxHeartbeats 4000000 in
theorem bnext_any (p t : Int) (a : Option Addr) (cs : List Cl) (cap : Nat) (b : Option Addr) (rows : List (List Int)) (cb : Nat) (w : World) (hn : cs.length ≤ 1000000) (hlc : CLen cs) (hs : Cs w a cs) (hm : rows.length ≤ 1000000) (hl : ∀ r ∈ rows, r.length ≤ 140737488351232) (hb : Ms w b rows) :
    Calls Try.prog 43 #[.agg #[.int .i64 p, .int .i64 t], .slice a cs.length cap, .slice b rows.length cb] w fun e w' => e = .returned (.tuple #[.int .i64 (nextV p t cs rows).1, .int .i64 (nextV p t cs rows).2.1, .int .i64 (nextV p t cs rows).2.2]) ∧ Below w.heap.size w w' := by
  have HF := Lib.hid (Fb.new w p t 23)
  have HS := Lib.hid hs; clear hs
  have HLC := Lib.hid hlc; clear hlc
  have HB := Lib.hid hb; clear hb
  have HL := Lib.hid hl; clear hl
  cases hv : valsB p t cs
  · have HV := Lib.hid (show nextV p t cs rows = (0, 0, 1) by unfold nextV; rw [hv]; rfl)
    go_enter Try.func43, Try.ntmps43
    go_wp2_with (go_at_call 21; refine (bvalid_any p t a cs cap _ hn HLC.out (HF.out.below_cs HS.out)).mono ?_; rintro e w1 ⟨rfl, hb1⟩; have F1 := Fb.next HF.out hb1; obtain ⟨k0, k1⟩ := And.intro F1.c0 F1.c1; rw [hv])
    go_ret3
    exact ⟨by rw [HV.out]; rfl, F1.below⟩
  · have HVR : Hid (∀ W, Fb w p t W → Calls Try.prog 78 #[.agg #[.int .i64 p, .int .i64 t], .slice b rows.length cb] W fun e w' => e = .returned (.bool (rows.all (rowB p))) ∧ Fb w p t w') := fun W hf => by
      have h := bvrows_any p t b rows cb W hm HL.out (HB.out.below hf.below)
      rw [rows_of hv] at h
      exact h.mono fun e w' ⟨k1, k2⟩ => ⟨k1, hf.next k2⟩
    cases hw : rows.all (rowB p)
    · have HV := Lib.hid (show nextV p t cs rows = (0, 0, 1) by unfold nextV; rw [hv, hw]; rfl)
      rw [hw] at HVR
      go_enter Try.func43, Try.ntmps43
      go_wp2_with (first
        | (go_at_call 21; refine (bvalid_any p t a cs cap _ hn HLC.out (HF.out.below_cs HS.out)).mono ?_; rintro e w1 ⟨rfl, hb1⟩; have F1 := Fb.next HF.out hb1; obtain ⟨k0, k1⟩ := And.intro F1.c0 F1.c1; rw [hv])
        | (go_at_call 78; refine (HVR.out _ F1).mono ?_; rintro e w2 ⟨rfl, F2⟩; obtain ⟨k2, k3⟩ := And.intro F2.c0 F2.c1))
      go_ret3
      exact ⟨by rw [HV.out]; rfl, F2.below⟩
    · rw [hw] at HVR
      by_cases hr : 1 ≤ rows.length ∧ rows.length ≤ 20
      · obtain ⟨P, T, rfl, rfl, hP1, hP, hT⟩ : ∃ P T : Nat, p = (P : Int) ∧ t = (T : Int) ∧ 1 ≤ P ∧ P ≤ 8 ∧ T ≤ 3 := by
          have h1 : vfB p t = true := by simp only [valsB, Bool.and_eq_true] at hv; exact hv.1
          exact vf_of h1
        have HVO := Lib.hid (vals_of hv).2
        have HRW : Hid (∀ r ∈ rows, r.length = P ∧ okL (-1) 1 r = true) := fun r hr => by
          have h := List.all_eq_true.1 hw r hr
          unfold rowB at h
          rw [Bool.and_eq_true, decide_eq_true_iff] at h
          exact ⟨by omega, h.2⟩
        have HCH : Hid (∀ W, Fb w P T W → Calls Try.prog 79 #[.func (.func 95) #[] #[.pointer (some ⟨W.heap.size, 0, none⟩), .pointer (some ⟨W.heap.size + 1, 0, none⟩)], .slice b rows.length cb] ((W.alloc (.cells #[.int .i64 P, .int .i64 T] 23)).alloc (.cells #[.slice a cs.length cap] 24)) fun e w' => e = .returned (chV (bsTo (smF P T cs rows) rows.length).1 (bsTo (smF P T cs rows) rows.length).2.1 (bsTo (smF P T cs rows) rows.length).2.2.1 (bsTo (smF P T cs rows) rows.length).2.2.2) ∧ Below W.heap.size W w') := fun W hf => by
          obtain ⟨A, hA⟩ : ∃ A, W.alloc (.cells #[.int .i64 P, .int .i64 T] 23) = A := ⟨_, rfl⟩
          obtain ⟨B, hB⟩ : ∃ B, A.alloc (.cells #[.slice a cs.length cap] 24) = B := ⟨_, rfl⟩
          rw [hA, hB]
          have sA : A.heap.size = W.heap.size + 1 := by rw [← hA]; exact World.size_alloc _ _
          have bA : Below W.heap.size W A := by rw [← hA]; exact (Below.refl _ _).alloc (Nat.le_refl _) _
          have bB : Below A.heap.size A B := by rw [← hB]; exact (Below.refl _ _).alloc (Nat.le_refl _) _
          have bWB : Below W.heap.size W B := bA.trans (bB.mono bA.size)
          have f0 : A.cell? ⟨W.heap.size, 0, none⟩ = some (.int .i64 P) := by rw [← hA]; exact alloc_cell _ _ _ _ _ rfl
          have f1 : A.cell? ⟨W.heap.size, 1, none⟩ = some (.int .i64 T) := by rw [← hA]; exact alloc_cell _ _ _ _ _ rfl
          have f2 : B.cell? ⟨W.heap.size + 1, 0, none⟩ = some (.slice a cs.length cap) := by rw [← hB, ← sA]; exact alloc_cell _ _ _ _ _ rfl
          exact (choose_fit P T hP1 hP hT a cs cap hn HVO.out W.heap.size w B HS.out (hf.below.trans (bWB.mono hf.below.size)) ((bB.cell (p := ⟨W.heap.size, 0, none⟩) (cell_lt f0)).trans f0) ((bB.cell (p := ⟨W.heap.size, 1, none⟩) (cell_lt f1)).trans f1) f2 b rows cb (by omega) HRW.out (HB.out.below (hf.below.trans (bWB.mono hf.below.size)))).mono fun e w' ⟨k1, k2⟩ => ⟨k1, bWB.trans (k2.mono bWB.size)⟩
        by_cases h0 : (fitP T P cs).length = 0
        · have HV := Lib.hid (show nextV P T cs rows = (0, 0, 8) by unfold nextV; rw [hv, hw, if_pos (show (true && true) = true from rfl), if_pos hr, Int.toNat_natCast, Int.toNat_natCast, if_pos h0])
          have h3 := bsTo_zero (smF P T cs rows) (fun i => by rw [smF_len]; exact h0) rows.length
          obtain ⟨⟨b1, b2, b3, b4⟩, hBB⟩ : ∃ B, bsTo (smF P T cs rows) rows.length = B := ⟨_, rfl⟩
          rw [hBB] at HCH h3
          simp only at h3
          subst h3
          clear h0 hBB
          go_enter Try.func43, Try.ntmps43
          go_wp2_with (first
            | (go_at_call 21; refine (bvalid_any P T a cs cap _ hn HLC.out (HF.out.below_cs HS.out)).mono ?_; rintro e w1 ⟨rfl, hb1⟩; have F1 := Fb.next HF.out hb1; obtain ⟨k0, k1⟩ := And.intro F1.c0 F1.c1; rw [hv])
            | (go_at_call 78; refine (HVR.out _ F1).mono ?_; rintro e w2 ⟨rfl, F2⟩; obtain ⟨k2, k3⟩ := And.intro F2.c0 F2.c1)
            | (go_at_call 67; refine (fittingmk_any _ _ _ _ _ _).mono ?_; rintro e w3 ⟨rfl, rfl⟩)
            | (go_at_call 79; refine (HCH.out _ F2).mono ?_; rintro e w4 ⟨rfl, hb4⟩; have F4 := F2.next hb4; unfold chV))
          go_ret3
          exact ⟨by rw [HV.out]; rfl, F4.below.alloc F4.below.size _⟩
        · have HV := Lib.hid (show nextV P T cs rows = (((bsTo (smF P T cs rows) rows.length).1 : Int), (bsTo (smF P T cs rows) rows.length).2.1, 0) by unfold nextV; rw [hv, hw, if_pos (show (true && true) = true from rfl), if_pos hr, Int.toNat_natCast, Int.toNat_natCast, if_neg h0])
          have h3 := bsTo_pos (smF P T cs rows) (fun i => by rw [smF_len]; omega) rows.length hr.1
          obtain ⟨⟨b1, b2, b3, b4⟩, hBB⟩ : ∃ B, bsTo (smF P T cs rows) rows.length = B := ⟨_, rfl⟩
          rw [hBB] at HCH h3 HV
          simp only at h3
          have h4 : ((b3 : Int) == 0) = false := by simp; omega
          clear h0 hBB h3
          go_enter Try.func43, Try.ntmps43
          go_wp2_with (first
            | (go_at_call 21; refine (bvalid_any P T a cs cap _ hn HLC.out (HF.out.below_cs HS.out)).mono ?_; rintro e w1 ⟨rfl, hb1⟩; have F1 := Fb.next HF.out hb1; obtain ⟨k0, k1⟩ := And.intro F1.c0 F1.c1; rw [hv])
            | (go_at_call 78; refine (HVR.out _ F1).mono ?_; rintro e w2 ⟨rfl, F2⟩; obtain ⟨k2, k3⟩ := And.intro F2.c0 F2.c1)
            | (go_at_call 67; refine (fittingmk_any _ _ _ _ _ _).mono ?_; rintro e w3 ⟨rfl, rfl⟩)
            | (go_at_call 79; refine (HCH.out _ F2).mono ?_; rintro e w4 ⟨rfl, hb4⟩; have F4 := F2.next hb4; unfold chV))
          go_region_law (fail)
          all_goals go_wp2
          all_goals go_ret3
          all_goals exact ⟨by rw [HV.out]; rfl, (F4.below.alloc F4.below.size _).drew⟩
      · have HV := Lib.hid (show nextV p t cs rows = (0, 0, 7) by unfold nextV; rw [hv, hw, if_pos (show (true && true) = true from rfl), if_neg hr])
        by_cases hr1 : (rows.length : Int) < 1
        · clear hr
          go_enter Try.func43, Try.ntmps43
          go_wp2_with (first
            | (go_at_call 21; refine (bvalid_any p t a cs cap _ hn HLC.out (HF.out.below_cs HS.out)).mono ?_; rintro e w1 ⟨rfl, hb1⟩; have F1 := Fb.next HF.out hb1; obtain ⟨k0, k1⟩ := And.intro F1.c0 F1.c1; rw [hv])
            | (go_at_call 78; refine (HVR.out _ F1).mono ?_; rintro e w2 ⟨rfl, F2⟩; obtain ⟨k2, k3⟩ := And.intro F2.c0 F2.c1))
          go_ret3
          exact ⟨by rw [HV.out]; rfl, F2.below⟩
        · have hr2 : (20 : Int) < (rows.length : Int) := by omega
          clear hr
          go_enter Try.func43, Try.ntmps43
          go_wp2_with (first
            | (go_at_call 21; refine (bvalid_any p t a cs cap _ hn HLC.out (HF.out.below_cs HS.out)).mono ?_; rintro e w1 ⟨rfl, hb1⟩; have F1 := Fb.next HF.out hb1; obtain ⟨k0, k1⟩ := And.intro F1.c0 F1.c1; rw [hv])
            | (go_at_call 78; refine (HVR.out _ F1).mono ?_; rintro e w2 ⟨rfl, F2⟩; obtain ⟨k2, k3⟩ := And.intro F2.c0 F2.c1))
          go_ret3
          exact ⟨by rw [HV.out]; rfl, F2.below⟩
end Go.Proofs.Ytoedbbpjddjbnaa
/- Bit of layer 7's answers: contracts. -/
namespace Go.Proofs.Ytoedbbpjddjbnaa
open Go.RowKit

theorem results_cell1 {fn : Func} {p : Tmp} {ty : TypeId} (h : fn.results = #[.cell p ty]) (tmps : Array Value) (P : Program) (w : World) :
    (results fn tmps).run P w = ((asAddr (tmps.getD p undef)).run P w).andThen fun a w₁ => (loadVar ty a).run P w₁ := by
  simp only [results, h]
  simp [Sem.run_bind, Result.andThen]
/-- The two bounds of a bit's cell. -/
def bitB (sm th : Int) : Int × Int := if th ≤ sm then (th, 100) else (-100, th - 1)
set_option maxRecDepth 100000 in
set_option maxHeartbeats 1000000 in
theorem rbit1_any (b0 o0 : Nat) (xs : List Int) (ca : Nat) (b : Option Addr) (ys : List Int) (cb : Nat) (th : Int) (w : World) (hx1 : 1 ≤ xs.length) (hq : xs.length ≤ 8 ∧ xs.length = ys.length ∧ okL (-1) 1 xs = true ∧ okL 0 3 ys = true) (hth : -99 ≤ th ∧ th ≤ 100) (ha : Sl w (some ⟨b0, o0, none⟩) xs) (hb : Sl w b ys) :
    Calls Try.prog 76 #[.slice (some ⟨b0, o0, none⟩) xs.length ca, .slice b ys.length cb, .int .i64 th] w fun e w' => ∃ g gc, e = .returned (.agg #[.slice (some ⟨g, 0, none⟩) xs.length gc, .int .i64 (bitB (prodL xs ys) th).1, .int .i64 (bitB (prodL xs ys) th).2]) ∧ (w.heap.size ≤ g ∧ Sl w' (some ⟨g, 0, none⟩) xs) ∧ Below w.heap.size w w' := by
  obtain ⟨U, hU⟩ : ∃ U, w.alloc (.cells #[.slice none 0 0, .int .i64 0, .int .i64 0] 49) = U := ⟨_, rfl⟩
  have HB : Hid (Below w.heap.size w U) := by rw [← hU]; exact (Below.refl _ _).alloc (Nat.le_refl _) _
  have HR : Hid (Bt U w.heap.size (.slice none 0 0) (.int .i64 0) (.int .i64 0)) := by show Bt _ _ _ _ _; rw [← hU]; exact Bt.new _ _ _ _ _
  have HQ := Lib.hid hq
  have HS := Lib.hid (ha.below HB.out)
  have HSM := Lib.hid (rsum_any (some ⟨b0, o0, none⟩) xs ca b ys cb U hq.1 hq.2.1 hq.2.2.1 hq.2.2.2 (ha.below HB.out) (hb.below HB.out))
  obtain ⟨z2, z3, z4, z5, z6, z7⟩ := And.intro HR.out.c0 (And.intro HR.out.c1 (And.intro HR.out.c2 (And.intro HR.out.f0 (And.intro HR.out.f1 HR.out.f2))))
  obtain ⟨sm, hsm⟩ : ∃ r, prodL xs ys = r := ⟨_, rfl⟩
  rw [hsm] at HSM ⊢
  obtain ⟨h1, h2⟩ := hth
  clear hq ha hb hsm
  have HOE := Lib.hid (own_lit0 U)
  have HBE : Hid (Below U.heap.size U (U.alloc (.cells #[] 3))) := (Below.refl _ _).alloc (Nat.le_refl _) _
  by_cases hc : th ≤ sm
  · have HV := Lib.hid (show bitB sm th = (th, 100) from if_pos hc)
    go_enter Try.func76, Try.ntmps76
    go_wp2_with (first
      | (go_at_call 58; refine HSM.out.mono ?_; rintro e w1 ⟨rfl, rfl⟩)
      | (at_builtin; refine wpList_catS rfl (.tmp 12) (.tmp 13) rfl U.heap.size _ [] b0 o0 xs ca _ rfl rfl HOE.out (HS.out.below HBE.out) (by have := HQ.out.1; simp; omega) HBE.out.size ?_; intro v1 w5 ho1 hb1; rw [List.nil_append] at ho1; have hbw5 := HBE.out.trans hb1; obtain ⟨g, gc, rfl, hg⟩ := ho1.shape hx1; have HO1 := Lib.hid (OwnI.sl ho1); have HGG : Hid (w.heap.size < g) := (by have := HR.out.lt; have := (OwnI.lt ho1).2; show _ < _; omega); have HBW5 := Lib.hid hbw5; have R5 := HR.out.next hbw5; obtain ⟨k2, k3, k4, k5, k6, k7⟩ := And.intro R5.c0 (And.intro R5.c1 (And.intro R5.c2 (And.intro R5.f0 (And.intro R5.f1 R5.f2)))); clear ho1 hbw5 hb1 hg))
    have R6 := ((R5.set0 (.slice (some ⟨g, 0, none⟩) xs.length gc)).set1 (.int .i64 th)).set2 (.int .i64 100)
    obtain ⟨y2, y3, y4⟩ := And.intro R6.c0 (And.intro R6.c1 R6.c2)
    have hne : ∀ ad : Addr, some (⟨g, 0, none⟩ : Addr) = some ad → ad.block ≠ w.heap.size := fun ad e => by cases e; have := HGG.out; show g ≠ _; omega
    have hbF : Below w.heap.size w (((w5.setCell ⟨w.heap.size, 0, none⟩ (.slice (some ⟨g, 0, none⟩) xs.length gc)).setCell ⟨w.heap.size, 1, none⟩ (.int .i64 th)).setCell ⟨w.heap.size, 2, none⟩ (.int .i64 100)) :=
      (((HB.out.trans (HBW5.out.mono HB.out.size)).setCell (p := ⟨w.heap.size, 0, none⟩) (Nat.le_refl _) _).setCell (p := ⟨w.heap.size, 1, none⟩) (Nat.le_refl _) _).setCell (p := ⟨w.heap.size, 2, none⟩) (Nat.le_refl _) _
    refine bodyPost_ret (v := .agg #[.slice (some ⟨g, 0, none⟩) xs.length gc, .int .i64 th, .int .i64 100]) ?_ rfl ⟨g, gc, by rw [HV.out], ⟨Nat.le_of_lt HGG.out, sl_apart (sl_apart (sl_apart HO1.out hne _) hne _) hne _⟩, hbF⟩
    rw [results_cell1 rfl]; go_simp
  · have HV := Lib.hid (show bitB sm th = (-100, th - 1) from if_neg hc)
    go_enter Try.func76, Try.ntmps76
    go_wp2_with (first
      | (go_at_call 58; refine HSM.out.mono ?_; rintro e w1 ⟨rfl, rfl⟩)
      | (at_builtin; refine wpList_catS rfl (.tmp 17) (.tmp 18) rfl U.heap.size _ [] b0 o0 xs ca _ rfl rfl HOE.out (HS.out.below HBE.out) (by have := HQ.out.1; simp; omega) HBE.out.size ?_; intro v1 w5 ho1 hb1; rw [List.nil_append] at ho1; have hbw5 := HBE.out.trans hb1; obtain ⟨g, gc, rfl, hg⟩ := ho1.shape hx1; have HO1 := Lib.hid (OwnI.sl ho1); have HGG : Hid (w.heap.size < g) := (by have := HR.out.lt; have := (OwnI.lt ho1).2; show _ < _; omega); have HBW5 := Lib.hid hbw5; have R5 := HR.out.next hbw5; obtain ⟨k2, k3, k4, k5, k6, k7⟩ := And.intro R5.c0 (And.intro R5.c1 (And.intro R5.c2 (And.intro R5.f0 (And.intro R5.f1 R5.f2)))); clear ho1 hbw5 hb1 hg))
    have R6 := ((R5.set0 (.slice (some ⟨g, 0, none⟩) xs.length gc)).set1 (.int .i64 (-100))).set2 (.int .i64 (th - 1))
    obtain ⟨y2, y3, y4⟩ := And.intro R6.c0 (And.intro R6.c1 R6.c2)
    have hne : ∀ ad : Addr, some (⟨g, 0, none⟩ : Addr) = some ad → ad.block ≠ w.heap.size := fun ad e => by cases e; have := HGG.out; show g ≠ _; omega
    have hbF : Below w.heap.size w (((w5.setCell ⟨w.heap.size, 0, none⟩ (.slice (some ⟨g, 0, none⟩) xs.length gc)).setCell ⟨w.heap.size, 1, none⟩ (.int .i64 (-100))).setCell ⟨w.heap.size, 2, none⟩ (.int .i64 (th - 1))) :=
      (((HB.out.trans (HBW5.out.mono HB.out.size)).setCell (p := ⟨w.heap.size, 0, none⟩) (Nat.le_refl _) _).setCell (p := ⟨w.heap.size, 1, none⟩) (Nat.le_refl _) _).setCell (p := ⟨w.heap.size, 2, none⟩) (Nat.le_refl _) _
    refine bodyPost_ret (v := .agg #[.slice (some ⟨g, 0, none⟩) xs.length gc, .int .i64 (-100), .int .i64 (th - 1)]) ?_ rfl ⟨g, gc, by rw [HV.out], ⟨Nat.le_of_lt HGG.out, sl_apart (sl_apart (sl_apart HO1.out hne _) hne _) hne _⟩, hbF⟩
    rw [results_cell1 rfl]; go_simp
end Go.Proofs.Ytoedbbpjddjbnaa
/- Quantised of layer 7: a contract. Written by mk_bquant.py. -/
namespace Go.Proofs.Ytoedbbpjddjbnaa
open Go.RowKit

/-- The cell of so many whole numbers in which a sum lies, and the error's number. -/
def quantV (p t : Int) (row x : List Int) (st : Int) : (List Int × Int × Int) × Int :=
  if (sumV p t row x).2 = 0 then (if rangeB st 1 100 = true then ((row, st * ((sumV p t row x).1 / st), st * ((sumV p t row x).1 / st) + st - 1), 0) else (([], 0, 0), 7)) else (([], 0, 0), (sumV p t row x).2)
theorem quant_all : ∀ a : Fin 49, ∀ b : Fin 100, (let sm : Int := (a.val : Int) - 24; let st : Int := (b.val : Int) + 1
    (-24 ≤ sm.tmod st ∧ sm.tmod st ≤ 24) ∧ (0 ≤ (sm.tmod st + st).tmod st ∧ (sm.tmod st + st).tmod st ≤ 99) ∧ sm - (sm.tmod st + st).tmod st = st * (sm / st) ∧ limB (st * (sm / st)) (st * (sm / st) + st - 1) = true) := by decide +kernel
theorem quant_ok {sm st : Int} (h : -24 ≤ sm ∧ sm ≤ 24) (h2 : 1 ≤ st ∧ st ≤ 100) : (-24 ≤ sm.tmod st ∧ sm.tmod st ≤ 24) ∧ (0 ≤ (sm.tmod st + st).tmod st ∧ (sm.tmod st + st).tmod st ≤ 99) ∧ sm - (sm.tmod st + st).tmod st = st * (sm / st) ∧ limB (st * (sm / st)) (st * (sm / st) + st - 1) = true := by
  have k := quant_all ⟨(sm + 24).toNat, by omega⟩ ⟨(st - 1).toNat, by omega⟩
  have e1 : (((sm + 24).toNat : Nat) : Int) - 24 = sm := by omega
  have e2 : (((st - 1).toNat : Nat) : Int) + 1 = st := by omega
  dsimp only at k
  rw [e1, e2] at k
  exact k
theorem sum_small {p t : Int} {xs ys : List Int} (h : (sumV p t xs ys).2 = 0) : browB p t xs = true ∧ shownE p t ys = 0 ∧ -24 ≤ (sumV p t xs ys).1 ∧ (sumV p t xs ys).1 ≤ 24 := by
  unfold sumV at h ⊢
  by_cases hb : browB p t xs = true
  · rw [if_pos hb] at h ⊢
    by_cases hE : shownE p t ys = 0
    · rw [if_pos hE]
      obtain ⟨q1, q2, q3, q4⟩ := sum_of hb hE
      have := prodTo_bd q3 q4 q2 xs.length (Nat.le_refl _)
      refine ⟨hb, hE, ?_, ?_⟩
      · show _ ≤ prodTo xs ys xs.length; omega
      · show prodTo xs ys xs.length ≤ _; omega
    · rw [if_neg hE] at h; exact absurd h hE
  · rw [if_neg hb] at h; exact absurd h (by decide)
set_option maxRecDepth 100000 in
set_option maxHeartbeats 1000000 in
theorem bquant_any (p t : Int) (a : Option Addr) (xs : List Int) (ca : Nat) (b : Option Addr) (ys : List Int) (cb : Nat) (st : Int) (w : World) (hl : xs.length ≤ 140737488351232) (hl2 : ys.length ≤ 140737488351232) (ha : Sl w a xs) (hb : Sl w b ys) :
    Calls Try.prog 36 #[.agg #[.int .i64 p, .int .i64 t], .slice a xs.length ca, .slice b ys.length cb, .int .i64 st] w (CellPost (quantV p t xs ys st) w) := by
  obtain ⟨U, hU⟩ : ∃ U, (w.alloc (.cells #[.int .i64 p, .int .i64 t] 23)).alloc (.cells #[.slice none 0 0, .int .i64 0, .int .i64 0] 49) = U := ⟨_, rfl⟩
  have HF : Hid (Fb w p t U) := by rw [← hU]; exact (Fb.new w p t _).next ((Below.refl _ _).alloc (Nat.le_refl _) _)
  have HR : Hid (Bt U (w.heap.size + 1) (.slice none 0 0) (.int .i64 0) (.int .i64 0)) := by
    have h := Bt.new (w.alloc (.cells #[.int .i64 p, .int .i64 t] 23)) (.slice none 0 0) (.int .i64 0) (.int .i64 0) 49
    rw [World.size_alloc, hU] at h; exact h
  have HSU : Hid (∀ V, Fb w p t V → Calls Try.prog 15 #[.agg #[.int .i64 p, .int .i64 t], .slice a xs.length ca, .slice b ys.length cb] V fun e w' => e = .returned (.tuple #[.int .i64 (sumV p t xs ys).1, .int .i64 (sumV p t xs ys).2]) ∧ Below V.heap.size V w') := fun V h => bsum_any p t a xs ca b ys cb V hl hl2 (h.sl ha) (h.sl hb)
  have hsml := sum_small (p := p) (t := t) (xs := xs) (ys := ys)
  obtain ⟨⟨sm, se⟩, hsm⟩ : ∃ r, sumV p t xs ys = r := ⟨_, rfl⟩
  rw [hsm] at HSU hsml
  have HA := Lib.hid ha
  obtain ⟨z0, z1⟩ := And.intro HF.out.c0 HF.out.c1
  obtain ⟨z2, z3, z4, z5, z6, z7⟩ := And.intro HR.out.c0 (And.intro HR.out.c1 (And.intro HR.out.c2 (And.intro HR.out.f0 (And.intro HR.out.f1 HR.out.f2))))
  by_cases hse : se = 0
  · subst hse
    obtain ⟨hbr, _, sb1, sb2⟩ := hsml rfl
    by_cases hr : 1 ≤ st ∧ st ≤ 100
    · have hx1 : 1 ≤ xs.length := by have := brow_of hbr; omega
      have hx8 : xs.length * 8 ≤ 140737488351232 := by have := brow_of hbr; omega
      obtain ⟨⟨q1, q2⟩, ⟨q3, q4⟩, q5, q6⟩ := quant_ok (sm := sm) (st := st) ⟨sb1, sb2⟩ hr
      have HV := Lib.hid (show quantV p t xs ys st = ((xs, st * (sm / st), st * (sm / st) + st - 1), 0) by unfold quantV; rw [hsm, if_pos rfl, if_pos (by simp [rangeB, hr])])
      obtain ⟨lo, hlo⟩ : ∃ lo, st * (sm / st) = lo := ⟨_, rfl⟩
      rw [hlo] at q5 q6 HV
      obtain ⟨r1, hr1⟩ : ∃ r, sm.tmod st = r := ⟨_, rfl⟩
      rw [hr1] at q1 q2 q3 q4 q5
      obtain ⟨r2, hr2⟩ : ∃ r, (r1 + st).tmod st = r := ⟨_, rfl⟩
      rw [hr2] at q3 q4 q5
      have HCC : Hid (ccB p t (xs, lo, lo + st - 1) = true) := by show _ = _; unfold ccB; rw [hbr, q6]; rfl
      have HHL : Hid (xs.length ≤ 140737488351232) := hl
      obtain ⟨b0, o0, _, rfl, _, _⟩ := ha.at (k := 0) (by omega)
      have HCL : Hid (∀ V, Fb w p t V → Calls Try.prog 69 #[.slice (some ⟨b0, o0, none⟩) xs.length ca] V fun e w' => ∃ g cap', e = .returned (.slice (some ⟨g, 0, none⟩) xs.length cap') ∧ Sl w' (some ⟨g, 0, none⟩) xs ∧ V.heap.size ≤ g ∧ Below V.heap.size V w') := fun V h => (clone_any b0 o0 xs ca V hx1 hx8 (h.sl HA.out)).mono fun e w' ⟨g, c', k1, k2, k3⟩ => ⟨g, c', k1, OwnI.sl k2, (OwnI.lt k2).2, k3⟩
      obtain ⟨hs1, hs2⟩ := hr
      clear hsm ha hb hx1 hx8 hbr hsml hlo q6 hl
      go_enter Try.func36, Try.ntmps36
      go_wp2_with (first
        | (go_at_call 15; refine (HSU.out _ HF.out).mono ?_; rintro e w1 ⟨rfl, hb1⟩; have F1 := Fb.next HF.out hb1; have R1 := HR.out.next hb1; obtain ⟨j0, j1⟩ := And.intro F1.c0 F1.c1; obtain ⟨k2, k3, k4, k5, k6, k7⟩ := And.intro R1.c0 (And.intro R1.c1 (And.intro R1.c2 (And.intro R1.f0 (And.intro R1.f1 R1.f2)))))
        | (go_at_call 69; refine (HCL.out _ F1).mono ?_; rintro e w2 ⟨g, gc, rfl, hg2, hgg, hb2⟩; have F2 := F1.next hb2; have R2 := R1.next hb2; have HG2 := Lib.hid hg2; have HGG : Hid (w.heap.size + 1 < g) := (by have := R1.lt; show _ < _; omega); have hbA : Below w2.heap.size w2 (w2.alloc (.cells #[.slice (some ⟨g, 0, none⟩) xs.length gc, .int .i64 lo, .int .i64 (lo + st - 1)] 49)) := (Below.refl _ _).alloc (Nat.le_refl _) _; have F3 := F2.next hbA; have R3 := R2.next hbA; have C3 := Cb.new w2 (some ⟨g, 0, none⟩) xs.length gc lo (lo + st - 1) 49; have HG3 := Lib.hid (HG2.out.below hbA); clear hg2 hgg hbA; obtain ⟨m0, m1⟩ := And.intro F3.c0 F3.c1)
        | (go_at_call 63; refine (vcell_any p t (some ⟨g, 0, none⟩) xs gc lo (lo + st - 1) _ HHL.out HG3.out).mono ?_; rintro e w4 ⟨rfl, hb4⟩; have F5 := F3.next hb4; have R5 := R3.next hb4; have C5 := C3.next hb4; have HG5 := Lib.hid (HG3.out.below hb4); obtain ⟨n2, n3, n4, n5, n6, n7⟩ := And.intro R5.c0 (And.intro R5.c1 (And.intro R5.c2 (And.intro R5.f0 (And.intro R5.f1 R5.f2)))); obtain ⟨l2, l3, l4⟩ := And.intro C5.c0 (And.intro C5.c1 C5.c2); rw [HCC.out]))
      have R4 := ((R5.set0 (.slice (some ⟨g, 0, none⟩) xs.length gc)).set1 (.int .i64 lo)).set2 (.int .i64 (lo + st - 1))
      have F4 := ((F5.set (b := w.heap.size + 1) (i := 0) (by omega) (.slice (some ⟨g, 0, none⟩) xs.length gc)).set (b := w.heap.size + 1) (i := 1) (by omega) (.int .i64 lo)).set (b := w.heap.size + 1) (i := 2) (by omega) (.int .i64 (lo + st - 1))
      obtain ⟨y2, y3, y4⟩ := And.intro R4.c0 (And.intro R4.c1 R4.c2)
      have hne : ∀ ad : Addr, some (⟨g, 0, none⟩ : Addr) = some ad → ad.block ≠ w.heap.size + 1 := fun ad e => by cases e; have := HGG.out; show g ≠ _; omega
      refine bodyPost_ret (v := .tuple #[.agg #[.slice (some ⟨g, 0, none⟩) xs.length gc, .int .i64 lo, .int .i64 (lo + st - 1)], .int .i64 0]) ?_ rfl ⟨some ⟨g, 0, none⟩, gc, by rw [HV.out], ?_, F4.below⟩
      · rw [results_cell_tmp rfl]; go_simp
      · rw [HV.out]
        exact sl_apart (sl_apart (sl_apart HG5.out hne _) hne _) hne _
    · have HV := Lib.hid (show quantV p t xs ys st = (([], 0, 0), 7) by unfold quantV; rw [hsm, if_pos rfl, if_neg (by simp [rangeB]; omega)])
      clear hsm ha hb hsml hbr
      by_cases hr1 : st < 1
      · go_enter Try.func36, Try.ntmps36
        go_wp2_with (go_at_call 15; refine (HSU.out _ HF.out).mono ?_; rintro e w1 ⟨rfl, hb1⟩; have F1 := Fb.next HF.out hb1; have R1 := HR.out.next hb1; obtain ⟨j0, j1⟩ := And.intro F1.c0 F1.c1; obtain ⟨k2, k3, k4, k5, k6, k7⟩ := And.intro R1.c0 (And.intro R1.c1 (And.intro R1.c2 (And.intro R1.f0 (And.intro R1.f1 R1.f2)))))
        have R4 := ((R1.set0 (.slice none 0 0)).set1 (.int .i64 0)).set2 (.int .i64 0)
        have F4 := ((F1.set (b := w.heap.size + 1) (i := 0) (by omega) (.slice none 0 0)).set (b := w.heap.size + 1) (i := 1) (by omega) (.int .i64 0)).set (b := w.heap.size + 1) (i := 2) (by omega) (.int .i64 0)
        obtain ⟨y2, y3, y4⟩ := And.intro R4.c0 (And.intro R4.c1 R4.c2)
        refine bodyPost_ret (v := .tuple #[.agg #[.slice none 0 0, .int .i64 0, .int .i64 0], .int .i64 7]) ?_ rfl (CellPost.err 7 HV.out F4.below)
        rw [results_cell_tmp rfl]; go_simp
      · have hr2 : 100 < st := by omega
        go_enter Try.func36, Try.ntmps36
        go_wp2_with (go_at_call 15; refine (HSU.out _ HF.out).mono ?_; rintro e w1 ⟨rfl, hb1⟩; have F1 := Fb.next HF.out hb1; have R1 := HR.out.next hb1; obtain ⟨j0, j1⟩ := And.intro F1.c0 F1.c1; obtain ⟨k2, k3, k4, k5, k6, k7⟩ := And.intro R1.c0 (And.intro R1.c1 (And.intro R1.c2 (And.intro R1.f0 (And.intro R1.f1 R1.f2)))))
        have R4 := ((R1.set0 (.slice none 0 0)).set1 (.int .i64 0)).set2 (.int .i64 0)
        have F4 := ((F1.set (b := w.heap.size + 1) (i := 0) (by omega) (.slice none 0 0)).set (b := w.heap.size + 1) (i := 1) (by omega) (.int .i64 0)).set (b := w.heap.size + 1) (i := 2) (by omega) (.int .i64 0)
        obtain ⟨y2, y3, y4⟩ := And.intro R4.c0 (And.intro R4.c1 R4.c2)
        refine bodyPost_ret (v := .tuple #[.agg #[.slice none 0 0, .int .i64 0, .int .i64 0], .int .i64 7]) ?_ rfl (CellPost.err 7 HV.out F4.below)
        rw [results_cell_tmp rfl]; go_simp
  · have HV := Lib.hid (show quantV p t xs ys st = (([], 0, 0), se) by unfold quantV; rw [hsm]; exact if_neg hse)
    clear hsm ha hb hsml
    go_enter Try.func36, Try.ntmps36
    go_wp2_with (go_at_call 15; refine (HSU.out _ HF.out).mono ?_; rintro e w1 ⟨rfl, hb1⟩; have F1 := Fb.next HF.out hb1; have R1 := HR.out.next hb1; obtain ⟨j0, j1⟩ := And.intro F1.c0 F1.c1; obtain ⟨k2, k3, k4, k5, k6, k7⟩ := And.intro R1.c0 (And.intro R1.c1 (And.intro R1.c2 (And.intro R1.f0 (And.intro R1.f1 R1.f2)))))
    have R4 := ((R1.set0 (.slice none 0 0)).set1 (.int .i64 0)).set2 (.int .i64 0)
    have F4 := ((F1.set (b := w.heap.size + 1) (i := 0) (by omega) (.slice none 0 0)).set (b := w.heap.size + 1) (i := 1) (by omega) (.int .i64 0)).set (b := w.heap.size + 1) (i := 2) (by omega) (.int .i64 0)
    obtain ⟨y2, y3, y4⟩ := And.intro R4.c0 (And.intro R4.c1 R4.c2)
    refine bodyPost_ret (v := .tuple #[.agg #[.slice none 0 0, .int .i64 0, .int .i64 0], .int .i64 se]) ?_ rfl (CellPost.err se HV.out F4.below)
    rw [results_cell_tmp rfl]; go_simp
end Go.Proofs.Ytoedbbpjddjbnaa
/- A picture fits its own cells: plain facts for BitOwn. -/
namespace Go.Proofs.Ytoedbbpjddjbnaa
open Go.RowKit

theorem fits_one {p t : Int} {xs x : List Int} {lo hi : Int} (hb : browB p t xs = true) (hE : shownE p t x = 0) (hl : limB lo hi = true) (h1 : lo ≤ prodL xs x) (h2 : prodL xs x ≤ hi) : fitsV p t [(xs, lo, hi)] x = (true, 0) := by
  have hv : valsB p t [(xs, lo, hi)] = true := by
    have h3 : vfB p t = true := by unfold browB at hb; rw [Bool.and_eq_true] at hb; exact hb.1
    unfold valsB
    simp [h3, ccB, hb, hl]
  unfold fitsV
  rw [if_pos hv, if_pos hE]
  simp [inC, rangeB, h1, h2]
theorem quant_fits {p t : Int} {xs x : List Int} {st : Int} (h : (quantV p t xs x st).2 = 0) : fitsV p t [(quantV p t xs x st).1] x = (true, 0) := by
  unfold quantV at h ⊢
  by_cases h0 : (sumV p t xs x).2 = 0
  · rw [if_pos h0] at h ⊢
    by_cases h1 : rangeB st 1 100 = true
    · rw [if_pos h1]
      obtain ⟨hb, hE, s1, s2⟩ := sum_small h0
      have hst : 1 ≤ st ∧ st ≤ 100 := by simpa [rangeB] using h1
      have hq := (quant_ok ⟨s1, s2⟩ hst).2.2.2
      have hpl : (sumV p t xs x).1 = prodL xs x := by unfold sumV; rw [if_pos hb, if_pos hE]
      refine fits_one hb hE hq ?_ ?_
      · rw [← hpl]; exact Int.mul_ediv_self_le (by omega)
      · have := Int.lt_mul_ediv_self_add (x := (sumV p t xs x).1) (k := st) (by omega)
        rw [← hpl]; omega
    · rw [if_neg h1] at h; exact absurd h (by decide)
  · rw [if_neg h0] at h; exact absurd h h0
theorem bit_fits {p t : Int} {xs x : List Int} {th : Int} (h : (bitV p t xs x th).2 = 0) : fitsV p t [(bitV p t xs x th).1] x = (true, 0) := by
  unfold bitV at h ⊢
  by_cases h0 : (sumV p t xs x).2 = 0
  · rw [if_pos h0] at h ⊢
    by_cases h1 : rangeB th (-99) 100 = true
    · rw [if_pos h1]
      obtain ⟨hb, hE, s1, s2⟩ := sum_small h0
      have hst : -99 ≤ th ∧ th ≤ 100 := by simpa [rangeB] using h1
      have hpl : (sumV p t xs x).1 = prodL xs x := by unfold sumV; rw [if_pos hb, if_pos hE]
      by_cases hc : th ≤ (sumV p t xs x).1
      · rw [if_pos hc]
        exact fits_one hb hE (by simp [limB]; omega) (by rw [← hpl]; exact hc) (by rw [← hpl]; omega)
      · rw [if_neg hc]
        exact fits_one hb hE (by simp [limB]; omega) (by rw [← hpl]; omega) (by rw [← hpl]; omega)
    · rw [if_neg h1] at h; exact absurd h (by decide)
  · rw [if_neg h0] at h; exact absurd h h0
theorem cs_new1 (W : World) (ra : Option Addr) (xs : List Int) (rc : Nat) (lo hi : Int) (ty : TypeId) (hs : Sl W ra xs) : Cs (W.alloc (.cells #[.slice ra xs.length rc, .int .i64 lo, .int .i64 hi] ty)) (some ⟨W.heap.size, 0, none⟩) [(xs, lo, hi)] := by
  intro j c hj
  match j, hj with
  | 0, hj =>
    simp at hj; subst hj
    exact ⟨W.heap.size, 0, ra, rc, rfl, alloc_cell _ _ _ _ _ rfl, alloc_cell _ _ _ _ _ rfl, alloc_cell _ _ _ _ _ rfl, hs.below ((Below.refl _ _).alloc (Nat.le_refl _) _)⟩
end Go.Proofs.Ytoedbbpjddjbnaa
/- A game: the cells that Play asks for, one after another; mathematics. -/
namespace Go.Proofs.Ytoedbbpjddjbnaa
open Go.RowKit

theorem halved_ok (S : List Int) : (halved S).2.1 + (halved S).2.2 = S.length ∧ (halved S).2.2 ≤ (halved S).2.1 ∧ -99 ≤ (halved S).1 ∧ (halved S).1 ≤ 100 := by
  unfold halved
  have h := hvTo_eq S 200 (by omega)
  have hc := cnt_sum S (hvTo S 200).1
  generalize hvTo S 200 = Q at h hc ⊢
  unfold hvG hvL at h
  refine ⟨?_, ?_, by omega, by omega⟩ <;> (rw [h.1, h.2.1]; omega)
theorem halved_least (S : List Int) {t : Int} (h1 : -99 ≤ t) (h2 : t ≤ 100) : (halved S).2.1 ≤ hvG S t := by
  unfold halved
  have h := hvTo_least S 200 (t + 99).toNat (by omega)
  rw [show (((t + 99).toNat : Nat) : Int) - 99 = t by omega] at h
  exact h
theorem bsTo_row (f : Nat → List Int) : ∀ k, 1 ≤ k → (bsTo f k).1 < k ∧ (bsTo f k).2 = halved (f (bsTo f k).1)
  | 0, h => by omega
  | k + 1, _ => by
    simp only [bsTo]
    by_cases hk : k = 0 ∨ (halved (f k)).2.1 < (bsTo f k).2.2.1
    · rw [if_pos hk]; exact ⟨by simp only; omega, by simp only⟩
    · rw [if_neg hk]
      have := bsTo_row f k (by omega)
      exact ⟨by omega, this.2⟩
theorem bsTo_least (f : Nat → List Int) : ∀ k i, i < k → (bsTo f k).2.2.1 ≤ (halved (f i)).2.1
  | 0, _, h => by omega
  | k + 1, i, h => by
    simp only [bsTo]
    by_cases hk : k = 0 ∨ (halved (f k)).2.1 < (bsTo f k).2.2.1
    · rw [if_pos hk]
      simp only
      by_cases e : i = k
      · subst e; exact Nat.le_refl _
      · have := bsTo_least f k i (by omega)
        omega
    · rw [if_neg hk]
      by_cases e : i = k
      · subst e; omega
      · exact bsTo_least f k i (by omega)
/-- The best row and threshold with some cells known. -/
def bestV (P T : Nat) (rows : List (List Int)) (cs : List Cl) : Nat × Int × Nat × Nat := bsTo (smF P T cs rows) rows.length
/-- The next cell of a game. -/
def nextC (P T : Nat) (rows : List (List Int)) (x : List Int) (cs : List Cl) : Cl := (rowL rows (bestV P T rows cs).1, bitB (prodL (rowL rows (bestV P T rows cs).1) x) (bestV P T rows cs).2.1)
/-- The cells after at most k bits. -/
def plTo (P T : Nat) (rows : List (List Int)) (x : List Int) : Nat → List Cl
  | 0 => []
  | k + 1 => if (bestV P T rows (plTo P T rows x k)).2.2.2 = 0 then plTo P T rows x k else plTo P T rows x k ++ [nextC P T rows x (plTo P T rows x k)]
theorem plTo_stop {P T : Nat} {rows : List (List Int)} {x : List Int} {k : Nat} (h : (bestV P T rows (plTo P T rows x k)).2.2.2 = 0) : ∀ j, plTo P T rows x (k + j) = plTo P T rows x k
  | 0 => rfl
  | j + 1 => by
    show (if (bestV P T rows (plTo P T rows x (k + j))).2.2.2 = 0 then plTo P T rows x (k + j) else plTo P T rows x (k + j) ++ [nextC P T rows x (plTo P T rows x (k + j))]) = _
    rw [plTo_stop h j, if_pos h]
theorem plTo_len (P T : Nat) (rows : List (List Int)) (x : List Int) : ∀ k, (plTo P T rows x k).length ≤ k
  | 0 => Nat.le_refl _
  | k + 1 => by
    have := plTo_len P T rows x k
    simp only [plTo]
    split
    · omega
    · rw [List.length_append]; simp; omega
/-- A game that ended ahead of its last bit ended because nothing parts what is left. -/
theorem plTo_early {P T : Nat} {rows : List (List Int)} {x : List Int} : ∀ k, (plTo P T rows x k).length < k → (bestV P T rows (plTo P T rows x k)).2.2.2 = 0
  | 0, h => by omega
  | k + 1, h => by
    by_cases hs : (bestV P T rows (plTo P T rows x k)).2.2.2 = 0
    · rw [show plTo P T rows x (k + 1) = plTo P T rows x k from if_pos hs]; exact hs
    · exfalso
      rw [show plTo P T rows x (k + 1) = plTo P T rows x k ++ [nextC P T rows x (plTo P T rows x k)] from if_neg hs, List.length_append] at h
      have := plTo_early k (by simp at h; omega)
      exact hs this
theorem bit_lim {xs ys : List Int} {th : Int} (h1 : -99 ≤ th) (h2 : th ≤ 100) : limB (bitB (prodL xs ys) th).1 (bitB (prodL xs ys) th).2 = true := by
  unfold bitB limB
  split <;> simp <;> omega
/-- Every cell of a game is valid, and the hidden picture fits it. -/
theorem plTo_ok {P T : Nat} {rows : List (List Int)} {x : List Int} (hR : 1 ≤ rows.length) (hrow : ∀ r ∈ rows, r.length = P ∧ okL (-1) 1 r = true) (hsm : ∀ r ∈ rows, -100 ≤ prodL r x ∧ prodL r x ≤ 100) : ∀ k, ∀ c ∈ plTo P T rows x k, (c.1.length = P ∧ okL (-1) 1 c.1 = true) ∧ limB c.2.1 c.2.2 = true ∧ c.2.1 ≤ prodL c.1 x ∧ prodL c.1 x ≤ c.2.2
  | 0, c, h => by cases h
  | k + 1, c, h => by
    by_cases hs : (bestV P T rows (plTo P T rows x k)).2.2.2 = 0
    · rw [show plTo P T rows x (k + 1) = plTo P T rows x k from if_pos hs] at h
      exact plTo_ok hR hrow hsm k c h
    · rw [show plTo P T rows x (k + 1) = plTo P T rows x k ++ [nextC P T rows x (plTo P T rows x k)] from if_neg hs] at h
      rcases List.mem_append.1 h with h | h
      · exact plTo_ok hR hrow hsm k c h
      · rw [List.mem_singleton.1 h]
        obtain ⟨cs, hcs⟩ : ∃ cs, plTo P T rows x k = cs := ⟨_, rfl⟩
        rw [hcs]
        have hb := bsTo_row (smF P T cs rows) rows.length hR
        have hh := halved_ok (smF P T cs rows (bsTo (smF P T cs rows) rows.length).1)
        rw [← hb.2] at hh
        have hm : rowL rows (bsTo (smF P T cs rows) rows.length).1 ∈ rows := by
          unfold rowL
          rw [List.getElem?_eq_getElem hb.1]; exact List.getElem_mem _
        have hl := bit_lim (xs := rowL rows (bsTo (smF P T cs rows) rows.length).1) (ys := x) hh.2.2.1 hh.2.2.2
        have hp := hsm _ hm
        refine ⟨hrow _ hm, hl, ?_, ?_⟩
        · show (bitB (prodL (rowL rows (bestV P T rows cs).1) x) (bestV P T rows cs).2.1).1 ≤ prodL (rowL rows (bestV P T rows cs).1) x
          unfold bitB bestV
          split <;> simp only <;> omega
        · show prodL (rowL rows (bestV P T rows cs).1) x ≤ (bitB (prodL (rowL rows (bestV P T rows cs).1) x) (bestV P T rows cs).2.1).2
          unfold bitB bestV
          split <;> simp only <;> omega
end Go.Proofs.Ytoedbbpjddjbnaa
/- A slice of cells of the call's own: cells appended. -/
namespace Go.Proofs.Ytoedbbpjddjbnaa
open Go.RowKit

theorem Try.infoCell : (Try.prog.info? 49).map (fun i => (i.zero, i.size, i.bytes)) = some (some (.agg #[.slice none 0 0, .int .i64 0, .int .i64 0]), 3, 40) := by kernel_rfl
/-- A cell's header: where its row lies, its capacity. -/
abbrev Hc := Option Addr × Nat
def flatC : List (Hc × Cl) → List Value
  | [] => []
  | p :: ps => .slice p.1.1 p.2.1.length p.1.2 :: .int .i64 p.2.2.1 :: .int .i64 p.2.2.2 :: flatC ps
theorem flatC_len : ∀ ps, (flatC ps).length = ps.length * 3
  | [] => rfl
  | p :: ps => by simp only [flatC, List.length_cons, flatC_len ps]; omega
theorem flatC_app : ∀ a b : List (Hc × Cl), flatC (a ++ b) = flatC a ++ flatC b
  | [], _ => rfl
  | p :: ps, b => by simp only [List.cons_append, flatC, flatC_app ps b]
theorem flatC_at : ∀ (ps : List (Hc × Cl)) {j : Nat} {p : Hc × Cl}, ps[j]? = some p → (flatC ps)[j * 3]? = some (.slice p.1.1 p.2.1.length p.1.2) ∧ (flatC ps)[j * 3 + 1]? = some (.int .i64 p.2.2.1) ∧ (flatC ps)[j * 3 + 2]? = some (.int .i64 p.2.2.2)
  | [], j, p, h => by simp at h
  | q :: ps, 0, p, h => by simp at h; subst h; exact ⟨rfl, rfl, rfl⟩
  | q :: ps, j + 1, p, h => by
    have h := flatC_at ps (j := j) (p := p) (by simpa using h)
    rw [show (j + 1) * 3 = j * 3 + 1 + 1 + 1 by omega]
    exact ⟨by simp only [flatC, List.getElem?_cons_succ]; exact h.1, by simp only [flatC, List.getElem?_cons_succ]; exact h.2.1, by simp only [flatC, List.getElem?_cons_succ]; exact h.2.2⟩
theorem flatC_one : ∀ (ps : List (Hc × Cl)), ∀ v ∈ flatC ps, v.oneCell' = true
  | [], v, h => by cases h
  | p :: ps, v, h => by
    simp only [flatC, List.mem_cons] at h
    rcases h with rfl | rfl | rfl | h
    · rfl
    · rfl
    · rfl
    · exact flatC_one ps v h
/-- A row that lies in old memory. -/
def SlB (W : World) (base : Nat) (ra : Option Addr) (xs : List Int) : Prop := ∀ k, k < xs.length → ∃ b off, ra = some ⟨b, off, none⟩ ∧ b < base ∧ W.cell? ⟨b, off + k, none⟩ = some (.int .i64 (xs[k]?.getD 0))
theorem SlB.sl {W : World} {base : Nat} {ra : Option Addr} {xs : List Int} (h : SlB W base ra xs) : Sl W ra xs := fun k hk => by
  obtain ⟨b, off, e, _, hc⟩ := h k hk
  exact ⟨b, off, e, hc⟩
theorem SlB.of {W : World} {base : Nat} {ra : Option Addr} {xs : List Int} (h : Sl W ra xs) (hb : W.heap.size ≤ base) : SlB W base ra xs := fun k hk => by
  obtain ⟨b, off, e, hc⟩ := h k hk
  exact ⟨b, off, e, Nat.lt_of_lt_of_le (cell_lt hc) hb, hc⟩
theorem SlB.below {W W' : World} {base : Nat} {ra : Option Addr} {xs : List Int} (h : SlB W base ra xs) (hb : Below base W W') : SlB W' base ra xs := fun k hk => by
  obtain ⟨b, off, e, hl, hc⟩ := h k hk
  exact ⟨b, off, e, hl, (hb.cell (p := ⟨b, off + k, none⟩) hl).trans hc⟩
/-- A slice of cells of the call's own, whose rows lie in old memory. -/
def OwnC (W : World) (base : Nat) (v : Value) (cs : List Cl) : Prop := ∃ hs : List (Hc × Cl), hs.map Prod.snd = cs ∧ W.ownsRow base 49 3 v cs.length (flatC hs) ∧ ∀ p ∈ hs, SlB W base p.1.1 p.2.1
theorem OwnC.cs {W : World} {base : Nat} {v : Value} {cs : List Cl} (h : OwnC W base v cs) : ∃ a cap, v = .slice a cs.length cap ∧ Cs W a cs := by
  obtain ⟨hs, rfl, ho, hr⟩ := h
  have hl : (hs.map Prod.snd).length = hs.length := List.length_map ..
  have key : ∀ g cap, v = .slice (some ⟨g, 0, none⟩) (hs.map Prod.snd).length cap → Cs W (some ⟨g, 0, none⟩) (hs.map Prod.snd) := by
    rintro g cap rfl j c hj
    rw [List.getElem?_map] at hj
    obtain ⟨p, hp, rfl⟩ := Option.map_eq_some_iff.1 hj
    have hj2 := (List.getElem?_eq_some_iff.1 hp).1
    obtain ⟨f0, f1, f2⟩ := flatC_at hs hp
    have c0 := World.ownsRow.cellAt ho (j * 3) (by omega)
    have c1 := World.ownsRow.cellAt ho (j * 3 + 1) (by omega)
    have c2 := World.ownsRow.cellAt ho (j * 3 + 2) (by omega)
    exact ⟨g, 0, p.1.1, p.1.2, rfl, by rw [Nat.zero_add]; exact c0.trans f0, by rw [Nat.zero_add]; exact c1.trans f1, by rw [Nat.zero_add]; exact c2.trans f2, (hr p (List.mem_of_getElem? hp)).sl⟩
  obtain ⟨_, ⟨e, h0⟩ | ⟨g, cap, cur, e, hg, hb, _⟩⟩ := id ho
  · refine ⟨none, 0, by rw [h0]; exact e, fun j c hj => ?_⟩
    have := (List.getElem?_eq_some_iff.1 hj).1
    omega
  · exact ⟨some ⟨g, 0, none⟩, cap, e, key g cap e⟩
theorem OwnC.nil (W : World) (base : Nat) : OwnC W base (.slice none 0 0) [] := ⟨[], rfl, World.ownsRow_nil _ _ _ _, fun p hp => by cases hp⟩
theorem OwnC.below {W W' : World} {base : Nat} {v : Value} {cs : List Cl} (h : OwnC W base v cs) (hb : Below W.heap.size W W') : OwnC W' base v cs := by
  obtain ⟨hs, e, ho, hr⟩ := h
  exact ⟨hs, e, row_below ho hb, fun p hp k hk => by
    obtain ⟨b, off, e2, hl, hc⟩ := hr p hp k hk
    exact ⟨b, off, e2, hl, (hb.cell (p := ⟨b, off + k, none⟩) (cell_lt hc)).trans hc⟩⟩
theorem own_lit0C (w : World) : OwnC (w.alloc (.cells #[] 49)) w.heap.size (.slice (some ⟨w.heap.size, 0, none⟩) 0 0) [] := by
  refine ⟨[], rfl, ⟨by simp [flatC], .inr ⟨w.heap.size, 0, #[], rfl, Nat.le_refl _, ?_, by simp, by unfold maxLen; omega, by simp, by simp [flatC]⟩⟩, fun p hp => by cases hp⟩
  show (w.heap.push (.cells #[] 49))[w.heap.size]? = _
  rw [Array.getElem?_push_size]
/-- Headers for cells that lie in memory. -/
theorem cs_heads {W : World} {b o base : Nat} : ∀ (ds : List Cl), (∀ j c, ds[j]? = some c → ∃ ra rc, W.cell? ⟨b, o + j * 3, none⟩ = some (.slice ra c.1.length rc) ∧ W.cell? ⟨b, o + j * 3 + 1, none⟩ = some (.int .i64 c.2.1) ∧ W.cell? ⟨b, o + j * 3 + 2, none⟩ = some (.int .i64 c.2.2) ∧ SlB W base ra c.1) →
    ∃ hs : List (Hc × Cl), hs.map Prod.snd = ds ∧ (∀ j u, (flatC hs)[j]? = some u → W.cell? ⟨b, o + j, none⟩ = some u) ∧ ∀ p ∈ hs, SlB W base p.1.1 p.2.1 := by
  intro ds
  induction ds generalizing o with
  | nil => intro _; exact ⟨[], rfl, fun j u h => by simp [flatC] at h, fun p hp => by cases hp⟩
  | cons c ds ih =>
    intro h
    obtain ⟨ra, rc, c0, c1, c2, hs0⟩ := h 0 c rfl
    obtain ⟨hs, e, hc, hr⟩ := ih (o := o + 3) fun j d hj => by
      obtain ⟨ra, rc, d0, d1, d2, d3⟩ := h (j + 1) d (by simpa using hj)
      rw [show o + (j + 1) * 3 = o + 3 + j * 3 by omega] at d0 d1 d2
      exact ⟨ra, rc, d0, d1, d2, d3⟩
    refine ⟨((ra, rc), c) :: hs, by simp [e], fun j u hj => ?_, fun p hp => ?_⟩
    · match j, hj with
      | 0, hj => simp [flatC] at hj; subst hj; exact c0
      | 1, hj => simp [flatC] at hj; subst hj; exact c1
      | 2, hj => simp [flatC] at hj; subst hj; exact c2
      | j + 3, hj =>
        have h3 := hc j u (by simpa [flatC] using hj)
        rw [show o + (j + 3) = o + 3 + j by omega]; exact h3
    · rcases List.mem_cons.1 hp with rfl | hp
      · exact hs0
      · exact hr p hp
/-- Cells in memory whose rows lie in old memory. -/
def CsB (W : World) (base : Nat) (a : Option Addr) (cs : List Cl) : Prop := ∀ j c, cs[j]? = some c → ∃ b o ra rc, a = some ⟨b, o, none⟩ ∧ W.cell? ⟨b, o + j * 3, none⟩ = some (.slice ra c.1.length rc) ∧ W.cell? ⟨b, o + j * 3 + 1, none⟩ = some (.int .i64 c.2.1) ∧ W.cell? ⟨b, o + j * 3 + 2, none⟩ = some (.int .i64 c.2.2) ∧ SlB W base ra c.1
theorem CsB.of {W0 W : World} {base : Nat} {a : Option Addr} {cs : List Cl} (h : Cs W0 a cs) (hb : Below W0.heap.size W0 W) (hB : W0.heap.size ≤ base) : CsB W base a cs := fun j c hj => by
  obtain ⟨b, o, ra, rc, e, c0, c1, c2, hs⟩ := h j c hj
  refine ⟨b, o, ra, rc, e, (hb.cell (p := ⟨b, o + j * 3, none⟩) (cell_lt c0)).trans c0, (hb.cell (p := ⟨b, o + j * 3 + 1, none⟩) (cell_lt c1)).trans c1, (hb.cell (p := ⟨b, o + j * 3 + 2, none⟩) (cell_lt c2)).trans c2, fun k hk => ?_⟩
  obtain ⟨b2, o2, e2, hc2⟩ := hs k hk
  exact ⟨b2, o2, e2, Nat.lt_of_lt_of_le (cell_lt hc2) hB, (hb.cell (p := ⟨b2, o2 + k, none⟩) (cell_lt hc2)).trans hc2⟩
/-- A part of them. -/
theorem CsB.drop {W : World} {base b o : Nat} {cs : List Cl} (h : CsB W base (some ⟨b, o, none⟩) cs) (k : Nat) : CsB W base (some ⟨b, o + k * 3, none⟩) (cs.drop k) := fun j c hj => by
  rw [List.getElem?_drop] at hj
  obtain ⟨b2, o2, ra, rc, e, c0, c1, c2, hs⟩ := h (k + j) c hj
  obtain ⟨rfl, rfl⟩ : b = b2 ∧ o = o2 := by simpa using e
  refine ⟨b, o + k * 3, ra, rc, rfl, ?_, ?_, ?_, hs⟩
  · rw [show o + k * 3 + j * 3 = o + (k + j) * 3 by omega]; exact c0
  · rw [show o + k * 3 + j * 3 = o + (k + j) * 3 by omega]; exact c1
  · rw [show o + k * 3 + j * 3 = o + (k + j) * 3 by omega]; exact c2
theorem CsB.take {W : World} {base : Nat} {a : Option Addr} {cs : List Cl} (h : CsB W base a cs) (k : Nat) : CsB W base a (cs.take k) := fun j c hj => by
  rw [List.getElem?_take] at hj
  split at hj
  · exact h j c hj
  · cases hj
theorem run_append_owned_emptyC {w : World} (base : Nat) (t ty e : TypeId) (i : TypeInfo) (size : Nat) (ht : Try.prog.underlying t = some (.slice e)) (hi : Try.prog.info? e = some i)
    (v : Value) (n : Nat) (xs : List Value) (hown : w.ownsRow base e size v n xs) (q : Option Addr) (c : Nat) :
    (Builtin.append_ #[t, t] ty #[v, .slice q 0 c]).run Try.prog w = .ok v w := by
  cases q with
  | none =>
    rcases hown.2 with ⟨rfl, rfl⟩ | ⟨g, cap, cur, rfl, _, _, hnc, _⟩
    · simp [Builtin.append_, run_underlying ht, sizeOf, typeInfo, hi, Builtin.lenOf, Builtin.firstCells]
    · simp [Builtin.append_, run_underlying ht, sizeOf, typeInfo, hi, Builtin.lenOf, Builtin.firstCells, hnc, storeCells]
  | some b =>
    rcases hown.2 with ⟨rfl, rfl⟩ | ⟨g, cap, cur, rfl, _, _, hnc, _⟩
    · simp [Builtin.append_, run_underlying ht, sizeOf, typeInfo, hi, Builtin.lenOf, Builtin.firstCells, loadCells, loadCellsFrom]
    · simp [Builtin.append_, run_underlying ht, sizeOf, typeInfo, hi, Builtin.lenOf, Builtin.firstCells, hnc, storeCells, loadCells, loadCellsFrom]
theorem wp_catC {o : Oper} {a : Act} {K : Act → World → Prop} {Q : Exit → Act → World → Prop} (s x : Operand)
    (ho : o.op = .call { callee := .builtin .append, args := #[s, x], argTypes := #[24, 24] }) (base : Nat) (v : Value) (cs ds : List Cl) (pa : Option Addr) (c : Nat) (W : World)
    (hs : a.eval s = v) (hx : a.eval x = .slice pa ds.length c) (hown : OwnC W base v cs) (hds : CsB W base pa ds) (hl : cs.length + ds.length ≤ 100000) (hbase : base ≤ W.heap.size)
    (h : ∀ v' w', OwnC w' base v' (cs ++ ds) → Below base W w' → W.grownBy w' v.ownBlock → K (a.put o.dst v') w') : o.wp Try.prog a W K Q := by
  obtain ⟨i0, hi, hz0, hz1, hz2⟩ := info_parts Try.infoCell
  obtain ⟨hh, rfl, hro, hrr⟩ := id hown
  cases ds with
  | nil =>
    have hrun := run_append_owned_emptyC (w := W) base 24 o.type 49 i0 3 Try.underlying24 hi v _ _ hro pa c
    unfold Oper.wp
    simp only [List.length_nil] at hx
    simp [execOp, ho, resolve, invoke, builtin, hs, hx, hrun, Result.andThen]
    exact h v W (by rw [List.append_nil]; exact hown) (Below.refl _ _) ⟨rfl, rfl, rfl, Nat.le_refl _, fun _ _ _ => rfl⟩
  | cons d ds =>
    obtain ⟨b, of, ra, rc, rfl, _⟩ := hds 0 d rfl
    obtain ⟨ks, ek, hk, hkr⟩ := cs_heads (W := W) (b := b) (o := of) (base := base) (d :: ds) fun j e hj => by
      obtain ⟨b2, o2, ra, rc, e2, c0, c1, c2, c3⟩ := hds j e hj
      obtain ⟨rfl, rfl⟩ : b = b2 ∧ of = o2 := by simpa using e2
      exact ⟨ra, rc, c0, c1, c2, c3⟩
    have hkl : ks.length = (d :: ds).length := by rw [← ek, List.length_map]
    refine wp_append_lies W s x 24 ho base 49 i0 (.agg #[.slice none 0 0, .int .i64 0, .int .i64 0]) 3 40 Try.underlying24 hi hz0 hz1 hz2 rfl (by decide) v _ _ hs hro ⟨b, of, none⟩ (d :: ds).length c (flatC ks) hx (by rw [flatC_len, hkl]) (fun j u hj => by rw [addr_add]; exact hk j u hj) (flatC_one ks) (by simp) (by unfold maxLen; omega) (by omega) hbase _ rfl ?_
    intro g cap w' h1 h2 h3 _
    have hbb : Below base W w' := (Below.refl base W).grown h2 hbase (fun k e => (World.ownsRow.lt hro k e).1)
    refine h _ w' ⟨hh ++ ks, by rw [List.map_append, ek], ?_, fun p hp => ?_⟩ hbb h2
    · rw [flatC_app, List.length_append]; exact h1
    · rcases List.mem_append.1 hp with hp | hp
      · exact (hrr p hp).below hbb
      · exact (hkr p hp).below hbb
/-- Cells appended as one step of a region that draws its order. -/
theorem step_catC {ops : Array Oper} {o : Oper} {a : Act} {K : Act → World → Prop} {Q : Exit → Act → World → Prop} {E : Prop} (hgd : o.guard = none) (s x : Operand)
    (ho : o.op = .call { callee := .builtin .append, args := #[s, x], argTypes := #[24, 24] }) (base : Nat) (v : Value) (cs ds : List Cl) (pa : Option Addr) (c : Nat) (W : World)
    (hs : a.eval s = v) (hx : a.eval x = .slice pa ds.length c) (hown : OwnC W base v cs) (hds : CsB W base pa ds) (hl : cs.length + ds.length ≤ 100000) (hbase : base ≤ W.heap.size)
    (h : ∀ v' w', OwnC w' base v' (cs ++ ds) → Below base W w' → W.grownBy w' v.ownBlock → K (a.put o.dst v') w') : if Region.wanted o (yielded ops a.tmps) = true then Oper.wp Try.prog o a W K Q else E := by
  have hw : Region.wanted o (yielded ops a.tmps) = true := by simp [Region.wanted, hgd]
  rw [if_pos hw]
  exact wp_catC s x ho base v cs ds pa c W hs hx hown hds hl hbase h
theorem wpList_catC {ops : Array Oper} {rest : List Oper} {o : Oper} {a : Act} {Q : Exit → Act → World → Prop} (hgd : o.guard = none) (s x : Operand)
    (ho : o.op = .call { callee := .builtin .append, args := #[s, x], argTypes := #[24, 24] }) (base : Nat) (v : Value) (cs ds : List Cl) (pa : Option Addr) (c : Nat) (W : World)
    (hs : a.eval s = v) (hx : a.eval x = .slice pa ds.length c) (hown : OwnC W base v cs) (hds : CsB W base pa ds) (hl : cs.length + ds.length ≤ 100000) (hbase : base ≤ W.heap.size)
    (h : ∀ v' w', OwnC w' base v' (cs ++ ds) → Below base W w' → W.grownBy w' v.ownBlock → wpList Try.prog ops Q rest (a.put o.dst v') w') : wpList Try.prog ops Q (o :: rest) a W :=
  wpList_plain hgd fun _ hK => wp_catC s x ho base v cs ds pa c W hs hx hown hds hl hbase fun v' w' h1 h2 h3 => hK _ _ (h v' w' h1 h2 h3)
/-- A region that draws its order: whatever the order, the same is told of its end. -/
theorem wp_post {P : Program} {c : Code} {Q : Exit → Act → World → Prop} {a : Act} {w : World} (R : Act → World → Prop) (h : c.wp P (fun e a' w' => match e with | .normal => R a' w' | _ => False) a w) (hq : ∀ a' w', R a' w' → Q .normal a' w') : c.wp P Q a w := by
  refine Code.wp_mono ?_ h
  intro e a' w' he
  cases e with
  | normal => exact hq _ _ he
  | _ => exact he.elim
section
variable {P : Program} {ops : Array Oper} {Q : Exit → Act → World → Prop} {md : Region.Mode}
/-- Two may come up. -/
theorem wpAnyG_twoC {S : Array Bool → World → Prop} {i j : Nat} {o p : Oper} {fuel : Nat} {listed : Array Bool} {a : Act} {w : World} (hr : Region.ready md ops listed = [i, j]) (ho : ops[i]? = some o) (hp : ops[j]? = some p) (hc : Shutdown md ops listed)
    (h1 : Shutdown md ops (listed.setIfInBounds i true) → ∀ K : Act → World → Prop, (∀ a' w', S (listed.setIfInBounds i true) w' → (S (listed.setIfInBounds i true) w' → wpAnyG P md ops Q S fuel (listed.setIfInBounds i true) a' w') → K a' w') → if Region.wanted o (yielded ops a.tmps) = true then Oper.wp P o a w K Q else K (a.put o.dst undef) w)
    (h2 : Shutdown md ops (listed.setIfInBounds j true) → ∀ K : Act → World → Prop, (∀ a' w', S (listed.setIfInBounds j true) w' → (S (listed.setIfInBounds j true) w' → wpAnyG P md ops Q S fuel (listed.setIfInBounds j true) a' w') → K a' w') → if Region.wanted p (yielded ops a.tmps) = true then Oper.wp P p a w K Q else K (a.put p.dst undef) w) : wpAnyG P md ops Q S (fuel + 1) listed a w :=
  ⟨fun h0 => (by rw [hr] at h0; cases h0), fun k hk => by
    rw [hr] at hk
    rcases (by simpa using hk : k = i ∨ k = j) with rfl | rfl
    · exact wpOp_step ho (fun K hK => h1 (hc.set (by rw [hr]; simp)) K (fun a' w' hS hW => hK a' w' ⟨hS, hW hS⟩))
    · exact wpOp_step hp (fun K hK => h2 (hc.set (by rw [hr]; simp)) K (fun a' w' hS hW => hK a' w' ⟨hS, hW hS⟩))⟩
end
theorem own_litC (w : World) {base : Nat} (hb : base ≤ w.heap.size) : OwnC (w.alloc (.cells #[] 49)) base (.slice (some ⟨w.heap.size, 0, none⟩) 0 0) [] := by
  refine ⟨[], rfl, ⟨by simp [flatC], .inr ⟨w.heap.size, 0, #[], rfl, hb, ?_, by simp, by unfold maxLen; omega, by simp, by simp [flatC]⟩⟩, fun p hp => by cases hp⟩
  show (w.heap.push (.cells #[] 49))[w.heap.size]? = _
  rw [Array.getElem?_push_size]
theorem csB_lit (W : World) (base : Nat) (ra : Option Addr) (xs : List Int) (rc : Nat) (lo hi : Int) (ty : TypeId) (hs : SlB W base ra xs) (hb : base ≤ W.heap.size) : CsB (W.alloc (.cells #[.slice ra xs.length rc, .int .i64 lo, .int .i64 hi] ty)) base (some ⟨W.heap.size, 0, none⟩) [(xs, lo, hi)] := by
  intro j c hj
  match j, hj with
  | 0, hj =>
    simp at hj; subst hj
    exact ⟨W.heap.size, 0, ra, rc, rfl, alloc_cell _ _ _ _ _ rfl, alloc_cell _ _ _ _ _ rfl, alloc_cell _ _ _ _ _ rfl, hs.below ((Below.refl _ _).alloc hb _)⟩
theorem CsB.grown {W W' : World} {base : Nat} {b o : Nat} {cs : List Cl} {row : Option Nat} (h : CsB W base (some ⟨b, o, none⟩) cs) (hg : W.grownBy W' row) (hr : row ≠ some b) (hb : Below base W W') : CsB W' base (some ⟨b, o, none⟩) cs := fun j c hj => by
  obtain ⟨b2, o2, ra, rc, e, c0, c1, c2, hs⟩ := h j c hj
  obtain ⟨rfl, rfl⟩ : b = b2 ∧ o = o2 := by simpa using e
  have hk : W'.heap[b]? = W.heap[b]? := hg.block b (cell_lt c0) (Ne.symm hr)
  exact ⟨b, o, ra, rc, rfl, (World.cell?_of_block hk).trans c0, (World.cell?_of_block hk).trans c1, (World.cell?_of_block hk).trans c2, hs.below hb⟩
theorem CsB.below {W W' : World} {base : Nat} {a : Option Addr} {cs : List Cl} (h : CsB W base a cs) (hb : Below W.heap.size W W') : CsB W' base a cs := fun j c hj => by
  obtain ⟨b, o, ra, rc, e, c0, c1, c2, hs⟩ := h j c hj
  refine ⟨b, o, ra, rc, e, (hb.cell (p := ⟨b, o + j * 3, none⟩) (cell_lt c0)).trans c0, (hb.cell (p := ⟨b, o + j * 3 + 1, none⟩) (cell_lt c1)).trans c1, (hb.cell (p := ⟨b, o + j * 3 + 2, none⟩) (cell_lt c2)).trans c2, fun k hk => ?_⟩
  obtain ⟨b2, o2, e2, hl, hc2⟩ := hs k hk
  exact ⟨b2, o2, e2, hl, (hb.cell (p := ⟨b2, o2 + k, none⟩) (cell_lt hc2)).trans hc2⟩
end Go.Proofs.Ytoedbbpjddjbnaa
/- A slice of cells of the call's own whose rows lie anywhere but in its own block: one cell appended. -/
namespace Go.Proofs.Ytoedbbpjddjbnaa
open Go.RowKit

/-- A row that doesn't lie in the slice's own block. -/
def SlD (W : World) (v : Value) (ra : Option Addr) (xs : List Int) : Prop := ∀ k, k < xs.length → ∃ b off, ra = some ⟨b, off, none⟩ ∧ v.ownBlock ≠ some b ∧ W.cell? ⟨b, off + k, none⟩ = some (.int .i64 (xs[k]?.getD 0))
theorem SlD.sl {W : World} {v : Value} {ra : Option Addr} {xs : List Int} (h : SlD W v ra xs) : Sl W ra xs := fun k hk => by
  obtain ⟨b, off, e, _, hc⟩ := h k hk
  exact ⟨b, off, e, hc⟩
theorem SlD.below {W W' : World} {v : Value} {ra : Option Addr} {xs : List Int} (h : SlD W v ra xs) (hb : Below W.heap.size W W') : SlD W' v ra xs := fun k hk => by
  obtain ⟨b, off, e, hl, hc⟩ := h k hk
  exact ⟨b, off, e, hl, (hb.cell (p := ⟨b, off + k, none⟩) (cell_lt hc)).trans hc⟩
/-- A row in memory newer than the slice's. -/
theorem SlD.new {W : World} {v : Value} {g S : Nat} {xs : List Int} (h : Sl W (some ⟨g, 0, none⟩) xs) (hv : ∀ b, v.ownBlock = some b → b < S) (hg : S ≤ g) : SlD W v (some ⟨g, 0, none⟩) xs := fun k hk => by
  obtain ⟨b, off, e, hc⟩ := h k hk
  cases e
  exact ⟨_, _, rfl, fun e => by have := hv _ e; omega, hc⟩
/-- A slice of cells of the call's own. -/
def OwnD (W : World) (base : Nat) (v : Value) (cs : List Cl) : Prop := ∃ hs : List (Hc × Cl), hs.map Prod.snd = cs ∧ W.ownsRow base 49 3 v cs.length (flatC hs) ∧ ∀ p ∈ hs, SlD W v p.1.1 p.2.1
theorem OwnD.cs {W : World} {base : Nat} {v : Value} {cs : List Cl} (h : OwnD W base v cs) : ∃ a cap, v = .slice a cs.length cap ∧ Cs W a cs := by
  obtain ⟨hs, rfl, ho, hr⟩ := h
  have hl : (hs.map Prod.snd).length = hs.length := List.length_map ..
  have key : ∀ g cap, v = .slice (some ⟨g, 0, none⟩) (hs.map Prod.snd).length cap → Cs W (some ⟨g, 0, none⟩) (hs.map Prod.snd) := by
    rintro g cap rfl j c hj
    rw [List.getElem?_map] at hj
    obtain ⟨p, hp, rfl⟩ := Option.map_eq_some_iff.1 hj
    have hj2 := (List.getElem?_eq_some_iff.1 hp).1
    obtain ⟨f0, f1, f2⟩ := flatC_at hs hp
    have c0 := World.ownsRow.cellAt ho (j * 3) (by omega)
    have c1 := World.ownsRow.cellAt ho (j * 3 + 1) (by omega)
    have c2 := World.ownsRow.cellAt ho (j * 3 + 2) (by omega)
    exact ⟨g, 0, p.1.1, p.1.2, rfl, by rw [Nat.zero_add]; exact c0.trans f0, by rw [Nat.zero_add]; exact c1.trans f1, by rw [Nat.zero_add]; exact c2.trans f2, (hr p (List.mem_of_getElem? hp)).sl⟩
  obtain ⟨_, ⟨e, h0⟩ | ⟨g, cap, cur, e, hg, hb, _⟩⟩ := id ho
  · refine ⟨none, 0, by rw [h0]; exact e, fun j c hj => ?_⟩
    have := (List.getElem?_eq_some_iff.1 hj).1
    omega
  · exact ⟨some ⟨g, 0, none⟩, cap, e, key g cap e⟩
theorem OwnD.nil (W : World) (base : Nat) : OwnD W base (.slice none 0 0) [] := ⟨[], rfl, World.ownsRow_nil _ _ _ _, fun p hp => by cases hp⟩
theorem OwnD.below {W W' : World} {base : Nat} {v : Value} {cs : List Cl} (h : OwnD W base v cs) (hb : Below W.heap.size W W') : OwnD W' base v cs := by
  obtain ⟨hs, e, ho, hr⟩ := h
  exact ⟨hs, e, row_below ho hb, fun p hp => (hr p hp).below hb⟩
theorem OwnD.lt {W : World} {base : Nat} {v : Value} {cs : List Cl} (h : OwnD W base v cs) : ∀ b, v.ownBlock = some b → base ≤ b ∧ b < W.heap.size := by
  obtain ⟨hs, e, ho, hr⟩ := h
  exact fun b e => World.ownsRow.lt ho b e
theorem wpList_pushD {ops : Array Oper} {rest : List Oper} {o : Oper} {a : Act} {Q : Exit → Act → World → Prop} (hgd : o.guard = none) (s x : Operand)
    (ho : o.op = .call { callee := .builtin .append, args := #[s, x], argTypes := #[24, 24] }) (base : Nat) (v : Value) (cs : List Cl) (B : Nat) (c : Cl) (ra : Option Addr) (rc : Nat) (W : World)
    (hs : a.eval s = v) (hx : a.eval x = .slice (some ⟨B, 0, none⟩) 1 1) (hown : OwnD W base v cs) (c0 : W.cell? ⟨B, 0, none⟩ = some (.slice ra c.1.length rc)) (c1 : W.cell? ⟨B, 1, none⟩ = some (.int .i64 c.2.1)) (c2 : W.cell? ⟨B, 2, none⟩ = some (.int .i64 c.2.2)) (hsl : SlD W v ra c.1) (hl : cs.length ≤ 100000) (hbase : base ≤ W.heap.size)
    (h : ∀ g cap w', OwnD w' base (.slice (some ⟨g, 0, none⟩) (cs.length + 1) cap) (cs ++ [c]) → Below base W w' → wpList Try.prog ops Q rest (a.put o.dst (.slice (some ⟨g, 0, none⟩) (cs.length + 1) cap)) w') : wpList Try.prog ops Q (o :: rest) a W := by
  obtain ⟨i0, hi, hz0, hz1, hz2⟩ := info_parts Try.infoCell
  obtain ⟨hh, rfl, hro, hrr⟩ := id hown
  refine wpList_append_lies _ hgd s x 24 ho base 49 i0 (.agg #[.slice none 0 0, .int .i64 0, .int .i64 0]) 3 40 Try.underlying24 hi hz0 hz1 hz2 rfl (by decide) v _ _ hs hro ⟨B, 0, none⟩ 1 1 [.slice ra c.1.length rc, .int .i64 c.2.1, .int .i64 c.2.2] hx rfl (fun j u hj => ?_) (fun u hu => by simp at hu; rcases hu with rfl | rfl | rfl <;> rfl) (by decide) (by unfold maxLen; omega) (by omega) hbase _ rfl ?_
  · rw [addr_add]
    match j, hj with
    | 0, hj => simp at hj; subst hj; exact c0
    | 1, hj => simp at hj; subst hj; exact c1
    | 2, hj => simp at hj; subst hj; exact c2
  · intro g cap w' h1 h2 h3 _
    have hbb : Below base W w' := (Below.refl base W).grown h2 hbase (fun k e => (World.ownsRow.lt hro k e).1)
    have key : ∀ (qa : Option Addr) (xs : List Int), SlD W v qa xs → SlD w' (.slice (some ⟨g, 0, none⟩) ((hh.map Prod.snd).length + 1) cap) qa xs := fun qa xs hq k hk => by
      obtain ⟨b, off, e, hn, hc⟩ := hq k hk
      have hlt := cell_lt hc
      refine ⟨b, off, e, ?_, (World.cell?_of_block (h2.block b hlt (fun e => hn e.symm))).trans hc⟩
      intro e2
      have e3 : g = b := by simpa [Value.ownBlock] using e2
      subst e3
      rcases h3 with h3 | h3
      · exact hn h3
      · rw [h3] at hlt; exact Nat.lt_irrefl _ hlt
    refine h g cap w' ⟨hh ++ [((ra, rc), c)], by rw [List.map_append]; rfl, ?_, fun p hp => ?_⟩ hbb
    · rw [flatC_app, List.length_append]; exact h1
    · rcases List.mem_append.1 hp with hp | hp
      · exact key _ _ (hrr p hp)
      · rw [List.mem_singleton.1 hp]; exact key _ _ hsl
end Go.Proofs.Ytoedbbpjddjbnaa
/- Bit of layer 7 where it answers with a cell: its row lies in new memory. Out of BBit. -/
namespace Go.Proofs.Ytoedbbpjddjbnaa
open Go.RowKit

set_option maxRecDepth 100000 in
set_option maxHeartbeats 1000000 in
theorem bbit_new (p t : Int) (a : Option Addr) (xs : List Int) (ca : Nat) (b : Option Addr) (ys : List Int) (cb : Nat) (th : Int) (sm : Int) (w : World) (hl : xs.length ≤ 140737488351232) (hl2 : ys.length ≤ 140737488351232) (hsm : sumV p t xs ys = (sm, 0)) (hr : -99 ≤ th ∧ th ≤ 100) (ha : Sl w a xs) (hb : Sl w b ys) :
    Calls Try.prog 38 #[.agg #[.int .i64 p, .int .i64 t], .slice a xs.length ca, .slice b ys.length cb, .int .i64 th] w fun e w' => ∃ g gc, e = .returned (.tuple #[.agg #[.slice (some ⟨g, 0, none⟩) xs.length gc, .int .i64 (bitB sm th).1, .int .i64 (bitB sm th).2], .int .i64 0]) ∧ (w.heap.size ≤ g ∧ Sl w' (some ⟨g, 0, none⟩) xs) ∧ Below w.heap.size w w' := by
  obtain ⟨U, hU⟩ : ∃ U, (w.alloc (.cells #[.int .i64 p, .int .i64 t] 23)).alloc (.cells #[.slice none 0 0, .int .i64 0, .int .i64 0] 49) = U := ⟨_, rfl⟩
  have HF : Hid (Fb w p t U) := by rw [← hU]; exact (Fb.new w p t _).next ((Below.refl _ _).alloc (Nat.le_refl _) _)
  have HR : Hid (Bt U (w.heap.size + 1) (.slice none 0 0) (.int .i64 0) (.int .i64 0)) := by
    have h := Bt.new (w.alloc (.cells #[.int .i64 p, .int .i64 t] 23)) (.slice none 0 0) (.int .i64 0) (.int .i64 0) 49
    rw [World.size_alloc, hU] at h; exact h
  have HSU : Hid (∀ V, Fb w p t V → Calls Try.prog 15 #[.agg #[.int .i64 p, .int .i64 t], .slice a xs.length ca, .slice b ys.length cb] V fun e w' => e = .returned (.tuple #[.int .i64 (sumV p t xs ys).1, .int .i64 (sumV p t xs ys).2]) ∧ Below V.heap.size V w') := fun V h => bsum_any p t a xs ca b ys cb V hl hl2 (h.sl ha) (h.sl hb)
  rw [hsm] at HSU
  have HA := Lib.hid ha
  obtain ⟨z0, z1⟩ := And.intro HF.out.c0 HF.out.c1
  obtain ⟨z2, z3, z4, z5, z6, z7⟩ := And.intro HR.out.c0 (And.intro HR.out.c1 (And.intro HR.out.c2 (And.intro HR.out.f0 (And.intro HR.out.f1 HR.out.f2))))
  have hbr : browB p t xs = true := by
    by_cases hb : browB p t xs = true
    · exact hb
    · unfold sumV at hsm; rw [if_neg hb] at hsm; cases hsm
  have hx1 : 1 ≤ xs.length := by have := brow_of hbr; omega
  have hx8 : xs.length * 8 ≤ 140737488351232 := by have := brow_of hbr; omega
  obtain ⟨b0, o0, _, rfl, _, _⟩ := ha.at (k := 0) (by omega)
  have HCL : Hid (∀ V, Fb w p t V → Calls Try.prog 69 #[.slice (some ⟨b0, o0, none⟩) xs.length ca] V fun e w' => ∃ g cap', e = .returned (.slice (some ⟨g, 0, none⟩) xs.length cap') ∧ Sl w' (some ⟨g, 0, none⟩) xs ∧ V.heap.size ≤ g ∧ Below V.heap.size V w') := fun V h => (clone_any b0 o0 xs ca V hx1 hx8 (h.sl HA.out)).mono fun e w' ⟨g, c', k1, k2, k3⟩ => ⟨g, c', k1, OwnI.sl k2, (OwnI.lt k2).2, k3⟩
  obtain ⟨hr1, hr2⟩ := hr
  clear hsm ha hb hx1 hx8 hbr
  by_cases hth : th ≤ sm
  · go_enter Try.func38, Try.ntmps38
    go_wp2_with (first
      | (go_at_call 15; refine (HSU.out _ HF.out).mono ?_; rintro e w1 ⟨rfl, hb1⟩; have F1 := Fb.next HF.out hb1; have R1 := HR.out.next hb1; obtain ⟨k2, k3, k4, k5, k6, k7⟩ := And.intro R1.c0 (And.intro R1.c1 (And.intro R1.c2 (And.intro R1.f0 (And.intro R1.f1 R1.f2)))))
      | (go_at_call 69; refine (HCL.out _ F1).mono ?_; rintro e w2 ⟨g, gc, rfl, hg2, hgg, hb2⟩; have F2 := F1.next hb2; have R2 := R1.next hb2; have HG2 := Lib.hid hg2; have HGG : Hid (w.heap.size + 1 < g) := (by have := R1.lt; show _ < _; omega); have hbA : Below w2.heap.size w2 (w2.alloc (.cells #[.slice (some ⟨g, 0, none⟩) xs.length gc, .int .i64 th, .int .i64 100] 49)) := (Below.refl _ _).alloc (Nat.le_refl _) _; have F3 := F2.next hbA; have R3 := R2.next hbA; have HBA := Lib.hid hbA; clear hbA hg2 hgg; obtain ⟨m2, m3, m4, m5, m6, m7⟩ := And.intro R3.c0 (And.intro R3.c1 (And.intro R3.c2 (And.intro R3.f0 (And.intro R3.f1 R3.f2))))))
    have R4 := ((R3.set0 (.slice (some ⟨g, 0, none⟩) xs.length gc)).set1 (.int .i64 th)).set2 (.int .i64 100)
    have F4 := ((F3.set (b := w.heap.size + 1) (i := 0) (by omega) (.slice (some ⟨g, 0, none⟩) xs.length gc)).set (b := w.heap.size + 1) (i := 1) (by omega) (.int .i64 th)).set (b := w.heap.size + 1) (i := 2) (by omega) (.int .i64 100)
    obtain ⟨y2, y3, y4⟩ := And.intro R4.c0 (And.intro R4.c1 R4.c2)
    have hne : ∀ ad : Addr, some (⟨g, 0, none⟩ : Addr) = some ad → ad.block ≠ w.heap.size + 1 := fun ad e => by cases e; have := HGG.out; show g ≠ _; omega
    refine bodyPost_ret (v := .tuple #[.agg #[.slice (some ⟨g, 0, none⟩) xs.length gc, .int .i64 th, .int .i64 100], .int .i64 0]) ?_ rfl ⟨g, gc, by rw [show bitB sm th = (th, 100) from if_pos hth], ⟨by have := HGG.out; omega, ?_⟩, F4.below⟩
    · rw [results_cell_tmp rfl]; go_simp
    · exact sl_apart (sl_apart (sl_apart (HG2.out.below HBA.out) hne _) hne _) hne _
  · go_enter Try.func38, Try.ntmps38
    go_wp2_with (first
      | (go_at_call 15; refine (HSU.out _ HF.out).mono ?_; rintro e w1 ⟨rfl, hb1⟩; have F1 := Fb.next HF.out hb1; have R1 := HR.out.next hb1; obtain ⟨k2, k3, k4, k5, k6, k7⟩ := And.intro R1.c0 (And.intro R1.c1 (And.intro R1.c2 (And.intro R1.f0 (And.intro R1.f1 R1.f2)))))
      | (go_at_call 69; refine (HCL.out _ F1).mono ?_; rintro e w2 ⟨g, gc, rfl, hg2, hgg, hb2⟩; have F2 := F1.next hb2; have R2 := R1.next hb2; have HG2 := Lib.hid hg2; have HGG : Hid (w.heap.size + 1 < g) := (by have := R1.lt; show _ < _; omega); have hbA : Below w2.heap.size w2 (w2.alloc (.cells #[.slice (some ⟨g, 0, none⟩) xs.length gc, .int .i64 (-100), .int .i64 (th - 1)] 49)) := (Below.refl _ _).alloc (Nat.le_refl _) _; have F3 := F2.next hbA; have R3 := R2.next hbA; have HBA := Lib.hid hbA; clear hbA hg2 hgg; obtain ⟨m2, m3, m4, m5, m6, m7⟩ := And.intro R3.c0 (And.intro R3.c1 (And.intro R3.c2 (And.intro R3.f0 (And.intro R3.f1 R3.f2))))))
    have R4 := ((R3.set0 (.slice (some ⟨g, 0, none⟩) xs.length gc)).set1 (.int .i64 (-100))).set2 (.int .i64 (th - 1))
    have F4 := ((F3.set (b := w.heap.size + 1) (i := 0) (by omega) (.slice (some ⟨g, 0, none⟩) xs.length gc)).set (b := w.heap.size + 1) (i := 1) (by omega) (.int .i64 (-100))).set (b := w.heap.size + 1) (i := 2) (by omega) (.int .i64 (th - 1))
    obtain ⟨y2, y3, y4⟩ := And.intro R4.c0 (And.intro R4.c1 R4.c2)
    have hne : ∀ ad : Addr, some (⟨g, 0, none⟩ : Addr) = some ad → ad.block ≠ w.heap.size + 1 := fun ad e => by cases e; have := HGG.out; show g ≠ _; omega
    refine bodyPost_ret (v := .tuple #[.agg #[.slice (some ⟨g, 0, none⟩) xs.length gc, .int .i64 (-100), .int .i64 (th - 1)], .int .i64 0]) ?_ rfl ⟨g, gc, by rw [show bitB sm th = (-100, th - 1) from if_neg (by omega)], ⟨by have := HGG.out; omega, ?_⟩, F4.below⟩
    · rw [results_cell_tmp rfl]; go_simp
    · exact sl_apart (sl_apart (sl_apart (HG2.out.below HBA.out) hne _) hne _) hne _
end Go.Proofs.Ytoedbbpjddjbnaa
/- Play of layer 7: a contract. Written by mk_bplay.py. -/
namespace Go.Proofs.Ytoedbbpjddjbnaa
open Go.RowKit

def playV (p t : Int) (rows : List (List Int)) (x : List Int) (most : Int) : List Cl × Int :=
  if (vfB p t && rows.all (rowB p)) = true then
    (if shownE p t x = 0 then (if (1 ≤ rows.length ∧ rows.length ≤ 20) ∧ 0 ≤ most ∧ most ≤ 30 then (plTo p.toNat t.toNat rows x most.toNat, 0) else ([], 7))
     else ([], shownE p t x))
  else ([], 1)
/-- What a call that answers with cells and an error leaves. -/
def PPc (r : List Cl × Int) (w : World) (e : Ending) (w' : World) : Prop := Below w.heap.size w w' ∧ ∃ a cap, e = .returned (.tuple #[.slice a r.1.length cap, .int .i64 r.2]) ∧ Cs w' a r.1
theorem PPc.err {w w' : World} {r : List Cl × Int} (n : Int) (h : r = ([], n)) (hb : Below w.heap.size w w') : PPc r w (.returned (.tuple #[.slice none 0 0, .int .i64 n])) w' := by
  subst h; exact ⟨hb, none, 0, rfl, fun j c hj => by simp at hj⟩
theorem PPc.ok {w w' : World} {r : List Cl × Int} {cs : List Cl} {k cap : Nat} {a : Option Addr} (h : r = (cs, 0)) (hk : cs.length = k) (hb : Below w.heap.size w w') (hcs : Cs w' a cs) : PPc r w (.returned (.tuple #[.slice a k cap, .int .i64 0])) w' := by
  subst h; subst hk; exact ⟨hb, a, cap, rfl, hcs⟩
theorem Fb.keep {w : World} {p t : Int} {W W' : World} (h : Fb w p t W) (hb : Below (w.heap.size + 1) W W') : Fb w p t W' :=
  ⟨h.below.trans (hb.mono (Nat.le_succ _)), (hb.cell (p := ⟨w.heap.size, 0, none⟩) (Nat.lt_succ_self _)).trans h.c0, (hb.cell (p := ⟨w.heap.size, 1, none⟩) (Nat.lt_succ_self _)).trans h.c1, Nat.lt_of_lt_of_le h.lt hb.size⟩
def slN : Value → Nat
  | .slice _ n _ => n
  | _ => 0
theorem rows_vf {p t : Int} {rows : List (List Int)} (hv : vfB p t = true) : rows.all (browB p t) = rows.all (rowB p) := by
  congr 1; funext r; unfold browB rowB; rw [hv]; rfl
theorem sum_bd {p t : Int} {rows : List (List Int)} {x : List Int} (hv : vfB p t = true) (hw : rows.all (rowB p) = true) (hx : shownE p t x = 0) : ∀ r ∈ rows, sumV p t r x = (prodL r x, 0) ∧ -24 ≤ prodL r x ∧ prodL r x ≤ 24 := fun r hr => by
  have hb : browB p t r = true := by
    rw [← rows_vf hv] at hw; exact List.all_eq_true.1 hw r hr
  have e : sumV p t r x = (prodL r x, 0) := by unfold sumV; rw [if_pos hb, if_pos hx]
  have h := sum_small (p := p) (t := t) (xs := r) (ys := x) (by rw [e])
  rw [e] at h
  exact ⟨e, h.2.2.1, h.2.2.2⟩
set_option maxRecDepth 1000000 in
set_option maxHeartbeats 4000000 in
theorem bPlay_any (p t : Int) (b : Option Addr) (rows : List (List Int)) (cb : Nat) (xa : Option Addr) (x : List Int) (xc : Nat) (most : Int) (w : World) (hm : rows.length ≤ 1000000) (hl : ∀ r ∈ rows, r.length ≤ 140737488351232) (hb : Ms w b rows) (hlx : x.length ≤ 140737488351232) (hx : Sl w xa x) :
    Calls Try.prog 49 #[.agg #[.int .i64 p, .int .i64 t], .slice b rows.length cb, .slice xa x.length xc, .int .i64 most] w (PPc (playV p t rows x most) w) := by
  have HF := Lib.hid (Fb.new w p t 23)
  have HB := Lib.hid hb; clear hb
  have HL := Lib.hid hl; clear hl
  have HX := Lib.hid hx; clear hx
  have HSH : Hid (∀ W, Fb w p t W → Calls Try.prog 54 #[.agg #[.int .i64 p, .int .i64 t], .slice xa x.length xc] W fun e w' => e = .returned (.int .i64 (shownE p t x)) ∧ Fb w p t w') := fun W hf => (shown_any p t xa x xc W hlx (hf.sl HX.out)).mono fun e w' ⟨k1, k2⟩ => ⟨k1, hf.next k2⟩
  cases hv : vfB p t
  · have HV := Lib.hid (show playV p t rows x most = ([], 1) by unfold playV; rw [hv]; rfl)
    go_enter Try.func49, Try.ntmps49
    go_wp2_with (first
      | (go_at_call 19; refine (vfield_any _ _ _).mono ?_; rintro e w1 ⟨rfl, hb1⟩; have F1 := Fb.next HF.out hb1; obtain ⟨k0, k1⟩ := And.intro F1.c0 F1.c1; rw [hv]))
    all_goals go_ret2
    all_goals exact PPc.err _ HV.out F1.below
  · have HVR : Hid (∀ W, Fb w p t W → Calls Try.prog 78 #[.agg #[.int .i64 p, .int .i64 t], .slice b rows.length cb] W fun e w' => e = .returned (.bool (rows.all (rowB p))) ∧ Fb w p t w') := fun W hf => by
      have h := bvrows_any p t b rows cb W hm HL.out (HB.out.below hf.below)
      rw [rows_vf hv] at h
      exact h.mono fun e w' ⟨k1, k2⟩ => ⟨k1, hf.next k2⟩
    cases hw : rows.all (rowB p)
    · have HV := Lib.hid (show playV p t rows x most = ([], 1) by unfold playV; rw [hv, hw]; rfl)
      rw [hw] at HVR
      go_enter Try.func49, Try.ntmps49
      go_wp2_with (first
        | (go_at_call 19; refine (vfield_any _ _ _).mono ?_; rintro e w1 ⟨rfl, hb1⟩; have F1 := Fb.next HF.out hb1; obtain ⟨k0, k1⟩ := And.intro F1.c0 F1.c1; rw [hv])
        | (go_at_call 78; refine (HVR.out _ F1).mono ?_; rintro e w2 ⟨rfl, F2⟩; obtain ⟨k2, k3⟩ := And.intro F2.c0 F2.c1))
      all_goals go_ret2
      all_goals exact PPc.err _ HV.out F2.below
    · rw [hw] at HVR
      by_cases hs : shownE p t x = 0
      · have HSB := Lib.hid (sum_bd hv hw hs)
        rw [hs] at HSH
        by_cases hr : (1 ≤ rows.length ∧ rows.length ≤ 20) ∧ 0 ≤ most ∧ most ≤ 30
        · obtain ⟨P, T, rfl, rfl, hP1, hP, hT⟩ := vf_of hv
          obtain ⟨M, rfl⟩ : ∃ M : Nat, most = M := ⟨most.toNat, by omega⟩
          obtain ⟨⟨hr1, hr2⟩, _, hr3⟩ := hr
          have HV := Lib.hid (show playV P T rows x M = (plTo P T rows x M, 0) by unfold playV; rw [hv, hw, if_pos (show (true && true) = true from rfl), if_pos hs, if_pos (by omega)]; simp)
          have HRW : Hid (∀ r ∈ rows, r.length = P ∧ okL (-1) 1 r = true) := fun r hr => by
            have h := List.all_eq_true.1 hw r hr
            unfold rowB at h
            rw [Bool.and_eq_true, decide_eq_true_iff] at h
            exact ⟨by omega, h.2⟩
          have HOK := Lib.hid (fun k => plTo_ok (P := P) (T := T) (rows := rows) (x := x) hr1 HRW.out (fun r hr => by have := HSB.out r hr; omega) k)
          have HCH : Hid (∀ W k a cap, Fb w P T W → Cs W a (plTo P T rows x k) → (plTo P T rows x k).length = k → k ≤ M → Calls Try.prog 79 #[.func (.func 95) #[] #[.pointer (some ⟨W.heap.size, 0, none⟩), .pointer (some ⟨W.heap.size + 1, 0, none⟩)], .slice b rows.length cb] ((W.alloc (.cells #[.int .i64 P, .int .i64 T] 23)).alloc (.cells #[.slice a k cap] 24)) fun e w' => e = .returned (chV (bestV P T rows (plTo P T rows x k)).1 (bestV P T rows (plTo P T rows x k)).2.1 (bestV P T rows (plTo P T rows x k)).2.2.1 (bestV P T rows (plTo P T rows x k)).2.2.2) ∧ Below W.heap.size W w') := fun W k a cap hf hcs hlen hkM => by
            obtain ⟨A, hA⟩ : ∃ A, W.alloc (.cells #[.int .i64 P, .int .i64 T] 23) = A := ⟨_, rfl⟩
            obtain ⟨B, hB⟩ : ∃ B, A.alloc (.cells #[.slice a k cap] 24) = B := ⟨_, rfl⟩
            rw [hA, hB]
            have sA : A.heap.size = W.heap.size + 1 := by rw [← hA]; exact World.size_alloc _ _
            have bA : Below W.heap.size W A := by rw [← hA]; exact (Below.refl _ _).alloc (Nat.le_refl _) _
            have bB : Below A.heap.size A B := by rw [← hB]; exact (Below.refl _ _).alloc (Nat.le_refl _) _
            have bWB : Below W.heap.size W B := bA.trans (bB.mono bA.size)
            have f0 : A.cell? ⟨W.heap.size, 0, none⟩ = some (.int .i64 P) := by rw [← hA]; exact alloc_cell _ _ _ _ _ rfl
            have f1 : A.cell? ⟨W.heap.size, 1, none⟩ = some (.int .i64 T) := by rw [← hA]; exact alloc_cell _ _ _ _ _ rfl
            have f2 : B.cell? ⟨W.heap.size + 1, 0, none⟩ = some (.slice a (plTo P T rows x k).length cap) := by rw [hlen, ← hB, ← sA]; exact alloc_cell _ _ _ _ _ rfl
            exact (choose_fit P T hP1 hP hT a (plTo P T rows x k) cap (by omega) (fun c hc => (HOK.out k c hc).1) W.heap.size W B hcs bWB ((bB.cell (p := ⟨W.heap.size, 0, none⟩) (cell_lt f0)).trans f0) ((bB.cell (p := ⟨W.heap.size, 1, none⟩) (cell_lt f1)).trans f1) f2 b rows cb (by omega) HRW.out (HB.out.below (hf.below.trans (bWB.mono hf.below.size)))).mono fun e w' ⟨k1, k2⟩ => ⟨k1, bWB.trans (k2.mono bWB.size)⟩
          clear hs hw
          go_enter Try.func49, Try.ntmps49
          go_wp2_with (first
            | (go_at_call 19; refine (vfield_any _ _ _).mono ?_; rintro e w1 ⟨rfl, hb1⟩; have F1 := Fb.next HF.out hb1; obtain ⟨k0, k1⟩ := And.intro F1.c0 F1.c1; rw [hv])
            | (go_at_call 78; refine (HVR.out _ F1).mono ?_; rintro e w2 ⟨rfl, F2⟩; obtain ⟨k2, k3⟩ := And.intro F2.c0 F2.c1)
            | (go_at_call 54; refine (HSH.out _ F2).mono ?_; rintro e w3 ⟨rfl, F3⟩; obtain ⟨k4, k5⟩ := And.intro F3.c0 F3.c1))
          clear k0 k1 k2 k3 k4 k5
          go_loopw [11, 12, 13, 14] (fun cv _ _ _ wr => ∃ k : Nat, k ≤ M ∧ (plTo P T rows x k).length = k ∧ OwnD wr (w.heap.size + 1) cv (plTo P T rows x k) ∧ Fb w P T wr) (fun cv _ _ _ _ => M - slN cv)
          case atStart => exact ⟨0, Nat.zero_le _, rfl, OwnD.nil _ _, F3⟩
          case round =>
            obtain ⟨k, hk, hlen, hod, hf⟩ := hrel
            obtain ⟨ca, cc, rfl, hcs⟩ := hod.cs
            rw [hlen] at hod ⊢
            have HLEN := Lib.hid hlen
            have HOD := Lib.hid hod
            have HFB := Lib.hid hf
            have HCS := Lib.hid hcs
            obtain ⟨k0, k1⟩ := And.intro hf.c0 hf.c1
            clear hlen hod hf hcs
            by_cases hlt : (k : Int) < (M : Int)
            · have HCK := Lib.hid (HCH.out wr k ca cc HFB.out HCS.out HLEN.out hk)
              have HPL : Hid (plTo P T rows x (k + 1) = if (bestV P T rows (plTo P T rows x k)).2.2.2 = 0 then plTo P T rows x k else plTo P T rows x k ++ [nextC P T rows x (plTo P T rows x k)]) := rfl
              have HRB := Lib.hid (bsTo_row (smF P T (plTo P T rows x k) rows) rows.length hr1)
              have HBV : Hid (bsTo (smF P T (plTo P T rows x k) rows) rows.length = bestV P T rows (plTo P T rows x k)) := rfl
              rw [HBV.out] at HRB
              have HHO := Lib.hid (halved_ok (smF P T (plTo P T rows x k) rows (bestV P T rows (plTo P T rows x k)).1))
              have hho := HHO.out
              rw [← HRB.out.2] at hho
              have hrb := HRB.out.1
              obtain ⟨⟨b1, b2, b3, b4⟩, hBB⟩ : ∃ B, bestV P T rows (plTo P T rows x k) = B := ⟨_, rfl⟩
              have HBB := Lib.hid hBB
              rw [hBB] at HCK hho hrb HPL
              simp only at hho hrb
              obtain ⟨hb34, hb43, hb2l, hb2u⟩ := hho
              clear hBB HHO HRB HBV hb34 hb43
              obtain ⟨rb, ro, ra, r, rc, rfl, q0, q1, q2⟩ := (HB.out.below HFB.out.below).at (i := b1) hrb
              have HQ0 := Lib.hid q0
              have HQ1 := Lib.hid q1
              have hbi : (b1 : Int) < (rows.length : Int) := by omega
              clear q0 q1
              by_cases h0 : b4 = 0
              · subst h0
                go_wp2_with (first
                  | (go_at_call 67; refine (fittingmk_any _ _ _ _ _ _).mono ?_; rintro e w4 ⟨rfl, rfl⟩)
                  | (go_at_call 79; refine HCK.out.mono ?_; rintro e w5 ⟨rfl, hb5⟩; have F5 := HFB.out.next hb5; unfold chV; have HB5 := Lib.hid hb5; clear hb5))
                go_ret2
                have e : plTo P T rows x M = plTo P T rows x k := by
                  have h := plTo_stop (P := P) (T := T) (rows := rows) (x := x) (k := k) (by rw [HBB.out]) (M - k)
                  rwa [show k + (M - k) = M by omega] at h
                have hbA := (Below.refl w5.heap.size w5).alloc (Nat.le_refl _) (.cells #[.int .i64 (b1 : Int), .int .i64 b2, .int .i64 (b3 : Int), .int .i64 0] 97)
                exact PPc.ok (HV.out.trans (by rw [e])) HLEN.out (F5.next hbA).below ((HCS.out.below HB5.out).below hbA)
              · have h4 : ((b4 : Int) == 0) = false := by simp; omega
                go_wp2_with (first
                  | (go_at_call 67; refine (fittingmk_any _ _ _ _ _ _).mono ?_; rintro e w4 ⟨rfl, rfl⟩)
                  | (go_at_call 79; refine HCK.out.mono ?_; rintro e w5 ⟨rfl, hb5⟩; unfold chV; obtain ⟨V, hV⟩ : ∃ V, w5.alloc (.cells #[.int .i64 (b1 : Int), .int .i64 b2, .int .i64 (b3 : Int), .int .i64 (b4 : Int)] 97) = V := ⟨_, rfl⟩; have hbV : Below w5.heap.size w5 V := hV ▸ (Below.refl w5.heap.size w5).alloc (Nat.le_refl _) _; have hnV : B4 V w5.heap.size b1 b2 b3 b4 := hV ▸ B4.new w5 _ _ _ _ _; have HNV := Lib.hid hnV; have HWV : Hid (Below wr.heap.size wr V) := hb5.trans (hbV.mono hb5.size); have HFV := Lib.hid (HFB.out.next HWV.out); obtain ⟨n0, n1, n2, n3⟩ := And.intro hnV.c0 (And.intro hnV.c1 (And.intro hnV.c2 hnV.c3)); obtain ⟨k2, k3⟩ := And.intro HFV.out.c0 HFV.out.c1; clear hb5 hbV hnV))
                rename_i aK
                have HKX := Lib.hid aK
                clear aK
                have HVW : Hid (∀ W, Below V.heap.size V W → W.cell? ⟨w.heap.size, 0, none⟩ = some (.int .i64 P) ∧ W.cell? ⟨w.heap.size, 1, none⟩ = some (.int .i64 T) ∧ W.cell? ⟨w5.heap.size, 0, none⟩ = some (.int .i64 (b1 : Int)) ∧ W.cell? ⟨w5.heap.size, 1, none⟩ = some (.int .i64 b2) ∧ W.cell? ⟨rb, ro + b1, none⟩ = some (.slice ra r.length rc)) := fun W h => ⟨(HFV.out.next h).c0, (HFV.out.next h).c1, (HNV.out.next h).c0, (HNV.out.next h).c1, ((HWV.out.trans (h.mono HWV.out.size)).cell (p := ⟨rb, ro + b1, none⟩) (cell_lt HQ0.out)).trans HQ0.out⟩
                have HMEM : Hid (r ∈ rows) := List.mem_of_getElem? q2.out
                obtain ⟨⟨lo, hi⟩, hlh⟩ : ∃ q, bitB (prodL r x) b2 = q := ⟨_, rfl⟩
                have HNC : Hid (plTo P T rows x (k + 1) = plTo P T rows x k ++ [(r, lo, hi)]) := by
                  show _ = _
                  have e : nextC P T rows x (plTo P T rows x k) = (r, lo, hi) := by
                    unfold nextC
                    rw [HBB.out]
                    simp only
                    rw [show rowL rows b1 = r by unfold rowL; rw [q2.out]; rfl, hlh]
                  rw [HPL.out, if_neg h0, e]
                have HBT : Hid (∀ W, Below V.heap.size V W → Calls Try.prog 38 #[.agg #[.int .i64 P, .int .i64 T], .slice ra r.length rc, .slice xa x.length xc, .int .i64 b2] W fun e w' => ∃ g gc, e = .returned (.tuple #[.agg #[.slice (some ⟨g, 0, none⟩) r.length gc, .int .i64 lo, .int .i64 hi], .int .i64 0]) ∧ (W.heap.size ≤ g ∧ Sl w' (some ⟨g, 0, none⟩) r) ∧ Below W.heap.size W w') := fun W h => by
                  have k := bbit_new P T ra r rc xa x xc b2 (prodL r x) W (by have := (HRW.out r HMEM.out).1; omega) hlx (HSB.out r HMEM.out).1 ⟨hb2l, hb2u⟩ ((HQ1.out.below HWV.out).below h) (HFV.out.next h |>.sl HX.out)
                  rw [hlh] at k; exact k
                clear n0 n1 n2 n3 k2 k3 k0 k1 hlh
                refine wp_region_G (S := fun _ W => Below V.heap.size V W) (by kernel_rfl) ((Below.refl _ _).drew) ?_
                intro hc hS
                refine wpAnyG_take (i := 0) (oi := ?oir0) (v := ?vr0) ?hir0 (by kernel_rfl) (by kernel_rfl) (by kernel_rfl) ?hQr0 (fun _ _ => Iff.rfl) hc ?hyr0 hS ?restr0
                case hir0 => (simp only [List.getElem?_toArray, List.getElem?_cons_zero]; exact rfl)
                case hQr0 => exact fun _ _ _ h => h
                case hyr0 => (refine Or.inl ⟨rfl, ?_⟩; (rintro w9 ⟨L, _, _, hB⟩; obtain ⟨_, _, _, _, _⟩ := HVW.out w9 hB; go_simp; (try with_reducible rfl)))
                clear hc hS; intro hc hS
                simp only [Act.put, List.setIfInBounds_toArray, List.set_cons_zero, List.set_cons_succ]
                refine wpAnyG_take (i := 1) (oi := ?oir1) (v := ?vr1) ?hir1 (by kernel_rfl) (by kernel_rfl) (by kernel_rfl) ?hQr1 (fun _ _ => Iff.rfl) hc ?hyr1 hS ?restr1
                case hir1 => (simp only [List.getElem?_toArray, List.getElem?_cons_succ, List.getElem?_cons_zero]; exact rfl)
                case hQr1 => exact fun _ _ _ h => h
                case hyr1 => (refine Or.inl ⟨rfl, ?_⟩; (intro w _; go_simp; (try with_reducible rfl)))
                clear hc hS; intro hc hS
                simp only [Act.put, List.setIfInBounds_toArray, List.set_cons_zero, List.set_cons_succ]
                refine wpAnyG_take (i := 2) (oi := ?oir2) (v := ?vr2) ?hir2 (by kernel_rfl) (by kernel_rfl) (by kernel_rfl) ?hQr2 (fun _ _ => Iff.rfl) hc ?hyr2 hS ?restr2
                case hir2 => (simp only [List.getElem?_toArray, List.getElem?_cons_succ, List.getElem?_cons_zero]; exact rfl)
                case hQr2 => exact fun _ _ _ h => h
                case hyr2 => (refine Or.inl ⟨rfl, ?_⟩; (intro w _; go_simp; (try with_reducible rfl)))
                clear hc hS; intro hc hS
                simp only [Act.put, List.setIfInBounds_toArray, List.set_cons_zero, List.set_cons_succ]
                refine wpAnyG_take (i := 3) (oi := ?oir3) (v := ?vr3) ?hir3 (by kernel_rfl) (by kernel_rfl) (by kernel_rfl) ?hQr3 (fun _ _ => Iff.rfl) hc ?hyr3 hS ?restr3
                case hir3 => (simp only [List.getElem?_toArray, List.getElem?_cons_succ, List.getElem?_cons_zero]; exact rfl)
                case hQr3 => exact fun _ _ _ h => h
                case hyr3 => (refine Or.inl ⟨rfl, ?_⟩; (rintro w9 ⟨L, _, _, hB⟩; obtain ⟨_, _, _, _, _⟩ := HVW.out w9 hB; go_simp; (try with_reducible rfl)))
                clear hc hS; intro hc hS
                simp only [Act.put, List.setIfInBounds_toArray, List.set_cons_zero, List.set_cons_succ]
                refine wpAnyG_take (i := 4) (oi := ?oir4) (v := ?vr4) ?hir4 (by kernel_rfl) (by kernel_rfl) (by kernel_rfl) ?hQr4 (fun _ _ => Iff.rfl) hc ?hyr4 hS ?restr4
                case hir4 => (simp only [List.getElem?_toArray, List.getElem?_cons_succ, List.getElem?_cons_zero]; exact rfl)
                case hQr4 => exact fun _ _ _ h => h
                case hyr4 => (refine Or.inl ⟨rfl, ?_⟩; (intro w _; go_simp; (try with_reducible rfl)))
                clear hc hS; intro hc hS
                simp only [Act.put, List.setIfInBounds_toArray, List.set_cons_zero, List.set_cons_succ]
                refine wpAnyG_take (i := 5) (oi := ?oir5) (v := ?vr5) ?hir5 (by kernel_rfl) (by kernel_rfl) (by kernel_rfl) ?hQr5 (fun _ _ => Iff.rfl) hc ?hyr5 hS ?restr5
                case hir5 => (simp only [List.getElem?_toArray, List.getElem?_cons_succ, List.getElem?_cons_zero]; exact rfl)
                case hQr5 => exact fun _ _ _ h => h
                case hyr5 => (refine Or.inl ⟨rfl, ?_⟩; (rintro w9 ⟨L, _, _, hB⟩; obtain ⟨_, _, _, _, _⟩ := HVW.out w9 hB; go_simp; (try with_reducible rfl)))
                clear hc hS; intro hc hS
                simp only [Act.put, List.setIfInBounds_toArray, List.set_cons_zero, List.set_cons_succ]
                refine wpAnyG_take (i := 6) (oi := ?oir6) (v := ?vr6) ?hir6 (by kernel_rfl) (by kernel_rfl) (by kernel_rfl) ?hQr6 (fun _ _ => Iff.rfl) hc ?hyr6 hS ?restr6
                case hir6 => (simp only [List.getElem?_toArray, List.getElem?_cons_succ, List.getElem?_cons_zero]; exact rfl)
                case hQr6 => exact fun _ _ _ h => h
                case hyr6 => (refine Or.inl ⟨rfl, ?_⟩; (intro w _; go_simp; (try with_reducible rfl)))
                clear hc hS; intro hc hS
                simp only [Act.put, List.setIfInBounds_toArray, List.set_cons_zero, List.set_cons_succ]
                refine wpAnyG_take (i := 7) (oi := ?oir7) (v := ?vr7) ?hir7 (by kernel_rfl) (by kernel_rfl) (by kernel_rfl) ?hQr7 (fun _ _ => Iff.rfl) hc ?hyr7 hS ?restr7
                case hir7 => (simp only [List.getElem?_toArray, List.getElem?_cons_succ, List.getElem?_cons_zero]; exact rfl)
                case hQr7 => exact fun _ _ _ h => h
                case hyr7 => (refine Or.inl ⟨rfl, ?_⟩; (intro w _; go_simp; (try with_reducible rfl)))
                clear hc hS; intro hc hS
                simp only [Act.put, List.setIfInBounds_toArray, List.set_cons_zero, List.set_cons_succ]
                refine wpAnyG_take (i := 8) (oi := ?oir8) (v := ?vr8) ?hir8 (by kernel_rfl) (by kernel_rfl) (by kernel_rfl) ?hQr8 (fun _ _ => Iff.rfl) hc ?hyr8 hS ?restr8
                case hir8 => (simp only [List.getElem?_toArray, List.getElem?_cons_succ, List.getElem?_cons_zero]; exact rfl)
                case hQr8 => exact fun _ _ _ h => h
                case hyr8 => (refine Or.inl ⟨rfl, ?_⟩; (rintro w9 ⟨L, _, _, hB⟩; obtain ⟨_, _, _, _, _⟩ := HVW.out w9 hB; go_simp; (try with_reducible rfl)))
                clear hc hS; intro hc hS
                simp only [Act.put, List.setIfInBounds_toArray, List.set_cons_zero, List.set_cons_succ]
                refine wpAnyG_twoC (i := 9) (j := 13) (o := ?oiA) (p := ?ojA) (by kernel_rfl) ?hiA ?hjA hc ?raA ?rbA
                case hiA => (simp only [List.getElem?_toArray, List.getElem?_cons_succ, List.getElem?_cons_zero]; exact rfl)
                case hjA => (simp only [List.getElem?_toArray, List.getElem?_cons_succ, List.getElem?_cons_zero]; exact rfl)
                case raA =>
                  clear hc; intro hc K hK; have HK := Lib.hid hK; clear hK
                  go_simp
                  go_at_call 38
                  refine (HBT.out V.drew (Below.refl V.heap.size V).drew).mono ?_
                  rintro e w6 ⟨g, gc, rfl, ⟨hg6, hs6⟩, hb6⟩
                  have HB6 : Hid (Below V.heap.size V w6) := ((Below.refl V.heap.size V).drew).trans (hb6.mono ((Below.refl V.heap.size V).drew).size)
                  have HBC6 := Lib.hid hb6
                  have HG6 := Lib.hid hg6
                  have HS6 := Lib.hid hs6
                  clear hb6 hg6 hs6
                  refine HK.out _ _ HB6.out ?_
                  clear HK K hS; intro hS
                  refine wpAnyG_take (i := 10) (oi := ?oia10) (v := ?va10) ?hia10 (by kernel_rfl) (by kernel_rfl) (by kernel_rfl) ?hQa10 (fun _ _ => Iff.rfl) hc ?hya10 hS ?resta10
                  case hia10 => (simp only [List.getElem?_toArray, List.getElem?_cons_succ, List.getElem?_cons_zero]; exact rfl)
                  case hQa10 => exact fun _ _ _ h => h
                  case hya10 => (refine Or.inl ⟨rfl, ?_⟩; (intro w _; go_simp; (try with_reducible rfl)))
                  clear hc hS; intro hc hS
                  simp only [Act.put, List.setIfInBounds_toArray, List.set_cons_zero, List.set_cons_succ]
                  refine wpAnyG_take (i := 11) (oi := ?oia11) (v := ?va11) ?hia11 (by kernel_rfl) (by kernel_rfl) (by kernel_rfl) ?hQa11 (fun _ _ => Iff.rfl) hc ?hya11 hS ?resta11
                  case hia11 => (simp only [List.getElem?_toArray, List.getElem?_cons_succ, List.getElem?_cons_zero]; exact rfl)
                  case hQa11 => exact fun _ _ _ h => h
                  case hya11 => (refine Or.inl ⟨rfl, ?_⟩; (intro w _; go_simp; (try with_reducible rfl)))
                  clear hc hS; intro hc hS
                  simp only [Act.put, List.setIfInBounds_toArray, List.set_cons_zero, List.set_cons_succ]
                  refine wpAnyG_take (i := 12) (oi := ?oia12) (v := ?va12) ?hia12 (by kernel_rfl) (by kernel_rfl) (by kernel_rfl) ?hQa12 (fun _ _ => Iff.rfl) hc ?hya12 hS ?resta12
                  case hia12 => (simp only [List.getElem?_toArray, List.getElem?_cons_succ, List.getElem?_cons_zero]; exact rfl)
                  case hQa12 => exact fun _ _ _ h => h
                  case hya12 => (refine Or.inl ⟨rfl, ?_⟩; (intro w _; go_simp; (try with_reducible rfl)))
                  clear hc hS; intro hc hS
                  simp only [Act.put, List.setIfInBounds_toArray, List.set_cons_zero, List.set_cons_succ]
                  refine wpAnyG_only (i := 13) (o := ?oia13) (by kernel_rfl) ?hia13 hc ?raa13
                  case hia13 => (simp only [List.getElem?_toArray, List.getElem?_cons_succ, List.getElem?_cons_zero]; exact rfl)
                  clear hc; intro hc K hK; have HK := Lib.hid hK; clear hK
                  go_simp
                  obtain ⟨WA, hWA⟩ : ∃ WA, World.alloc w6 (.cells #[.slice none 0 0, .int .i64 0, .int .i64 0] 49) = WA := ⟨_, rfl⟩
                  obtain ⟨X, hX⟩ : ∃ X, (World.heap w6).size = X := ⟨_, rfl⟩
                  have HXT : Hid (Bt WA X (.slice none 0 0) (.int .i64 0) (.int .i64 0)) := by
                    show Bt _ _ _ _ _
                    rw [← hWA, ← hX]; exact Bt.new w6 _ _ _ _
                  have HBA : Hid (Below X w6 WA) := by show Below _ _ _; rw [← hWA, ← hX]; exact (Below.refl _ _).alloc (Nat.le_refl _) _
                  have HBVA : Hid (Below V.heap.size V WA) := by show Below _ _ _; rw [← hWA]; exact (HB6.out).alloc (HB6.out).size _
                  have HXS : Hid (WA.heap.size = X + 1) := by show _ = _; rw [← hWA, World.size_alloc, hX]
                  have HXE := Lib.hid hX
                  have HVX : Hid (V.heap.size ≤ X) := by show _ ≤ _; rw [← hX]; exact (HB6.out).size
                  (try rw [hWA]); (try simp only [hX])
                  clear hWA hX
                  refine HK.out _ _ HBVA.out ?_
                  clear HK K hS; intro hS
                  obtain ⟨_, _, _, _, _, _⟩ := And.intro (HXT.out).c0 (And.intro (HXT.out).c1 (And.intro (HXT.out).c2 (And.intro (HXT.out).f0 (And.intro (HXT.out).f1 (HXT.out).f2))))
                  refine wpAnyG_only (i := 14) (o := ?ois1418WA) (by kernel_rfl) ?his1418WA hc ?ras1418WA
                  case his1418WA => (simp only [List.getElem?_toArray, List.getElem?_cons_succ, List.getElem?_cons_zero]; exact rfl)
                  clear hc; intro hc K hK; have HK := Lib.hid hK; clear hK
                  go_simp
                  refine HK.out _ _ (((HBVA.out.setCell (p := ⟨X, 0, none⟩) HVX.out _).setCell (p := ⟨X, 1, none⟩) HVX.out _).setCell (p := ⟨X, 2, none⟩) HVX.out _) ?_
                  clear HK K hS; intro hS
                  refine wpAnyG_only (i := 15) (o := ?ois1518WA) (by kernel_rfl) ?his1518WA hc ?ras1518WA
                  case his1518WA => (simp only [List.getElem?_toArray, List.getElem?_cons_succ, List.getElem?_cons_zero]; exact rfl)
                  clear hc; intro hc K hK; have HK := Lib.hid hK; clear hK
                  go_simp
                  refine HK.out _ _ (((HBVA.out.setCell (p := ⟨X, 0, none⟩) HVX.out _).setCell (p := ⟨X, 1, none⟩) HVX.out _).setCell (p := ⟨X, 2, none⟩) HVX.out _) ?_
                  clear HK K hS; intro hS
                  refine wpAnyG_done (by kernel_rfl) ?_ _
                  refine HKX.out _ _ ?_
                  have HXS3 := Lib.hid (((Bt.set0 (HXT.out) (.slice (some ⟨g, 0, none⟩) r.length gc)).set1 (.int .i64 lo)).set2 (.int .i64 hi))
                  have HBW : Hid (Below V.heap.size V (((WA.setCell ⟨X, 0, none⟩ (.slice (some ⟨g, 0, none⟩) r.length gc)).setCell ⟨X, 1, none⟩ (.int .i64 lo)).setCell ⟨X, 2, none⟩ (.int .i64 hi))) := ((HBVA.out.setCell (p := ⟨X, 0, none⟩) HVX.out _).setCell (p := ⟨X, 1, none⟩) HVX.out _).setCell (p := ⟨X, 2, none⟩) HVX.out _
                  have hne : ∀ ad : Addr, some (⟨g, 0, none⟩ : Addr) = some ad → ad.block ≠ X := fun ad e => by cases e; (have h := HS6.out 0 (by have := (HRW.out r HMEM.out).1; omega); obtain ⟨b9, o9, e9, c9⟩ := h; cases e9; have h9 : g < w6.heap.size := cell_lt c9; have := HXE.out; show g ≠ X; omega)
                  have HSW : Hid (Sl (((WA.setCell ⟨X, 0, none⟩ (.slice (some ⟨g, 0, none⟩) r.length gc)).setCell ⟨X, 1, none⟩ (.int .i64 lo)).setCell ⟨X, 2, none⟩ (.int .i64 hi)) (some ⟨g, 0, none⟩) r) := sl_apart (sl_apart (sl_apart (HS6.out.below (HXE.out ▸ HBA.out)) hne _) hne _) hne _
                  clear hne hS hc HKX
                  generalize (((WA.setCell ⟨X, 0, none⟩ (.slice (some ⟨g, 0, none⟩) r.length gc)).setCell ⟨X, 1, none⟩ (.int .i64 lo)).setCell ⟨X, 2, none⟩ (.int .i64 hi)) = WS at HXS3 HBW HSW ⊢
                  have HWS : Hid (Below wr.heap.size wr WS) := HWV.out.trans (HBW.out.mono HWV.out.size)
                  have HVG : Hid (V.heap.size ≤ g) := HG6.out
                  obtain ⟨WL, hWL⟩ : ∃ WL, WS.alloc (.cells #[.slice (some ⟨g, 0, none⟩) r.length gc, .int .i64 lo, .int .i64 hi] 49) = WL := ⟨_, rfl⟩
                  have HXL : Hid (Bt WL WS.heap.size (.slice (some ⟨g, 0, none⟩) r.length gc) (.int .i64 lo) (.int .i64 hi)) := by show Bt _ _ _ _ _; rw [← hWL]; exact Bt.new WS _ _ _ _
                  have HBSL : Hid (Below WS.heap.size WS WL) := by show Below _ _ _; rw [← hWL]; exact (Below.refl _ _).alloc (Nat.le_refl _) _
                  have HWL : Hid (Below wr.heap.size wr WL) := HWS.out.trans (HBSL.out.mono HWS.out.size)
                  obtain ⟨x0, x1, x2⟩ := And.intro HXS3.out.c0 (And.intro HXS3.out.c1 HXS3.out.c2)
                  go_wp2_with (at_builtin; (try rw [hWL]); refine wpList_pushD rfl (.tmp 71) (.tmp 73) rfl (w.heap.size + 1) _ (plTo P T rows x k) _ (r, lo, hi) (some ⟨g, 0, none⟩) gc WL rfl rfl (HOD.out.below HWL.out) HXL.out.c0 HXL.out.c1 HXL.out.c2 ((SlD.new HSW.out (fun b e => (HOD.out.lt b e).2) (Nat.le_trans HWV.out.size HVG.out)).below HBSL.out) (by have := HLEN.out; omega) (HFB.out.next HWL.out).lt ?_; intro g2 cap2 w7 ho7 hb7; have HO7 := Lib.hid ho7; have HB7 := Lib.hid hb7; clear ho7 hb7)
                  refine ⟨⟨k + 1, by omega, by rw [HNC.out, List.length_append, HLEN.out]; rfl, by rw [HNC.out]; exact HO7.out, (HFB.out.next HWL.out).keep HB7.out⟩, ?_⟩
                  show M - ((plTo P T rows x k).length + 1) < M - k
                  rw [HLEN.out]; omega
                case rbA =>
                  clear hc; intro hc K hK; have HK := Lib.hid hK; clear hK
                  go_simp
                  obtain ⟨WA, hWA⟩ : ∃ WA, (World.alloc V (.cells #[.slice none 0 0, .int .i64 0, .int .i64 0] 49)).drew = WA := ⟨_, rfl⟩
                  obtain ⟨X, hX⟩ : ∃ X, (World.heap V).size = X := ⟨_, rfl⟩
                  have HXT : Hid (Bt WA X (.slice none 0 0) (.int .i64 0) (.int .i64 0)) := by
                    show Bt _ _ _ _ _
                    rw [← hWA, ← hX]; exact (Bt.new V _ _ _ _).next ((Below.refl _ _).drew)
                  have HBVA : Hid (Below V.heap.size V WA) := by show Below _ _ _; rw [← hWA]; exact ((Below.refl _ _).alloc (Nat.le_refl _) _).drew
                  have HXS : Hid (WA.heap.size = X + 1) := by show _ = _; rw [← hWA, ← hX]; exact World.size_alloc V _
                  have HVX : Hid (V.heap.size ≤ X) := by show _ ≤ _; rw [← hX]; exact Nat.le_refl _
                  (try rw [hWA]); (try simp only [hX])
                  clear hWA hX
                  refine HK.out _ _ HBVA.out ?_
                  clear HK K hS; intro hS
                  refine wpAnyG_only (i := 9) (o := ?oib9) (by kernel_rfl) ?hib9 hc ?rab9
                  case hib9 => (simp only [List.getElem?_toArray, List.getElem?_cons_succ, List.getElem?_cons_zero]; exact rfl)
                  clear hc; intro hc K hK; have HK := Lib.hid hK; clear hK
                  go_simp
                  go_at_call 38
                  refine (HBT.out WA HBVA.out).mono ?_
                  rintro e w6 ⟨g, gc, rfl, ⟨hg6, hs6⟩, hb6⟩
                  have HB6 : Hid (Below V.heap.size V w6) := (HBVA.out).trans (hb6.mono (HBVA.out).size)
                  have HBC6 := Lib.hid hb6
                  have HG6 := Lib.hid hg6
                  have HS6 := Lib.hid hs6
                  clear hb6 hg6 hs6
                  refine HK.out _ _ HB6.out ?_
                  clear HK K hS; intro hS
                  refine wpAnyG_take (i := 10) (oi := ?oib10) (v := ?vb10) ?hib10 (by kernel_rfl) (by kernel_rfl) (by kernel_rfl) ?hQb10 (fun _ _ => Iff.rfl) hc ?hyb10 hS ?restb10
                  case hib10 => (simp only [List.getElem?_toArray, List.getElem?_cons_succ, List.getElem?_cons_zero]; exact rfl)
                  case hQb10 => exact fun _ _ _ h => h
                  case hyb10 => (refine Or.inl ⟨rfl, ?_⟩; (intro w _; go_simp; (try with_reducible rfl)))
                  clear hc hS; intro hc hS
                  simp only [Act.put, List.setIfInBounds_toArray, List.set_cons_zero, List.set_cons_succ]
                  refine wpAnyG_take (i := 11) (oi := ?oib11) (v := ?vb11) ?hib11 (by kernel_rfl) (by kernel_rfl) (by kernel_rfl) ?hQb11 (fun _ _ => Iff.rfl) hc ?hyb11 hS ?restb11
                  case hib11 => (simp only [List.getElem?_toArray, List.getElem?_cons_succ, List.getElem?_cons_zero]; exact rfl)
                  case hQb11 => exact fun _ _ _ h => h
                  case hyb11 => (refine Or.inl ⟨rfl, ?_⟩; (intro w _; go_simp; (try with_reducible rfl)))
                  clear hc hS; intro hc hS
                  simp only [Act.put, List.setIfInBounds_toArray, List.set_cons_zero, List.set_cons_succ]
                  refine wpAnyG_take (i := 12) (oi := ?oib12) (v := ?vb12) ?hib12 (by kernel_rfl) (by kernel_rfl) (by kernel_rfl) ?hQb12 (fun _ _ => Iff.rfl) hc ?hyb12 hS ?restb12
                  case hib12 => (simp only [List.getElem?_toArray, List.getElem?_cons_succ, List.getElem?_cons_zero]; exact rfl)
                  case hQb12 => exact fun _ _ _ h => h
                  case hyb12 => (refine Or.inl ⟨rfl, ?_⟩; (intro w _; go_simp; (try with_reducible rfl)))
                  clear hc hS; intro hc hS
                  simp only [Act.put, List.setIfInBounds_toArray, List.set_cons_zero, List.set_cons_succ]
                  obtain ⟨_, _, _, _, _, _⟩ := And.intro ((HXT.out.next HBC6.out)).c0 (And.intro ((HXT.out.next HBC6.out)).c1 (And.intro ((HXT.out.next HBC6.out)).c2 (And.intro ((HXT.out.next HBC6.out)).f0 (And.intro ((HXT.out.next HBC6.out)).f1 ((HXT.out.next HBC6.out)).f2))))
                  refine wpAnyG_only (i := 14) (o := ?ois1418w6) (by kernel_rfl) ?his1418w6 hc ?ras1418w6
                  case his1418w6 => (simp only [List.getElem?_toArray, List.getElem?_cons_succ, List.getElem?_cons_zero]; exact rfl)
                  clear hc; intro hc K hK; have HK := Lib.hid hK; clear hK
                  go_simp
                  refine HK.out _ _ (((HB6.out.setCell (p := ⟨X, 0, none⟩) HVX.out _).setCell (p := ⟨X, 1, none⟩) HVX.out _).setCell (p := ⟨X, 2, none⟩) HVX.out _) ?_
                  clear HK K hS; intro hS
                  refine wpAnyG_only (i := 15) (o := ?ois1518w6) (by kernel_rfl) ?his1518w6 hc ?ras1518w6
                  case his1518w6 => (simp only [List.getElem?_toArray, List.getElem?_cons_succ, List.getElem?_cons_zero]; exact rfl)
                  clear hc; intro hc K hK; have HK := Lib.hid hK; clear hK
                  go_simp
                  refine HK.out _ _ (((HB6.out.setCell (p := ⟨X, 0, none⟩) HVX.out _).setCell (p := ⟨X, 1, none⟩) HVX.out _).setCell (p := ⟨X, 2, none⟩) HVX.out _) ?_
                  clear HK K hS; intro hS
                  refine wpAnyG_done (by kernel_rfl) ?_ _
                  refine HKX.out _ _ ?_
                  have HXS3 := Lib.hid (((Bt.set0 ((HXT.out.next HBC6.out)) (.slice (some ⟨g, 0, none⟩) r.length gc)).set1 (.int .i64 lo)).set2 (.int .i64 hi))
                  have HBW : Hid (Below V.heap.size V (((w6.setCell ⟨X, 0, none⟩ (.slice (some ⟨g, 0, none⟩) r.length gc)).setCell ⟨X, 1, none⟩ (.int .i64 lo)).setCell ⟨X, 2, none⟩ (.int .i64 hi))) := ((HB6.out.setCell (p := ⟨X, 0, none⟩) HVX.out _).setCell (p := ⟨X, 1, none⟩) HVX.out _).setCell (p := ⟨X, 2, none⟩) HVX.out _
                  have hne : ∀ ad : Addr, some (⟨g, 0, none⟩ : Addr) = some ad → ad.block ≠ X := fun ad e => by cases e; (have h := HG6.out; have := HXS.out; show g ≠ X; omega)
                  have HSW : Hid (Sl (((w6.setCell ⟨X, 0, none⟩ (.slice (some ⟨g, 0, none⟩) r.length gc)).setCell ⟨X, 1, none⟩ (.int .i64 lo)).setCell ⟨X, 2, none⟩ (.int .i64 hi)) (some ⟨g, 0, none⟩) r) := sl_apart (sl_apart (sl_apart (HS6.out) hne _) hne _) hne _
                  clear hne hS hc HKX
                  generalize (((w6.setCell ⟨X, 0, none⟩ (.slice (some ⟨g, 0, none⟩) r.length gc)).setCell ⟨X, 1, none⟩ (.int .i64 lo)).setCell ⟨X, 2, none⟩ (.int .i64 hi)) = WS at HXS3 HBW HSW ⊢
                  have HWS : Hid (Below wr.heap.size wr WS) := HWV.out.trans (HBW.out.mono HWV.out.size)
                  have HVG : Hid (V.heap.size ≤ g) := (by show _ ≤ _; have := HG6.out; have := HXS.out; have := HVX.out; omega)
                  obtain ⟨WL, hWL⟩ : ∃ WL, WS.alloc (.cells #[.slice (some ⟨g, 0, none⟩) r.length gc, .int .i64 lo, .int .i64 hi] 49) = WL := ⟨_, rfl⟩
                  have HXL : Hid (Bt WL WS.heap.size (.slice (some ⟨g, 0, none⟩) r.length gc) (.int .i64 lo) (.int .i64 hi)) := by show Bt _ _ _ _ _; rw [← hWL]; exact Bt.new WS _ _ _ _
                  have HBSL : Hid (Below WS.heap.size WS WL) := by show Below _ _ _; rw [← hWL]; exact (Below.refl _ _).alloc (Nat.le_refl _) _
                  have HWL : Hid (Below wr.heap.size wr WL) := HWS.out.trans (HBSL.out.mono HWS.out.size)
                  obtain ⟨x0, x1, x2⟩ := And.intro HXS3.out.c0 (And.intro HXS3.out.c1 HXS3.out.c2)
                  go_wp2_with (at_builtin; (try rw [hWL]); refine wpList_pushD rfl (.tmp 71) (.tmp 73) rfl (w.heap.size + 1) _ (plTo P T rows x k) _ (r, lo, hi) (some ⟨g, 0, none⟩) gc WL rfl rfl (HOD.out.below HWL.out) HXL.out.c0 HXL.out.c1 HXL.out.c2 ((SlD.new HSW.out (fun b e => (HOD.out.lt b e).2) (Nat.le_trans HWV.out.size HVG.out)).below HBSL.out) (by have := HLEN.out; omega) (HFB.out.next HWL.out).lt ?_; intro g2 cap2 w7 ho7 hb7; have HO7 := Lib.hid ho7; have HB7 := Lib.hid hb7; clear ho7 hb7)
                  refine ⟨⟨k + 1, by omega, by rw [HNC.out, List.length_append, HLEN.out]; rfl, by rw [HNC.out]; exact HO7.out, (HFB.out.next HWL.out).keep HB7.out⟩, ?_⟩
                  show M - ((plTo P T rows x k).length + 1) < M - k
                  rw [HLEN.out]; omega
            · obtain rfl : k = M := by omega
              go_wp2
              go_ret2
              exact PPc.ok HV.out HLEN.out HFB.out.below HCS.out
        · have HV := Lib.hid (show playV p t rows x most = ([], 7) by unfold playV; rw [hv, hw, if_pos (show (true && true) = true from rfl), if_pos hs, if_neg hr])
          by_cases h1 : (rows.length : Int) < 1
          · clear hr
            go_enter Try.func49, Try.ntmps49
            go_wp2_with (first
              | (go_at_call 19; refine (vfield_any _ _ _).mono ?_; rintro e w1 ⟨rfl, hb1⟩; have F1 := Fb.next HF.out hb1; obtain ⟨k0, k1⟩ := And.intro F1.c0 F1.c1; rw [hv])
              | (go_at_call 78; refine (HVR.out _ F1).mono ?_; rintro e w2 ⟨rfl, F2⟩; obtain ⟨k2, k3⟩ := And.intro F2.c0 F2.c1)
              | (go_at_call 54; refine (HSH.out _ F2).mono ?_; rintro e w3 ⟨rfl, F3⟩; obtain ⟨k4, k5⟩ := And.intro F3.c0 F3.c1))
            all_goals go_ret2
            all_goals exact PPc.err _ HV.out F3.below
          · by_cases h2 : (20 : Int) < (rows.length : Int)
            · clear hr
              go_enter Try.func49, Try.ntmps49
              go_wp2_with (first
                | (go_at_call 19; refine (vfield_any _ _ _).mono ?_; rintro e w1 ⟨rfl, hb1⟩; have F1 := Fb.next HF.out hb1; obtain ⟨k0, k1⟩ := And.intro F1.c0 F1.c1; rw [hv])
                | (go_at_call 78; refine (HVR.out _ F1).mono ?_; rintro e w2 ⟨rfl, F2⟩; obtain ⟨k2, k3⟩ := And.intro F2.c0 F2.c1)
                | (go_at_call 54; refine (HSH.out _ F2).mono ?_; rintro e w3 ⟨rfl, F3⟩; obtain ⟨k4, k5⟩ := And.intro F3.c0 F3.c1))
              all_goals go_ret2
              all_goals exact PPc.err _ HV.out F3.below
            · by_cases h3 : most < 0
              · clear hr
                go_enter Try.func49, Try.ntmps49
                go_wp2_with (first
                  | (go_at_call 19; refine (vfield_any _ _ _).mono ?_; rintro e w1 ⟨rfl, hb1⟩; have F1 := Fb.next HF.out hb1; obtain ⟨k0, k1⟩ := And.intro F1.c0 F1.c1; rw [hv])
                  | (go_at_call 78; refine (HVR.out _ F1).mono ?_; rintro e w2 ⟨rfl, F2⟩; obtain ⟨k2, k3⟩ := And.intro F2.c0 F2.c1)
                  | (go_at_call 54; refine (HSH.out _ F2).mono ?_; rintro e w3 ⟨rfl, F3⟩; obtain ⟨k4, k5⟩ := And.intro F3.c0 F3.c1))
                all_goals go_ret2
                all_goals exact PPc.err _ HV.out F3.below
              · have h4 : 30 < most := by omega
                clear hr
                go_enter Try.func49, Try.ntmps49
                go_wp2_with (first
                  | (go_at_call 19; refine (vfield_any _ _ _).mono ?_; rintro e w1 ⟨rfl, hb1⟩; have F1 := Fb.next HF.out hb1; obtain ⟨k0, k1⟩ := And.intro F1.c0 F1.c1; rw [hv])
                  | (go_at_call 78; refine (HVR.out _ F1).mono ?_; rintro e w2 ⟨rfl, F2⟩; obtain ⟨k2, k3⟩ := And.intro F2.c0 F2.c1)
                  | (go_at_call 54; refine (HSH.out _ F2).mono ?_; rintro e w3 ⟨rfl, F3⟩; obtain ⟨k4, k5⟩ := And.intro F3.c0 F3.c1))
                all_goals go_ret2
                all_goals exact PPc.err _ HV.out F3.below
      · have HV := Lib.hid (show playV p t rows x most = ([], shownE p t x) by unfold playV; rw [hv, hw, if_pos (show (true && true) = true from rfl), if_neg hs])
        obtain ⟨se, hse⟩ : ∃ se, shownE p t x = se := ⟨_, rfl⟩
        rw [hse] at HV HSH hs
        have hs2 : (se != 0) = true := by simpa using hs
        clear hs hse
        go_enter Try.func49, Try.ntmps49
        go_wp2_with (first
          | (go_at_call 19; refine (vfield_any _ _ _).mono ?_; rintro e w1 ⟨rfl, hb1⟩; have F1 := Fb.next HF.out hb1; obtain ⟨k0, k1⟩ := And.intro F1.c0 F1.c1; rw [hv])
          | (go_at_call 78; refine (HVR.out _ F1).mono ?_; rintro e w2 ⟨rfl, F2⟩; obtain ⟨k2, k3⟩ := And.intro F2.c0 F2.c1)
          | (go_at_call 54; refine (HSH.out _ F2).mono ?_; rintro e w3 ⟨rfl, F3⟩; obtain ⟨k4, k5⟩ := And.intro F3.c0 F3.c1))
        all_goals go_ret2
        all_goals exact PPc.err _ HV.out F3.below
end Go.Proofs.Ytoedbbpjddjbnaa
/- What a game that was played leaves: its cells fit the hidden picture, and nothing parts what is left where it ended by itself. -/
namespace Go.Proofs.Ytoedbbpjddjbnaa
open Go.RowKit

theorem play_ok {p t : Int} {rows : List (List Int)} {x : List Int} {most : Int} (h : (playV p t rows x most).2 = 0) : ∃ P T M : Nat, p = (P : Int) ∧ t = (T : Int) ∧ most = (M : Int) ∧ 1 ≤ P ∧ P ≤ 8 ∧ T ≤ 3 ∧ vfB P T = true ∧ rows.all (rowB P) = true ∧ shownE P T x = 0 ∧ 1 ≤ rows.length ∧ M ≤ 30 ∧ (playV p t rows x most).1 = plTo P T rows x M := by
  unfold playV at *
  by_cases g1 : (vfB p t && rows.all (rowB p)) = true
  · rw [if_pos g1] at h ⊢
    rw [Bool.and_eq_true] at g1
    by_cases g2 : shownE p t x = 0
    · rw [if_pos g2] at h ⊢
      by_cases g3 : (1 ≤ rows.length ∧ rows.length ≤ 20) ∧ 0 ≤ most ∧ most ≤ 30
      · rw [if_pos g3]
        obtain ⟨P, T, rfl, rfl, hP1, hP, hT⟩ := vf_of g1.1
        exact ⟨P, T, most.toNat, rfl, rfl, by omega, hP1, hP, hT, g1.1, g1.2, g2, g3.1.1, by omega, by simp⟩
      · rw [if_neg g3] at h; cases h
    · rw [if_neg g2] at h; exact absurd h g2
  · rw [if_neg g1] at h; cases h
theorem play_cells {P T : Nat} {rows : List (List Int)} {x : List Int} (hv : vfB P T = true) (hw : rows.all (rowB P) = true) (hx : shownE P T x = 0) (hR : 1 ≤ rows.length) (M : Nat) : ∀ c ∈ plTo P T rows x M, (c.1.length = P ∧ okL (-1) 1 c.1 = true) ∧ limB c.2.1 c.2.2 = true ∧ c.2.1 ≤ prodL c.1 x ∧ prodL c.1 x ≤ c.2.2 :=
  plTo_ok hR (fun r hr => by
    have h := List.all_eq_true.1 hw r hr
    unfold rowB at h
    rw [Bool.and_eq_true, decide_eq_true_iff] at h
    exact ⟨by omega, h.2⟩) (fun r hr => by have := sum_bd hv hw hx r hr; omega) M
theorem play_vals {P T : Nat} {rows : List (List Int)} {x : List Int} (hv : vfB P T = true) (hw : rows.all (rowB P) = true) (hx : shownE P T x = 0) (hR : 1 ≤ rows.length) {M : Nat} (hM : M ≤ 30) : valsB P T (plTo P T rows x M) = true := by
  have h := play_cells hv hw hx hR M
  have hl := plTo_len P T rows x M
  unfold valsB
  rw [hv]
  simp only [Bool.true_and, Bool.and_eq_true, decide_eq_true_eq, List.all_eq_true]
  refine ⟨by omega, fun c hc => ?_⟩
  obtain ⟨h1, h2, _⟩ := h c hc
  unfold ccB browB
  rw [hv, h1.2, h2, decide_eq_true (by omega)]; rfl
theorem play_fits {P T : Nat} {rows : List (List Int)} {x : List Int} (hv : vfB P T = true) (hw : rows.all (rowB P) = true) (hx : shownE P T x = 0) (hR : 1 ≤ rows.length) {M : Nat} (hM : M ≤ 30) : fitsV P T (plTo P T rows x M) x = (true, 0) := by
  unfold fitsV
  rw [if_pos (play_vals hv hw hx hR hM), if_pos hx]
  have h : (plTo P T rows x M).all (inC x) = true := List.all_eq_true.2 fun c hc => by
    obtain ⟨_, _, h3, h4⟩ := play_cells hv hw hx hR M c hc
    unfold inC rangeB
    simp [h3, h4]
  rw [h]
/-- Nothing parts what is left. -/
theorem play_parts {P T : Nat} {rows : List (List Int)} {x : List Int} (hv : vfB P T = true) (hw : rows.all (rowB P) = true) (hx : shownE P T x = 0) (hR : 1 ≤ rows.length) {M : Nat} (hM : M ≤ 30) (hlt : (plTo P T rows x M).length < M) {r : List Int} (hr : r ∈ rows) {th : Int} (h1 : -99 ≤ th) (h2 : th ≤ 100) :
    ∃ A B : Nat, partsV P T (plTo P T rows x M) r th = (((A : Int), (B : Int)), 0) ∧ (A = 0 ∨ B = 0) := by
  have he := plTo_early (P := P) (T := T) (rows := rows) (x := x) M hlt
  have hvs := play_vals hv hw hx hR hM
  obtain ⟨cs, hcs⟩ : ∃ cs, plTo P T rows x M = cs := ⟨_, rfl⟩
  rw [hcs] at he hvs ⊢
  have hc : celB P T cs r = true := by
    unfold celB
    rw [hvs, vals_brow hvs]
    have h := List.all_eq_true.1 hw r hr
    unfold rowB at h
    rw [h]; rfl
  obtain ⟨i, hi⟩ := List.mem_iff_getElem?.1 hr
  have hil := (List.getElem?_eq_some_iff.1 hi).1
  have hS : smF P T cs rows i = sumsB r (fitP T P cs) := by unfold smF rowL; rw [hi]; rfl
  have hrow := bsTo_row (smF P T cs rows) rows.length hR
  have hok := halved_ok (smF P T cs rows (bsTo (smF P T cs rows) rows.length).1)
  rw [← hrow.2, smF_len] at hok
  have hle := bsTo_least (smF P T cs rows) rows.length i hil
  have hge := halved_least (smF P T cs rows i) h1 h2
  have hsum := cnt_sum (smF P T cs rows i) th
  rw [smF_len] at hsum
  unfold bestV at he
  refine ⟨cntLo (sumsB r (fitP T P cs)) th, cntHi (sumsB r (fitP T P cs)) th, ?_, ?_⟩
  · unfold partsV
    rw [if_pos hc, if_pos (show rangeB th (-100) 100 = true by unfold rangeB; simp; omega), Int.toNat_natCast, Int.toNat_natCast]
  · rw [← hS]
    unfold hvG at hge
    omega
end Go.Proofs.Ytoedbbpjddjbnaa
/- Next of the answers of layer 7, and Halve of both sides: contracts. -/
namespace Go.Proofs.Ytoedbbpjddjbnaa
open Go.RowKit

theorem smF_bs {P T : Nat} {cs : List Cl} {rows : List (List Int)} (h : 1 ≤ rows.length) : rbTo (fitP T P cs).length (fun i => sumsB (rowL rows i) (fitP T P cs)) rows.length = ((bsTo (smF P T cs rows) rows.length).1, (bsTo (smF P T cs rows) rows.length).2.1, (bsTo (smF P T cs rows) rows.length).2.2.1) :=
  rbTo_eq (fitP T P cs).length (smF P T cs rows) (smF_len P T cs rows) rows.length h
set_option maxRecDepth 100000 in
set_option maxHeartbeats 4000000 in
theorem rNext_any (p t : Int) (a : Option Addr) (cs : List Cl) (cap : Nat) (b : Option Addr) (rows : List (List Int)) (cb : Nat) (w : World) (hn : cs.length ≤ 1000000) (hlc : CLen cs) (hs : Cs w a cs) (hm : rows.length ≤ 1000000) (hl : ∀ r ∈ rows, r.length ≤ 140737488351232) (hb : Ms w b rows) :
    Calls Try.prog 44 #[.agg #[.int .i64 p, .int .i64 t], .slice a cs.length cap, .slice b rows.length cb] w fun e w' => e = .returned (.tuple #[.int .i64 (nextV p t cs rows).1, .int .i64 (nextV p t cs rows).2.1, .int .i64 (nextV p t cs rows).2.2]) ∧ Below w.heap.size w w' := by
  have HF := Lib.hid (Fb.new w p t 23)
  have HS := Lib.hid hs; clear hs
  have HLC := Lib.hid hlc; clear hlc
  have HB := Lib.hid hb; clear hb
  have HL := Lib.hid hl; clear hl
  cases hv : valsB p t cs
  · have HV := Lib.hid (show nextV p t cs rows = (0, 0, 1) by unfold nextV; rw [hv]; rfl)
    go_enter Try.func44, Try.ntmps44
    go_wp2_with (go_at_call 22; refine (rvalid_any p t a cs cap _ hn HLC.out (HF.out.below_cs HS.out)).mono ?_; rintro e w1 ⟨rfl, hb1⟩; have F1 := Fb.next HF.out hb1; obtain ⟨k0, k1⟩ := And.intro F1.c0 F1.c1; rw [hv])
    go_ret3
    exact ⟨by rw [HV.out]; rfl, F1.below⟩
  · have HVR : Hid (∀ W, Fb w p t W → Calls Try.prog 80 #[.agg #[.int .i64 p, .int .i64 t], .slice b rows.length cb] W fun e w' => e = .returned (.bool (rows.all (rowB p))) ∧ Fb w p t w') := fun W hf =>
      (rvrows_any p t b rows cb W hm HL.out (HB.out.below hf.below)).mono fun e w' ⟨k1, k2⟩ => ⟨k1, hf.next k2⟩
    cases hw : rows.all (rowB p)
    · have HV := Lib.hid (show nextV p t cs rows = (0, 0, 1) by unfold nextV; rw [hv, hw]; rfl)
      rw [hw] at HVR
      go_enter Try.func44, Try.ntmps44
      go_wp2_with (first
        | (go_at_call 22; refine (rvalid_any p t a cs cap _ hn HLC.out (HF.out.below_cs HS.out)).mono ?_; rintro e w1 ⟨rfl, hb1⟩; have F1 := Fb.next HF.out hb1; obtain ⟨k0, k1⟩ := And.intro F1.c0 F1.c1; rw [hv])
        | (go_at_call 80; refine (HVR.out _ F1).mono ?_; rintro e w2 ⟨rfl, F2⟩; obtain ⟨k2, k3⟩ := And.intro F2.c0 F2.c1))
      go_ret3
      exact ⟨by rw [HV.out]; rfl, F2.below⟩
    · rw [hw] at HVR
      by_cases hr : 1 ≤ rows.length ∧ rows.length ≤ 20
      · obtain ⟨P, T, rfl, rfl, hP1, hP, hT⟩ : ∃ P T : Nat, p = (P : Int) ∧ t = (T : Int) ∧ 1 ≤ P ∧ P ≤ 8 ∧ T ≤ 3 := by
          have h1 : vfB p t = true := by simp only [valsB, Bool.and_eq_true] at hv; exact hv.1
          exact vf_of h1
        have hin : rangeB rows.length 1 20 = true := by unfold rangeB; simp; omega
        have HVO := Lib.hid (vals_of hv).2
        have HRW : Hid (∀ r ∈ rows, r.length = P ∧ okL (-1) 1 r = true) := fun r hr => by
          have h := List.all_eq_true.1 hw r hr
          unfold rowB at h
          rw [Bool.and_eq_true, decide_eq_true_iff] at h
          exact ⟨by omega, h.2⟩
        have HRF : Hid (∀ W, Cs W a cs → Calls Try.prog 68 #[.agg #[.int .i64 P, .int .i64 T], .slice a cs.length cap] W fun e w' => ∃ va ads vc, e = .returned (.slice va (fitP T P cs).length vc) ∧ HR W.heap.size (.slice va (fitP T P cs).length vc) ads (fitP T P cs) w' ∧ Below W.heap.size W w') := fun W hW => rfitting_two P T hP hT a cs cap W hn HVO.out hW
        have HNX : Hid (∀ base va vc ads W, HR base (.slice va (fitP T P cs).length vc) ads (fitP T P cs) W → Ms W b rows → Calls Try.prog 81 #[.slice va (fitP T P cs).length vc, .slice b rows.length cb] W fun e w' => e = .returned (.tuple #[.int .i64 ((bsTo (smF P T cs rows) rows.length).1 : Nat), .int .i64 (bsTo (smF P T cs rows) rows.length).2.1, .int .i64 ((bsTo (smF P T cs rows) rows.length).2.2.1 : Nat)]) ∧ Below W.heap.size W w') := fun base va vc ads W h1 h2 => by
          have h := rnext_any hP base va vc ads (fitP T P cs) b rows cb W (by have := fitP_len hT hP cs; omega) (fun x hx => fitP_ok hT hx) (by omega) HRW.out h1 h2
          rw [smF_bs hr.1] at h
          exact h
        by_cases h0 : (fitP T P cs).length = 0
        · have HV := Lib.hid (show nextV P T cs rows = (0, 0, 8) by unfold nextV; rw [hv, hw, if_pos (show (true && true) = true from rfl), if_pos hr, Int.toNat_natCast, Int.toNat_natCast, if_pos h0])
          rw [h0] at HRF
          go_enter Try.func44, Try.ntmps44
          go_wp2_with (first
            | (go_at_call 22; refine (rvalid_any P T a cs cap _ hn HLC.out (HF.out.below_cs HS.out)).mono ?_; rintro e w1 ⟨rfl, hb1⟩; have F1 := Fb.next HF.out hb1; obtain ⟨k0, k1⟩ := And.intro F1.c0 F1.c1; rw [hv])
            | (go_at_call 80; refine (HVR.out _ F1).mono ?_; rintro e w2 ⟨rfl, F2⟩; obtain ⟨k2, k3⟩ := And.intro F2.c0 F2.c1)
            | (go_at_call 60; refine (bin_any _ _ _ _).mono ?_; rintro e w3 ⟨rfl, rfl⟩; rw [hin])
            | (go_at_call 68; refine (HRF.out _ (F2.below_cs HS.out)).mono ?_; rintro e w4 ⟨va, ads, vc, rfl, -, hb4⟩; have F4 := F2.next hb4))
          go_ret3
          exact ⟨by rw [HV.out]; rfl, F4.below⟩
        · have HV := Lib.hid (show nextV P T cs rows = (((bsTo (smF P T cs rows) rows.length).1 : Int), (bsTo (smF P T cs rows) rows.length).2.1, 0) by unfold nextV; rw [hv, hw, if_pos (show (true && true) = true from rfl), if_pos hr, Int.toNat_natCast, Int.toNat_natCast, if_neg h0])
          obtain ⟨⟨b1, b2, b3, b4⟩, hBB⟩ : ∃ B, bsTo (smF P T cs rows) rows.length = B := ⟨_, rfl⟩
          obtain ⟨N, hN⟩ : ∃ N, (fitP T P cs).length = N := ⟨_, rfl⟩
          rw [hBB] at HNX HV
          rw [hN] at HNX HRF h0
          have h4 : ((N : Int) == 0) = false := by simp; omega
          clear h0 hBB hN hw
          go_enter Try.func44, Try.ntmps44
          go_wp2_with (first
            | (go_at_call 22; refine (rvalid_any P T a cs cap _ hn HLC.out (HF.out.below_cs HS.out)).mono ?_; rintro e w1 ⟨rfl, hb1⟩; have F1 := Fb.next HF.out hb1; obtain ⟨k0, k1⟩ := And.intro F1.c0 F1.c1; rw [hv])
            | (go_at_call 80; refine (HVR.out _ F1).mono ?_; rintro e w2 ⟨rfl, F2⟩; obtain ⟨k2, k3⟩ := And.intro F2.c0 F2.c1)
            | (go_at_call 60; refine (bin_any _ _ _ _).mono ?_; rintro e w3 ⟨rfl, rfl⟩; rw [hin])
            | (go_at_call 68; refine (HRF.out _ (F2.below_cs HS.out)).mono ?_; rintro e w4 ⟨va, ads, vc, rfl, hr4, hb4⟩; have F4 := F2.next hb4; have HR4 := Lib.hid hr4; clear hr4)
            | (go_at_call 81; refine (HNX.out _ _ _ _ _ HR4.out (HB.out.below F4.below)).mono ?_; rintro e w5 ⟨rfl, hb5⟩; have F5 := F4.next hb5))
          go_ret3
          exact ⟨by rw [HV.out]; rfl, F5.below⟩
      · have HV := Lib.hid (show nextV p t cs rows = (0, 0, 7) by unfold nextV; rw [hv, hw, if_pos (show (true && true) = true from rfl), if_neg hr])
        have hin : rangeB rows.length 1 20 = false := by unfold rangeB; simp; omega
        clear hr
        go_enter Try.func44, Try.ntmps44
        go_wp2_with (first
          | (go_at_call 22; refine (rvalid_any p t a cs cap _ hn HLC.out (HF.out.below_cs HS.out)).mono ?_; rintro e w1 ⟨rfl, hb1⟩; have F1 := Fb.next HF.out hb1; obtain ⟨k0, k1⟩ := And.intro F1.c0 F1.c1; rw [hv])
          | (go_at_call 80; refine (HVR.out _ F1).mono ?_; rintro e w2 ⟨rfl, F2⟩; obtain ⟨k2, k3⟩ := And.intro F2.c0 F2.c1)
          | (go_at_call 60; refine (bin_any _ _ _ _).mono ?_; rintro e w3 ⟨rfl, rfl⟩; rw [hin]))
        go_ret3
        exact ⟨by rw [HV.out]; rfl, F2.below⟩
/-- What Halve is answered with. -/
def halveV (p t : Int) (cs : List Cl) (row : List Int) : Int × Int :=
  if celB p t cs row = true then (if (fitP t.toNat p.toNat cs).length = 0 then (0, 8) else ((halved (sumsB row (fitP t.toNat p.toNat cs))).1, 0)) else (0, 1)
theorem halveV_next {p t : Int} {cs : List Cl} {row : List Int} : (nextV p t cs [row]).2 = halveV p t cs row := by
  have e : (valsB p t cs && [row].all (rowB p)) = celB p t cs row := by
    unfold celB
    cases hv : valsB p t cs
    · rfl
    · rw [vals_brow hv]; simp [rowB]
  unfold nextV halveV
  rw [e]
  by_cases hc : celB p t cs row = true
  · rw [if_pos hc, if_pos hc, if_pos ⟨by simp, by simp⟩]
    split
    · rfl
    · show ((bsTo _ 1).2.1, (0 : Int)) = _
      unfold bsTo
      rw [if_pos (.inl rfl)]
      rfl
  · rw [if_neg hc, if_neg hc]
set_option maxRecDepth 100000 in
set_option maxHeartbeats 2000000 in
theorem bHalve_any (p t : Int) (a : Option Addr) (cs : List Cl) (cap : Nat) (b : Option Addr) (row : List Int) (cb : Nat) (w : World) (hn : cs.length ≤ 1000000) (hlc : CLen cs) (hs : Cs w a cs) (hl : row.length ≤ 140737488351232) (hb : Sl w b row) :
    Calls Try.prog 41 #[.agg #[.int .i64 p, .int .i64 t], .slice a cs.length cap, .slice b row.length cb] w fun e w' => e = .returned (.tuple #[.int .i64 (halveV p t cs row).1, .int .i64 (halveV p t cs row).2]) ∧ Below w.heap.size w w' := by
  have HF := Lib.hid (Fb.new w p t 23)
  have HBB := Lib.hid ((Below.refl (w.alloc (.cells #[.int .i64 p, .int .i64 t] 23)).heap.size (w.alloc (.cells #[.int .i64 p, .int .i64 t] 23))).alloc (Nat.le_refl _) (.cells #[.slice b row.length cb] 25))
  have hF2 := HF.out.next HBB.out
  have HNX := Lib.hid (bnext_any p t a cs cap (some ⟨w.heap.size + 1, 0, none⟩) [row] 1 ((w.alloc (.cells #[.int .i64 p, .int .i64 t] 23)).alloc (.cells #[.slice b row.length cb] 25)) hn hlc (hF2.below_cs hs) (by simp) (fun r hr => by rw [List.mem_singleton.1 hr]; exact hl) (by
    have h := ms_one (w.alloc (.cells #[.int .i64 p, .int .i64 t] 23)) b row cb 25 (HF.out.sl hb)
    rw [World.size_alloc] at h; exact h))
  rw [show ([row] : List (List Int)).length = 1 from rfl, show (nextV p t cs [row]).2.1 = (halveV p t cs row).1 from congrArg (·.1) halveV_next, show (nextV p t cs [row]).2.2 = (halveV p t cs row).2 from congrArg (·.2) halveV_next] at HNX
  have HF2 := Lib.hid hF2
  clear hs hlc hb hF2
  go_enter Try.func41, Try.ntmps41
  go_wp2_with (go_at_call 43; refine HNX.out.mono ?_; rintro e w1 ⟨rfl, hb1⟩; have F1 := HF2.out.next hb1)
  go_ret2
  exact ⟨rfl, F1.below⟩
set_option maxRecDepth 100000 in
set_option maxHeartbeats 2000000 in
theorem rHalve_any (p t : Int) (a : Option Addr) (cs : List Cl) (cap : Nat) (b : Option Addr) (row : List Int) (cb : Nat) (w : World) (hn : cs.length ≤ 1000000) (hlc : CLen cs) (hs : Cs w a cs) (hl : row.length ≤ 140737488351232) (hb : Sl w b row) :
    Calls Try.prog 42 #[.agg #[.int .i64 p, .int .i64 t], .slice a cs.length cap, .slice b row.length cb] w fun e w' => e = .returned (.tuple #[.int .i64 (halveV p t cs row).1, .int .i64 (halveV p t cs row).2]) ∧ Below w.heap.size w w' := by
  have HF := Lib.hid (Fb.new w p t 23)
  have HS := Lib.hid hs; clear hs
  have HLC := Lib.hid hlc; clear hlc
  have HB := Lib.hid hb; clear hb
  have HCE : Hid (∀ W, Fb w p t W → Calls Try.prog 74 #[.agg #[.int .i64 p, .int .i64 t], .slice a cs.length cap, .slice b row.length cb] W fun e w' => e = .returned (.int .i64 (celE p t cs row)) ∧ Fb w p t w') := fun W hf => (celled_any p t a cs cap b row cb W hn HLC.out (hf.below_cs HS.out) hl (hf.sl HB.out)).mono fun e w' ⟨k1, k2⟩ => ⟨k1, hf.next k2⟩
  cases hc : celB p t cs row
  · have HV := Lib.hid (show halveV p t cs row = (0, 1) by unfold halveV; rw [hc]; rfl)
    have hce : celE p t cs row = 1 := by unfold celE; rw [hc]; rfl
    rw [hce] at HCE
    clear hce
    go_enter Try.func42, Try.ntmps42
    go_wp2_with (go_at_call 74; refine (HCE.out _ HF.out).mono ?_; rintro e w1 ⟨rfl, F1⟩; obtain ⟨k0, k1⟩ := And.intro F1.c0 F1.c1)
    go_ret2
    exact ⟨by rw [HV.out]; rfl, F1.below⟩
  · have hce : celE p t cs row = 0 := by unfold celE; rw [hc]; rfl
    rw [hce] at HCE
    clear hce
    obtain ⟨P, T, rfl, rfl, hP1, hP, hT, hv, hrl, hrk⟩ := cel_row hc
    have HVO := Lib.hid (vals_of hv).2
    have HRF : Hid (∀ W, Cs W a cs → Calls Try.prog 68 #[.agg #[.int .i64 P, .int .i64 T], .slice a cs.length cap] W fun e w' => ∃ va ads vc, e = .returned (.slice va (fitP T P cs).length vc) ∧ HR W.heap.size (.slice va (fitP T P cs).length vc) ads (fitP T P cs) w' ∧ Below W.heap.size W w') := fun W hW => rfitting_two P T hP hT a cs cap W hn HVO.out hW
    have HHV : Hid (∀ base va vc ads W, HR base (.slice va (fitP T P cs).length vc) ads (fitP T P cs) W → Sl W b row → Calls Try.prog 77 #[.slice va (fitP T P cs).length vc, .slice b row.length cb] W fun e w' => e = .returned (.tuple #[.int .i64 (halved (sumsB row (fitP T P cs))).1, .int .i64 ((halved (sumsB row (fitP T P cs))).2.1 : Nat)]) ∧ Below W.heap.size W w') := fun base va vc ads W h1 h2 => by
      have h := rhalve_any hP base va vc ads (fitP T P cs) b row cb W (by have := fitP_len hT hP cs; omega) (fun x hx => fitP_ok hT hx) ⟨hrl, hrk⟩ h1 h2
      simp only [rh_eq] at h; exact h
    by_cases h0 : (fitP T P cs).length = 0
    · have HV := Lib.hid (show halveV P T cs row = (0, 8) by unfold halveV; rw [if_pos hc, Int.toNat_natCast, Int.toNat_natCast, if_pos h0])
      rw [h0] at HRF
      clear HHV h0 hc hv hrl hrk HVO
      go_enter Try.func42, Try.ntmps42
      go_wp2_with (first
        | (go_at_call 74; refine (HCE.out _ HF.out).mono ?_; rintro e w1 ⟨rfl, F1⟩; obtain ⟨k0, k1⟩ := And.intro F1.c0 F1.c1)
        | (go_at_call 68; refine (HRF.out _ (F1.below_cs HS.out)).mono ?_; rintro e w4 ⟨va, ads, vc, rfl, -, hb4⟩; have F4 := F1.next hb4))
      go_ret2
      exact ⟨by rw [HV.out]; rfl, F4.below⟩
    · have HV := Lib.hid (show halveV P T cs row = ((halved (sumsB row (fitP T P cs))).1, 0) by unfold halveV; rw [if_pos hc, Int.toNat_natCast, Int.toNat_natCast, if_neg h0])
      obtain ⟨⟨b1, b2, b3⟩, hBB⟩ : ∃ B, halved (sumsB row (fitP T P cs)) = B := ⟨_, rfl⟩
      obtain ⟨N, hN⟩ : ∃ N, (fitP T P cs).length = N := ⟨_, rfl⟩
      rw [hBB] at HHV HV
      rw [hN] at HHV HRF h0
      have h4 : ((N : Int) == 0) = false := by simp; omega
      clear h0 hBB hN hv hc hrl hrk HVO
      go_enter Try.func42, Try.ntmps42
      go_wp2_with (first
        | (go_at_call 74; refine (HCE.out _ HF.out).mono ?_; rintro e w1 ⟨rfl, F1⟩; obtain ⟨k0, k1⟩ := And.intro F1.c0 F1.c1)
        | (go_at_call 68; refine (HRF.out _ (F1.below_cs HS.out)).mono ?_; rintro e w4 ⟨va, ads, vc, rfl, hr4, hb4⟩; have F4 := F1.next hb4; have HR4 := Lib.hid hr4; clear hr4)
        | (go_at_call 77; refine (HHV.out _ _ _ _ _ HR4.out (F4.sl HB.out)).mono ?_; rintro e w5 ⟨rfl, hb5⟩; have F5 := F4.next hb5))
      go_ret2
      exact ⟨by rw [HV.out]; rfl, F5.below⟩
end Go.Proofs.Ytoedbbpjddjbnaa
