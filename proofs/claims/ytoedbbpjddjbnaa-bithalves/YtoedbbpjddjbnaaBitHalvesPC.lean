/- Parts of the proof of BitHalves: plain words, walks and contracts, each under its own heading. -/
import Derived.Test.YtoedbbpjddjbnaaBitHalvesPB
import Derived.Test.YtoedbbpjddjbnaaBitHalvesPA
/- Parts of layer 7 and of its answers: contracts. -/
namespace Go.Proofs.Ytoedbbpjddjbnaa
open Go.RowKit

/-- The sums of a row times some pictures. -/
def sumsB (row : List Int) (L : List (List Int)) : List Int := L.map fun x => prodL row x
def celB (p t : Int) (cs : List Cl) (row : List Int) : Bool := valsB p t cs && browB p t row
def partsV (p t : Int) (cs : List Cl) (row : List Int) (th : Int) : (Int × Int) × Int :=
  if celB p t cs row = true then (if rangeB th (-100) 100 = true then (((cntLo (sumsB row (fitP t.toNat p.toNat cs)) th : Int), (cntHi (sumsB row (fitP t.toNat p.toNat cs)) th : Int)), 0) else ((0, 0), 7)) else ((0, 0), 1)
/-- Those of the first k pictures. -/
def paLo (row : List Int) (L : List (List Int)) (th : Int) (k : Nat) : Nat := cntLo (sumsB row (L.take k)) th
def paHi (row : List Int) (L : List (List Int)) (th : Int) (k : Nat) : Nat := cntHi (sumsB row (L.take k)) th
theorem pa_yes {row x : List Int} {L : List (List Int)} {th : Int} {k : Nat} (h : L[k]? = some x) (hx : prodL row x < th) : paLo row L th (k + 1) = paLo row L th k + 1 ∧ paHi row L th (k + 1) = paHi row L th k := by
  unfold paLo paHi cntLo cntHi sumsB
  rw [List.take_add_one, h, Option.toList_some, List.map_append, List.filter_append, List.filter_append]
  simp [hx]
theorem pa_no {row x : List Int} {L : List (List Int)} {th : Int} {k : Nat} (h : L[k]? = some x) (hx : ¬ prodL row x < th) : paLo row L th (k + 1) = paLo row L th k ∧ paHi row L th (k + 1) = paHi row L th k + 1 := by
  unfold paLo paHi cntLo cntHi sumsB
  rw [List.take_add_one, h, Option.toList_some, List.map_append, List.filter_append, List.filter_append]
  simp [hx]
theorem pa_le (row : List Int) (L : List (List Int)) (th : Int) (k : Nat) : paLo row L th k ≤ L.length ∧ paHi row L th k ≤ L.length := by
  unfold paLo paHi cntLo cntHi sumsB
  have h : (List.map (fun x => prodL row x) (L.take k)).length ≤ L.length := by rw [List.length_map, List.length_take]; omega
  exact ⟨Nat.le_trans (List.length_filter_le _ _) h, Nat.le_trans (List.length_filter_le _ _) h⟩
set_option maxRecDepth 100000 in
set_option maxHeartbeats 1000000 in
theorem rparts_any {P : Nat} (hP : P ≤ 8) (base : Nat) (va : Option Addr) (vc : Nat) (ads : List (Option Addr × Nat)) (L : List (List Int)) (a : Option Addr) (row : List Int) (ca : Nat) (th : Int) (w : World) (hl : L.length ≤ 1000000) (hL : ∀ x ∈ L, x.length = P ∧ okL 0 3 x = true) (hrow : row.length = P ∧ okL (-1) 1 row = true) (hr : HR base (.slice va L.length vc) ads L w) (ha : Sl w a row) :
    Calls Try.prog 75 #[.slice va L.length vc, .slice a row.length ca, .int .i64 th] w fun e w' => e = .returned (.tuple #[.int .i64 (cntLo (sumsB row L) th : Int), .int .i64 (cntHi (sumsB row L) th : Int)]) ∧ Below w.heap.size w w' := by
  have HRR := Lib.hid hr; clear hr
  have HA := Lib.hid ha; clear ha
  have HLL := Lib.hid hL; clear hL
  have HROW := Lib.hid hrow; clear hrow
  obtain ⟨N, hN⟩ : ∃ N, L.length = N := ⟨_, rfl⟩
  have HNL := Lib.hid hN
  rw [hN] at hl
  simp only [hN]
  clear hN
  go_enter Try.func75, Try.ntmps75
  go_wp2
  go_loop [6, 7, 9, 12] (fun v6 v7 _ i => ∃ k : Nat, k ≤ N ∧ i = .int .i64 k ∧ v6 = .int .i64 (paLo row L th k : Int) ∧ v7 = .int .i64 (paHi row L th k : Int)) (fun _ _ _ i => N - (intOf i).toNat)
  case atStart => exact ⟨0, Nat.zero_le _, rfl, rfl, rfl⟩
  case round =>
    obtain ⟨k, hk, rfl, rfl, rfl⟩ := hrel
    have hb := pa_le row L th k
    rw [HNL.out] at hb
    by_cases hlt : k < N
    · obtain ⟨g, rfl⟩ : ∃ g, va = some ⟨g, 0, none⟩ := by
        have h1 := HRR.out
        rcases h1.shape with ⟨_, e⟩ | ⟨g, c, e, _⟩
        · have h2 := HNL.out; rw [e] at h2; simp at h2; omega
        · exact ⟨g, by simpa using congrArg (fun v => match v with | .slice a _ _ => a | _ => none) e⟩
      obtain ⟨ra, rc, _, hcell, _, hsl, _⟩ := HRR.out.at (i := k) (by rw [HNL.out]; exact hlt)
      obtain ⟨x, hx⟩ : ∃ x, L[k]? = some x := ⟨L[k]'(by rw [HNL.out]; exact hlt), by simp⟩
      rw [rowL_some hx] at hcell hsl
      have hxr := HLL.out x (List.mem_of_getElem? hx)
      have HPR := Lib.hid (rsum_any a row ca ra x rc w (by rw [HROW.out.1]; exact hP) (by rw [HROW.out.1, hxr.1]) HROW.out.2 hxr.2 HA.out hsl)
      by_cases ht : prodL row x < th
      · have HE := Lib.hid (pa_yes hx ht)
        clear hx hxr hsl
        generalize paLo row L th k = A at *
        generalize paHi row L th k = B at *
        go_wp2_with (go_at_call 58; refine HPR.out.mono ?_; rintro e w9 ⟨rfl, rfl⟩)
        exact ⟨⟨k + 1, by omega, by go_num, by (rw [HE.out.1]; try rw [Int.natCast_add]; try rfl), by (rw [HE.out.2]; try rw [Int.natCast_add]; try rfl)⟩, by simp [intOf]; omega⟩
      · have HE := Lib.hid (pa_no hx ht)
        clear hx hxr hsl
        generalize paLo row L th k = A at *
        generalize paHi row L th k = B at *
        go_wp2_with (go_at_call 58; refine HPR.out.mono ?_; rintro e w9 ⟨rfl, rfl⟩)
        exact ⟨⟨k + 1, by omega, by go_num, by (rw [HE.out.1]; try rw [Int.natCast_add]; try rfl), by (rw [HE.out.2]; try rw [Int.natCast_add]; try rfl)⟩, by simp [intOf]; omega⟩
    · obtain rfl : N = k := by omega
      have HE : Hid (paLo row L th N = cntLo (sumsB row L) th ∧ paHi row L th N = cntHi (sumsB row L) th) := by
        show _ ∧ _
        unfold paLo paHi
        rw [List.take_of_length_le (by rw [HNL.out]; exact Nat.le_refl _)]
        exact ⟨rfl, rfl⟩
      go_wp2
      go_ret2
      exact ⟨by rw [← HE.out.1, ← HE.out.2]; rfl, Below.refl _ _⟩
theorem ms_one (W : World) (a : Option Addr) (row : List Int) (ca : Nat) (ty : TypeId) (hs : Sl W a row) : Ms (W.alloc (.cells #[.slice a row.length ca] ty)) (some ⟨W.heap.size, 0, none⟩) [row] := by
  intro i hi
  match i, hi with
  | 0, _ => exact ⟨W.heap.size, 0, a, ca, rfl, alloc_cell _ _ _ _ _ rfl, hs.alloc _⟩
theorem fitP_ok {T P : Nat} (hT : T ≤ 3) {cs : List Cl} {x : List Int} (hx : x ∈ fitP T P cs) : x.length = P ∧ okL 0 3 x = true := dig_ok hT (List.mem_filter.1 hx).1
/-- counts of one row, asked of the pictures that fit. -/
theorem counts_fit (P T : Nat) (hP1 : 1 ≤ P) (hP : P ≤ 8) (hT : T ≤ 3) (a : Option Addr) (cs : List Cl) (cap : Nat) (hn : cs.length ≤ 1000000) (hv : ∀ c ∈ cs, c.1.length = P ∧ okL (-1) 1 c.1 = true) (F : Nat) (w0 w : World) (hcs : Cs w0 a cs) (hw0 : Below w0.heap.size w0 w)
    (h0 : w.cell? ⟨F, 0, none⟩ = some (.int .i64 P)) (h1 : w.cell? ⟨F, 1, none⟩ = some (.int .i64 T)) (hq : w.cell? ⟨F + 1, 0, none⟩ = some (.slice a cs.length cap)) (ra : Option Addr) (rows : List (List Int)) (rc : Nat) (hR : rows.length ≤ 1000) (hrow : ∀ r ∈ rows, r.length = P ∧ okL (-1) 1 r = true) (hr : Ms w ra rows) :
    Calls Try.prog 73 #[.func (.func 95) #[] #[.pointer (some ⟨F, 0, none⟩), .pointer (some ⟨F + 1, 0, none⟩)], .slice ra rows.length rc] w fun e w' => ∃ X, e = .returned (.slice (some ⟨w.heap.size + 1, 0, none⟩) rows.length rows.length) ∧ CoI w X rows.length ra rc (fun i => (fitP T P cs).map fun x => prodL (rowL rows i) x) w' := by
  have l1 : F < w.heap.size := cell_lt h0
  have l2 : F + 1 < w.heap.size := cell_lt hq
  refine counts_any hP 95 #[.pointer (some ⟨F, 0, none⟩), .pointer (some ⟨F + 1, 0, none⟩)] (enters_of Try.func95 (by kernel_rfl) rfl) (fitP T P cs) (fitP_len hT hP cs) (fun x hx => fitP_ok hT hx) _ w w (fitting1_seq P T F (F + 1) hP1 hP hT a cs cap hn hv w0 w hcs hw0 h0 h1 hq) (Below.refl _ _) ?_ ra rows rc hR hrow hr
  rintro b (hb | rfl | rfl)
  · exact Nat.lt_of_lt_of_le hb hw0.size
  · exact l1
  · exact l2
theorem cel_row {p t : Int} {cs : List Cl} {row : List Int} (h : celB p t cs row = true) : ∃ P T : Nat, p = (P : Int) ∧ t = (T : Int) ∧ 1 ≤ P ∧ P ≤ 8 ∧ T ≤ 3 ∧ valsB P T cs = true ∧ row.length = P ∧ okL (-1) 1 row = true := by
  unfold celB at h
  rw [Bool.and_eq_true] at h
  obtain ⟨P, T, rfl, rfl, h1, h2, h3⟩ := vals_field h.1
  obtain ⟨_, _, _, _, q, q2⟩ := brow_of h.2
  exact ⟨P, T, rfl, rfl, h1, h2, h3, h.1, by omega, q2⟩
set_option maxRecDepth 100000 in
set_option maxHeartbeats 2000000 in
theorem bparts_any (p t : Int) (a : Option Addr) (cs : List Cl) (cap : Nat) (b : Option Addr) (row : List Int) (cb : Nat) (th : Int) (w : World) (hn : cs.length ≤ 1000000) (hlc : CLen cs) (hs : Cs w a cs) (hl : row.length ≤ 140737488351232) (hb : Sl w b row) :
    Calls Try.prog 34 #[.agg #[.int .i64 p, .int .i64 t], .slice a cs.length cap, .slice b row.length cb, .int .i64 th] w fun e w' => e = .returned (.tuple #[.int .i64 (partsV p t cs row th).1.1, .int .i64 (partsV p t cs row th).1.2, .int .i64 (partsV p t cs row th).2]) ∧ Below w.heap.size w w' := by
  have HF := Lib.hid (Fb.new w p t 23)
  have HS := Lib.hid hs; clear hs
  have HLC := Lib.hid hlc; clear hlc
  have HB := Lib.hid hb; clear hb
  cases hv : valsB p t cs
  · have HV := Lib.hid (show partsV p t cs row th = ((0, 0), 1) by unfold partsV celB; rw [hv]; rfl)
    go_enter Try.func34, Try.ntmps34
    go_wp2_with (go_at_call 21; refine (bvalid_any p t a cs cap _ hn HLC.out (HF.out.below_cs HS.out)).mono ?_; rintro e w1 ⟨rfl, hb1⟩; have F1 := Fb.next HF.out hb1; obtain ⟨k0, k1⟩ := And.intro F1.c0 F1.c1; rw [hv])
    go_ret3
    exact ⟨by rw [HV.out]; rfl, F1.below⟩
  · cases hw : browB p t row
    · have HV := Lib.hid (show partsV p t cs row th = ((0, 0), 1) by unfold partsV celB; rw [hv, hw]; rfl)
      go_enter Try.func34, Try.ntmps34
      go_wp2_with (first
        | (go_at_call 21; refine (bvalid_any p t a cs cap _ hn HLC.out (HF.out.below_cs HS.out)).mono ?_; rintro e w1 ⟨rfl, hb1⟩; have F1 := Fb.next HF.out hb1; obtain ⟨k0, k1⟩ := And.intro F1.c0 F1.c1; rw [hv])
        | (go_at_call 53; refine (vrow_any p t b row cb _ hl (F1.sl HB.out)).mono ?_; rintro e w2 ⟨rfl, hb2⟩; have F2 := Fb.next F1 hb2; obtain ⟨k2, k3⟩ := And.intro F2.c0 F2.c1; rw [hw]))
      go_ret3
      exact ⟨by rw [HV.out]; rfl, F2.below⟩
    · have hc : celB p t cs row = true := by unfold celB; rw [hv, hw]; rfl
      by_cases ht : -100 ≤ th ∧ th ≤ 100
      case neg =>
        have HV := Lib.hid (show partsV p t cs row th = ((0, 0), 7) by unfold partsV; rw [if_pos hc, if_neg (by simp [rangeB]; omega)])
        have HT : Hid (th < -100 ∨ (¬ th < -100 ∧ 100 < th)) := by show _ ∨ _; omega
        clear ht hc
        rcases HT.out with h1 | ⟨h1, h2⟩
        all_goals
          go_enter Try.func34, Try.ntmps34
          go_wp2_with (first
            | (go_at_call 21; refine (bvalid_any p t a cs cap _ hn HLC.out (HF.out.below_cs HS.out)).mono ?_; rintro e w1 ⟨rfl, hb1⟩; have F1 := Fb.next HF.out hb1; obtain ⟨k0, k1⟩ := And.intro F1.c0 F1.c1; rw [hv])
            | (go_at_call 53; refine (vrow_any p t b row cb _ hl (F1.sl HB.out)).mono ?_; rintro e w2 ⟨rfl, hb2⟩; have F2 := Fb.next F1 hb2; obtain ⟨k2, k3⟩ := And.intro F2.c0 F2.c1; rw [hw]))
          go_ret3
          exact ⟨by rw [HV.out]; rfl, F2.below⟩
      case pos =>
        obtain ⟨P, T, rfl, rfl, hP1, hP, hT, _, hrl, hrk⟩ := cel_row hc
        have HV := Lib.hid (show partsV P T cs row th = (((cntLo (sumsB row (fitP T P cs)) th : Int), (cntHi (sumsB row (fitP T P cs)) th : Int)), 0) by unfold partsV; rw [if_pos hc, if_pos (by simp [rangeB]; omega), Int.toNat_natCast, Int.toNat_natCast])
        have HVO := Lib.hid (vals_of hv).2
        have HRW : Hid (∀ r ∈ [row], r.length = P ∧ okL (-1) 1 r = true) := fun r hr => by rw [List.mem_singleton.1 hr]; exact ⟨hrl, hrk⟩
        have HZ : Hid ((sumsB row (fitP T P cs)).length ≤ 1000000) := by show _ ≤ _; unfold sumsB; rw [List.length_map]; have := fitP_len hT hP cs; omega
        have HCT : Hid (∀ W, Fb w P T W → Calls Try.prog 73 #[.func (.func 95) #[] #[.pointer (some ⟨W.heap.size, 0, none⟩), .pointer (some ⟨W.heap.size + 1, 0, none⟩)], .slice (some ⟨W.heap.size + 1 + 1, 0, none⟩) 1 1] (((W.alloc (.cells #[.int .i64 P, .int .i64 T] 23)).alloc (.cells #[.slice a cs.length cap] 24)).alloc (.cells #[.slice b row.length cb] 25)) fun e w' => ∃ G M, e = .returned (.slice (some ⟨G, 0, none⟩) 1 1) ∧ w'.cell? ⟨G, 0, none⟩ = some (.map (some M)) ∧ OC w' M (sumsB row (fitP T P cs)) ∧ Below W.heap.size W w') := fun W hf => by
          obtain ⟨A, hA⟩ : ∃ A, W.alloc (.cells #[.int .i64 P, .int .i64 T] 23) = A := ⟨_, rfl⟩
          obtain ⟨B, hB⟩ : ∃ B, A.alloc (.cells #[.slice a cs.length cap] 24) = B := ⟨_, rfl⟩
          obtain ⟨D, hD⟩ : ∃ D, B.alloc (.cells #[.slice b row.length cb] 25) = D := ⟨_, rfl⟩
          rw [hA, hB, hD]
          have sA : A.heap.size = W.heap.size + 1 := by rw [← hA]; exact World.size_alloc _ _
          have sB : B.heap.size = W.heap.size + 1 + 1 := by rw [← hB, World.size_alloc, sA]
          have bA : Below W.heap.size W A := by rw [← hA]; exact (Below.refl _ _).alloc (Nat.le_refl _) _
          have bB : Below A.heap.size A B := by rw [← hB]; exact (Below.refl _ _).alloc (Nat.le_refl _) _
          have bD : Below B.heap.size B D := by rw [← hD]; exact (Below.refl _ _).alloc (Nat.le_refl _) _
          have bWB : Below W.heap.size W B := bA.trans (bB.mono bA.size)
          have bWD : Below W.heap.size W D := bWB.trans (bD.mono bWB.size)
          have bAD : Below A.heap.size A D := bB.trans (bD.mono bB.size)
          have f0 : A.cell? ⟨W.heap.size, 0, none⟩ = some (.int .i64 P) := by rw [← hA]; exact alloc_cell _ _ _ _ _ rfl
          have f1 : A.cell? ⟨W.heap.size, 1, none⟩ = some (.int .i64 T) := by rw [← hA]; exact alloc_cell _ _ _ _ _ rfl
          have f2 : B.cell? ⟨W.heap.size + 1, 0, none⟩ = some (.slice a cs.length cap) := by rw [← hB, ← sA]; exact alloc_cell _ _ _ _ _ rfl
          have ms : Ms D (some ⟨W.heap.size + 1 + 1, 0, none⟩) [row] := by
            have h := ms_one B b row cb 25 (((hf.sl HB.out).below bA).below bB)
            rw [hD, sB] at h; exact h
          refine (counts_fit P T hP1 hP hT a cs cap hn HVO.out W.heap.size w D HS.out (hf.below.trans (bWD.mono hf.below.size)) ((bAD.cell (p := ⟨W.heap.size, 0, none⟩) (cell_lt f0)).trans f0) ((bAD.cell (p := ⟨W.heap.size, 1, none⟩) (cell_lt f1)).trans f1) ((bD.cell (p := ⟨W.heap.size + 1, 0, none⟩) (cell_lt f2)).trans f2) (some ⟨W.heap.size + 1 + 1, 0, none⟩) [row] 1 (by simp) HRW.out ms).mono ?_
          rintro e w' ⟨X, rfl, hc⟩
          exact ⟨D.heap.size + 1, X + 1 + 0, rfl, hc.cG 0 (by simp), hc.mp 0 (by simp), bWD.trans (hc.bw.mono bWD.size)⟩
        have HSD : Hid (∀ W M, OC W M (sumsB row (fitP T P cs)) → Calls Try.prog 72 #[.map (some M), .int .i64 th] W fun e w' => e = .returned (.tuple #[.int .i64 (cntLo (sumsB row (fitP T P cs)) th : Int), .int .i64 (cntHi (sumsB row (fitP T P cs)) th : Int)]) ∧ Below W.heap.size W w') := fun W M ⟨n, D, _, h2, h3⟩ => sides_any M n D _ th W HZ.out h2 h3
        obtain ⟨ht1, ht2⟩ := ht
        clear hc hrl hrk
        go_enter Try.func34, Try.ntmps34
        go_wp2_with (first
          | (go_at_call 21; refine (bvalid_any P T a cs cap _ hn HLC.out (HF.out.below_cs HS.out)).mono ?_; rintro e w1 ⟨rfl, hb1⟩; have F1 := Fb.next HF.out hb1; obtain ⟨k0, k1⟩ := And.intro F1.c0 F1.c1; rw [hv])
          | (go_at_call 53; refine (vrow_any P T b row cb _ hl (F1.sl HB.out)).mono ?_; rintro e w2 ⟨rfl, hb2⟩; have F2 := Fb.next F1 hb2; obtain ⟨k2, k3⟩ := And.intro F2.c0 F2.c1; rw [hw])
          | (go_at_call 67; refine (fittingmk_any _ _ _ _ _ _).mono ?_; rintro e w3 ⟨rfl, rfl⟩)
          | (go_at_call 73; refine (HCT.out _ F2).mono ?_; rintro e w4 ⟨G, M, rfl, hg, hoc, hb4⟩; have F4 := F2.next hb4; have HOC := Lib.hid hoc; clear hoc)
          | (go_at_call 72; refine (HSD.out _ _ HOC.out).mono ?_; rintro e w5 ⟨rfl, hb5⟩; have F5 := F4.next hb5))
        go_ret3
        exact ⟨by rw [HV.out]; rfl, F5.below⟩
theorem vals_brow {p t : Int} {cs : List Cl} {row : List Int} (h : valsB p t cs = true) : browB p t row = (decide ((row.length : Int) = p) && okL (-1) 1 row) := by
  unfold valsB at h
  rw [Bool.and_eq_true] at h
  unfold browB; rw [h.1]; rfl
def celE (p t : Int) (cs : List Cl) (row : List Int) : Int := if celB p t cs row = true then 0 else 1
set_option maxRecDepth 100000 in
theorem celled_any (p t : Int) (a : Option Addr) (cs : List Cl) (cap : Nat) (b : Option Addr) (row : List Int) (cb : Nat) (w : World) (hn : cs.length ≤ 1000000) (hlc : CLen cs) (hs : Cs w a cs) (hl : row.length ≤ 140737488351232) (hb : Sl w b row) :
    Calls Try.prog 74 #[.agg #[.int .i64 p, .int .i64 t], .slice a cs.length cap, .slice b row.length cb] w fun e w' => e = .returned (.int .i64 (celE p t cs row)) ∧ Below w.heap.size w w' := by
  have HF := Lib.hid (Fb.new w p t 23)
  have HS := Lib.hid hs; clear hs
  have HLC := Lib.hid hlc; clear hlc
  have HB := Lib.hid hb; clear hb
  cases hv : valsB p t cs
  · have HV := Lib.hid (show celE p t cs row = 1 by unfold celE celB; rw [hv]; rfl)
    go_enter Try.func74, Try.ntmps74
    go_wp2_with (go_at_call 22; refine (rvalid_any p t a cs cap _ hn HLC.out (HF.out.below_cs HS.out)).mono ?_; rintro e w1 ⟨rfl, hb1⟩; have F1 := Fb.next HF.out hb1; obtain ⟨k0, k1⟩ := And.intro F1.c0 F1.c1; rw [hv])
    go_ret
    exact ⟨by rw [HV.out]; rfl, F1.below⟩
  · have HQ := Lib.hid (vals_brow (row := row) hv)
    cases hw : browB p t row
    · have HV := Lib.hid (show celE p t cs row = 1 by unfold celE celB; rw [hv, hw]; rfl)
      rw [hw] at HQ
      go_enter Try.func74, Try.ntmps74
      go_wp2_with (first
        | (go_at_call 22; refine (rvalid_any p t a cs cap _ hn HLC.out (HF.out.below_cs HS.out)).mono ?_; rintro e w1 ⟨rfl, hb1⟩; have F1 := Fb.next HF.out hb1; obtain ⟨k0, k1⟩ := And.intro F1.c0 F1.c1; rw [hv])
        | (go_at_call 90; refine (rvrow_any p b row cb _ hl (F1.sl HB.out)).mono ?_; rintro e w2 ⟨rfl, rfl⟩; rw [← HQ.out]))
      go_ret
      exact ⟨by rw [HV.out]; rfl, F1.below⟩
    · have HV := Lib.hid (show celE p t cs row = 0 by unfold celE celB; rw [hv, hw]; rfl)
      rw [hw] at HQ
      go_enter Try.func74, Try.ntmps74
      go_wp2_with (first
        | (go_at_call 22; refine (rvalid_any p t a cs cap _ hn HLC.out (HF.out.below_cs HS.out)).mono ?_; rintro e w1 ⟨rfl, hb1⟩; have F1 := Fb.next HF.out hb1; obtain ⟨k0, k1⟩ := And.intro F1.c0 F1.c1; rw [hv])
        | (go_at_call 90; refine (rvrow_any p b row cb _ hl (F1.sl HB.out)).mono ?_; rintro e w2 ⟨rfl, rfl⟩; rw [← HQ.out]))
      go_ret
      exact ⟨by rw [HV.out]; rfl, F1.below⟩
set_option maxRecDepth 100000 in
set_option maxHeartbeats 2000000 in
theorem rParts_any (p t : Int) (a : Option Addr) (cs : List Cl) (cap : Nat) (b : Option Addr) (row : List Int) (cb : Nat) (th : Int) (w : World) (hn : cs.length ≤ 1000000) (hlc : CLen cs) (hs : Cs w a cs) (hl : row.length ≤ 140737488351232) (hb : Sl w b row) :
    Calls Try.prog 35 #[.agg #[.int .i64 p, .int .i64 t], .slice a cs.length cap, .slice b row.length cb, .int .i64 th] w fun e w' => e = .returned (.tuple #[.int .i64 (partsV p t cs row th).1.1, .int .i64 (partsV p t cs row th).1.2, .int .i64 (partsV p t cs row th).2]) ∧ Below w.heap.size w w' := by
  have HF := Lib.hid (Fb.new w p t 23)
  have HS := Lib.hid hs; clear hs
  have HLC := Lib.hid hlc; clear hlc
  have HB := Lib.hid hb; clear hb
  have HCE : Hid (∀ W, Fb w p t W → Calls Try.prog 74 #[.agg #[.int .i64 p, .int .i64 t], .slice a cs.length cap, .slice b row.length cb] W fun e w' => e = .returned (.int .i64 (celE p t cs row)) ∧ Fb w p t w') := fun W hf => (celled_any p t a cs cap b row cb W hn HLC.out (hf.below_cs HS.out) hl (hf.sl HB.out)).mono fun e w' ⟨k1, k2⟩ => ⟨k1, hf.next k2⟩
  cases hc : celB p t cs row
  · have HV := Lib.hid (show partsV p t cs row th = ((0, 0), 1) by unfold partsV; rw [hc]; rfl)
    have hce : celE p t cs row = 1 := by unfold celE; rw [hc]; rfl
    rw [hce] at HCE
    clear hce
    go_enter Try.func35, Try.ntmps35
    go_wp2_with (go_at_call 74; refine (HCE.out _ HF.out).mono ?_; rintro e w1 ⟨rfl, F1⟩; obtain ⟨k0, k1⟩ := And.intro F1.c0 F1.c1)
    go_ret3
    exact ⟨by rw [HV.out]; rfl, F1.below⟩
  · have hce : celE p t cs row = 0 := by unfold celE; rw [hc]; rfl
    rw [hce] at HCE
    clear hce
    cases ht : rangeB th (-100) 100
    · have HV := Lib.hid (show partsV p t cs row th = ((0, 0), 7) by unfold partsV; rw [if_pos hc, ht]; rfl)
      go_enter Try.func35, Try.ntmps35
      go_wp2_with (first
        | (go_at_call 74; refine (HCE.out _ HF.out).mono ?_; rintro e w1 ⟨rfl, F1⟩; obtain ⟨k0, k1⟩ := And.intro F1.c0 F1.c1)
        | (go_at_call 60; refine (bin_any _ _ _ _).mono ?_; rintro e w2 ⟨rfl, rfl⟩; rw [ht]))
      go_ret3
      exact ⟨by rw [HV.out]; rfl, F1.below⟩
    · obtain ⟨P, T, rfl, rfl, hP1, hP, hT, hv, hrl, hrk⟩ := cel_row hc
      have HV := Lib.hid (show partsV P T cs row th = (((cntLo (sumsB row (fitP T P cs)) th : Int), (cntHi (sumsB row (fitP T P cs)) th : Int)), 0) by unfold partsV; rw [if_pos hc, if_pos ht, Int.toNat_natCast, Int.toNat_natCast])
      have HVO := Lib.hid (vals_of hv).2
      have HRF : Hid (∀ W, Cs W a cs → Calls Try.prog 68 #[.agg #[.int .i64 P, .int .i64 T], .slice a cs.length cap] W fun e w' => ∃ va ads vc, e = .returned (.slice va (fitP T P cs).length vc) ∧ HR W.heap.size (.slice va (fitP T P cs).length vc) ads (fitP T P cs) w' ∧ Below W.heap.size W w') := fun W hW => rfitting_two P T hP hT a cs cap W hn HVO.out hW
      have HPA : Hid (∀ base va vc ads W, HR base (.slice va (fitP T P cs).length vc) ads (fitP T P cs) W → Sl W b row → Calls Try.prog 75 #[.slice va (fitP T P cs).length vc, .slice b row.length cb, .int .i64 th] W fun e w' => e = .returned (.tuple #[.int .i64 (cntLo (sumsB row (fitP T P cs)) th : Int), .int .i64 (cntHi (sumsB row (fitP T P cs)) th : Int)]) ∧ Below W.heap.size W w') := fun base va vc ads W h1 h2 => rparts_any hP base va vc ads (fitP T P cs) b row cb th W (by have := fitP_len hT hP cs; omega) (fun x hx => fitP_ok hT hx) ⟨hrl, hrk⟩ h1 h2
      obtain ⟨N, hN⟩ : ∃ N, (fitP T P cs).length = N := ⟨_, rfl⟩
      rw [hN] at HRF HPA
      clear hN hc hrl hrk hv
      go_enter Try.func35, Try.ntmps35
      go_wp2_with (first
        | (go_at_call 74; refine (HCE.out _ HF.out).mono ?_; rintro e w1 ⟨rfl, F1⟩; obtain ⟨k0, k1⟩ := And.intro F1.c0 F1.c1)
        | (go_at_call 60; refine (bin_any _ _ _ _).mono ?_; rintro e w2 ⟨rfl, rfl⟩; rw [ht])
        | (go_at_call 68; refine (HRF.out _ (F1.below_cs HS.out)).mono ?_; rintro e w3 ⟨va, ads, vc, rfl, hr3, hb3⟩; have F3 := F1.next hb3; have HR3 := Lib.hid hr3; clear hr3)
        | (go_at_call 75; refine (HPA.out _ _ _ _ _ HR3.out (F3.sl HB.out)).mono ?_; rintro e w4 ⟨rfl, hb4⟩; have F4 := F3.next hb4))
      go_ret3
      exact ⟨by rw [HV.out]; rfl, F4.below⟩
end Go.Proofs.Ytoedbbpjddjbnaa
/- What slices.Clone makes: a contract. -/
namespace Go.Proofs.Ytoedbbpjddjbnaa
open Go.RowKit

set_option maxHeartbeats 400000 in
/-- slices.Clone of a slice that is not empty: a slice of its own with the same ints; nothing older is written. -/
theorem clone_any (b off : Nat) (xs : List Int) (cap : Nat) (w : World) (h1 : 1 ≤ xs.length) (hl : xs.length * 8 ≤ 140737488351232) (hs : Sl w (some ⟨b, off, none⟩) xs) :
    Calls Try.prog 69 #[.slice (some ⟨b, off, none⟩) xs.length cap] w fun e w' =>
      ∃ g cap', e = .returned (.slice (some ⟨g, 0, none⟩) xs.length cap') ∧ OwnI w' w.heap.size (.slice (some ⟨g, 0, none⟩) xs.length cap') xs ∧ Below w.heap.size w w' := by
  have HN := Lib.hid (hs.alloc (.cells #[] 3)).news; clear hs
  have hown := World.ownsRow_lit (base := w.heap.size) (e := 3) (size := 1) w #[] 0 (Nat.le_refl _) (by unfold maxLen; omega) rfl
  have qT : ∀ (w : World) (a : Option Addr) (n c n' c' : Nat), (binOp .eql 25 (.slice a n c) (.slice none n' c')).run Try.prog w = .ok (.bool a.isNone) w := fun w a n c n' c' => Lib.run_eql_slice_nil w _ _ a n c n' c' Try.underlying25
  obtain ⟨i0, hi, hz0, hz1, hz2⟩ := info_parts Try.infoInt
  go_enter Try.func69, Try.ntmps69
  go_wp2_with (at_builtin; go_must (refine wpList_append_own _ rfl _ _ 25 rfl w.heap.size 3 i0 (.int .i64 0) 1 8 Try.underlying25 hi hz0 hz1 hz2 rfl (by decide) _ 0 [] rfl hown ⟨b, off, none⟩ xs.length cap (xs.map (Value.int .i64)) rfl (by simp) HN.out (map_oneCell xs) (by unfold maxLen; omega) (by omega) (by simp) ?_); intro v' w1 hown' hgrow hnil)
  go_ret
  have ho : OwnI w1 w.heap.size v' xs := by simpa [OwnI] using hown'
  obtain ⟨g, cap', rfl, hg⟩ := ho.shape h1
  refine ⟨g, cap', rfl, ho, ?_⟩
  exact ((Below.refl w.heap.size w).alloc (Nat.le_refl _) _).grown hgrow (by simp) (fun k e => by have : k = w.heap.size := (by simpa [Act.eval, Value.ownBlock] using e.symm); omega)
end Go.Proofs.Ytoedbbpjddjbnaa
/- Bit of layer 7 and of its answers: contracts (round 9: the program's). -/
namespace Go.Proofs.Ytoedbbpjddjbnaa
open Go.RowKit

/-- A box of three values that may be written. -/
structure Bt (W : World) (b : Nat) (u v x : Value) : Prop where
  lt : b < W.heap.size
  c0 : W.cell? ⟨b, 0, none⟩ = some u
  c1 : W.cell? ⟨b, 1, none⟩ = some v
  c2 : W.cell? ⟨b, 2, none⟩ = some x
  f0 : W.frozen? ⟨b, 0, none⟩ = false
  f1 : W.frozen? ⟨b, 1, none⟩ = false
  f2 : W.frozen? ⟨b, 2, none⟩ = false
theorem Bt.next {W W' : World} {b : Nat} {u v x : Value} (h : Bt W b u v x) (hb : Below W.heap.size W W') : Bt W' b u v x :=
  ⟨Nat.lt_of_lt_of_le h.lt hb.size, (hb.cell (p := ⟨b, 0, none⟩) h.lt).trans h.c0, (hb.cell (p := ⟨b, 1, none⟩) h.lt).trans h.c1, (hb.cell (p := ⟨b, 2, none⟩) h.lt).trans h.c2, (hb.frozen (p := ⟨b, 0, none⟩) h.lt).trans h.f0, (hb.frozen (p := ⟨b, 1, none⟩) h.lt).trans h.f1, (hb.frozen (p := ⟨b, 2, none⟩) h.lt).trans h.f2⟩
theorem Bt.new (W : World) (u v x : Value) (t : TypeId) : Bt (W.alloc (.cells #[u, v, x] t)) W.heap.size u v x := ⟨by rw [World.size_alloc]; omega, alloc_cell _ _ _ _ _ rfl, alloc_cell _ _ _ _ _ rfl, alloc_cell _ _ _ _ _ rfl, by simp, by simp, by simp⟩
theorem Bt.set0 {W : World} {b : Nat} {u v x : Value} (h : Bt W b u v x) (y : Value) : Bt (W.setCell ⟨b, 0, none⟩ y) b y v x :=
  ⟨by rw [World.size_setCell]; exact h.lt, World.cell?_setCell_same _ _ _ h.c0, (World.cell?_setCell_other _ ⟨b, 0, none⟩ ⟨b, 1, none⟩ _ (by simp)).trans h.c1, (World.cell?_setCell_other _ ⟨b, 0, none⟩ ⟨b, 2, none⟩ _ (by simp)).trans h.c2, by rw [World.frozen?_setCell]; exact h.f0, by rw [World.frozen?_setCell]; exact h.f1, by rw [World.frozen?_setCell]; exact h.f2⟩
theorem Bt.set1 {W : World} {b : Nat} {u v x : Value} (h : Bt W b u v x) (y : Value) : Bt (W.setCell ⟨b, 1, none⟩ y) b u y x :=
  ⟨by rw [World.size_setCell]; exact h.lt, (World.cell?_setCell_other _ ⟨b, 1, none⟩ ⟨b, 0, none⟩ _ (by simp)).trans h.c0, World.cell?_setCell_same _ _ _ h.c1, (World.cell?_setCell_other _ ⟨b, 1, none⟩ ⟨b, 2, none⟩ _ (by simp)).trans h.c2, by rw [World.frozen?_setCell]; exact h.f0, by rw [World.frozen?_setCell]; exact h.f1, by rw [World.frozen?_setCell]; exact h.f2⟩
theorem Bt.set2 {W : World} {b : Nat} {u v x : Value} (h : Bt W b u v x) (y : Value) : Bt (W.setCell ⟨b, 2, none⟩ y) b u v y :=
  ⟨by rw [World.size_setCell]; exact h.lt, (World.cell?_setCell_other _ ⟨b, 2, none⟩ ⟨b, 0, none⟩ _ (by simp)).trans h.c0, (World.cell?_setCell_other _ ⟨b, 2, none⟩ ⟨b, 1, none⟩ _ (by simp)).trans h.c1, World.cell?_setCell_same _ _ _ h.c2, by rw [World.frozen?_setCell]; exact h.f0, by rw [World.frozen?_setCell]; exact h.f1, by rw [World.frozen?_setCell]; exact h.f2⟩
/-- The cell of a bit, and the error's number. -/
def bitV (p t : Int) (row x : List Int) (th : Int) : (List Int × Int × Int) × Int :=
  if (sumV p t row x).2 = 0 then (if rangeB th (-99) 100 = true then ((row, if th ≤ (sumV p t row x).1 then (th, 100) else (-100, th - 1)), 0) else (([], 0, 0), 7)) else (([], 0, 0), (sumV p t row x).2)
/-- What a call that answers with a cell leaves. -/
def CellPost (r : (List Int × Int × Int) × Int) (w : World) (e : Ending) (w' : World) : Prop := ∃ ra rc, e = .returned (.tuple #[.agg #[.slice ra r.1.1.length rc, .int .i64 r.1.2.1, .int .i64 r.1.2.2], .int .i64 r.2]) ∧ Sl w' ra r.1.1 ∧ Below w.heap.size w w'
theorem CellPost.err {w w' : World} {r : (List Int × Int × Int) × Int} (n : Int) (h : r = (([], 0, 0), n)) (hb : Below w.heap.size w w') : CellPost r w (.returned (.tuple #[.agg #[.slice none 0 0, .int .i64 0, .int .i64 0], .int .i64 n])) w' := by
  subst h; exact ⟨none, 0, rfl, Sl.none _, hb⟩
set_option maxRecDepth 100000 in
set_option maxHeartbeats 1000000 in
theorem bbit_any (p t : Int) (a : Option Addr) (xs : List Int) (ca : Nat) (b : Option Addr) (ys : List Int) (cb : Nat) (th : Int) (w : World) (hl : xs.length ≤ 140737488351232) (hl2 : ys.length ≤ 140737488351232) (ha : Sl w a xs) (hb : Sl w b ys) :
    Calls Try.prog 38 #[.agg #[.int .i64 p, .int .i64 t], .slice a xs.length ca, .slice b ys.length cb, .int .i64 th] w (CellPost (bitV p t xs ys th) w) := by
  obtain ⟨U, hU⟩ : ∃ U, (w.alloc (.cells #[.int .i64 p, .int .i64 t] 23)).alloc (.cells #[.slice none 0 0, .int .i64 0, .int .i64 0] 49) = U := ⟨_, rfl⟩
  have HF : Hid (Fb w p t U) := by rw [← hU]; exact (Fb.new w p t _).next ((Below.refl _ _).alloc (Nat.le_refl _) _)
  have HR : Hid (Bt U (w.heap.size + 1) (.slice none 0 0) (.int .i64 0) (.int .i64 0)) := by
    have h := Bt.new (w.alloc (.cells #[.int .i64 p, .int .i64 t] 23)) (.slice none 0 0) (.int .i64 0) (.int .i64 0) 49
    rw [World.size_alloc, hU] at h; exact h
  have HSU : Hid (∀ V, Fb w p t V → Calls Try.prog 15 #[.agg #[.int .i64 p, .int .i64 t], .slice a xs.length ca, .slice b ys.length cb] V fun e w' => e = .returned (.tuple #[.int .i64 (sumV p t xs ys).1, .int .i64 (sumV p t xs ys).2]) ∧ Below V.heap.size V w') := fun V h => bsum_any p t a xs ca b ys cb V hl hl2 (h.sl ha) (h.sl hb)
  obtain ⟨⟨sm, se⟩, hsm⟩ : ∃ r, sumV p t xs ys = r := ⟨_, rfl⟩
  rw [hsm] at HSU
  have HA := Lib.hid ha
  obtain ⟨z0, z1⟩ := And.intro HF.out.c0 HF.out.c1
  obtain ⟨z2, z3, z4, z5, z6, z7⟩ := And.intro HR.out.c0 (And.intro HR.out.c1 (And.intro HR.out.c2 (And.intro HR.out.f0 (And.intro HR.out.f1 HR.out.f2))))
  by_cases hse : se = 0
  · subst hse
    by_cases hr : -99 ≤ th ∧ th ≤ 100
    · have hbr : browB p t xs = true := by
        by_cases hb : browB p t xs = true
        · exact hb
        · unfold sumV at hsm; rw [if_neg hb] at hsm; cases hsm
      have hx1 : 1 ≤ xs.length := by have := brow_of hbr; omega
      have hx8 : xs.length * 8 ≤ 140737488351232 := by have := brow_of hbr; omega
      have HV := Lib.hid (show bitV p t xs ys th = ((xs, if th ≤ sm then (th, 100) else (-100, th - 1)), 0) by unfold bitV; rw [hsm, if_pos rfl, if_pos (by simp [rangeB, hr])])
      obtain ⟨b0, o0, _, rfl, _, _⟩ := ha.at (k := 0) (by omega)
      have HCL : Hid (∀ V, Fb w p t V → Calls Try.prog 69 #[.slice (some ⟨b0, o0, none⟩) xs.length ca] V fun e w' => ∃ g cap', e = .returned (.slice (some ⟨g, 0, none⟩) xs.length cap') ∧ Sl w' (some ⟨g, 0, none⟩) xs ∧ V.heap.size ≤ g ∧ Below V.heap.size V w') := fun V h => (clone_any b0 o0 xs ca V hx1 hx8 (h.sl HA.out)).mono fun e w' ⟨g, c', k1, k2, k3⟩ => ⟨g, c', k1, OwnI.sl k2, (OwnI.lt k2).2, k3⟩
      obtain ⟨hr1, hr2⟩ := hr
      clear hsm ha hb hx1 hx8 hbr
      by_cases hth : th ≤ sm
      · go_enter Try.func38, Try.ntmps38
        go_wp2_with (first
          | (go_at_call 15; refine (HSU.out _ HF.out).mono ?_; rintro e w1 ⟨rfl, hb1⟩; have F1 := Fb.next HF.out hb1; have R1 := HR.out.next hb1; obtain ⟨k2, k3, k4, k5, k6, k7⟩ := And.intro R1.c0 (And.intro R1.c1 (And.intro R1.c2 (And.intro R1.f0 (And.intro R1.f1 R1.f2)))))
          | (go_at_call 69; refine (HCL.out _ F1).mono ?_; rintro e w2 ⟨g, gc, rfl, hg2, hgg, hb2⟩; have F2 := F1.next hb2; have R2 := R1.next hb2; have HG2 := Lib.hid hg2; have HGG : Hid (w.heap.size + 1 < g) := (by have := R1.lt; show _ < _; omega); have hbA : Below w2.heap.size w2 (w2.alloc (.cells #[.slice (some ⟨g, 0, none⟩) xs.length gc, .int .i64 th, .int .i64 100] 49)) := (Below.refl _ _).alloc (Nat.le_refl _) _; have F3 := F2.next hbA; have R3 := R2.next hbA; have HBA := Lib.hid hbA; clear hbA hg2 hgg; obtain ⟨m2, m3, m4, m5, m6, m7⟩ := And.intro R3.c0 (And.intro R3.c1 (And.intro R3.c2 (And.intro R3.f0 (And.intro R3.f1 R3.f2))))))
        have R4 := ((R3.set0 (.slice (some ⟨g, 0, none⟩) xs.length gc)).set1 (.int .i64 th)).set2 (.int .i64 100)
        have F4 := ((F3.set (b := w.heap.size + 1) (i := 0) (by omega) (.slice (some ⟨g, 0, none⟩) xs.length gc)).set (b := w.heap.size + 1) (i := 1) (by omega) (.int .i64 th)).set (b := w.heap.size + 1) (i := 2) (by omega) (.int .i64 100)
        obtain ⟨y2, y3, y4⟩ := And.intro R4.c0 (And.intro R4.c1 R4.c2)
        have hne : ∀ ad : Addr, some (⟨g, 0, none⟩ : Addr) = some ad → ad.block ≠ w.heap.size + 1 := fun ad e => by cases e; have := HGG.out; show g ≠ _; omega
        refine bodyPost_ret (v := .tuple #[.agg #[.slice (some ⟨g, 0, none⟩) xs.length gc, .int .i64 th, .int .i64 100], .int .i64 0]) ?_ rfl ⟨some ⟨g, 0, none⟩, gc, by rw [HV.out, if_pos hth], ?_, F4.below⟩
        · rw [results_cell_tmp rfl]; go_simp
        · rw [HV.out]
          exact sl_apart (sl_apart (sl_apart (HG2.out.below HBA.out) hne _) hne _) hne _
      · go_enter Try.func38, Try.ntmps38
        go_wp2_with (first
          | (go_at_call 15; refine (HSU.out _ HF.out).mono ?_; rintro e w1 ⟨rfl, hb1⟩; have F1 := Fb.next HF.out hb1; have R1 := HR.out.next hb1; obtain ⟨k2, k3, k4, k5, k6, k7⟩ := And.intro R1.c0 (And.intro R1.c1 (And.intro R1.c2 (And.intro R1.f0 (And.intro R1.f1 R1.f2)))))
          | (go_at_call 69; refine (HCL.out _ F1).mono ?_; rintro e w2 ⟨g, gc, rfl, hg2, hgg, hb2⟩; have F2 := F1.next hb2; have R2 := R1.next hb2; have HG2 := Lib.hid hg2; have HGG : Hid (w.heap.size + 1 < g) := (by have := R1.lt; show _ < _; omega); have hbA : Below w2.heap.size w2 (w2.alloc (.cells #[.slice (some ⟨g, 0, none⟩) xs.length gc, .int .i64 (-100), .int .i64 (th - 1)] 49)) := (Below.refl _ _).alloc (Nat.le_refl _) _; have F3 := F2.next hbA; have R3 := R2.next hbA; have HBA := Lib.hid hbA; clear hbA hg2 hgg; obtain ⟨m2, m3, m4, m5, m6, m7⟩ := And.intro R3.c0 (And.intro R3.c1 (And.intro R3.c2 (And.intro R3.f0 (And.intro R3.f1 R3.f2))))))
        have R4 := ((R3.set0 (.slice (some ⟨g, 0, none⟩) xs.length gc)).set1 (.int .i64 (-100))).set2 (.int .i64 (th - 1))
        have F4 := ((F3.set (b := w.heap.size + 1) (i := 0) (by omega) (.slice (some ⟨g, 0, none⟩) xs.length gc)).set (b := w.heap.size + 1) (i := 1) (by omega) (.int .i64 (-100))).set (b := w.heap.size + 1) (i := 2) (by omega) (.int .i64 (th - 1))
        obtain ⟨y2, y3, y4⟩ := And.intro R4.c0 (And.intro R4.c1 R4.c2)
        have hne : ∀ ad : Addr, some (⟨g, 0, none⟩ : Addr) = some ad → ad.block ≠ w.heap.size + 1 := fun ad e => by cases e; have := HGG.out; show g ≠ _; omega
        refine bodyPost_ret (v := .tuple #[.agg #[.slice (some ⟨g, 0, none⟩) xs.length gc, .int .i64 (-100), .int .i64 (th - 1)], .int .i64 0]) ?_ rfl ⟨some ⟨g, 0, none⟩, gc, by rw [HV.out, if_neg (by omega)], ?_, F4.below⟩
        · rw [results_cell_tmp rfl]; go_simp
        · rw [HV.out]
          exact sl_apart (sl_apart (sl_apart (HG2.out.below HBA.out) hne _) hne _) hne _
    · have HV := Lib.hid (show bitV p t xs ys th = (([], 0, 0), 7) by unfold bitV; rw [hsm, if_pos rfl, if_neg (by simp [rangeB]; omega)])
      clear hsm ha hb
      by_cases hr1 : th ≤ -100
      · go_enter Try.func38, Try.ntmps38
        go_wp2_with (go_at_call 15; refine (HSU.out _ HF.out).mono ?_; rintro e w1 ⟨rfl, hb1⟩; have F1 := Fb.next HF.out hb1; have R1 := HR.out.next hb1; obtain ⟨k2, k3, k4, k5, k6, k7⟩ := And.intro R1.c0 (And.intro R1.c1 (And.intro R1.c2 (And.intro R1.f0 (And.intro R1.f1 R1.f2)))))
        have R4 := ((R1.set0 (.slice none 0 0)).set1 (.int .i64 0)).set2 (.int .i64 0)
        have F4 := ((F1.set (b := w.heap.size + 1) (i := 0) (by omega) (.slice none 0 0)).set (b := w.heap.size + 1) (i := 1) (by omega) (.int .i64 0)).set (b := w.heap.size + 1) (i := 2) (by omega) (.int .i64 0)
        obtain ⟨y2, y3, y4⟩ := And.intro R4.c0 (And.intro R4.c1 R4.c2)
        refine bodyPost_ret (v := .tuple #[.agg #[.slice none 0 0, .int .i64 0, .int .i64 0], .int .i64 7]) ?_ rfl (CellPost.err 7 HV.out F4.below)
        rw [results_cell_tmp rfl]; go_simp
      · have hr2 : 100 < th := by omega
        go_enter Try.func38, Try.ntmps38
        go_wp2_with (go_at_call 15; refine (HSU.out _ HF.out).mono ?_; rintro e w1 ⟨rfl, hb1⟩; have F1 := Fb.next HF.out hb1; have R1 := HR.out.next hb1; obtain ⟨k2, k3, k4, k5, k6, k7⟩ := And.intro R1.c0 (And.intro R1.c1 (And.intro R1.c2 (And.intro R1.f0 (And.intro R1.f1 R1.f2)))))
        have R4 := ((R1.set0 (.slice none 0 0)).set1 (.int .i64 0)).set2 (.int .i64 0)
        have F4 := ((F1.set (b := w.heap.size + 1) (i := 0) (by omega) (.slice none 0 0)).set (b := w.heap.size + 1) (i := 1) (by omega) (.int .i64 0)).set (b := w.heap.size + 1) (i := 2) (by omega) (.int .i64 0)
        obtain ⟨y2, y3, y4⟩ := And.intro R4.c0 (And.intro R4.c1 R4.c2)
        refine bodyPost_ret (v := .tuple #[.agg #[.slice none 0 0, .int .i64 0, .int .i64 0], .int .i64 7]) ?_ rfl (CellPost.err 7 HV.out F4.below)
        rw [results_cell_tmp rfl]; go_simp
  · have HV := Lib.hid (show bitV p t xs ys th = (([], 0, 0), se) by unfold bitV; rw [hsm]; exact if_neg hse)
    clear hsm ha hb
    go_enter Try.func38, Try.ntmps38
    go_wp2_with (go_at_call 15; refine (HSU.out _ HF.out).mono ?_; rintro e w1 ⟨rfl, hb1⟩; have F1 := Fb.next HF.out hb1; have R1 := HR.out.next hb1; obtain ⟨k2, k3, k4, k5, k6, k7⟩ := And.intro R1.c0 (And.intro R1.c1 (And.intro R1.c2 (And.intro R1.f0 (And.intro R1.f1 R1.f2)))))
    have R4 := ((R1.set0 (.slice none 0 0)).set1 (.int .i64 0)).set2 (.int .i64 0)
    have F4 := ((F1.set (b := w.heap.size + 1) (i := 0) (by omega) (.slice none 0 0)).set (b := w.heap.size + 1) (i := 1) (by omega) (.int .i64 0)).set (b := w.heap.size + 1) (i := 2) (by omega) (.int .i64 0)
    obtain ⟨y2, y3, y4⟩ := And.intro R4.c0 (And.intro R4.c1 R4.c2)
    refine bodyPost_ret (v := .tuple #[.agg #[.slice none 0 0, .int .i64 0, .int .i64 0], .int .i64 se]) ?_ rfl (CellPost.err se HV.out F4.below)
    rw [results_cell_tmp rfl]; go_simp
end Go.Proofs.Ytoedbbpjddjbnaa
/- The threshold that halves some sums best, found as layer 7 and its answers find it: mathematics, and the contracts of halved and halve. -/
namespace Go.Proofs.Ytoedbbpjddjbnaa
open Go.RowKit

theorem cnt_sum (S : List Int) (th : Int) : cntLo S th + cntHi S th = S.length := by
  unfold cntLo cntHi
  induction S with
  | nil => rfl
  | cons s S ih =>
    rw [List.filter_cons, List.filter_cons]
    by_cases h : s < th <;> simp [h] <;> omega
/-- The greater and the lesser part at a threshold. -/
def hvG (S : List Int) (t : Int) : Nat := max (cntLo S t) (cntHi S t)
def hvL (S : List Int) (t : Int) : Nat := min (cntLo S t) (cntHi S t)
/-- The best of the first k thresholds from -99 on: the threshold, its greater and its lesser part. -/
def hvTo (S : List Int) : Nat → Int × Nat × Nat
  | 0 => (0, 0, 0)
  | k + 1 => if k = 0 ∨ hvG S ((k : Int) - 99) < (hvTo S k).2.1 then ((k : Int) - 99, hvG S ((k : Int) - 99), hvL S ((k : Int) - 99)) else hvTo S k
def halved (S : List Int) : Int × Nat × Nat := hvTo S 200
theorem hvG_le (S : List Int) (t : Int) : hvG S t ≤ S.length ∧ hvL S t ≤ S.length := by
  have := cnt_sum S t
  unfold hvG hvL; omega
theorem hvTo_le (S : List Int) : ∀ k, (hvTo S k).2.1 ≤ S.length ∧ (hvTo S k).2.2 ≤ S.length
  | 0 => by simp [hvTo]
  | k + 1 => by
    simp only [hvTo]
    split
    · exact hvG_le S _
    · exact hvTo_le S k
theorem hvTo_eq (S : List Int) : ∀ k, 1 ≤ k → (hvTo S k).2.1 = hvG S (hvTo S k).1 ∧ (hvTo S k).2.2 = hvL S (hvTo S k).1 ∧ -99 ≤ (hvTo S k).1 ∧ (hvTo S k).1 ≤ (k : Int) - 100
  | 0, h => by omega
  | k + 1, _ => by
    simp only [hvTo]
    by_cases hk : k = 0 ∨ hvG S ((k : Int) - 99) < (hvTo S k).2.1
    · rw [if_pos hk]; exact ⟨rfl, rfl, by simp only; omega, by simp only; omega⟩
    · rw [if_neg hk]
      have := hvTo_eq S k (by omega)
      exact ⟨this.1, this.2.1, this.2.2.1, by omega⟩
/-- No threshold so far has a lesser greater part. -/
theorem hvTo_least (S : List Int) : ∀ k i, i < k → (hvTo S k).2.1 ≤ hvG S ((i : Int) - 99)
  | 0, _, h => by omega
  | k + 1, i, h => by
    simp only [hvTo]
    by_cases hk : k = 0 ∨ hvG S ((k : Int) - 99) < (hvTo S k).2.1
    · rw [if_pos hk]
      simp only
      by_cases e : i = k
      · subst e; exact Nat.le_refl _
      · have := hvTo_least S k i (by omega)
        rcases hk with hk | hk
        · omega
        · omega
    · rw [if_neg hk]
      by_cases e : i = k
      · subst e; omega
      · exact hvTo_least S k i (by omega)
/-- As the answers look for it. -/
def rhTo (S : List Int) : Nat → Int × Nat
  | 0 => (0, S.length + 1)
  | k + 1 => if hvG S ((k : Int) - 99) < (rhTo S k).2 then ((k : Int) - 99, hvG S ((k : Int) - 99)) else rhTo S k
theorem rhTo_eq (S : List Int) : ∀ k, 1 ≤ k → rhTo S k = ((hvTo S k).1, (hvTo S k).2.1)
  | 0, h => by omega
  | k + 1, _ => by
    by_cases hk : k = 0
    · subst hk
      have := (hvG_le S (((0 : Nat) : Int) - 99)).1
      show (if hvG S (((0 : Nat) : Int) - 99) < S.length + 1 then _ else _) = _
      rw [if_pos (show hvG S (((0 : Nat) : Int) - 99) < S.length + 1 by omega)]
      simp [hvTo]
    · have ih := rhTo_eq S k (by omega)
      simp only [rhTo, hvTo]
      rw [ih]
      by_cases c : hvG S ((k : Int) - 99) < (hvTo S k).2.1
      · rw [if_pos c, if_pos (.inr c)]
      · rw [if_neg c, if_neg (by rintro (h | h); exact hk h; exact c h)]
theorem rhTo_le (S : List Int) : ∀ k, (rhTo S k).2 ≤ S.length + 1
  | 0 => Nat.le_refl _
  | k + 1 => by
    simp only [rhTo]
    split
    · have := (hvG_le S ((k : Int) - 99)).1; simp only; omega
    · exact rhTo_le S k
theorem hv_yes {S : List Int} {k A B : Nat} (hA : cntLo S ((k : Int) - 99) = A) (hB : cntHi S ((k : Int) - 99) = B) (h : k = 0 ∨ max A B < (hvTo S k).2.1) : hvTo S (k + 1) = ((k : Int) - 99, max A B, min A B) := by
  simp only [hvTo]
  unfold hvG hvL
  rw [hA, hB, if_pos h]
theorem hv_no {S : List Int} {k A B : Nat} (hA : cntLo S ((k : Int) - 99) = A) (hB : cntHi S ((k : Int) - 99) = B) (h : ¬ (k = 0 ∨ max A B < (hvTo S k).2.1)) : hvTo S (k + 1) = hvTo S k := by
  simp only [hvTo]
  unfold hvG
  rw [hA, hB, if_neg h]
/-- A choice by value: its row, threshold, greater and lesser part. -/
def chV (r t : Int) (g l : Nat) : Value := .agg #[.int .i64 r, .int .i64 t, .int .i64 g, .int .i64 l]
/-- A box of four numbers that may be written. -/
structure B4 (W : World) (b : Nat) (u v x y : Int) : Prop where
  lt : b < W.heap.size
  c0 : W.cell? ⟨b, 0, none⟩ = some (.int .i64 u)
  c1 : W.cell? ⟨b, 1, none⟩ = some (.int .i64 v)
  c2 : W.cell? ⟨b, 2, none⟩ = some (.int .i64 x)
  c3 : W.cell? ⟨b, 3, none⟩ = some (.int .i64 y)
  f0 : W.frozen? ⟨b, 0, none⟩ = false
  f1 : W.frozen? ⟨b, 1, none⟩ = false
  f2 : W.frozen? ⟨b, 2, none⟩ = false
  f3 : W.frozen? ⟨b, 3, none⟩ = false
theorem B4.next {W W' : World} {b : Nat} {u v x y : Int} (h : B4 W b u v x y) (hb : Below W.heap.size W W') : B4 W' b u v x y :=
  ⟨Nat.lt_of_lt_of_le h.lt hb.size, (hb.cell (p := ⟨b, 0, none⟩) h.lt).trans h.c0, (hb.cell (p := ⟨b, 1, none⟩) h.lt).trans h.c1, (hb.cell (p := ⟨b, 2, none⟩) h.lt).trans h.c2, (hb.cell (p := ⟨b, 3, none⟩) h.lt).trans h.c3, (hb.frozen (p := ⟨b, 0, none⟩) h.lt).trans h.f0, (hb.frozen (p := ⟨b, 1, none⟩) h.lt).trans h.f1, (hb.frozen (p := ⟨b, 2, none⟩) h.lt).trans h.f2, (hb.frozen (p := ⟨b, 3, none⟩) h.lt).trans h.f3⟩
theorem B4.new (W : World) (u v x y : Int) (t : TypeId) : B4 (W.alloc (.cells #[.int .i64 u, .int .i64 v, .int .i64 x, .int .i64 y] t)) W.heap.size u v x y := ⟨by rw [World.size_alloc]; omega, alloc_cell _ _ _ _ _ rfl, alloc_cell _ _ _ _ _ rfl, alloc_cell _ _ _ _ _ rfl, alloc_cell _ _ _ _ _ rfl, by simp, by simp, by simp, by simp⟩
/-- All four written. -/
def set4 (W : World) (b : Nat) (u v x y : Int) : World := (((W.setCell ⟨b, 0, none⟩ (.int .i64 u)).setCell ⟨b, 1, none⟩ (.int .i64 v)).setCell ⟨b, 2, none⟩ (.int .i64 x)).setCell ⟨b, 3, none⟩ (.int .i64 y)
theorem cell_oth {W : World} {b i j : Nat} (h : i ≠ j) (v : Value) : (W.setCell ⟨b, j, none⟩ v).cell? ⟨b, i, none⟩ = W.cell? ⟨b, i, none⟩ := World.cell?_setCell_other _ ⟨b, j, none⟩ ⟨b, i, none⟩ _ (by simp)
theorem B4.set {W : World} {b : Nat} {u v x y : Int} (h : B4 W b u v x y) (u' v' x' y' : Int) : B4 (set4 W b u' v' x' y') b u' v' x' y' := by
  unfold set4
  have g0 : (W.setCell ⟨b, 0, none⟩ (.int .i64 u')).cell? ⟨b, 0, none⟩ = some (.int .i64 u') := World.cell?_setCell_same _ _ _ h.c0
  have g1 : ((W.setCell ⟨b, 0, none⟩ (.int .i64 u')).setCell ⟨b, 1, none⟩ (.int .i64 v')).cell? ⟨b, 1, none⟩ = some (.int .i64 v') := World.cell?_setCell_same _ _ _ ((cell_oth (by decide) _).trans h.c1)
  have g2 : (((W.setCell ⟨b, 0, none⟩ (.int .i64 u')).setCell ⟨b, 1, none⟩ (.int .i64 v')).setCell ⟨b, 2, none⟩ (.int .i64 x')).cell? ⟨b, 2, none⟩ = some (.int .i64 x') := World.cell?_setCell_same _ _ _ ((cell_oth (by decide) _).trans ((cell_oth (by decide) _).trans h.c2))
  refine ⟨by simp only [World.size_setCell]; exact h.lt, ?_, ?_, ?_, ?_, by simp only [World.frozen?_setCell]; exact h.f0, by simp only [World.frozen?_setCell]; exact h.f1, by simp only [World.frozen?_setCell]; exact h.f2, by simp only [World.frozen?_setCell]; exact h.f3⟩
  · exact (cell_oth (by decide) _).trans ((cell_oth (by decide) _).trans ((cell_oth (by decide) _).trans g0))
  · exact (cell_oth (by decide) _).trans ((cell_oth (by decide) _).trans g1)
  · exact (cell_oth (by decide) _).trans g2
  · exact World.cell?_setCell_same _ _ _ ((cell_oth (by decide) _).trans ((cell_oth (by decide) _).trans ((cell_oth (by decide) _).trans h.c3)))
theorem set4_heap (W : World) (b : Nat) (u v x y : Int) {c : Nat} (h : c ≠ b) : (set4 W b u v x y).heap[c]? = W.heap[c]? := by
  unfold set4
  rw [Below.heap_setCell _ _ _ c h, Below.heap_setCell _ _ _ c h, Below.heap_setCell _ _ _ c h, Below.heap_setCell _ _ _ c h]
theorem set4_below {B : Nat} {w W : World} {b : Nat} (h : Below B w W) (hb : B ≤ b) (u v x y : Int) : Below B w (set4 W b u v x y) := (((h.setCell (p := ⟨b, 0, none⟩) hb _).setCell (p := ⟨b, 1, none⟩) hb _).setCell (p := ⟨b, 2, none⟩) hb _).setCell (p := ⟨b, 3, none⟩) hb _
theorem B4.other {W : World} {b c : Nat} {u v x y : Int} (h : B4 W c u v x y) (hc : c ≠ b) (u' v' x' y' : Int) : B4 (set4 W b u' v' x' y') c u v x y := by
  have k := set4_heap W b u' v' x' y' hc
  have hs : (set4 W b u' v' x' y').heap.size = W.heap.size := by unfold set4; simp only [World.size_setCell]
  generalize set4 W b u' v' x' y' = W2 at k hs ⊢
  exact ⟨by rw [hs]; exact h.lt, (World.cell?_of_block (a := ⟨c, 0, none⟩) k).trans h.c0, (World.cell?_of_block (a := ⟨c, 1, none⟩) k).trans h.c1, (World.cell?_of_block (a := ⟨c, 2, none⟩) k).trans h.c2, (World.cell?_of_block (a := ⟨c, 3, none⟩) k).trans h.c3, (World.frozen?_of_block (a := ⟨c, 0, none⟩) k).trans h.f0, (World.frozen?_of_block (a := ⟨c, 1, none⟩) k).trans h.f1, (World.frozen?_of_block (a := ⟨c, 2, none⟩) k).trans h.f2, (World.frozen?_of_block (a := ⟨c, 3, none⟩) k).trans h.f3⟩
set_option maxRecDepth 1000000 in
set_option maxHeartbeats 2000000 in
theorem halved_any (M : Nat) (S : List Int) (w : World) (hS : S.length ≤ 1000000) (ho : OC w M S) :
    Calls Try.prog 99 #[.map (some M)] w fun e w' => e = .returned (chV 0 (halved S).1 (halved S).2.1 (halved S).2.2) ∧ Below w.heap.size w w' := by
  have HOC := Lib.hid ho; clear ho
  have HSD : Hid (∀ W (t : Int), Below w.heap.size w W → Calls Try.prog 72 #[.map (some M), .int .i64 t] W fun e w' => e = .returned (.tuple #[.int .i64 (cntLo S t : Int), .int .i64 (cntHi S t : Int)]) ∧ Below W.heap.size W w') := fun W t hb => by
    obtain ⟨n, D, _, h2, h3⟩ := HOC.out.same (hb.block M HOC.out.lt)
    exact sides_any M n D S t W hS h2 h3
  obtain ⟨U, hU⟩ : ∃ U, (w.alloc (.cells #[.int .i64 0, .int .i64 0, .int .i64 0, .int .i64 0] 97)).alloc (.cells #[.int .i64 0, .int .i64 0, .int .i64 0, .int .i64 0] 97) = U := ⟨_, rfl⟩
  have hw1 : (w.alloc (.cells #[.int .i64 0, .int .i64 0, .int .i64 0, .int .i64 0] 97)).heap.size = w.heap.size + 1 := World.size_alloc _ _
  have HBU : Hid (Below w.heap.size w U) := by rw [← hU]; exact ((Below.refl _ _).alloc (Nat.le_refl _) _).alloc (by omega) _
  have HR : Hid (B4 U w.heap.size 0 0 0 0) := by show B4 _ _ _ _ _ _; rw [← hU]; exact (B4.new w 0 0 0 0 _).next ((Below.refl _ _).alloc (Nat.le_refl _) _)
  have HQ : Hid (B4 U (w.heap.size + 1) 0 0 0 0) := by
    have h := B4.new (w.alloc (.cells #[.int .i64 0, .int .i64 0, .int .i64 0, .int .i64 0] 97)) 0 0 0 0 97
    rw [hw1, hU] at h; exact h
  clear hw1
  go_enter Try.func99, Try.ntmps99
  go_wp2
  (try rw [hU])
  clear hU
  go_loopw [4, 5, 6, 7, 8] (fun tv _ _ _ _ wr => ∃ k : Nat, k ≤ 200 ∧ tv = .int .i64 ((k : Int) - 99) ∧ B4 wr w.heap.size 0 0 0 0 ∧ B4 wr (w.heap.size + 1) 0 (hvTo S k).1 (hvTo S k).2.1 (hvTo S k).2.2 ∧ Below w.heap.size w wr) (fun tv _ _ _ _ _ => (100 - intOf tv + 1).toNat)
  case atStart => exact ⟨0, by omega, rfl, HR.out, HQ.out, HBU.out⟩
  case round =>
    clear HR HQ HBU
    obtain ⟨k, hk, rfl, hr, hq, hb⟩ := hrel
    have HR := Lib.hid hr
    have HQ := Lib.hid hq
    have HB := Lib.hid hb
    have hle := hvTo_le S k
    by_cases hlt : k < 200
    · have hgl := hvG_le S ((k : Int) - 99)
      have hSD := HSD.out wr ((k : Int) - 99) hb
      have htl : (k : Int) - 99 ≤ 100 := by omega
      have hcl := cnt_sum S ((k : Int) - 99)
      have HAB : Hid (∃ A B, cntLo S ((k : Int) - 99) = A ∧ cntHi S ((k : Int) - 99) = B) := ⟨_, _, rfl, rfl⟩
      obtain ⟨A, B, hA, hB⟩ := HAB.out
      have HAB := Lib.hid (And.intro hA hB)
      rw [hA, hB] at hSD hcl
      have HSD2 := Lib.hid hSD
      clear hr hq hb hSD hgl hA hB
      have HXQ : Hid (∀ W, Below wr.heap.size wr W → B4 W (w.heap.size + 1) 0 (hvTo S k).1 (hvTo S k).2.1 (hvTo S k).2.2 ∧ B4 W w.heap.size 0 0 0 0) := fun W hb => ⟨HQ.out.next hb, HR.out.next hb⟩
      obtain ⟨q0, q1, q2, q3⟩ := And.intro HQ.out.c0 (And.intro HQ.out.c1 (And.intro HQ.out.c2 HQ.out.c3))
      obtain ⟨s0, s1, s2, s3⟩ := And.intro HQ.out.f0 (And.intro HQ.out.f1 (And.intro HQ.out.f2 HQ.out.f3))
      by_cases hk0 : k = 0
      · have HK0 := Lib.hid hk0
        have hk1 : (((k : Int) - 99) == -99) = true := by simp; omega
        clear hk0
        go_wp2_with (go_at_call 72; refine HSD2.out.mono ?_; rintro e w9 ⟨rfl, hb9⟩; have HB9 := Lib.hid hb9; have HX9 := Lib.hid (HXQ.out w9 hb9); obtain ⟨x0, x1, x2, x3⟩ := And.intro HX9.out.1.c0 (And.intro HX9.out.1.c1 (And.intro HX9.out.1.c2 HX9.out.1.c3)); obtain ⟨y0, y1, y2, y3⟩ := And.intro HX9.out.1.f0 (And.intro HX9.out.1.f1 (And.intro HX9.out.1.f2 HX9.out.1.f3)); clear hb9)
        all_goals
          have e1 : (if A < B then (B : Int) else (A : Int)) = ((max A B : Nat) : Int) := by split <;> omega
          have e2 : (if B < A then (B : Int) else (A : Int)) = ((min A B : Nat) : Int) := by split <;> omega
          have HY := hv_yes HAB.out.1 HAB.out.2 (.inl HK0.out)
          rw [e1, e2]
          refine ⟨⟨k + 1, by omega, congrArg (Value.int .i64) (by omega), HX9.out.2.other (b := w.heap.size + 1) (by omega) _ _ _ _, ?_, set4_below (HB.out.trans (HB9.out.mono HB.out.size)) (by omega) _ _ _ _⟩, by simp [intOf]; omega⟩
          rw [HY]
          exact HX9.out.1.set 0 _ _ _
      · have hk1 : (((k : Int) - 99) == -99) = false := by simp; omega
        have HK0 := Lib.hid hk0
        clear hk0
        obtain ⟨G0, hG0⟩ : ∃ G0, (hvTo S k).2.1 = G0 := ⟨_, rfl⟩
        rw [hG0] at q2 HXQ hle
        have HG0 := Lib.hid hG0
        clear hG0
        by_cases hlt2 : (if A < B then (B : Int) else (A : Int)) < (G0 : Int)
        · go_wp2_with (go_at_call 72; refine HSD2.out.mono ?_; rintro e w9 ⟨rfl, hb9⟩; have HB9 := Lib.hid hb9; have HX9 := Lib.hid (HXQ.out w9 hb9); obtain ⟨x0, x1, x2, x3⟩ := And.intro HX9.out.1.c0 (And.intro HX9.out.1.c1 (And.intro HX9.out.1.c2 HX9.out.1.c3)); obtain ⟨y0, y1, y2, y3⟩ := And.intro HX9.out.1.f0 (And.intro HX9.out.1.f1 (And.intro HX9.out.1.f2 HX9.out.1.f3)); clear hb9)
          have e1 : (if A < B then (B : Int) else (A : Int)) = ((max A B : Nat) : Int) := by split <;> omega
          have e2 : (if B < A then (B : Int) else (A : Int)) = ((min A B : Nat) : Int) := by split <;> omega
          have HY := hv_yes HAB.out.1 HAB.out.2 (.inr (by rw [HG0.out]; omega))
          rw [e1, e2]
          refine ⟨⟨k + 1, by omega, congrArg (Value.int .i64) (by omega), HX9.out.2.other (b := w.heap.size + 1) (by omega) _ _ _ _, ?_, set4_below (HB.out.trans (HB9.out.mono HB.out.size)) (by omega) _ _ _ _⟩, by simp [intOf]; omega⟩
          rw [HY]
          exact HX9.out.1.set 0 _ _ _
        · go_wp2_with (go_at_call 72; refine HSD2.out.mono ?_; rintro e w9 ⟨rfl, hb9⟩; have HB9 := Lib.hid hb9; have HX9 := Lib.hid (HXQ.out w9 hb9); obtain ⟨x0, x1, x2, x3⟩ := And.intro HX9.out.1.c0 (And.intro HX9.out.1.c1 (And.intro HX9.out.1.c2 HX9.out.1.c3)); obtain ⟨y0, y1, y2, y3⟩ := And.intro HX9.out.1.f0 (And.intro HX9.out.1.f1 (And.intro HX9.out.1.f2 HX9.out.1.f3)); clear hb9)
          have HY := hv_no HAB.out.1 HAB.out.2 (by rw [HG0.out]; rintro (h | h); exact HK0.out h; split at hlt2 <;> omega)
          refine ⟨⟨k + 1, by omega, congrArg (Value.int .i64) (by omega), HX9.out.2, ?_, HB.out.trans (HB9.out.mono HB.out.size)⟩, by simp [intOf]; omega⟩
          rw [HY, HG0.out]
          exact HX9.out.1
    · obtain rfl : k = 200 := by omega
      obtain ⟨q0, q1, q2, q3⟩ := And.intro hq.c0 (And.intro hq.c1 (And.intro hq.c2 hq.c3))
      obtain ⟨r0, r1, r2, r3⟩ := And.intro hr.c0 (And.intro hr.c1 (And.intro hr.c2 hr.c3))
      obtain ⟨s0, s1, s2, s3⟩ := And.intro hr.f0 (And.intro hr.f1 (And.intro hr.f2 hr.f3))
      clear hr hq hb
      go_wp2
      have R4 := HR.out.set 0 (hvTo S 200).1 (hvTo S 200).2.1 (hvTo S 200).2.2
      have hbl := set4_below HB.out (Nat.le_refl w.heap.size) 0 (hvTo S 200).1 (hvTo S 200).2.1 (hvTo S 200).2.2
      unfold set4 at R4 hbl
      obtain ⟨e0, e1, e2, e3⟩ := And.intro R4.c0 (And.intro R4.c1 (And.intro R4.c2 R4.c3))
      refine bodyPost_ret_by (v := chV 0 (hvTo S 200).1 (hvTo S 200).2.1 (hvTo S 200).2.2) ?_ rfl ⟨by unfold halved; rfl, hbl⟩
      rw [results_cell_one1 rfl]
      unfold chV
      go_simp
end Go.Proofs.Ytoedbbpjddjbnaa
/- halve and next of the answers of layer 7: contracts; the best row and threshold. -/
namespace Go.Proofs.Ytoedbbpjddjbnaa
open Go.RowKit

/-- The best of the first k rows, whose sums f tells: row, threshold, greater and lesser part. -/
def bsTo (f : Nat → List Int) : Nat → Nat × Int × Nat × Nat
  | 0 => (0, 0, 0, 0)
  | k + 1 => if k = 0 ∨ (halved (f k)).2.1 < (bsTo f k).2.2.1 then (k, halved (f k)) else bsTo f k
/-- As the answers look for it. -/
def rbTo (L : Nat) (f : Nat → List Int) : Nat → Nat × Int × Nat
  | 0 => (0, 0, L + 1)
  | k + 1 => if (rhTo (f k) 200).2 < (rbTo L f k).2.2 then (k, rhTo (f k) 200) else rbTo L f k
theorem rh_eq (S : List Int) : rhTo S 200 = ((halved S).1, (halved S).2.1) := by unfold halved; exact rhTo_eq S 200 (by omega)
theorem halved_le (S : List Int) : (halved S).2.1 ≤ S.length ∧ (halved S).2.2 ≤ S.length := by unfold halved; exact hvTo_le S 200
theorem rbTo_eq (L : Nat) (f : Nat → List Int) (hf : ∀ i, (f i).length = L) : ∀ k, 1 ≤ k → rbTo L f k = ((bsTo f k).1, (bsTo f k).2.1, (bsTo f k).2.2.1)
  | 0, h => by omega
  | k + 1, _ => by
    simp only [rbTo, bsTo]
    rw [rh_eq]
    by_cases hk : k = 0
    · subst hk
      have h1 := (halved_le (f 0)).1
      rw [hf 0] at h1
      rw [if_pos (show (halved (f 0)).2.1 < (rbTo L f 0).2.2 from Nat.lt_succ_of_le h1), if_pos (.inl rfl)]
    · rw [rbTo_eq L f hf k (by omega)]
      by_cases c : (halved (f k)).2.1 < (bsTo f k).2.2.1
      · rw [if_pos c, if_pos (.inr c)]
      · rw [if_neg c, if_neg (by rintro (h | h); exact hk h; exact c h)]
theorem rbTo_le (L : Nat) (f : Nat → List Int) (hf : ∀ i, (f i).length = L) : ∀ k, (rbTo L f k).2.2 ≤ L + 1
  | 0 => Nat.le_refl _
  | k + 1 => by
    simp only [rbTo]
    split
    · rw [rh_eq]; have := (halved_le (f k)).1; rw [hf k] at this; simp only; omega
    · exact rbTo_le L f hf k
theorem bsTo_pos (f : Nat → List Int) (hf : ∀ i, 1 ≤ (f i).length) : ∀ k, 1 ≤ k → 1 ≤ (bsTo f k).2.2.1
  | 0, h => by omega
  | k + 1, _ => by
    simp only [bsTo]
    split
    · unfold halved
      simp only
      rw [(hvTo_eq (f k) 200 (by omega)).1]
      have := cnt_sum (f k) (hvTo (f k) 200).1
      have := hf k
      unfold hvG; omega
    · next h => exact bsTo_pos f hf k (by omega)
theorem bsTo_zero (f : Nat → List Int) (hf : ∀ i, (f i).length = 0) : ∀ k, (bsTo f k).2.2.1 = 0
  | 0 => rfl
  | k + 1 => by
    simp only [bsTo]
    split
    · have := (halved_le (f k)).1; rw [hf k] at this; simp only; omega
    · exact bsTo_zero f hf k
set_option maxRecDepth 100000 in
set_option maxHeartbeats 2000000 in
theorem rhalve_any {P : Nat} (hP : P ≤ 8) (base : Nat) (va : Option Addr) (vc : Nat) (ads : List (Option Addr × Nat)) (L : List (List Int)) (a : Option Addr) (row : List Int) (ca : Nat) (w : World) (hl : L.length ≤ 1000000) (hL : ∀ x ∈ L, x.length = P ∧ okL 0 3 x = true) (hrow : row.length = P ∧ okL (-1) 1 row = true) (hr : HR base (.slice va L.length vc) ads L w) (ha : Sl w a row) :
    Calls Try.prog 77 #[.slice va L.length vc, .slice a row.length ca] w fun e w' => e = .returned (.tuple #[.int .i64 (rhTo (sumsB row L) 200).1, .int .i64 ((rhTo (sumsB row L) 200).2 : Nat)]) ∧ Below w.heap.size w w' := by
  have HPA : Hid (∀ W (th : Int), Below w.heap.size w W → Calls Try.prog 75 #[.slice va L.length vc, .slice a row.length ca, .int .i64 th] W fun e w' => e = .returned (.tuple #[.int .i64 (cntLo (sumsB row L) th : Int), .int .i64 (cntHi (sumsB row L) th : Int)]) ∧ Below W.heap.size W w') := fun W th hb => rparts_any hP base va vc ads L a row ca th W hl hL hrow (hr.below hb) (ha.below hb)
  have hSL : (sumsB row L).length = L.length := by unfold sumsB; rw [List.length_map]
  obtain ⟨S, hS⟩ : ∃ S, sumsB row L = S := ⟨_, rfl⟩
  rw [hS] at HPA hSL ⊢
  obtain ⟨N, hN⟩ : ∃ N, L.length = N := ⟨_, rfl⟩
  rw [hN] at HPA hSL hl ⊢
  clear hr ha hL hrow hS hN
  go_enter Try.func77, Try.ntmps77
  go_wp2
  go_loopw [6, 7, 8, 9, 10] (fun at_ le tv _ _ wr => ∃ k : Nat, k ≤ 200 ∧ tv = .int .i64 ((k : Int) - 99) ∧ at_ = .int .i64 (rhTo S k).1 ∧ le = .int .i64 ((rhTo S k).2 : Nat) ∧ Below w.heap.size w wr) (fun _ _ tv _ _ _ => (100 - intOf tv + 1).toNat)
  case atStart => exact ⟨0, by omega, rfl, rfl, by simp only [rhTo]; rw [hSL]; rfl, Below.refl _ _⟩
  case round =>
    obtain ⟨k, hk, rfl, rfl, rfl, hb⟩ := hrel
    have HB := Lib.hid hb
    have hle := rhTo_le S k
    by_cases hlt : k < 200
    · have htl : (k : Int) - 99 ≤ 100 := by omega
      have hcl := cnt_sum S ((k : Int) - 99)
      have hPA := HPA.out wr ((k : Int) - 99) hb
      have HAB : Hid (∃ A B, cntLo S ((k : Int) - 99) = A ∧ cntHi S ((k : Int) - 99) = B) := ⟨_, _, rfl, rfl⟩
      obtain ⟨A, B, hA, hB⟩ := HAB.out
      have HG : Hid (hvG S ((k : Int) - 99) = max A B) := by show _ = _; unfold hvG; rw [hA, hB]
      rw [hA, hB] at hPA hcl
      have HP2 := Lib.hid hPA
      clear hPA hA hB hb HAB
      have e1 : (if A < B then (B : Int) else (A : Int)) = ((max A B : Nat) : Int) := by split <;> omega
      have HE1 := Lib.hid e1
      clear e1
      have HS1 : Hid (rhTo S (k + 1) = if max A B < (rhTo S k).2 then ((k : Int) - 99, max A B) else rhTo S k) := by show _ = _; simp only [rhTo]; rw [HG.out]
      obtain ⟨G0, hG0⟩ : ∃ G0, (rhTo S k).2 = G0 := ⟨_, rfl⟩
      obtain ⟨T0, hT0⟩ : ∃ T0, (rhTo S k).1 = T0 := ⟨_, rfl⟩
      have HRK := Lib.hid (And.intro hT0 hG0)
      rw [hG0] at HS1 hle
      simp only [hG0, hT0]
      clear hG0 hT0
      by_cases hlt2 : (if A < B then (B : Int) else (A : Int)) < (G0 : Int)
      · go_wp2_with (go_at_call 75; refine HP2.out.mono ?_; rintro e w9 ⟨rfl, hb9⟩)
        go_roundw
        case rel =>
          rw [HE1.out] at hlt2 ⊢
          have h := HS1.out
          rw [if_pos (by omega)] at h
          exact ⟨k + 1, by omega, congrArg (Value.int .i64) (by omega), by rw [h], by rw [h], HB.out.trans (hb9.mono HB.out.size)⟩
        case measure => simp [intOf]; omega
      · go_wp2_with (go_at_call 75; refine HP2.out.mono ?_; rintro e w9 ⟨rfl, hb9⟩)
        go_roundw
        case rel =>
          rw [HE1.out] at hlt2
          have h := HS1.out
          rw [if_neg (by omega)] at h
          exact ⟨k + 1, by omega, congrArg (Value.int .i64) (by omega), by rw [h, HRK.out.1], by rw [h, HRK.out.2], HB.out.trans (hb9.mono HB.out.size)⟩
        case measure => simp [intOf]; omega
    · obtain rfl : k = 200 := by omega
      go_wp2
      go_ret2
      exact ⟨rfl, hb⟩
set_option maxRecDepth 100000 in
set_option maxHeartbeats 2000000 in
theorem rnext_any {P : Nat} (hP : P ≤ 8) (base : Nat) (va : Option Addr) (vc : Nat) (ads : List (Option Addr × Nat)) (L : List (List Int)) (a : Option Addr) (rows : List (List Int)) (ca : Nat) (w : World) (hl : L.length ≤ 1000000) (hL : ∀ x ∈ L, x.length = P ∧ okL 0 3 x = true) (hn : rows.length ≤ 1000) (hrow : ∀ r ∈ rows, r.length = P ∧ okL (-1) 1 r = true) (hr : HR base (.slice va L.length vc) ads L w) (ha : Ms w a rows) :
    Calls Try.prog 81 #[.slice va L.length vc, .slice a rows.length ca] w fun e w' => e = .returned (.tuple #[.int .i64 ((rbTo L.length (fun i => sumsB (rowL rows i) L) rows.length).1 : Nat), .int .i64 (rbTo L.length (fun i => sumsB (rowL rows i) L) rows.length).2.1, .int .i64 ((rbTo L.length (fun i => sumsB (rowL rows i) L) rows.length).2.2 : Nat)]) ∧ Below w.heap.size w w' := by
  have HPA : Hid (∀ W ra r rc, r ∈ rows → Below w.heap.size w W → Sl W ra r → Calls Try.prog 77 #[.slice va L.length vc, .slice ra r.length rc] W fun e w' => e = .returned (.tuple #[.int .i64 (rhTo (sumsB r L) 200).1, .int .i64 ((rhTo (sumsB r L) 200).2 : Nat)]) ∧ Below W.heap.size W w') := fun W ra r rc hm hb hs => rhalve_any hP base va vc ads L ra r rc W hl hL (hrow r hm) (hr.below hb) hs
  have HMS := Lib.hid ha
  have HSZ : Hid (∀ i, (sumsB (rowL rows i) L).length = L.length) := fun i => by unfold sumsB; rw [List.length_map]
  have HF : Hid (∃ f, (fun i => sumsB (rowL rows i) L) = f) := ⟨_, rfl⟩
  obtain ⟨f, hf⟩ := HF.out
  have HFE : Hid (∀ i r, rows[i]? = some r → f i = sumsB r L) := fun i r h => by rw [← hf]; show sumsB (rowL rows i) L = _; unfold rowL; rw [h]; rfl
  have HSZ2 : Hid (∀ i, (f i).length = L.length) := by rw [← hf]; exact HSZ.out
  rw [hf]
  obtain ⟨N, hN⟩ : ∃ N, L.length = N := ⟨_, rfl⟩
  rw [hN] at HPA HSZ2 hl ⊢
  have HBL : Hid (∀ k, (rbTo N f k).2.2 ≤ N + 1) := rbTo_le N f HSZ2.out
  clear hr ha hL hrow hf hN HF HSZ
  go_enter Try.func81, Try.ntmps81
  go_wp2
  go_loopw [4, 5, 6, 7, 8, 9, 10, 16] (fun rw_ th le _ _ _ _ i wr => ∃ k : Nat, k ≤ rows.length ∧ i = .int .i64 k ∧ rw_ = .int .i64 ((rbTo N f k).1 : Nat) ∧ th = .int .i64 (rbTo N f k).2.1 ∧ le = .int .i64 ((rbTo N f k).2.2 : Nat) ∧ Below w.heap.size w wr) (fun _ _ _ _ _ _ _ i _ => rows.length - (intOf i).toNat)
  case atStart => exact ⟨0, Nat.zero_le _, rfl, rfl, rfl, by simp only [rbTo]; rfl, Below.refl _ _⟩
  case round =>
    obtain ⟨k, hk, rfl, rfl, rfl, rfl, hb⟩ := hrel
    have HB := Lib.hid hb
    by_cases hlt : k < rows.length
    · obtain ⟨b, o, ra, r, rc, rfl, q0, q1, q2⟩ := (HMS.out.below hb).at hlt
      have HX := Lib.hid (HPA.out wr ra r rc (List.mem_of_getElem? q2.out) hb q1)
      have HS1 : Hid (rbTo N f (k + 1) = if (rhTo (sumsB r L) 200).2 < (rbTo N f k).2.2 then (k, rhTo (sumsB r L) 200) else rbTo N f k) := by show _ = _; simp only [rbTo]; rw [HFE.out k r q2.out]
      clear q1 hb
      obtain ⟨G0, hG0⟩ : ∃ G0, (rbTo N f k).2.2 = G0 := ⟨_, rfl⟩
      obtain ⟨G1, hG1⟩ : ∃ G1, rhTo (sumsB r L) 200 = G1 := ⟨_, rfl⟩
      have HRK := Lib.hid hG0
      rw [hG1] at HS1 HX
      rw [hG0] at HS1
      simp only [hG0]
      clear hG0 hG1
      obtain ⟨g1, g2⟩ := G1
      by_cases hlt2 : (g2 : Int) < (G0 : Int)
      · go_wp2_with (go_at_call 77; refine HX.out.mono ?_; rintro e w9 ⟨rfl, hb9⟩)
        go_roundw
        case rel =>
          have h := HS1.out
          rw [if_pos (by omega)] at h
          exact ⟨k + 1, by omega, by go_num, by rw [h], by rw [h], by rw [h], HB.out.trans (hb9.mono HB.out.size)⟩
        case measure => simp [intOf]; omega
      · go_wp2_with (go_at_call 77; refine HX.out.mono ?_; rintro e w9 ⟨rfl, hb9⟩)
        go_roundw
        case rel =>
          have h := HS1.out
          rw [if_neg (by omega)] at h
          exact ⟨k + 1, by omega, by go_num, by rw [h], by rw [h], by rw [h, HRK.out], HB.out.trans (hb9.mono HB.out.size)⟩
        case measure => simp [intOf]; omega
    · obtain rfl : k = rows.length := by omega
      go_wp2
      go_ret3
      exact ⟨rfl, hb⟩
end Go.Proofs.Ytoedbbpjddjbnaa
/- choose of layer 7: a contract. -/
namespace Go.Proofs.Ytoedbbpjddjbnaa
open Go.RowKit

/-- What choose's counts are: maps that tell how often each sum has come, in a slice of their own. -/
structure MpI (S0 G M R : Nat) (f : Nat → List Int) (W : World) : Prop where
  cG : ∀ i, i < R → W.cell? ⟨G, i, none⟩ = some (.map (some (M + i)))
  mp : ∀ i, i < R → OC W (M + i) (f i)
  lG : S0 ≤ G
  lM : S0 ≤ M
theorem MpI.same {S0 G M R : Nat} {f : Nat → List Int} {W W' : World} (h : MpI S0 G M R f W) (hb : ∀ b, S0 ≤ b → b < W.heap.size → W'.heap[b]? = W.heap[b]?) : MpI S0 G M R f W' :=
  ⟨fun i hi => (World.cell?_of_block (hb G h.lG (cell_lt (h.cG i hi)))).trans (h.cG i hi), fun i hi => (h.mp i hi).same (hb _ (Nat.le_trans h.lM (Nat.le_add_right _ _)) (h.mp i hi).lt), h.lG, h.lM⟩
theorem MpI.below {S0 G M R : Nat} {f : Nat → List Int} {W W' : World} (h : MpI S0 G M R f W) (hb : Below W.heap.size W W') : MpI S0 G M R f W' := h.same fun b _ hl => hb.block b hl
set_option maxRecDepth 1000000 in
set_option maxHeartbeats 4000000 in
theorem choose_any (fv : Value) (a : Option Addr) (R rc : Nat) (f : Nat → List Int) (w : World) (hR : R ≤ 1000) (hf : ∀ i, (f i).length ≤ 1000000)
    (hc : ∀ W, Below w.heap.size w W → Calls Try.prog 73 #[fv, .slice a R rc] W fun e w' => ∃ G M, e = .returned (.slice (some ⟨G, 0, none⟩) R R) ∧ MpI W.heap.size G M R f w' ∧ Below W.heap.size W w') :
    Calls Try.prog 79 #[fv, .slice a R rc] w fun e w' => e = .returned (chV (bsTo f R).1 (bsTo f R).2.1 (bsTo f R).2.2.1 (bsTo f R).2.2.2) ∧ Below w.heap.size w w' := by
  have HC := Lib.hid hc; clear hc
  have HFL := Lib.hid hf; clear hf
  obtain ⟨U, hU⟩ : ∃ U, (w.alloc (.cells #[.int .i64 0, .int .i64 0, .int .i64 0, .int .i64 0] 97)).alloc (.cells #[.int .i64 0, .int .i64 0, .int .i64 0, .int .i64 0] 97) = U := ⟨_, rfl⟩
  have hw1 : (w.alloc (.cells #[.int .i64 0, .int .i64 0, .int .i64 0, .int .i64 0] 97)).heap.size = w.heap.size + 1 := World.size_alloc _ _
  have HBU : Hid (Below w.heap.size w U) := by rw [← hU]; exact ((Below.refl _ _).alloc (Nat.le_refl _) _).alloc (by omega) _
  have HSU : Hid (U.heap.size = w.heap.size + 2) := by show _ = _; rw [← hU, World.size_alloc, hw1]
  have HR : Hid (B4 U w.heap.size 0 0 0 0) := by show B4 _ _ _ _ _ _; rw [← hU]; exact (B4.new w 0 0 0 0 _).next ((Below.refl _ _).alloc (Nat.le_refl _) _)
  have HQ : Hid (B4 U (w.heap.size + 1) 0 0 0 0) := by
    have h := B4.new (w.alloc (.cells #[.int .i64 0, .int .i64 0, .int .i64 0, .int .i64 0] 97)) 0 0 0 0 97
    rw [hw1, hU] at h; exact h
  clear hw1
  go_enter Try.func79, Try.ntmps79
  go_wp2_with (go_at_call 73; (try rw [hU]); refine (HC.out U HBU.out).mono ?_; rintro e w2 ⟨G, M, rfl, hm, hb2⟩; rw [HSU.out] at hm; have HM2 := Lib.hid hm; have HB2 := Lib.hid hb2; clear hm hb2)
  clear hU
  go_loopw [6, 7, 8, 13] (fun _ _ _ i wr => ∃ k : Nat, k ≤ R ∧ i = .int .i64 k ∧ B4 wr w.heap.size 0 0 0 0 ∧ B4 wr (w.heap.size + 1) (bsTo f k).1 (bsTo f k).2.1 (bsTo f k).2.2.1 (bsTo f k).2.2.2 ∧ MpI (w.heap.size + 2) G M R f wr ∧ Below w.heap.size w wr) (fun _ _ _ i _ => R - (intOf i).toNat)
  case atStart => exact ⟨0, by omega, rfl, HR.out.next HB2.out, HQ.out.next HB2.out, HM2.out, HBU.out.trans (HB2.out.mono HBU.out.size)⟩
  case round =>
    clear HR HQ HBU HM2 HB2
    obtain ⟨k, hk, rfl, hr, hq, hm, hb⟩ := hrel
    have HR := Lib.hid hr
    have HQ := Lib.hid hq
    have HB := Lib.hid hb
    have HM := Lib.hid hm
    by_cases hlt : k < R
    · have q := hm.cG k hlt
      have HHV := Lib.hid (halved_any (M + k) (f k) wr (HFL.out k) (hm.mp k hlt))
      have HBS : Hid (bsTo f (k + 1) = if k = 0 ∨ (halved (f k)).2.1 < (bsTo f k).2.2.1 then (k, halved (f k)) else bsTo f k) := rfl
      obtain ⟨C, hC⟩ : ∃ C, halved (f k) = C := ⟨_, rfl⟩
      rw [hC] at HBS HHV
      clear hC hr hq hm hb
      obtain ⟨c1, c2, c3⟩ := C
      have HRS : Hid (∀ W, Below wr.heap.size wr W → B4 W (w.heap.size + 1) (bsTo f k).1 (bsTo f k).2.1 (bsTo f k).2.2.1 (bsTo f k).2.2.2 ∧ B4 W w.heap.size 0 0 0 0 ∧ MpI (w.heap.size + 2) G M R f W) := fun W hb => ⟨HQ.out.next hb, HR.out.next hb, HM.out.below hb⟩
      obtain ⟨⟨b1, b2, b3, b4⟩, hBB⟩ : ∃ B, bsTo f k = B := ⟨_, rfl⟩
      rw [hBB] at HBS HRS
      by_cases hk0 : k = 0
      · have hk1 : ((k : Int) == 0) = true := by simp; omega
        have HK0 := Lib.hid hk0
        clear hk0
        go_wp2_with (go_at_call 99; refine HHV.out.mono ?_; rintro e w9 ⟨rfl, hb9⟩; unfold chV; have HB9 := Lib.hid hb9; have HX9 := Lib.hid (HRS.out w9 hb9); obtain ⟨WA, hWA⟩ : ∃ WA, w9.alloc (.cells #[.int .i64 (k : Int), .int .i64 c1, .int .i64 (c2 : Int), .int .i64 (c3 : Int)] 97) = WA := ⟨_, rfl⟩; have hbA : Below w9.heap.size w9 WA := hWA ▸ (Below.refl w9.heap.size w9).alloc (Nat.le_refl _) _; have hnA : B4 WA w9.heap.size (k : Int) c1 c2 c3 := hWA ▸ B4.new w9 _ _ _ _ _; have HBA := Lib.hid hbA; have HXA := Lib.hid (HRS.out WA (HB9.out.trans (hbA.mono HB9.out.size))); obtain ⟨n0, n1, n2, n3⟩ := And.intro hnA.c0 (And.intro hnA.c1 (And.intro hnA.c2 hnA.c3)); obtain ⟨x0, x1, x2, x3⟩ := And.intro HXA.out.1.c0 (And.intro HXA.out.1.c1 (And.intro HXA.out.1.c2 HXA.out.1.c3)); obtain ⟨y0, y1, y2, y3⟩ := And.intro HXA.out.1.f0 (And.intro HXA.out.1.f1 (And.intro HXA.out.1.f2 HXA.out.1.f3)); clear hb9 hbA hnA)
        refine ⟨⟨k + 1, by omega, congrArg (Value.int .i64) (by omega), HXA.out.2.1.other (b := w.heap.size + 1) (by omega) _ _ _ _, ?_, HXA.out.2.2.same fun b hb _ => set4_heap _ _ _ _ _ _ (by omega), set4_below (HB.out.trans ((HB9.out.trans (HBA.out.mono HB9.out.size)).mono HB.out.size)) (by omega) _ _ _ _⟩, by simp [intOf]; omega⟩
        rw [HBS.out, if_pos (.inl HK0.out)]
        exact HXA.out.1.set k c1 c2 c3
      · have hk1 : ((k : Int) == 0) = false := by simp; omega
        have HK0 := Lib.hid hk0
        clear hk0
        by_cases hlt2 : (c2 : Int) < (b3 : Int)
        · go_wp2_with (go_at_call 99; refine HHV.out.mono ?_; rintro e w9 ⟨rfl, hb9⟩; unfold chV; have HB9 := Lib.hid hb9; have HX9 := Lib.hid (HRS.out w9 hb9); have z0 := (HX9.out.1.next ((Below.refl w9.heap.size w9).alloc (Nat.le_refl _) (.cells #[.int .i64 0, .int .i64 c1, .int .i64 (c2 : Int), .int .i64 (c3 : Int)] 97))).c2; obtain ⟨WA, hWA⟩ : ∃ WA, w9.alloc (.cells #[.int .i64 (k : Int), .int .i64 c1, .int .i64 (c2 : Int), .int .i64 (c3 : Int)] 97) = WA := ⟨_, rfl⟩; have hbA : Below w9.heap.size w9 WA := hWA ▸ (Below.refl w9.heap.size w9).alloc (Nat.le_refl _) _; have hnA : B4 WA w9.heap.size (k : Int) c1 c2 c3 := hWA ▸ B4.new w9 _ _ _ _ _; have HBA := Lib.hid hbA; have HXA := Lib.hid (HRS.out WA (HB9.out.trans (hbA.mono HB9.out.size))); obtain ⟨n0, n1, n2, n3⟩ := And.intro hnA.c0 (And.intro hnA.c1 (And.intro hnA.c2 hnA.c3)); obtain ⟨x0, x1, x2, x3⟩ := And.intro HXA.out.1.c0 (And.intro HXA.out.1.c1 (And.intro HXA.out.1.c2 HXA.out.1.c3)); obtain ⟨y0, y1, y2, y3⟩ := And.intro HXA.out.1.f0 (And.intro HXA.out.1.f1 (And.intro HXA.out.1.f2 HXA.out.1.f3)); clear hb9 hbA hnA)
          refine ⟨⟨k + 1, by omega, congrArg (Value.int .i64) (by omega), HXA.out.2.1.other (b := w.heap.size + 1) (by omega) _ _ _ _, ?_, HXA.out.2.2.same fun b hb _ => set4_heap _ _ _ _ _ _ (by omega), set4_below (HB.out.trans ((HB9.out.trans (HBA.out.mono HB9.out.size)).mono HB.out.size)) (by omega) _ _ _ _⟩, by simp [intOf]; omega⟩
          rw [HBS.out, if_pos (.inr (by omega))]
          exact HXA.out.1.set k c1 c2 c3
        · go_wp2_with (go_at_call 99; refine HHV.out.mono ?_; rintro e w9 ⟨rfl, hb9⟩; unfold chV; have HB9 := Lib.hid hb9; have HX9 := Lib.hid (HRS.out w9 hb9); obtain ⟨WA, hWA⟩ : ∃ WA, w9.alloc (.cells #[.int .i64 (0 : Int), .int .i64 c1, .int .i64 (c2 : Int), .int .i64 (c3 : Int)] 97) = WA := ⟨_, rfl⟩; have hbA : Below w9.heap.size w9 WA := hWA ▸ (Below.refl w9.heap.size w9).alloc (Nat.le_refl _) _; have hnA : B4 WA w9.heap.size (0 : Int) c1 c2 c3 := hWA ▸ B4.new w9 _ _ _ _ _; have HBA := Lib.hid hbA; have HXA := Lib.hid (HRS.out WA (HB9.out.trans (hbA.mono HB9.out.size))); obtain ⟨n0, n1, n2, n3⟩ := And.intro hnA.c0 (And.intro hnA.c1 (And.intro hnA.c2 hnA.c3)); obtain ⟨x0, x1, x2, x3⟩ := And.intro HXA.out.1.c0 (And.intro HXA.out.1.c1 (And.intro HXA.out.1.c2 HXA.out.1.c3)); obtain ⟨y0, y1, y2, y3⟩ := And.intro HXA.out.1.f0 (And.intro HXA.out.1.f1 (And.intro HXA.out.1.f2 HXA.out.1.f3)); clear hb9 hbA hnA)
          exact ⟨⟨k + 1, by omega, congrArg (Value.int .i64) (by omega), HXA.out.2.1, by rw [HBS.out, if_neg (by rintro (h | h); exact HK0.out h; omega)]; exact HXA.out.1, HXA.out.2.2, HB.out.trans ((HB9.out.trans (HBA.out.mono HB9.out.size)).mono HB.out.size)⟩, by simp [intOf]; omega⟩
    · obtain rfl : k = R := by omega
      obtain ⟨q0, q1, q2, q3⟩ := And.intro hq.c0 (And.intro hq.c1 (And.intro hq.c2 hq.c3))
      obtain ⟨r0, r1, r2, r3⟩ := And.intro hr.c0 (And.intro hr.c1 (And.intro hr.c2 hr.c3))
      obtain ⟨s0, s1, s2, s3⟩ := And.intro hr.f0 (And.intro hr.f1 (And.intro hr.f2 hr.f3))
      clear hr hq hb hm
      go_wp2
      have R4 := HR.out.set (bsTo f k).1 (bsTo f k).2.1 (bsTo f k).2.2.1 (bsTo f k).2.2.2
      have hbl := set4_below HB.out (Nat.le_refl w.heap.size) (bsTo f k).1 (bsTo f k).2.1 (bsTo f k).2.2.1 (bsTo f k).2.2.2
      unfold set4 at R4 hbl
      obtain ⟨e0, e1, e2, e3⟩ := And.intro R4.c0 (And.intro R4.c1 (And.intro R4.c2 R4.c3))
      refine bodyPost_ret_by (v := chV (bsTo f k).1 (bsTo f k).2.1 (bsTo f k).2.2.1 (bsTo f k).2.2.2) ?_ rfl ⟨rfl, hbl⟩
      rw [results_cell_one1 rfl]
      unfold chV
      go_simp
end Go.Proofs.Ytoedbbpjddjbnaa
/- all over rows, with validRows$1 of bit: a contract. Written by mk_allrows.py. -/
namespace Go.Proofs.Ytoedbbpjddjbnaa
open Go.RowKit

set_option maxRecDepth 100000 in
set_option maxHeartbeats 2000000 in
theorem ballrows_any (lb : Array Value) (P : List Int → Bool) (a : Option Addr) (rows : List (List Int)) (cap : Nat) (w : World) (hn : rows.length ≤ 1000000) (hs : Ms w a rows)
    (h1 : ∀ W, Below w.heap.size w W → ∀ r ∈ rows, ∀ ra rc, Sl W ra r → Calls Try.prog 98 (#[.slice ra r.length rc] ++ lb) W fun e w' => e = .returned (.bool (P r)) ∧ Below W.heap.size W w') :
    Calls Try.prog 97 #[.slice a rows.length cap, .func (.func 98) #[] lb] w fun e w' => e = .returned (.bool (rows.all P)) ∧ Below w.heap.size w w' := by
  obtain ⟨V, hV⟩ : ∃ V, w.alloc (.cells #[.func (.func 98) #[] lb] 112) = V := ⟨_, rfl⟩
  have HB0 : Hid (Below w.heap.size w V) := by rw [← hV]; exact (Below.refl _ _).alloc (Nat.le_refl _) _
  have HCC : Hid (V.cell? ⟨w.heap.size, 0, none⟩ = some (.func (.func 98) #[] lb)) := by show _ = _; rw [← hV]; exact alloc_cell _ _ _ _ _ rfl
  have H1 := Lib.hid h1; clear h1
  have HS := Lib.hid hs; clear hs
  have HA1 : Hid (∀ W, Below V.heap.size V W → ∀ r ∈ rows, ∀ ra rc, Sl W ra r → Calls Try.prog 109 #[.slice ra r.length rc, .pointer (some ⟨w.heap.size, 0, none⟩)] W fun e w' => e = .returned (.bool (!P r)) ∧ Below W.heap.size W w') := fun W hb r hr ra rc hsl => by
    have HX := Lib.hid (H1.out W (HB0.out.trans (hb.mono HB0.out.size)) r hr ra rc hsl)
    have hc : W.cell? ⟨w.heap.size, 0, none⟩ = some (.func (.func 98) #[] lb) := (hb.cell (p := ⟨w.heap.size, 0, none⟩) (cell_lt HCC.out)).trans HCC.out
    clear hsl hb
    go_enter Try.func109, Try.ntmps109
    go_wp2_with (go_at_call 98; refine HX.out.mono ?_; rintro e w1 ⟨rfl, hb1⟩)
    go_ret
    exact ⟨ret_bool rfl, hb1⟩
  have HI : Hid (∀ c, Calls Try.prog 113 #[.slice a rows.length c, .func (.func 109) #[] #[.pointer (some ⟨w.heap.size, 0, none⟩)]] V fun e w' => e = .returned (.int .i64 (nix P rows)) ∧ Below V.heap.size V w') := fun c => by
    have HSV := Lib.hid (HS.out.below HB0.out)
    clear hV HCC
    go_enter Try.func113, Try.ntmps113
    go_wp2
    go_loopw [8] (fun i wr => ∃ k : Nat, k ≤ rows.length ∧ i = .int .i64 k ∧ (∀ j y, j < k → rows[j]? = some y → P y = true) ∧ Below V.heap.size V wr) (fun i _ => rows.length - (intOf i).toNat)
    case atStart => exact ⟨0, Nat.zero_le _, rfl, fun j y h => by omega, Below.refl _ _⟩
    case round =>
      obtain ⟨k, hk, rfl, hno, hb⟩ := hrel
      have HN := Lib.hid hno; clear hno
      have HB := Lib.hid hb; clear hb
      by_cases hlt : k < rows.length
      · obtain ⟨b, o, ra, r, rc, rfl, q0, q1, q2⟩ := (HSV.out.below HB.out).at hlt
        have HX := Lib.hid (HA1.out wr HB.out r (List.mem_of_getElem? q2.out) ra rc q1)
        clear q1
        cases ho : P r
        · go_wp2_with (go_at_call 109; refine HX.out.mono ?_; rintro e w' ⟨rfl, hb1⟩; rw [ho])
          go_ret
          exact ⟨ret_i64 (nix_hit HN.out q2.out ho).symm, HB.out.trans (hb1.mono HB.out.size)⟩
        · go_wp2_with (go_at_call 109; refine HX.out.mono ?_; rintro e w' ⟨rfl, hb1⟩; rw [ho])
          have HB2 : Hid (Below V.heap.size V w') := HB.out.trans (hb1.mono HB.out.size)
          clear hb1
          go_roundw
          case rel => exact ⟨k + 1, by omega, by go_num, fun j y hj hy => by
              by_cases hj' : j = k
              · subst hj'; rw [q2.out] at hy; cases hy; exact ho
              · exact HN.out j y (by omega) hy, HB2.out⟩
          case measure => simp [intOf]; omega
      · go_wp2
        go_ret
        exact ⟨ret_i64 (nix_miss (fun j y hy => HN.out j y (by have := (List.getElem?_eq_some_iff.1 hy).1; omega) hy)).symm, HB.out⟩
  have HCF : Hid (∀ c, Calls Try.prog 108 #[.slice a rows.length c, .func (.func 109) #[] #[.pointer (some ⟨w.heap.size, 0, none⟩)]] V fun e w' => e = .returned (.bool (decide (0 ≤ nix P rows))) ∧ Below V.heap.size V w') := fun c => by
    clear hV HCC
    go_enter Try.func108, Try.ntmps108
    go_wp2_with (go_at_call 113; refine (HI.out _).mono ?_; rintro e w' ⟨rfl, hb⟩)
    go_ret
    exact ⟨ret_bool rfl, hb⟩
  have HOK := Lib.hid (nix_ok P rows)
  clear HCC
  go_enter Try.func97, Try.ntmps97
  go_wp2_with (go_at_call 108; refine (HCF.out _).mono ?_; rintro e w' ⟨rfl, hb⟩)
  go_ret
  exact ⟨ret_bool HOK.out, HB0.out.trans (hb.mono HB0.out.size)⟩
end Go.Proofs.Ytoedbbpjddjbnaa
/- validRows of layer 7 and of its answers: contracts. -/
namespace Go.Proofs.Ytoedbbpjddjbnaa
open Go.RowKit

theorem bvrows1_any (b : Nat) (p t : Int) (ra : Option Addr) (r : List Int) (rc : Nat) (W : World) (h0 : W.cell? ⟨b, 0, none⟩ = some (.int .i64 p)) (h1 : W.cell? ⟨b, 1, none⟩ = some (.int .i64 t)) (hl : r.length ≤ 140737488351232) (hs : Sl W ra r) :
    Calls Try.prog 98 #[.slice ra r.length rc, .pointer (some ⟨b, 0, none⟩)] W fun e w' => e = .returned (.bool (browB p t r)) ∧ Below W.heap.size W w' := by
  have HX := Lib.hid (vrow_any p t ra r rc W hl hs); clear hs
  go_enter Try.func98, Try.ntmps98
  go_wp2_with (go_at_call 53; refine HX.out.mono ?_; rintro e w1 ⟨rfl, hb1⟩)
  go_ret
  exact ⟨ret_bool rfl, hb1⟩
theorem bvrows_any (p t : Int) (a : Option Addr) (rows : List (List Int)) (cap : Nat) (w : World) (hn : rows.length ≤ 1000000) (hl : ∀ r ∈ rows, r.length ≤ 140737488351232) (hs : Ms w a rows) :
    Calls Try.prog 78 #[.agg #[.int .i64 p, .int .i64 t], .slice a rows.length cap] w fun e w' => e = .returned (.bool (rows.all (browB p t))) ∧ Below w.heap.size w w' := by
  obtain ⟨V, hV⟩ : ∃ V, w.alloc (.cells #[.int .i64 p, .int .i64 t] 23) = V := ⟨_, rfl⟩
  have HB0 : Hid (Below w.heap.size w V) := by rw [← hV]; exact (Below.refl _ _).alloc (Nat.le_refl _) _
  have h0 : V.cell? ⟨w.heap.size, 0, none⟩ = some (.int .i64 p) := by rw [← hV]; exact alloc_cell _ _ _ _ _ rfl
  have h1 : V.cell? ⟨w.heap.size, 1, none⟩ = some (.int .i64 t) := by rw [← hV]; exact alloc_cell _ _ _ _ _ rfl
  have HA := Lib.hid (ballrows_any #[.pointer (some ⟨w.heap.size, 0, none⟩)] (browB p t) a rows cap V hn (hs.below HB0.out) fun W hb r hr ra rc hsl => bvrows1_any w.heap.size p t ra r rc W ((hb.cell (p := ⟨w.heap.size, 0, none⟩) (cell_lt h0)).trans h0) ((hb.cell (p := ⟨w.heap.size, 1, none⟩) (cell_lt h1)).trans h1) (hl r hr) hsl)
  clear hs h0 h1
  go_enter Try.func78, Try.ntmps78
  go_wp2_with (go_at_call 97; refine HA.out.mono ?_; rintro e w1 ⟨rfl, hb1⟩)
  go_ret
  exact ⟨ret_bool rfl, HB0.out.trans (hb1.mono HB0.out.size)⟩
def rowB (p : Int) (r : List Int) : Bool := decide ((r.length : Int) = p) && okL (-1) 1 r
set_option maxHeartbeats 2000000 in
theorem rvrows_any (p t : Int) (a : Option Addr) (rows : List (List Int)) (cap : Nat) (w : World) (hn : rows.length ≤ 1000000) (hl : ∀ r ∈ rows, r.length ≤ 140737488351232) (hs : Ms w a rows) :
    Calls Try.prog 80 #[.agg #[.int .i64 p, .int .i64 t], .slice a rows.length cap] w fun e w' => e = .returned (.bool (rows.all (rowB p))) ∧ Below w.heap.size w w' := by
  have HF := Lib.hid (Fb.new w p t 23)
  have HS := Lib.hid hs; clear hs
  have HL := Lib.hid hl; clear hl
  obtain ⟨k0, k1⟩ := And.intro HF.out.c0 HF.out.c1
  go_enter Try.func80, Try.ntmps80
  go_wp2
  go_loopw [6, 9] (fun _ i wr => ∃ k : Nat, k ≤ rows.length ∧ i = .int .i64 k ∧ (∀ j y, j < k → rows[j]? = some y → rowB p y = true) ∧ Fb w p t wr) (fun _ i _ => rows.length - (intOf i).toNat)
  case atStart => exact ⟨0, Nat.zero_le _, rfl, fun j y h => by omega, HF.out⟩
  case round =>
    clear k0 k1
    obtain ⟨k, hk, rfl, hno, hf⟩ := hrel
    have HN := Lib.hid hno; clear hno
    obtain ⟨k0, k1⟩ := And.intro hf.c0 hf.c1
    have HFB := Lib.hid hf; clear hf
    by_cases hlt : k < rows.length
    · obtain ⟨b, o, ra, r, rc, rfl, q0, q1, q2⟩ := (HS.out.below HFB.out.below).at hlt
      have HX := Lib.hid (rvrow_any p ra r rc wr (HL.out r (List.mem_of_getElem? q2.out)) q1)
      clear q1
      cases ho : rowB p r
      · go_wp2_with (go_at_call 90; refine HX.out.mono ?_; rintro e w' ⟨rfl, rfl⟩; rw [show (decide ((r.length : Int) = p) && okL (-1) 1 r) = false from ho])
        go_ret
        exact ⟨ret_bool (by rw [eq_comm, List.all_eq_false]; exact ⟨r, List.mem_of_getElem? q2.out, by rw [ho]; decide⟩), HFB.out.below⟩
      · go_wp2_with (go_at_call 90; refine HX.out.mono ?_; rintro e w' ⟨rfl, rfl⟩; rw [show (decide ((r.length : Int) = p) && okL (-1) 1 r) = true from ho])
        go_roundw
        case rel => exact ⟨k + 1, by omega, by go_num, fun j y hj hy => by
            by_cases hj' : j = k
            · subst hj'; rw [q2.out] at hy; cases hy; exact ho
            · exact HN.out j y (by omega) hy, HFB.out⟩
        case measure => simp [intOf]; omega
    · go_wp2
      go_ret
      exact ⟨ret_bool (by rw [eq_comm, List.all_eq_true]; intro y hy; obtain ⟨j, hj⟩ := List.mem_iff_getElem?.1 hy; exact HN.out j y (by have := (List.getElem?_eq_some_iff.1 hj).1; omega) hj), HFB.out.below⟩
end Go.Proofs.Ytoedbbpjddjbnaa
/- Next and Halve of layer 7 and of its answers: contracts. -/
namespace Go.Proofs.Ytoedbbpjddjbnaa
open Go.RowKit

/-- What the rows' sums are. -/
def smF (P T : Nat) (cs : List Cl) (rows : List (List Int)) (i : Nat) : List Int := sumsB (rowL rows i) (fitP T P cs)
theorem smF_len (P T : Nat) (cs : List Cl) (rows : List (List Int)) (i : Nat) : (smF P T cs rows i).length = (fitP T P cs).length := by unfold smF sumsB; rw [List.length_map]
def nextV (p t : Int) (cs : List Cl) (rows : List (List Int)) : Int × Int × Int :=
  if (valsB p t cs && rows.all (rowB p)) = true then
    (if 1 ≤ rows.length ∧ rows.length ≤ 20 then
      (if (fitP t.toNat p.toNat cs).length = 0 then (0, 0, 8)
       else (((bsTo (smF p.toNat t.toNat cs rows) rows.length).1 : Int), (bsTo (smF p.toNat t.toNat cs rows) rows.length).2.1, 0))
     else (0, 0, 7))
  else (0, 0, 1)
theorem choose_fit (P T : Nat) (hP1 : 1 ≤ P) (hP : P ≤ 8) (hT : T ≤ 3) (a : Option Addr) (cs : List Cl) (cap : Nat) (hn : cs.length ≤ 1000000) (hv : ∀ c ∈ cs, c.1.length = P ∧ okL (-1) 1 c.1 = true) (F : Nat) (w0 w : World) (hcs : Cs w0 a cs) (hw0 : Below w0.heap.size w0 w)
    (h0 : w.cell? ⟨F, 0, none⟩ = some (.int .i64 P)) (h1 : w.cell? ⟨F, 1, none⟩ = some (.int .i64 T)) (hq : w.cell? ⟨F + 1, 0, none⟩ = some (.slice a cs.length cap)) (ra : Option Addr) (rows : List (List Int)) (rc : Nat) (hR : rows.length ≤ 1000) (hrow : ∀ r ∈ rows, r.length = P ∧ okL (-1) 1 r = true) (hr : Ms w ra rows) :
    Calls Try.prog 79 #[.func (.func 95) #[] #[.pointer (some ⟨F, 0, none⟩), .pointer (some ⟨F + 1, 0, none⟩)], .slice ra rows.length rc] w fun e w' => e = .returned (chV (bsTo (smF P T cs rows) rows.length).1 (bsTo (smF P T cs rows) rows.length).2.1 (bsTo (smF P T cs rows) rows.length).2.2.1 (bsTo (smF P T cs rows) rows.length).2.2.2) ∧ Below w.heap.size w w' :=
  choose_any _ ra rows.length rc (smF P T cs rows) w hR (fun i => by rw [smF_len]; have := fitP_len hT hP cs; omega) fun W hb =>
    (counts_fit P T hP1 hP hT a cs cap hn hv F w0 W hcs (hw0.trans (hb.mono hw0.size)) ((hb.cell (p := ⟨F, 0, none⟩) (cell_lt h0)).trans h0) ((hb.cell (p := ⟨F, 1, none⟩) (cell_lt h1)).trans h1) ((hb.cell (p := ⟨F + 1, 0, none⟩) (cell_lt hq)).trans hq) ra rows rc hR hrow (hr.below hb)).mono fun e w' ⟨X, e1, hc⟩ =>
      ⟨W.heap.size + 1, X + 1, e1, ⟨hc.cG, hc.mp, by omega, by have := hc.wX; omega⟩, hc.bw⟩
theorem rows_of {p t : Int} {cs : List Cl} {rows : List (List Int)} (hv : valsB p t cs = true) : rows.all (browB p t) = rows.all (rowB p) := by
  congr 1; funext r; exact vals_brow hv
set_option maxRecDepth 100000 in
set_option maxHeartbeats 4000000 in
theorem bnext_any (p t : Int) (a : Option Addr) (cs : List Cl) (cap : Nat) (b : Option Addr) (rows : List (List Int)) (cb : Nat) (w : World) (hn : cs.length ≤ 1000000) (hlc : CLen cs) (hs : Cs w a cs) (hm : rows.length ≤ 1000000) (hl : ∀ r ∈ rows, r.length ≤ 140737488351232) (hb : Ms w b rows) :
    Calls Try.prog 43 #[.agg #[.int .i64 p, .int .i64 t], .slice a cs.length cap, .slice b rows.length cb] w fun e w' => e = .returned (.tuple #[.int .i64 (nextV p t cs rows).1, .int .i64 (nextV p t cs rows).2.1, .int .i64 (nextV p t cs rows).2.2]) ∧ Below w.heap.size w w' := by
  have HF := Lib.hid (Fb.new w p t 23)
  have HS := Lib.hid hs; clear hs
  have HLC := Lib.hid hlc; clear hlc
  have HB := Lib.hid hb; clear hb
  have HL := Lib.hid hl; clear hl
  cases hv : valsB p t cs
  · have HV := Lib.hid (show nextV p t cs rows = (0, 0, 1) by unfold nextV; rw [hv]; rfl)
    go_enter Try.func43, Try.ntmps43
    go_wp2_with (go_at_call 21; refine (bvalid_any p t a cs cap _ hn HLC.out (HF.out.below_cs HS.out)).mono ?_; rintro e w1 ⟨rfl, hb1⟩; have F1 := Fb.next HF.out hb1; obtain ⟨k0, k1⟩ := And.intro F1.c0 F1.c1; rw [hv])
    go_ret3
    exact ⟨by rw [HV.out]; rfl, F1.below⟩
  · have HVR : Hid (∀ W, Fb w p t W → Calls Try.prog 78 #[.agg #[.int .i64 p, .int .i64 t], .slice b rows.length cb] W fun e w' => e = .returned (.bool (rows.all (rowB p))) ∧ Fb w p t w') := fun W hf => by
      have h := bvrows_any p t b rows cb W hm HL.out (HB.out.below hf.below)
      rw [rows_of hv] at h
      exact h.mono fun e w' ⟨k1, k2⟩ => ⟨k1, hf.next k2⟩
    cases hw : rows.all (rowB p)
    · have HV := Lib.hid (show nextV p t cs rows = (0, 0, 1) by unfold nextV; rw [hv, hw]; rfl)
      rw [hw] at HVR
      go_enter Try.func43, Try.ntmps43
      go_wp2_with (first
        | (go_at_call 21; refine (bvalid_any p t a cs cap _ hn HLC.out (HF.out.below_cs HS.out)).mono ?_; rintro e w1 ⟨rfl, hb1⟩; have F1 := Fb.next HF.out hb1; obtain ⟨k0, k1⟩ := And.intro F1.c0 F1.c1; rw [hv])
        | (go_at_call 78; refine (HVR.out _ F1).mono ?_; rintro e w2 ⟨rfl, F2⟩; obtain ⟨k2, k3⟩ := And.intro F2.c0 F2.c1))
      go_ret3
      exact ⟨by rw [HV.out]; rfl, F2.below⟩
    · rw [hw] at HVR
      by_cases hr : 1 ≤ rows.length ∧ rows.length ≤ 20
      · obtain ⟨P, T, rfl, rfl, hP1, hP, hT⟩ : ∃ P T : Nat, p = (P : Int) ∧ t = (T : Int) ∧ 1 ≤ P ∧ P ≤ 8 ∧ T ≤ 3 := by
          have h1 : vfB p t = true := by simp only [valsB, Bool.and_eq_true] at hv; exact hv.1
          exact vf_of h1
        have HVO := Lib.hid (vals_of hv).2
        have HRW : Hid (∀ r ∈ rows, r.length = P ∧ okL (-1) 1 r = true) := fun r hr => by
          have h := List.all_eq_true.1 hw r hr
          unfold rowB at h
          rw [Bool.and_eq_true, decide_eq_true_iff] at h
          exact ⟨by omega, h.2⟩
        have HCH : Hid (∀ W, Fb w P T W → Calls Try.prog 79 #[.func (.func 95) #[] #[.pointer (some ⟨W.heap.size, 0, none⟩), .pointer (some ⟨W.heap.size + 1, 0, none⟩)], .slice b rows.length cb] ((W.alloc (.cells #[.int .i64 P, .int .i64 T] 23)).alloc (.cells #[.slice a cs.length cap] 24)) fun e w' => e = .returned (chV (bsTo (smF P T cs rows) rows.length).1 (bsTo (smF P T cs rows) rows.length).2.1 (bsTo (smF P T cs rows) rows.length).2.2.1 (bsTo (smF P T cs rows) rows.length).2.2.2) ∧ Below W.heap.size W w') := fun W hf => by
          obtain ⟨A, hA⟩ : ∃ A, W.alloc (.cells #[.int .i64 P, .int .i64 T] 23) = A := ⟨_, rfl⟩
          obtain ⟨B, hB⟩ : ∃ B, A.alloc (.cells #[.slice a cs.length cap] 24) = B := ⟨_, rfl⟩
          rw [hA, hB]
          have sA : A.heap.size = W.heap.size + 1 := by rw [← hA]; exact World.size_alloc _ _
          have bA : Below W.heap.size W A := by rw [← hA]; exact (Below.refl _ _).alloc (Nat.le_refl _) _
          have bB : Below A.heap.size A B := by rw [← hB]; exact (Below.refl _ _).alloc (Nat.le_refl _) _
          have bWB : Below W.heap.size W B := bA.trans (bB.mono bA.size)
          have f0 : A.cell? ⟨W.heap.size, 0, none⟩ = some (.int .i64 P) := by rw [← hA]; exact alloc_cell _ _ _ _ _ rfl
          have f1 : A.cell? ⟨W.heap.size, 1, none⟩ = some (.int .i64 T) := by rw [← hA]; exact alloc_cell _ _ _ _ _ rfl
          have f2 : B.cell? ⟨W.heap.size + 1, 0, none⟩ = some (.slice a cs.length cap) := by rw [← hB, ← sA]; exact alloc_cell _ _ _ _ _ rfl
          exact (choose_fit P T hP1 hP hT a cs cap hn HVO.out W.heap.size w B HS.out (hf.below.trans (bWB.mono hf.below.size)) ((bB.cell (p := ⟨W.heap.size, 0, none⟩) (cell_lt f0)).trans f0) ((bB.cell (p := ⟨W.heap.size, 1, none⟩) (cell_lt f1)).trans f1) f2 b rows cb (by omega) HRW.out (HB.out.below (hf.below.trans (bWB.mono hf.below.size)))).mono fun e w' ⟨k1, k2⟩ => ⟨k1, bWB.trans (k2.mono bWB.size)⟩
        by_cases h0 : (fitP T P cs).length = 0
        · have HV := Lib.hid (show nextV P T cs rows = (0, 0, 8) by unfold nextV; rw [hv, hw, if_pos (show (true && true) = true from rfl), if_pos hr, Int.toNat_natCast, Int.toNat_natCast, if_pos h0])
          have h3 := bsTo_zero (smF P T cs rows) (fun i => by rw [smF_len]; exact h0) rows.length
          obtain ⟨⟨b1, b2, b3, b4⟩, hBB⟩ : ∃ B, bsTo (smF P T cs rows) rows.length = B := ⟨_, rfl⟩
          rw [hBB] at HCH h3
          simp only at h3
          subst h3
          clear h0 hBB
          go_enter Try.func43, Try.ntmps43
          go_wp2_with (first
            | (go_at_call 21; refine (bvalid_any P T a cs cap _ hn HLC.out (HF.out.below_cs HS.out)).mono ?_; rintro e w1 ⟨rfl, hb1⟩; have F1 := Fb.next HF.out hb1; obtain ⟨k0, k1⟩ := And.intro F1.c0 F1.c1; rw [hv])
            | (go_at_call 78; refine (HVR.out _ F1).mono ?_; rintro e w2 ⟨rfl, F2⟩; obtain ⟨k2, k3⟩ := And.intro F2.c0 F2.c1)
            | (go_at_call 67; refine (fittingmk_any _ _ _ _ _ _).mono ?_; rintro e w3 ⟨rfl, rfl⟩)
            | (go_at_call 79; refine (HCH.out _ F2).mono ?_; rintro e w4 ⟨rfl, hb4⟩; have F4 := F2.next hb4; unfold chV))
          go_ret3
          exact ⟨by rw [HV.out]; rfl, F4.below.alloc F4.below.size _⟩
        · have HV := Lib.hid (show nextV P T cs rows = (((bsTo (smF P T cs rows) rows.length).1 : Int), (bsTo (smF P T cs rows) rows.length).2.1, 0) by unfold nextV; rw [hv, hw, if_pos (show (true && true) = true from rfl), if_pos hr, Int.toNat_natCast, Int.toNat_natCast, if_neg h0])
          have h3 := bsTo_pos (smF P T cs rows) (fun i => by rw [smF_len]; omega) rows.length hr.1
          obtain ⟨⟨b1, b2, b3, b4⟩, hBB⟩ : ∃ B, bsTo (smF P T cs rows) rows.length = B := ⟨_, rfl⟩
          rw [hBB] at HCH h3 HV
          simp only at h3
          have h4 : ((b3 : Int) == 0) = false := by simp; omega
          clear h0 hBB h3
          go_enter Try.func43, Try.ntmps43
          go_wp2_with (first
            | (go_at_call 21; refine (bvalid_any P T a cs cap _ hn HLC.out (HF.out.below_cs HS.out)).mono ?_; rintro e w1 ⟨rfl, hb1⟩; have F1 := Fb.next HF.out hb1; obtain ⟨k0, k1⟩ := And.intro F1.c0 F1.c1; rw [hv])
            | (go_at_call 78; refine (HVR.out _ F1).mono ?_; rintro e w2 ⟨rfl, F2⟩; obtain ⟨k2, k3⟩ := And.intro F2.c0 F2.c1)
            | (go_at_call 67; refine (fittingmk_any _ _ _ _ _ _).mono ?_; rintro e w3 ⟨rfl, rfl⟩)
            | (go_at_call 79; refine (HCH.out _ F2).mono ?_; rintro e w4 ⟨rfl, hb4⟩; have F4 := F2.next hb4; unfold chV))
          go_region_law (fail)
          all_goals go_wp2
          all_goals go_ret3
          all_goals exact ⟨by rw [HV.out]; rfl, (F4.below.alloc F4.below.size _).drew⟩
      · have HV := Lib.hid (show nextV p t cs rows = (0, 0, 7) by unfold nextV; rw [hv, hw, if_pos (show (true && true) = true from rfl), if_neg hr])
        by_cases hr1 : (rows.length : Int) < 1
        · clear hr
          go_enter Try.func43, Try.ntmps43
          go_wp2_with (first
            | (go_at_call 21; refine (bvalid_any p t a cs cap _ hn HLC.out (HF.out.below_cs HS.out)).mono ?_; rintro e w1 ⟨rfl, hb1⟩; have F1 := Fb.next HF.out hb1; obtain ⟨k0, k1⟩ := And.intro F1.c0 F1.c1; rw [hv])
            | (go_at_call 78; refine (HVR.out _ F1).mono ?_; rintro e w2 ⟨rfl, F2⟩; obtain ⟨k2, k3⟩ := And.intro F2.c0 F2.c1))
          go_ret3
          exact ⟨by rw [HV.out]; rfl, F2.below⟩
        · have hr2 : (20 : Int) < (rows.length : Int) := by omega
          clear hr
          go_enter Try.func43, Try.ntmps43
          go_wp2_with (first
            | (go_at_call 21; refine (bvalid_any p t a cs cap _ hn HLC.out (HF.out.below_cs HS.out)).mono ?_; rintro e w1 ⟨rfl, hb1⟩; have F1 := Fb.next HF.out hb1; obtain ⟨k0, k1⟩ := And.intro F1.c0 F1.c1; rw [hv])
            | (go_at_call 78; refine (HVR.out _ F1).mono ?_; rintro e w2 ⟨rfl, F2⟩; obtain ⟨k2, k3⟩ := And.intro F2.c0 F2.c1))
          go_ret3
          exact ⟨by rw [HV.out]; rfl, F2.below⟩
end Go.Proofs.Ytoedbbpjddjbnaa
/- Next of the answers of layer 7, and Halve of both sides: contracts. -/
namespace Go.Proofs.Ytoedbbpjddjbnaa
open Go.RowKit

theorem smF_bs {P T : Nat} {cs : List Cl} {rows : List (List Int)} (h : 1 ≤ rows.length) : rbTo (fitP T P cs).length (fun i => sumsB (rowL rows i) (fitP T P cs)) rows.length = ((bsTo (smF P T cs rows) rows.length).1, (bsTo (smF P T cs rows) rows.length).2.1, (bsTo (smF P T cs rows) rows.length).2.2.1) :=
  rbTo_eq (fitP T P cs).length (smF P T cs rows) (smF_len P T cs rows) rows.length h
set_option maxRecDepth 100000 in
set_option maxHeartbeats 4000000 in
theorem rNext_any (p t : Int) (a : Option Addr) (cs : List Cl) (cap : Nat) (b : Option Addr) (rows : List (List Int)) (cb : Nat) (w : World) (hn : cs.length ≤ 1000000) (hlc : CLen cs) (hs : Cs w a cs) (hm : rows.length ≤ 1000000) (hl : ∀ r ∈ rows, r.length ≤ 140737488351232) (hb : Ms w b rows) :
    Calls Try.prog 44 #[.agg #[.int .i64 p, .int .i64 t], .slice a cs.length cap, .slice b rows.length cb] w fun e w' => e = .returned (.tuple #[.int .i64 (nextV p t cs rows).1, .int .i64 (nextV p t cs rows).2.1, .int .i64 (nextV p t cs rows).2.2]) ∧ Below w.heap.size w w' := by
  have HF := Lib.hid (Fb.new w p t 23)
  have HS := Lib.hid hs; clear hs
  have HLC := Lib.hid hlc; clear hlc
  have HB := Lib.hid hb; clear hb
  have HL := Lib.hid hl; clear hl
  cases hv : valsB p t cs
  · have HV := Lib.hid (show nextV p t cs rows = (0, 0, 1) by unfold nextV; rw [hv]; rfl)
    go_enter Try.func44, Try.ntmps44
    go_wp2_with (go_at_call 22; refine (rvalid_any p t a cs cap _ hn HLC.out (HF.out.below_cs HS.out)).mono ?_; rintro e w1 ⟨rfl, hb1⟩; have F1 := Fb.next HF.out hb1; obtain ⟨k0, k1⟩ := And.intro F1.c0 F1.c1; rw [hv])
    go_ret3
    exact ⟨by rw [HV.out]; rfl, F1.below⟩
  · have HVR : Hid (∀ W, Fb w p t W → Calls Try.prog 80 #[.agg #[.int .i64 p, .int .i64 t], .slice b rows.length cb] W fun e w' => e = .returned (.bool (rows.all (rowB p))) ∧ Fb w p t w') := fun W hf =>
      (rvrows_any p t b rows cb W hm HL.out (HB.out.below hf.below)).mono fun e w' ⟨k1, k2⟩ => ⟨k1, hf.next k2⟩
    cases hw : rows.all (rowB p)
    · have HV := Lib.hid (show nextV p t cs rows = (0, 0, 1) by unfold nextV; rw [hv, hw]; rfl)
      rw [hw] at HVR
      go_enter Try.func44, Try.ntmps44
      go_wp2_with (first
        | (go_at_call 22; refine (rvalid_any p t a cs cap _ hn HLC.out (HF.out.below_cs HS.out)).mono ?_; rintro e w1 ⟨rfl, hb1⟩; have F1 := Fb.next HF.out hb1; obtain ⟨k0, k1⟩ := And.intro F1.c0 F1.c1; rw [hv])
        | (go_at_call 80; refine (HVR.out _ F1).mono ?_; rintro e w2 ⟨rfl, F2⟩; obtain ⟨k2, k3⟩ := And.intro F2.c0 F2.c1))
      go_ret3
      exact ⟨by rw [HV.out]; rfl, F2.below⟩
    · rw [hw] at HVR
      by_cases hr : 1 ≤ rows.length ∧ rows.length ≤ 20
      · obtain ⟨P, T, rfl, rfl, hP1, hP, hT⟩ : ∃ P T : Nat, p = (P : Int) ∧ t = (T : Int) ∧ 1 ≤ P ∧ P ≤ 8 ∧ T ≤ 3 := by
          have h1 : vfB p t = true := by simp only [valsB, Bool.and_eq_true] at hv; exact hv.1
          exact vf_of h1
        have hin : rangeB rows.length 1 20 = true := by unfold rangeB; simp; omega
        have HVO := Lib.hid (vals_of hv).2
        have HRW : Hid (∀ r ∈ rows, r.length = P ∧ okL (-1) 1 r = true) := fun r hr => by
          have h := List.all_eq_true.1 hw r hr
          unfold rowB at h
          rw [Bool.and_eq_true, decide_eq_true_iff] at h
          exact ⟨by omega, h.2⟩
        have HRF : Hid (∀ W, Cs W a cs → Calls Try.prog 68 #[.agg #[.int .i64 P, .int .i64 T], .slice a cs.length cap] W fun e w' => ∃ va ads vc, e = .returned (.slice va (fitP T P cs).length vc) ∧ HR W.heap.size (.slice va (fitP T P cs).length vc) ads (fitP T P cs) w' ∧ Below W.heap.size W w') := fun W hW => rfitting_two P T hP hT a cs cap W hn HVO.out hW
        have HNX : Hid (∀ base va vc ads W, HR base (.slice va (fitP T P cs).length vc) ads (fitP T P cs) W → Ms W b rows → Calls Try.prog 81 #[.slice va (fitP T P cs).length vc, .slice b rows.length cb] W fun e w' => e = .returned (.tuple #[.int .i64 ((bsTo (smF P T cs rows) rows.length).1 : Nat), .int .i64 (bsTo (smF P T cs rows) rows.length).2.1, .int .i64 ((bsTo (smF P T cs rows) rows.length).2.2.1 : Nat)]) ∧ Below W.heap.size W w') := fun base va vc ads W h1 h2 => by
          have h := rnext_any hP base va vc ads (fitP T P cs) b rows cb W (by have := fitP_len hT hP cs; omega) (fun x hx => fitP_ok hT hx) (by omega) HRW.out h1 h2
          rw [smF_bs hr.1] at h
          exact h
        by_cases h0 : (fitP T P cs).length = 0
        · have HV := Lib.hid (show nextV P T cs rows = (0, 0, 8) by unfold nextV; rw [hv, hw, if_pos (show (true && true) = true from rfl), if_pos hr, Int.toNat_natCast, Int.toNat_natCast, if_pos h0])
          rw [h0] at HRF
          go_enter Try.func44, Try.ntmps44
          go_wp2_with (first
            | (go_at_call 22; refine (rvalid_any P T a cs cap _ hn HLC.out (HF.out.below_cs HS.out)).mono ?_; rintro e w1 ⟨rfl, hb1⟩; have F1 := Fb.next HF.out hb1; obtain ⟨k0, k1⟩ := And.intro F1.c0 F1.c1; rw [hv])
            | (go_at_call 80; refine (HVR.out _ F1).mono ?_; rintro e w2 ⟨rfl, F2⟩; obtain ⟨k2, k3⟩ := And.intro F2.c0 F2.c1)
            | (go_at_call 60; refine (bin_any _ _ _ _).mono ?_; rintro e w3 ⟨rfl, rfl⟩; rw [hin])
            | (go_at_call 68; refine (HRF.out _ (F2.below_cs HS.out)).mono ?_; rintro e w4 ⟨va, ads, vc, rfl, -, hb4⟩; have F4 := F2.next hb4))
          go_ret3
          exact ⟨by rw [HV.out]; rfl, F4.below⟩
        · have HV := Lib.hid (show nextV P T cs rows = (((bsTo (smF P T cs rows) rows.length).1 : Int), (bsTo (smF P T cs rows) rows.length).2.1, 0) by unfold nextV; rw [hv, hw, if_pos (show (true && true) = true from rfl), if_pos hr, Int.toNat_natCast, Int.toNat_natCast, if_neg h0])
          obtain ⟨⟨b1, b2, b3, b4⟩, hBB⟩ : ∃ B, bsTo (smF P T cs rows) rows.length = B := ⟨_, rfl⟩
          obtain ⟨N, hN⟩ : ∃ N, (fitP T P cs).length = N := ⟨_, rfl⟩
          rw [hBB] at HNX HV
          rw [hN] at HNX HRF h0
          have h4 : ((N : Int) == 0) = false := by simp; omega
          clear h0 hBB hN hw
          go_enter Try.func44, Try.ntmps44
          go_wp2_with (first
            | (go_at_call 22; refine (rvalid_any P T a cs cap _ hn HLC.out (HF.out.below_cs HS.out)).mono ?_; rintro e w1 ⟨rfl, hb1⟩; have F1 := Fb.next HF.out hb1; obtain ⟨k0, k1⟩ := And.intro F1.c0 F1.c1; rw [hv])
            | (go_at_call 80; refine (HVR.out _ F1).mono ?_; rintro e w2 ⟨rfl, F2⟩; obtain ⟨k2, k3⟩ := And.intro F2.c0 F2.c1)
            | (go_at_call 60; refine (bin_any _ _ _ _).mono ?_; rintro e w3 ⟨rfl, rfl⟩; rw [hin])
            | (go_at_call 68; refine (HRF.out _ (F2.below_cs HS.out)).mono ?_; rintro e w4 ⟨va, ads, vc, rfl, hr4, hb4⟩; have F4 := F2.next hb4; have HR4 := Lib.hid hr4; clear hr4)
            | (go_at_call 81; refine (HNX.out _ _ _ _ _ HR4.out (HB.out.below F4.below)).mono ?_; rintro e w5 ⟨rfl, hb5⟩; have F5 := F4.next hb5))
          go_ret3
          exact ⟨by rw [HV.out]; rfl, F5.below⟩
      · have HV := Lib.hid (show nextV p t cs rows = (0, 0, 7) by unfold nextV; rw [hv, hw, if_pos (show (true && true) = true from rfl), if_neg hr])
        have hin : rangeB rows.length 1 20 = false := by unfold rangeB; simp; omega
        clear hr
        go_enter Try.func44, Try.ntmps44
        go_wp2_with (first
          | (go_at_call 22; refine (rvalid_any p t a cs cap _ hn HLC.out (HF.out.below_cs HS.out)).mono ?_; rintro e w1 ⟨rfl, hb1⟩; have F1 := Fb.next HF.out hb1; obtain ⟨k0, k1⟩ := And.intro F1.c0 F1.c1; rw [hv])
          | (go_at_call 80; refine (HVR.out _ F1).mono ?_; rintro e w2 ⟨rfl, F2⟩; obtain ⟨k2, k3⟩ := And.intro F2.c0 F2.c1)
          | (go_at_call 60; refine (bin_any _ _ _ _).mono ?_; rintro e w3 ⟨rfl, rfl⟩; rw [hin]))
        go_ret3
        exact ⟨by rw [HV.out]; rfl, F2.below⟩
/-- What Halve is answered with. -/
def halveV (p t : Int) (cs : List Cl) (row : List Int) : Int × Int :=
  if celB p t cs row = true then (if (fitP t.toNat p.toNat cs).length = 0 then (0, 8) else ((halved (sumsB row (fitP t.toNat p.toNat cs))).1, 0)) else (0, 1)
theorem halveV_next {p t : Int} {cs : List Cl} {row : List Int} : (nextV p t cs [row]).2 = halveV p t cs row := by
  have e : (valsB p t cs && [row].all (rowB p)) = celB p t cs row := by
    unfold celB
    cases hv : valsB p t cs
    · rfl
    · rw [vals_brow hv]; simp [rowB]
  unfold nextV halveV
  rw [e]
  by_cases hc : celB p t cs row = true
  · rw [if_pos hc, if_pos hc, if_pos ⟨by simp, by simp⟩]
    split
    · rfl
    · show ((bsTo _ 1).2.1, (0 : Int)) = _
      unfold bsTo
      rw [if_pos (.inl rfl)]
      rfl
  · rw [if_neg hc, if_neg hc]
set_option maxRecDepth 100000 in
set_option maxHeartbeats 2000000 in
theorem bHalve_any (p t : Int) (a : Option Addr) (cs : List Cl) (cap : Nat) (b : Option Addr) (row : List Int) (cb : Nat) (w : World) (hn : cs.length ≤ 1000000) (hlc : CLen cs) (hs : Cs w a cs) (hl : row.length ≤ 140737488351232) (hb : Sl w b row) :
    Calls Try.prog 41 #[.agg #[.int .i64 p, .int .i64 t], .slice a cs.length cap, .slice b row.length cb] w fun e w' => e = .returned (.tuple #[.int .i64 (halveV p t cs row).1, .int .i64 (halveV p t cs row).2]) ∧ Below w.heap.size w w' := by
  have HF := Lib.hid (Fb.new w p t 23)
  have HBB := Lib.hid ((Below.refl (w.alloc (.cells #[.int .i64 p, .int .i64 t] 23)).heap.size (w.alloc (.cells #[.int .i64 p, .int .i64 t] 23))).alloc (Nat.le_refl _) (.cells #[.slice b row.length cb] 25))
  have hF2 := HF.out.next HBB.out
  have HNX := Lib.hid (bnext_any p t a cs cap (some ⟨w.heap.size + 1, 0, none⟩) [row] 1 ((w.alloc (.cells #[.int .i64 p, .int .i64 t] 23)).alloc (.cells #[.slice b row.length cb] 25)) hn hlc (hF2.below_cs hs) (by simp) (fun r hr => by rw [List.mem_singleton.1 hr]; exact hl) (by
    have h := ms_one (w.alloc (.cells #[.int .i64 p, .int .i64 t] 23)) b row cb 25 (HF.out.sl hb)
    rw [World.size_alloc] at h; exact h))
  rw [show ([row] : List (List Int)).length = 1 from rfl, show (nextV p t cs [row]).2.1 = (halveV p t cs row).1 from congrArg (·.1) halveV_next, show (nextV p t cs [row]).2.2 = (halveV p t cs row).2 from congrArg (·.2) halveV_next] at HNX
  have HF2 := Lib.hid hF2
  clear hs hlc hb hF2
  go_enter Try.func41, Try.ntmps41
  go_wp2_with (go_at_call 43; refine HNX.out.mono ?_; rintro e w1 ⟨rfl, hb1⟩; have F1 := HF2.out.next hb1)
  go_ret2
  exact ⟨rfl, F1.below⟩
set_option maxRecDepth 100000 in
set_option maxHeartbeats 2000000 in
theorem rHalve_any (p t : Int) (a : Option Addr) (cs : List Cl) (cap : Nat) (b : Option Addr) (row : List Int) (cb : Nat) (w : World) (hn : cs.length ≤ 1000000) (hlc : CLen cs) (hs : Cs w a cs) (hl : row.length ≤ 140737488351232) (hb : Sl w b row) :
    Calls Try.prog 42 #[.agg #[.int .i64 p, .int .i64 t], .slice a cs.length cap, .slice b row.length cb] w fun e w' => e = .returned (.tuple #[.int .i64 (halveV p t cs row).1, .int .i64 (halveV p t cs row).2]) ∧ Below w.heap.size w w' := by
  have HF := Lib.hid (Fb.new w p t 23)
  have HS := Lib.hid hs; clear hs
  have HLC := Lib.hid hlc; clear hlc
  have HB := Lib.hid hb; clear hb
  have HCE : Hid (∀ W, Fb w p t W → Calls Try.prog 74 #[.agg #[.int .i64 p, .int .i64 t], .slice a cs.length cap, .slice b row.length cb] W fun e w' => e = .returned (.int .i64 (celE p t cs row)) ∧ Fb w p t w') := fun W hf => (celled_any p t a cs cap b row cb W hn HLC.out (hf.below_cs HS.out) hl (hf.sl HB.out)).mono fun e w' ⟨k1, k2⟩ => ⟨k1, hf.next k2⟩
  cases hc : celB p t cs row
  · have HV := Lib.hid (show halveV p t cs row = (0, 1) by unfold halveV; rw [hc]; rfl)
    have hce : celE p t cs row = 1 := by unfold celE; rw [hc]; rfl
    rw [hce] at HCE
    clear hce
    go_enter Try.func42, Try.ntmps42
    go_wp2_with (go_at_call 74; refine (HCE.out _ HF.out).mono ?_; rintro e w1 ⟨rfl, F1⟩; obtain ⟨k0, k1⟩ := And.intro F1.c0 F1.c1)
    go_ret2
    exact ⟨by rw [HV.out]; rfl, F1.below⟩
  · have hce : celE p t cs row = 0 := by unfold celE; rw [hc]; rfl
    rw [hce] at HCE
    clear hce
    obtain ⟨P, T, rfl, rfl, hP1, hP, hT, hv, hrl, hrk⟩ := cel_row hc
    have HVO := Lib.hid (vals_of hv).2
    have HRF : Hid (∀ W, Cs W a cs → Calls Try.prog 68 #[.agg #[.int .i64 P, .int .i64 T], .slice a cs.length cap] W fun e w' => ∃ va ads vc, e = .returned (.slice va (fitP T P cs).length vc) ∧ HR W.heap.size (.slice va (fitP T P cs).length vc) ads (fitP T P cs) w' ∧ Below W.heap.size W w') := fun W hW => rfitting_two P T hP hT a cs cap W hn HVO.out hW
    have HHV : Hid (∀ base va vc ads W, HR base (.slice va (fitP T P cs).length vc) ads (fitP T P cs) W → Sl W b row → Calls Try.prog 77 #[.slice va (fitP T P cs).length vc, .slice b row.length cb] W fun e w' => e = .returned (.tuple #[.int .i64 (halved (sumsB row (fitP T P cs))).1, .int .i64 ((halved (sumsB row (fitP T P cs))).2.1 : Nat)]) ∧ Below W.heap.size W w') := fun base va vc ads W h1 h2 => by
      have h := rhalve_any hP base va vc ads (fitP T P cs) b row cb W (by have := fitP_len hT hP cs; omega) (fun x hx => fitP_ok hT hx) ⟨hrl, hrk⟩ h1 h2
      simp only [rh_eq] at h; exact h
    by_cases h0 : (fitP T P cs).length = 0
    · have HV := Lib.hid (show halveV P T cs row = (0, 8) by unfold halveV; rw [if_pos hc, Int.toNat_natCast, Int.toNat_natCast, if_pos h0])
      rw [h0] at HRF
      clear HHV h0 hc hv hrl hrk HVO
      go_enter Try.func42, Try.ntmps42
      go_wp2_with (first
        | (go_at_call 74; refine (HCE.out _ HF.out).mono ?_; rintro e w1 ⟨rfl, F1⟩; obtain ⟨k0, k1⟩ := And.intro F1.c0 F1.c1)
        | (go_at_call 68; refine (HRF.out _ (F1.below_cs HS.out)).mono ?_; rintro e w4 ⟨va, ads, vc, rfl, -, hb4⟩; have F4 := F1.next hb4))
      go_ret2
      exact ⟨by rw [HV.out]; rfl, F4.below⟩
    · have HV := Lib.hid (show halveV P T cs row = ((halved (sumsB row (fitP T P cs))).1, 0) by unfold halveV; rw [if_pos hc, Int.toNat_natCast, Int.toNat_natCast, if_neg h0])
      obtain ⟨⟨b1, b2, b3⟩, hBB⟩ : ∃ B, halved (sumsB row (fitP T P cs)) = B := ⟨_, rfl⟩
      obtain ⟨N, hN⟩ : ∃ N, (fitP T P cs).length = N := ⟨_, rfl⟩
      rw [hBB] at HHV HV
      rw [hN] at HHV HRF h0
      have h4 : ((N : Int) == 0) = false := by simp; omega
      clear h0 hBB hN hv hc hrl hrk HVO
      go_enter Try.func42, Try.ntmps42
      go_wp2_with (first
        | (go_at_call 74; refine (HCE.out _ HF.out).mono ?_; rintro e w1 ⟨rfl, F1⟩; obtain ⟨k0, k1⟩ := And.intro F1.c0 F1.c1)
        | (go_at_call 68; refine (HRF.out _ (F1.below_cs HS.out)).mono ?_; rintro e w4 ⟨va, ads, vc, rfl, hr4, hb4⟩; have F4 := F1.next hb4; have HR4 := Lib.hid hr4; clear hr4)
        | (go_at_call 77; refine (HHV.out _ _ _ _ _ HR4.out (F4.sl HB.out)).mono ?_; rintro e w5 ⟨rfl, hb5⟩; have F5 := F4.next hb5))
      go_ret2
      exact ⟨by rw [HV.out]; rfl, F5.below⟩
end Go.Proofs.Ytoedbbpjddjbnaa
/- BitHalves: the walk. Written by mk_bithalves.py. -/
namespace Go.Proofs.Ytoedbbpjddjbnaa.bitHalves
open Go.RowKit

theorem parts_best {p t : Int} {cs : List Cl} {row : List Int} {th : Int} (h : (halveV p t cs row).2 = 0) (h1 : -99 ≤ th) (h2 : th ≤ 100) : ∃ A B C D : Nat, partsV p t cs row (halveV p t cs row).1 = (((A : Int), (B : Int)), 0) ∧ partsV p t cs row th = (((C : Int), (D : Int)), 0) ∧ max A B ≤ max C D := by
  unfold halveV at *
  by_cases g1 : celB p t cs row = true
  · rw [if_pos g1] at h ⊢
    by_cases g2 : (fitP t.toNat p.toNat cs).length = 0
    · rw [if_pos g2] at h; cases h
    · rw [if_neg g2]
      obtain ⟨S, hS⟩ : ∃ S, sumsB row (fitP t.toNat p.toNat cs) = S := ⟨_, rfl⟩
      have e1 := hvTo_eq S 200 (by omega)
      have e2 := hvTo_least S 200 (th + 99).toNat (by omega)
      rw [show (((th + 99).toNat : Nat) : Int) - 99 = th by omega, e1.1] at e2
      unfold partsV
      rw [if_pos g1, if_pos g1, hS]
      unfold halved
      generalize hvTo S 200 = Q at e1 e2 ⊢
      rw [if_pos (show rangeB Q.1 (-100) 100 = true by unfold rangeB; simp; omega), if_pos (show rangeB th (-100) 100 = true by unfold rangeB; simp; omega)]
      exact ⟨_, _, _, _, rfl, rfl, by unfold hvG at e2; exact e2⟩
  · rw [if_neg g1] at h; cases h
set_option maxRecDepth 1000000 in
set_option maxHeartbeats 6400000 in
theorem walk (x0 y0 : Int) (b1 : Option Addr) (cs1 : List Cl) (c1 : Nat) (b2 : Option Addr) (xs2 : List Int) (c2 : Nat) (b3 : Option Addr) (m3 : List (List Int)) (c3 : Nat) (m4 : Int) (w : World) (_rx0 : I64 x0) (_ry0 : I64 y0) (h1 : Cs w b1 cs1) (l1 : cs1.length ≤ 9223372036854775807) (r1 : ∀ c ∈ cs1, c.1.length ≤ 9223372036854775807) (h2 : Sl w b2 xs2) (_l2 : xs2.length ≤ 9223372036854775807) (_r2 : ∀ x ∈ xs2, I64 x) (h3 : Ms w b3 m3) (_r3 : MOk m3) (_r4 : I64 m4) :
    Calls Try.prog 7 #[.agg #[.int .i64 x0, .int .i64 y0], .slice b1 cs1.length c1, .slice b2 xs2.length c2, .slice b3 m3.length c3, .int .i64 m4] w fun e w' => e = .returned (.bool true) ∧ Below w.heap.size w w' := by
  have HF := Lib.hid (Fb.new w x0 y0 23)
  have HAW : Hid (∀ V, Fb w x0 y0 V → Calls Try.prog 12 #[] V fun e w' => e = .returned (.bool true) ∧ Fb w x0 y0 w') := fun V h => (awake7_any V).mono fun e w' ⟨k1, k2⟩ => ⟨k1, h.next k2⟩
  have HFE : Hid (∀ V, Fb w x0 y0 V → Calls Try.prog 10 #[.agg #[.int .i64 x0, .int .i64 y0], .int .i64 300] V fun e w' => e = .returned (.bool (fewB x0 y0 300)) ∧ Fb w x0 y0 w') := fun V h => (few7_any x0 y0 300 V).mono fun e w' ⟨k1, k2⟩ => ⟨k1, h.next k2⟩
  have HFI : Hid (∀ V, Fb w x0 y0 V → Calls Try.prog 11 #[.slice b1 cs1.length c1] V fun e w' => e = .returned (.bool (fitB cs1)) ∧ Fb w x0 y0 w') := fun V h => (fit7_any b1 cs1 c1 V l1 r1 (h.below_cs h1)).mono fun e w' ⟨k1, k2⟩ => ⟨k1, h.next k2⟩
  by_cases hskip : fewB x0 y0 300 = true ∧ fitB cs1 = true ∧ (¬ (20 : Int) < (xs2.length : Int)) ∧ (¬ ((4 : Int) < (m3.length : Int) ∧ (m3.length : Int) ≤ 20)) ∧ ¬ (25 : Int) < (m3.length : Int)
  case neg =>
    cases hfe : fewB x0 y0 300
    · rw [hfe] at HFE
      clear h1 r1 h2 h3 hskip
      go_enter Try.func7, Try.ntmps7
      go_wp2_with (first
        | (go_at_call 10; refine (HFE.out _ HF.out).mono ?_; rintro e w0 ⟨rfl, F0⟩; obtain ⟨a00, a01⟩ := And.intro F0.c0 F0.c1)
        | (go_at_call 12; refine (HAW.out _ F0).mono ?_; rintro e w99 ⟨rfl, F99⟩))
      all_goals go_ret
      all_goals exact ⟨rfl, F99.below⟩
    · rw [hfe] at HFE
      cases hfi : fitB cs1
      · rw [hfi] at HFI
        clear h1 r1 h2 h3 hskip
        go_enter Try.func7, Try.ntmps7
        go_wp2_with (first
          | (go_at_call 10; refine (HFE.out _ HF.out).mono ?_; rintro e w0 ⟨rfl, F0⟩; obtain ⟨a00, a01⟩ := And.intro F0.c0 F0.c1)
          | (go_at_call 11; refine (HFI.out _ F0).mono ?_; rintro e w1 ⟨rfl, F1⟩; obtain ⟨a10, a11⟩ := And.intro F1.c0 F1.c1)
          | (go_at_call 12; refine (HAW.out _ F1).mono ?_; rintro e w99 ⟨rfl, F99⟩))
        all_goals go_ret
        all_goals exact ⟨rfl, F99.below⟩
      · rw [hfi] at HFI
        by_cases hg2 : (20 : Int) < (xs2.length : Int)
        · clear h1 r1 h2 h3 hskip
          go_enter Try.func7, Try.ntmps7
          go_wp2_with (first
            | (go_at_call 10; refine (HFE.out _ HF.out).mono ?_; rintro e w0 ⟨rfl, F0⟩; obtain ⟨a00, a01⟩ := And.intro F0.c0 F0.c1)
            | (go_at_call 11; refine (HFI.out _ F0).mono ?_; rintro e w1 ⟨rfl, F1⟩; obtain ⟨a10, a11⟩ := And.intro F1.c0 F1.c1)
            | (go_at_call 12; refine (HAW.out _ F1).mono ?_; rintro e w99 ⟨rfl, F99⟩))
          all_goals go_ret
          all_goals exact ⟨rfl, F99.below⟩
        · by_cases hg3 : (4 : Int) < (m3.length : Int)
          · by_cases hg4 : (m3.length : Int) ≤ 20
            · clear h1 r1 h2 h3 hskip
              go_enter Try.func7, Try.ntmps7
              go_wp2_with (first
                | (go_at_call 10; refine (HFE.out _ HF.out).mono ?_; rintro e w0 ⟨rfl, F0⟩; obtain ⟨a00, a01⟩ := And.intro F0.c0 F0.c1)
                | (go_at_call 11; refine (HFI.out _ F0).mono ?_; rintro e w1 ⟨rfl, F1⟩; obtain ⟨a10, a11⟩ := And.intro F1.c0 F1.c1)
                | (go_at_call 12; refine (HAW.out _ F1).mono ?_; rintro e w99 ⟨rfl, F99⟩))
              all_goals go_ret
              all_goals exact ⟨rfl, F99.below⟩
            · have hg5 : (25 : Int) < (m3.length : Int) := by
                by_cases h : (25 : Int) < (m3.length : Int)
                · exact h
                · exact absurd ⟨hfe, hfi, hg2, fun g => hg4 g.2, h⟩ hskip
              clear h1 r1 h2 h3 hskip
              go_enter Try.func7, Try.ntmps7
              go_wp2_with (first
                | (go_at_call 10; refine (HFE.out _ HF.out).mono ?_; rintro e w0 ⟨rfl, F0⟩; obtain ⟨a00, a01⟩ := And.intro F0.c0 F0.c1)
                | (go_at_call 11; refine (HFI.out _ F0).mono ?_; rintro e w1 ⟨rfl, F1⟩; obtain ⟨a10, a11⟩ := And.intro F1.c0 F1.c1)
                | (go_at_call 12; refine (HAW.out _ F1).mono ?_; rintro e w99 ⟨rfl, F99⟩))
              all_goals go_ret
              all_goals exact ⟨rfl, F99.below⟩
          · exact absurd ⟨hfe, hfi, hg2, fun g => hg3 g.1, by omega⟩ hskip
  case pos =>
    obtain ⟨hfe, hfi, hg2, hg3, hg5⟩ := hskip
    rw [hfe] at HFE
    rw [hfi] at HFI
    have hcl : CLen cs1 ∧ cs1.length ≤ 1000000 := by
      unfold fitB at hfi
      simp only [Bool.and_eq_true, List.all_eq_true, decide_eq_true_eq] at hfi
      exact ⟨fun c hc => by have := hfi.1 c hc; omega, by omega⟩
    have HM := Lib.hid h3
    obtain ⟨⟨ht, he⟩, hhv⟩ : ∃ r, halveV x0 y0 cs1 xs2 = r := ⟨_, rfl⟩
    obtain ⟨⟨nr, nt, ne⟩, hnv⟩ : ∃ r, nextV x0 y0 cs1 m3 = r := ⟨_, rfl⟩
    have HBEST : Hid (he = 0 → -99 ≤ m4 → m4 ≤ 100 → ∃ A B C D : Nat, partsV x0 y0 cs1 xs2 ht = (((A : Int), (B : Int)), 0) ∧ partsV x0 y0 cs1 xs2 m4 = (((C : Int), (D : Int)), 0) ∧ max A B ≤ max C D) := fun h1 h2 h3 => by
      have h := parts_best (th := m4) (show (halveV x0 y0 cs1 xs2).2 = 0 by rw [hhv]; exact h1) h2 h3
      rw [hhv] at h; exact h
    have HPP : Hid (∀ V th, Fb w x0 y0 V → Calls Try.prog 34 #[.agg #[.int .i64 x0, .int .i64 y0], .slice b1 cs1.length c1, .slice b2 xs2.length c2, .int .i64 th] V fun e w' => e = .returned (.tuple #[.int .i64 (partsV x0 y0 cs1 xs2 th).1.1, .int .i64 (partsV x0 y0 cs1 xs2 th).1.2, .int .i64 (partsV x0 y0 cs1 xs2 th).2]) ∧ Fb w x0 y0 w') := fun V th h => (bparts_any x0 y0 b1 cs1 c1 b2 xs2 c2 th V hcl.2 hcl.1 (h.below_cs h1) (by omega) (h.sl h2)).mono fun e w' ⟨k1, k2⟩ => ⟨k1, h.next k2⟩
    have HH1 : Hid (∀ V, Fb w x0 y0 V → Calls Try.prog 41 #[.agg #[.int .i64 x0, .int .i64 y0], .slice b1 cs1.length c1, .slice b2 xs2.length c2] V fun e w' => e = .returned (.tuple #[.int .i64 ht, .int .i64 he]) ∧ Fb w x0 y0 w') := fun V h => (bHalve_any x0 y0 b1 cs1 c1 b2 xs2 c2 V hcl.2 hcl.1 (h.below_cs h1) (by omega) (h.sl h2)).mono fun e w' ⟨k1, k2⟩ => ⟨by rw [hhv] at k1; exact k1, h.next k2⟩
    have HH2 : Hid (∀ V, Fb w x0 y0 V → Calls Try.prog 42 #[.agg #[.int .i64 x0, .int .i64 y0], .slice b1 cs1.length c1, .slice b2 xs2.length c2] V fun e w' => e = .returned (.tuple #[.int .i64 ht, .int .i64 he]) ∧ Fb w x0 y0 w') := fun V h => (rHalve_any x0 y0 b1 cs1 c1 b2 xs2 c2 V hcl.2 hcl.1 (h.below_cs h1) (by omega) (h.sl h2)).mono fun e w' ⟨k1, k2⟩ => ⟨by rw [hhv] at k1; exact k1, h.next k2⟩
    have HN1 : Hid (∀ V, Fb w x0 y0 V → (∀ r ∈ m3, r.length ≤ 20) → Calls Try.prog 43 #[.agg #[.int .i64 x0, .int .i64 y0], .slice b1 cs1.length c1, .slice b3 m3.length c3] V fun e w' => e = .returned (.tuple #[.int .i64 nr, .int .i64 nt, .int .i64 ne]) ∧ Fb w x0 y0 w') := fun V h hq => (bnext_any x0 y0 b1 cs1 c1 b3 m3 c3 V hcl.2 hcl.1 (h.below_cs h1) (by omega) (fun r hr => by have := hq r hr; omega) (h3.below h.below)).mono fun e w' ⟨k1, k2⟩ => ⟨by rw [hnv] at k1; exact k1, h.next k2⟩
    have HN2 : Hid (∀ V, Fb w x0 y0 V → (∀ r ∈ m3, r.length ≤ 20) → Calls Try.prog 44 #[.agg #[.int .i64 x0, .int .i64 y0], .slice b1 cs1.length c1, .slice b3 m3.length c3] V fun e w' => e = .returned (.tuple #[.int .i64 nr, .int .i64 nt, .int .i64 ne]) ∧ Fb w x0 y0 w') := fun V h hq => (rNext_any x0 y0 b1 cs1 c1 b3 m3 c3 V hcl.2 hcl.1 (h.below_cs h1) (by omega) (fun r hr => by have := hq r hr; omega) (h3.below h.below)).mono fun e w' ⟨k1, k2⟩ => ⟨by rw [hnv] at k1; exact k1, h.next k2⟩
    clear h1 r1 h2 h3 hhv hnv hfe hfi hcl
    by_cases hg4 : (4 : Int) < (m3.length : Int)
    · have hg6 : ¬ (m3.length : Int) ≤ 20 := fun h => hg3 ⟨hg4, h⟩
      clear hg3
      go_enter Try.func7, Try.ntmps7
      go_wp2_with (first
        | (go_at_call 10; refine (HFE.out _ HF.out).mono ?_; rintro e w0 ⟨rfl, F0⟩; obtain ⟨a00, a01⟩ := And.intro F0.c0 F0.c1)
        | (go_at_call 11; refine (HFI.out _ F0).mono ?_; rintro e w1 ⟨rfl, F1⟩; obtain ⟨a10, a11⟩ := And.intro F1.c0 F1.c1))
      go_loopw [12, 60] (fun _ i wr => ∃ k : Nat, k ≤ m3.length ∧ i = .int .i64 k ∧ (∀ j y, j < k → m3[j]? = some y → y.length ≤ 20) ∧ Fb w x0 y0 wr) (fun _ i _ => m3.length - (intOf i).toNat)
      case atStart => exact ⟨0, Nat.zero_le _, rfl, fun j y h => by omega, F1⟩
      case round =>
        clear a00 a01 a10 a11
        obtain ⟨k, hk, rfl, hno, hf⟩ := hrel
        have HNO := Lib.hid hno
        have HFB := Lib.hid hf
        obtain ⟨k0, k1⟩ := And.intro hf.c0 hf.c1
        clear hno hf
        by_cases hlt : k < m3.length
        · obtain ⟨b, o, ra, r, rc, rfl, q0, q1, q2⟩ := (HM.out.below HFB.out.below).at hlt
          clear q1
          by_cases hr : (20 : Int) < (r.length : Int)
          · go_wp2_with (go_at_call 12; refine (HAW.out _ HFB.out).mono ?_; rintro e w99 ⟨rfl, F99⟩)
            all_goals go_ret
            all_goals exact ⟨rfl, F99.below⟩
          · go_wp2
            go_roundw
            case rel => exact ⟨k + 1, by omega, by go_num, fun j y hj hy => by
                by_cases hj' : j = k
                · subst hj'; rw [q2.out] at hy; cases hy; omega
                · exact HNO.out j y (by omega) hy, HFB.out⟩
            case measure => simp [intOf]; omega
        · have HALL : Hid (∀ r ∈ m3, r.length ≤ 20) := fun r hr => by
            obtain ⟨j, hj⟩ := List.mem_iff_getElem?.1 hr
            exact HNO.out j r (by have := (List.getElem?_eq_some_iff.1 hj).1; omega) hj
          by_cases hgo : he = 0 ∧ ¬ m4 < -99 ∧ ¬ 100 < m4
          · obtain ⟨rfl, g5, g6⟩ := hgo
            obtain ⟨A, B, C, D, hp1, hp2, hmx⟩ := HBEST.out rfl (by omega) (by omega)
            have hcmp : (if A < B then (B : Int) else (A : Int)) ≤ (if C < D then (D : Int) else (C : Int)) := by split <;> split <;> omega
            have HP1 : Hid (∀ V, Fb w x0 y0 V → Calls Try.prog 34 #[.agg #[.int .i64 x0, .int .i64 y0], .slice b1 cs1.length c1, .slice b2 xs2.length c2, .int .i64 ht] V fun e w' => e = .returned (.tuple #[.int .i64 (A : Int), .int .i64 (B : Int), .int .i64 0]) ∧ Fb w x0 y0 w') := fun V h => (HPP.out V ht h).mono fun e w' ⟨k1, k2⟩ => ⟨by rw [hp1] at k1; exact k1, k2⟩
            have HP2 : Hid (∀ V, Fb w x0 y0 V → Calls Try.prog 34 #[.agg #[.int .i64 x0, .int .i64 y0], .slice b1 cs1.length c1, .slice b2 xs2.length c2, .int .i64 m4] V fun e w' => e = .returned (.tuple #[.int .i64 (C : Int), .int .i64 (D : Int), .int .i64 0]) ∧ Fb w x0 y0 w') := fun V h => (HPP.out V m4 h).mono fun e w' ⟨k1, k2⟩ => ⟨by rw [hp2] at k1; exact k1, k2⟩
            clear hp1 hp2 hmx
            go_wp2_with (first
              | (go_at_call 41; refine (HH1.out _ HFB.out).mono ?_; rintro e w2 ⟨rfl, F2⟩; obtain ⟨a20, a21⟩ := And.intro F2.c0 F2.c1)
              | (go_at_call 42; refine (HH2.out _ F2).mono ?_; rintro e w3 ⟨rfl, F3⟩; obtain ⟨a30, a31⟩ := And.intro F3.c0 F3.c1)
              | (go_at_call 43; refine (HN1.out _ F3 HALL.out).mono ?_; rintro e w4 ⟨rfl, F4⟩; obtain ⟨a40, a41⟩ := And.intro F4.c0 F4.c1)
              | (go_at_call 44; refine (HN2.out _ F4 HALL.out).mono ?_; rintro e w5 ⟨rfl, F5⟩; obtain ⟨a50, a51⟩ := And.intro F5.c0 F5.c1)
              | (go_at_call 34; with_reducible refine (HP1.out _ F5).mono ?_; rintro e w6 ⟨rfl, F6⟩; obtain ⟨a60, a61⟩ := And.intro F6.c0 F6.c1)
              | (go_at_call 34; with_reducible refine (HP2.out _ F6).mono ?_; rintro e w7 ⟨rfl, F7⟩; obtain ⟨a70, a71⟩ := And.intro F7.c0 F7.c1)
              | (go_at_call 12; refine (HAW.out _ F7).mono ?_; rintro e w99 ⟨rfl, F99⟩))
            all_goals go_ret
            all_goals exact ⟨rfl, F99.below⟩
          · by_cases h0 : he = 0
            · subst h0
              by_cases g5 : m4 < -99
              · clear hgo
                go_wp2_with (first
                  | (go_at_call 41; refine (HH1.out _ HFB.out).mono ?_; rintro e w2 ⟨rfl, F2⟩; obtain ⟨a20, a21⟩ := And.intro F2.c0 F2.c1)
                  | (go_at_call 42; refine (HH2.out _ F2).mono ?_; rintro e w3 ⟨rfl, F3⟩; obtain ⟨a30, a31⟩ := And.intro F3.c0 F3.c1)
                  | (go_at_call 43; refine (HN1.out _ F3 HALL.out).mono ?_; rintro e w4 ⟨rfl, F4⟩; obtain ⟨a40, a41⟩ := And.intro F4.c0 F4.c1)
                  | (go_at_call 44; refine (HN2.out _ F4 HALL.out).mono ?_; rintro e w5 ⟨rfl, F5⟩; obtain ⟨a50, a51⟩ := And.intro F5.c0 F5.c1)
                  | (go_at_call 12; refine (HAW.out _ F5).mono ?_; rintro e w99 ⟨rfl, F99⟩))
                all_goals go_ret
                all_goals exact ⟨rfl, F99.below⟩
              · have g6 : 100 < m4 := by
                  by_cases h : 100 < m4
                  · exact h
                  · exact absurd ⟨rfl, g5, h⟩ hgo
                clear hgo
                go_wp2_with (first
                  | (go_at_call 41; refine (HH1.out _ HFB.out).mono ?_; rintro e w2 ⟨rfl, F2⟩; obtain ⟨a20, a21⟩ := And.intro F2.c0 F2.c1)
                  | (go_at_call 42; refine (HH2.out _ F2).mono ?_; rintro e w3 ⟨rfl, F3⟩; obtain ⟨a30, a31⟩ := And.intro F3.c0 F3.c1)
                  | (go_at_call 43; refine (HN1.out _ F3 HALL.out).mono ?_; rintro e w4 ⟨rfl, F4⟩; obtain ⟨a40, a41⟩ := And.intro F4.c0 F4.c1)
                  | (go_at_call 44; refine (HN2.out _ F4 HALL.out).mono ?_; rintro e w5 ⟨rfl, F5⟩; obtain ⟨a50, a51⟩ := And.intro F5.c0 F5.c1)
                  | (go_at_call 12; refine (HAW.out _ F5).mono ?_; rintro e w99 ⟨rfl, F99⟩))
                all_goals go_ret
                all_goals exact ⟨rfl, F99.below⟩
            · have h00 : (he != 0) = true := by simpa using h0
              clear hgo
              go_wp2_with (first
                | (go_at_call 41; refine (HH1.out _ HFB.out).mono ?_; rintro e w2 ⟨rfl, F2⟩; obtain ⟨a20, a21⟩ := And.intro F2.c0 F2.c1)
                | (go_at_call 42; refine (HH2.out _ F2).mono ?_; rintro e w3 ⟨rfl, F3⟩; obtain ⟨a30, a31⟩ := And.intro F3.c0 F3.c1)
                | (go_at_call 43; refine (HN1.out _ F3 HALL.out).mono ?_; rintro e w4 ⟨rfl, F4⟩; obtain ⟨a40, a41⟩ := And.intro F4.c0 F4.c1)
                | (go_at_call 44; refine (HN2.out _ F4 HALL.out).mono ?_; rintro e w5 ⟨rfl, F5⟩; obtain ⟨a50, a51⟩ := And.intro F5.c0 F5.c1)
                | (go_at_call 12; refine (HAW.out _ F5).mono ?_; rintro e w99 ⟨rfl, F99⟩))
              all_goals go_ret
              all_goals exact ⟨rfl, F99.below⟩
    · clear hg3
      go_enter Try.func7, Try.ntmps7
      go_wp2_with (first
        | (go_at_call 10; refine (HFE.out _ HF.out).mono ?_; rintro e w0 ⟨rfl, F0⟩; obtain ⟨a00, a01⟩ := And.intro F0.c0 F0.c1)
        | (go_at_call 11; refine (HFI.out _ F0).mono ?_; rintro e w1 ⟨rfl, F1⟩; obtain ⟨a10, a11⟩ := And.intro F1.c0 F1.c1))
      go_loopw [12, 60] (fun _ i wr => ∃ k : Nat, k ≤ m3.length ∧ i = .int .i64 k ∧ (∀ j y, j < k → m3[j]? = some y → y.length ≤ 20) ∧ Fb w x0 y0 wr) (fun _ i _ => m3.length - (intOf i).toNat)
      case atStart => exact ⟨0, Nat.zero_le _, rfl, fun j y h => by omega, F1⟩
      case round =>
        clear a00 a01 a10 a11
        obtain ⟨k, hk, rfl, hno, hf⟩ := hrel
        have HNO := Lib.hid hno
        have HFB := Lib.hid hf
        obtain ⟨k0, k1⟩ := And.intro hf.c0 hf.c1
        clear hno hf
        by_cases hlt : k < m3.length
        · obtain ⟨b, o, ra, r, rc, rfl, q0, q1, q2⟩ := (HM.out.below HFB.out.below).at hlt
          clear q1
          by_cases hr : (20 : Int) < (r.length : Int)
          · go_wp2_with (go_at_call 12; refine (HAW.out _ HFB.out).mono ?_; rintro e w99 ⟨rfl, F99⟩)
            all_goals go_ret
            all_goals exact ⟨rfl, F99.below⟩
          · go_wp2
            go_roundw
            case rel => exact ⟨k + 1, by omega, by go_num, fun j y hj hy => by
                by_cases hj' : j = k
                · subst hj'; rw [q2.out] at hy; cases hy; omega
                · exact HNO.out j y (by omega) hy, HFB.out⟩
            case measure => simp [intOf]; omega
        · have HALL : Hid (∀ r ∈ m3, r.length ≤ 20) := fun r hr => by
            obtain ⟨j, hj⟩ := List.mem_iff_getElem?.1 hr
            exact HNO.out j r (by have := (List.getElem?_eq_some_iff.1 hj).1; omega) hj
          by_cases hgo : he = 0 ∧ ¬ m4 < -99 ∧ ¬ 100 < m4
          · obtain ⟨rfl, g5, g6⟩ := hgo
            obtain ⟨A, B, C, D, hp1, hp2, hmx⟩ := HBEST.out rfl (by omega) (by omega)
            have hcmp : (if A < B then (B : Int) else (A : Int)) ≤ (if C < D then (D : Int) else (C : Int)) := by split <;> split <;> omega
            have HP1 : Hid (∀ V, Fb w x0 y0 V → Calls Try.prog 34 #[.agg #[.int .i64 x0, .int .i64 y0], .slice b1 cs1.length c1, .slice b2 xs2.length c2, .int .i64 ht] V fun e w' => e = .returned (.tuple #[.int .i64 (A : Int), .int .i64 (B : Int), .int .i64 0]) ∧ Fb w x0 y0 w') := fun V h => (HPP.out V ht h).mono fun e w' ⟨k1, k2⟩ => ⟨by rw [hp1] at k1; exact k1, k2⟩
            have HP2 : Hid (∀ V, Fb w x0 y0 V → Calls Try.prog 34 #[.agg #[.int .i64 x0, .int .i64 y0], .slice b1 cs1.length c1, .slice b2 xs2.length c2, .int .i64 m4] V fun e w' => e = .returned (.tuple #[.int .i64 (C : Int), .int .i64 (D : Int), .int .i64 0]) ∧ Fb w x0 y0 w') := fun V h => (HPP.out V m4 h).mono fun e w' ⟨k1, k2⟩ => ⟨by rw [hp2] at k1; exact k1, k2⟩
            clear hp1 hp2 hmx
            go_wp2_with (first
              | (go_at_call 41; refine (HH1.out _ HFB.out).mono ?_; rintro e w2 ⟨rfl, F2⟩; obtain ⟨a20, a21⟩ := And.intro F2.c0 F2.c1)
              | (go_at_call 42; refine (HH2.out _ F2).mono ?_; rintro e w3 ⟨rfl, F3⟩; obtain ⟨a30, a31⟩ := And.intro F3.c0 F3.c1)
              | (go_at_call 43; refine (HN1.out _ F3 HALL.out).mono ?_; rintro e w4 ⟨rfl, F4⟩; obtain ⟨a40, a41⟩ := And.intro F4.c0 F4.c1)
              | (go_at_call 44; refine (HN2.out _ F4 HALL.out).mono ?_; rintro e w5 ⟨rfl, F5⟩; obtain ⟨a50, a51⟩ := And.intro F5.c0 F5.c1)
              | (go_at_call 34; with_reducible refine (HP1.out _ F5).mono ?_; rintro e w6 ⟨rfl, F6⟩; obtain ⟨a60, a61⟩ := And.intro F6.c0 F6.c1)
              | (go_at_call 34; with_reducible refine (HP2.out _ F6).mono ?_; rintro e w7 ⟨rfl, F7⟩; obtain ⟨a70, a71⟩ := And.intro F7.c0 F7.c1)
              | (go_at_call 12; refine (HAW.out _ F7).mono ?_; rintro e w99 ⟨rfl, F99⟩))
            all_goals go_ret
            all_goals exact ⟨rfl, F99.below⟩
          · by_cases h0 : he = 0
            · subst h0
              by_cases g5 : m4 < -99
              · clear hgo
                go_wp2_with (first
                  | (go_at_call 41; refine (HH1.out _ HFB.out).mono ?_; rintro e w2 ⟨rfl, F2⟩; obtain ⟨a20, a21⟩ := And.intro F2.c0 F2.c1)
                  | (go_at_call 42; refine (HH2.out _ F2).mono ?_; rintro e w3 ⟨rfl, F3⟩; obtain ⟨a30, a31⟩ := And.intro F3.c0 F3.c1)
                  | (go_at_call 43; refine (HN1.out _ F3 HALL.out).mono ?_; rintro e w4 ⟨rfl, F4⟩; obtain ⟨a40, a41⟩ := And.intro F4.c0 F4.c1)
                  | (go_at_call 44; refine (HN2.out _ F4 HALL.out).mono ?_; rintro e w5 ⟨rfl, F5⟩; obtain ⟨a50, a51⟩ := And.intro F5.c0 F5.c1)
                  | (go_at_call 12; refine (HAW.out _ F5).mono ?_; rintro e w99 ⟨rfl, F99⟩))
                all_goals go_ret
                all_goals exact ⟨rfl, F99.below⟩
              · have g6 : 100 < m4 := by
                  by_cases h : 100 < m4
                  · exact h
                  · exact absurd ⟨rfl, g5, h⟩ hgo
                clear hgo
                go_wp2_with (first
                  | (go_at_call 41; refine (HH1.out _ HFB.out).mono ?_; rintro e w2 ⟨rfl, F2⟩; obtain ⟨a20, a21⟩ := And.intro F2.c0 F2.c1)
                  | (go_at_call 42; refine (HH2.out _ F2).mono ?_; rintro e w3 ⟨rfl, F3⟩; obtain ⟨a30, a31⟩ := And.intro F3.c0 F3.c1)
                  | (go_at_call 43; refine (HN1.out _ F3 HALL.out).mono ?_; rintro e w4 ⟨rfl, F4⟩; obtain ⟨a40, a41⟩ := And.intro F4.c0 F4.c1)
                  | (go_at_call 44; refine (HN2.out _ F4 HALL.out).mono ?_; rintro e w5 ⟨rfl, F5⟩; obtain ⟨a50, a51⟩ := And.intro F5.c0 F5.c1)
                  | (go_at_call 12; refine (HAW.out _ F5).mono ?_; rintro e w99 ⟨rfl, F99⟩))
                all_goals go_ret
                all_goals exact ⟨rfl, F99.below⟩
            · have h00 : (he != 0) = true := by simpa using h0
              clear hgo
              go_wp2_with (first
                | (go_at_call 41; refine (HH1.out _ HFB.out).mono ?_; rintro e w2 ⟨rfl, F2⟩; obtain ⟨a20, a21⟩ := And.intro F2.c0 F2.c1)
                | (go_at_call 42; refine (HH2.out _ F2).mono ?_; rintro e w3 ⟨rfl, F3⟩; obtain ⟨a30, a31⟩ := And.intro F3.c0 F3.c1)
                | (go_at_call 43; refine (HN1.out _ F3 HALL.out).mono ?_; rintro e w4 ⟨rfl, F4⟩; obtain ⟨a40, a41⟩ := And.intro F4.c0 F4.c1)
                | (go_at_call 44; refine (HN2.out _ F4 HALL.out).mono ?_; rintro e w5 ⟨rfl, F5⟩; obtain ⟨a50, a51⟩ := And.intro F5.c0 F5.c1)
                | (go_at_call 12; refine (HAW.out _ F5).mono ?_; rintro e w99 ⟨rfl, F99⟩))
              all_goals go_ret
              all_goals exact ⟨rfl, F99.below⟩
end Go.Proofs.Ytoedbbpjddjbnaa.bitHalves
