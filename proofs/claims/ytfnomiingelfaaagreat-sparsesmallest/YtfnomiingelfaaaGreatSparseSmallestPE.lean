/- Parts of the proof of SparseSmallest: plain words, walks and contracts, each under its own heading. -/
import Derived.Test.YtfnomiingelfaaaGreatSparseSmallestPD
import Derived.Test.YtfnomiingelfaaaGreatSparseSmallestPC
import Derived.Test.YtfnomiingelfaaaGreatSparseSmallestPA
import Derived.Deep.Fields
import Derived.ChangeSame
import Derived.Lib.QuietBelow
import Derived.BigQuiet
import Derived.Test.YtfnomiingelfaaaGreatShelf
import Derived.Laws.CopyOwn
import Derived.Deep.RegionLaw
import Derived.Deep.RegionHeldLaw
/- slices.Collect over fits; Fits of layer 4: contracts. -/
namespace Go.Proofs.YtfnomiingelfaaaGreat
open Go.RowKit Go.Shelf
attribute [local go_sem] Oper.semAt_some

theorem SpI.went2 {w : World} {FB : Nat} {v : Value} {pre : List FitV} {C T : Blk} {W W2 w' : World} {x : FitV} {g cap : Nat} (h : SpI w FB v pre C T W) (hx : MemF x W) (hown : ∀ b, ownF x b → T b) (hb : Below W.heap.size W W2) (hp : PushedF W2 (FB + 1) v pre x g cap w') :
    Went (fun pre C T W => ∃ v, True ∧ SpI w FB v pre C T W) ownF pre x C T W (w'.setCell ⟨FB, 0, none⟩ (.slice (some ⟨g, 0, none⟩) (pre.length + 1) cap)) := by
  obtain ⟨h1, ⟨_, h2⟩, h3⟩ := h.push hx hown hb hp
  refine ⟨_, _, ⟨_, trivial, h1⟩, fun b hb hl hn => ⟨hb, hn, hl⟩, fun b hb => ?_, h3.mono fun b _ e => .inl ((h.cc b).2 (e.elim .inl fun e => .inr (.inl e)))⟩
  rcases hb with rfl | rfl | ⟨z, hz, e⟩
  · exact .inl ((h.cc _).2 (.inl rfl))
  · rcases h2 with e | e
    · exact .inl ((h.cc _).2 (.inr (.inl e)))
    · exact .inr (.inr e)
  · rcases List.mem_append.1 hz with hz | hz
    · exact .inl ((h.cc _).2 (.inr (.inr ⟨z, hz, e⟩)))
    · obtain rfl := List.mem_singleton.1 hz
      exact .inr (.inl e)
theorem SpI.start (w : World) : SpI w w.heap.size (.slice none 0 0) [] (fun b => b = w.heap.size) (fun _ => False) (w.alloc (.cells #[.slice none 0 0] 34)) :=
  ⟨Nat.le_refl _, alloc_cell _ _ _ _ _ rfl, by simp, OwnF.nil _ _, (Below.refl _ _).alloc (Nat.le_refl _) _, fun _ _ e => e, fun b e => (by cases e), fun b => ⟨.inl, fun e => e.elim id fun e => e.elim (fun e => (by cases e)) fun ⟨x, hx, _⟩ => (by cases hx)⟩, fun x hx => (by cases hx), fun x hx => (by cases hx)⟩
set_option maxRecDepth 1000000 in
set_option maxHeartbeats 4000000 in
theorem appendF_in {gf : Nat} {lb : Array Value} (eg : ∀ args w, (callFunc gf args).run Tryz.prog w = .ok (.enter gf args) w) {Z : List (List Int × List (Int × Int))} {need : Blk} {w wq : World} (hseq : SeqM Tryz.prog gf lb encF MemF ownF keyF Z need wq) (hb : Below wq.heap.size wq w) (hneed : ∀ b, need b → b < w.heap.size) (hZ : Z.length ≤ 10000) :
    CallsIn Fence.wide 50 Tryz.prog 66 #[.slice none 0 0, .func (.func gf) #[] lb] w fun e w' => ∃ ca cc, e = .returned (.slice ca Z.length cc) ∧ Fs w' ca Z ∧ Below w.heap.size w w' := by
  have HI0 := Lib.hid (SpI.start w)
  obtain ⟨FB, hFB⟩ : ∃ FB, w.heap.size = FB := ⟨_, rfl⟩
  obtain ⟨V0, hV0⟩ : ∃ V0, w.alloc (.cells #[.slice none 0 0] 34) = V0 := ⟨_, rfl⟩
  have hVs : V0.heap.size = w.heap.size + 1 := by rw [← hV0]; exact World.size_alloc _ _
  rw [hV0] at HI0
  rw [hFB] at HI0 hVs hneed
  have HFB := Lib.hid hFB
  have HVS := Lib.hid hVs
  have HSEQ := Lib.hid hseq
  have HB := Lib.hid hb
  have HNEED := Lib.hid hneed
  have HZ := Lib.hid hZ
  clear hVs hseq hb hneed hZ
  refine callsIn_of_wp_marks Tryz.func66 rfl trivial ?_ rfl
  simp only [Tryz.ntmps66, List.size_toArray, List.length_cons, List.length_nil, Nat.reduceAdd, Nat.reduceSub, Array.replicate_succ, Array.replicate_zero, List.push_toArray, List.append_toArray, List.nil_append, List.cons_append]
  gi_wp2
  clear hV0 hFB
  refine wpIn_rangeFunc_M2 (by omega) (gf := gf) (lb := lb) rfl eg HSEQ.out (HB.out.trans (HI0.out.bw.mono HB.out.size)) (fun _ => rfl) memF_put
    (fun pre C T W => ∃ v, True ∧ SpI w FB v pre C T W) (fun _ _ _ _ _ => False) (SpI.client (p := fun _ _ => True) (q := fun pre => pre)) (fun _ => ⟨fun h => h.elim, fun h => h.elim⟩) (fun b => b = FB) (fun _ => False) ?need (fun _ e => e.elim) ⟨_, trivial, HI0.out⟩
    (fun x X => { tmps := #[.slice none 0 0, .func (.func gf) #[] lb, .pointer (some ⟨FB, 0, none⟩), undef, .slice none 0 0, .pointer (some ⟨X.heap.size, 0, none⟩), .func (.func gf) #[] lb, fitV x, undef, undef, undef, undef, undef], defers := [] }) (fun x X => X.alloc (.cells #[.slice x.qa x.px.length x.qc, .slice x.va x.vs.length x.vc] 27)) (fun x W => (Below.refl _ _).alloc (Nat.le_refl _) _) (fun x W W' h hb => ⟨h.sl.below hb, h.rl.below hb, fun ad e => ⟨(h.q ad e).1, Nat.lt_of_lt_of_le (h.q ad e).2 hb.size⟩, fun ad e => ⟨(h.v ad e).1, Nat.lt_of_lt_of_le (h.v ad e).2 hb.size⟩⟩) ?assign ?body ?done ?stop
  case need =>
    have h2 := HVS.out
    intro b hb
    have := HNEED.out b hb
    exact ⟨by omega, by omega⟩
  case assign =>
    rintro l2 ⟨qa, qc, px, va, vc, vs⟩ V K hK
    dsimp only
    gi_wp2
    exact hK
  case body =>
    rintro l2 pre x C T X W ⟨v, _, hI⟩ hmem hown ⟨rest, hrest⟩ hcl
    have hb0 := hcl _ _ (alloc_cell X #[.slice x.qa x.px.length x.qc, .slice x.va x.vs.length x.vc] 27 0 (.slice x.qa x.px.length x.qc) rfl)
    have hb1 := hcl _ _ (alloc_cell X #[.slice x.qa x.px.length x.qc, .slice x.va x.vs.length x.vc] 27 1 (.slice x.va x.vs.length x.vc) rfl)
    have HI := Lib.hid hI
    have HMX := Lib.hid hmem
    have HOWN := Lib.hid hown
    have HP : Hid (pre.length ≤ 100000) := by
      show _ ≤ _
      have e := congrArg List.length hrest
      have := HZ.out
      simp at e
      omega
    have hr := hI.r
    have hfr := hI.fr
    have HO2 : Hid (OwnF W (FB + 1) v pre) := hI.own
    have HFW2 : Hid (FB + 1 ≤ W.heap.size) := by have := cell_lt hr; show _ ≤ _; dsimp only at this; omega
    clear hI hmem hown hrest hcl
    try dsimp only
    gi_wp2_with (gi_at_builtin; go_must (refine wpListIn_pushF rfl (.tmp 8) (.tmp 10) rfl (FB + 1) _ pre x W _ _ rfl rfl rfl HO2.out HP.out HFW2.out ?_); intro g gc w' hp; have HPU := Lib.hid hp; obtain ⟨z1, z2⟩ := SpI.pcell HI.out (Below.refl _ _) hp; clear hp)
    exact SpI.went2 HI.out HMX.out HOWN.out (Below.refl _ _) HPU.out
  case done =>
    rintro D xs C T V hD hxs ⟨v, _, hI⟩ hTD hK
    have HI := Lib.hid hI
    have HTD := Lib.hid hTD
    have HK := Lib.hid hK
    have HXS := Lib.hid hxs
    have hr := hI.r
    have hfm := hI.own.form
    clear hI hTD hK hxs hD
    have hv : ∃ ca cc, v = .slice ca xs.length cc := by
      rcases hfm with ⟨e, e2⟩ | ⟨g, cap, e⟩
      · exact ⟨none, 0, by rw [e, e2]; rfl⟩
      · exact ⟨_, _, e⟩
    clear hfm
    obtain ⟨ca, cc, rfl⟩ := hv
    obtain ⟨xl, hxl⟩ : ∃ xl, xs.length = xl := ⟨_, rfl⟩
    have HXL := Lib.hid hxl
    rw [hxl] at hr HI
    clear hxl
    gi_wp2
    refine sp_leaves (ms := [D]) (r := .slice ca xl cc) (by intro W; simp [results, Tryz.results66, go_sem]) HI.out (fun E hE => ?_) (by simp) (fun E hE => ?_) (fun W h => ⟨ca, cc, by rw [← HXS.out, List.length_map, HXL.out], by rw [← HXS.out]; exact (OwnF.fs h.own fun z hz => (h.mem z hz).1).2, h.bw⟩)
    · obtain rfl : E = D := by simpa using hE
      exact HTD.out
    · obtain rfl : E = D := by simpa using hE
      exact HK.out
  case stop =>
    rintro D c pre C T V hD h
    exact h.elim
set_option maxRecDepth 100000 in
set_option maxHeartbeats 800000 in
theorem collectF_any {gf : Nat} {lb : Array Value} (eg : ∀ args w, (callFunc gf args).run Tryz.prog w = .ok (.enter gf args) w) {Z : List (List Int × List (Int × Int))} {need : Blk} {w wq : World} (hseq : SeqM Tryz.prog gf lb encF MemF ownF keyF Z need wq) (hb : Below wq.heap.size wq w) (hneed : ∀ b, need b → b < w.heap.size) (hZ : Z.length ≤ 10000) :
    Calls Tryz.prog 35 #[.func (.func gf) #[] lb] w fun e w' => ∃ ca cc, e = .returned (.slice ca Z.length cc) ∧ Fs w' ca Z ∧ Below w.heap.size w w' := by
  have HC := Lib.hid (callsIn_wide.1 (appendF_in eg hseq hb hneed hZ))
  clear hseq hb hneed hZ
  go_enter Tryz.func35, Tryz.ntmps35
  go_wp2_with (go_at_call 66; refine HC.out.mono ?_; rintro e w1 ⟨ca, cc, rfl, hms, hb⟩; have HM := Lib.hid hms; have HB := Lib.hid hb; clear hms hb)
  go_ret
  exact ⟨ca, cc, rfl, HM.out, HB.out⟩
theorem boxes4 (w1 : World) (u v : Value) (k : Int) (f : Value) (t1 t3 t4 t5 : TypeId) : let V := (((w1.alloc (.cells #[u, v] t1)).alloc (.cells #[u, v] t3)).alloc (.cells #[.int .i64 k] t4)).alloc (.cells #[f] t5)
    V.heap.size = w1.heap.size + 1 + 3 ∧ Below w1.heap.size w1 V ∧ V.cell? ⟨w1.heap.size + 1, 0, none⟩ = some u ∧ V.cell? ⟨w1.heap.size + 1, 1, none⟩ = some v ∧ V.cell? ⟨w1.heap.size + 1 + 1, 0, none⟩ = some (.int .i64 k) ∧ V.cell? ⟨w1.heap.size + 1 + 1 + 1, 0, none⟩ = some f := by
  obtain ⟨A, hA⟩ : ∃ A, w1.alloc (.cells #[u, v] t1) = A := ⟨_, rfl⟩
  obtain ⟨C, hC⟩ : ∃ C, A.alloc (.cells #[u, v] t3) = C := ⟨_, rfl⟩
  obtain ⟨D, hD⟩ : ∃ D, C.alloc (.cells #[.int .i64 k] t4) = D := ⟨_, rfl⟩
  obtain ⟨E, hE⟩ : ∃ E, D.alloc (.cells #[f] t5) = E := ⟨_, rfl⟩
  intro V
  have hV : V = E := by show (((w1.alloc (.cells #[u, v] t1)).alloc _).alloc _).alloc _ = E; rw [hA, hC, hD, hE]
  have sA : A.heap.size = w1.heap.size + 1 := by rw [← hA]; exact World.size_alloc _ _
  have sC : C.heap.size = w1.heap.size + 1 + 1 := by rw [← hC, World.size_alloc, sA]
  have sD : D.heap.size = w1.heap.size + 1 + 1 + 1 := by rw [← hD, World.size_alloc, sC]
  have sE : E.heap.size = w1.heap.size + 1 + 3 := by rw [← hE, World.size_alloc, sD]
  have bA : Below w1.heap.size w1 A := by rw [← hA]; exact (Below.refl _ _).alloc (Nat.le_refl _) _
  have bC : Below A.heap.size A C := by rw [← hC]; exact (Below.refl _ _).alloc (Nat.le_refl _) _
  have bD : Below C.heap.size C D := by rw [← hD]; exact (Below.refl _ _).alloc (Nat.le_refl _) _
  have bE : Below D.heap.size D E := by rw [← hE]; exact (Below.refl _ _).alloc (Nat.le_refl _) _
  have bCE : Below C.heap.size C E := bD.trans (bE.mono bD.size)
  have bAE : Below A.heap.size A E := bC.trans (bCE.mono bC.size)
  rw [hV]
  refine ⟨sE, bA.trans (bAE.mono bA.size), ?_, ?_, ?_, ?_⟩
  · rw [← sA]; exact (bCE.cell (p := ⟨A.heap.size, 0, none⟩) (by show A.heap.size < C.heap.size; omega)).trans (by rw [← hC]; exact alloc_cell _ _ _ _ _ rfl)
  · rw [← sA]; exact (bCE.cell (p := ⟨A.heap.size, 1, none⟩) (by show A.heap.size < C.heap.size; omega)).trans (by rw [← hC]; exact alloc_cell _ _ _ _ _ rfl)
  · rw [← sC]; exact (bE.cell (p := ⟨C.heap.size, 0, none⟩) (by show C.heap.size < D.heap.size; omega)).trans (by rw [← hD]; exact alloc_cell _ _ _ _ _ rfl)
  · rw [← sD, ← hE]; exact alloc_cell _ _ _ _ _ rfl
theorem short_to {m : List (List Int)} {y : List Int} (k : Nat) : ∀ j, shortF k (fitsTo zB m y j) = fitsTo zB m y (min j (k + 1))
  | 0 => by simp [fitsTo, shortF]
  | j + 1 => by
    have e : shortF k (fitsTo zB m y (j + 1)) = shortF k (fitsTo zB m y j) ++ shortF k ((compl (colsM m) j 0).filterMap fun px => (fitO zB m y px).map fun vs => (px, vs)) := by
      rw [fitsTo_succ]; unfold shortF; rw [List.filter_append]
    rw [e, short_to k j, shortF_row]
    by_cases h : j ≤ k
    · rw [if_pos h, show min j (k + 1) = j by omega, show min (j + 1) (k + 1) = j + 1 by omega, fitsTo_succ]
    · rw [if_neg h, List.append_nil, show min j (k + 1) = k + 1 by omega, show min (j + 1) (k + 1) = k + 1 by omega]
theorem fits_ok {m : List (List Int)} {y : List Int} {kk : Nat} (hr : readE m y = 0) (hk : kk ≤ 10) : fitsKV m y kk = (fitsTo zB m y (min kk (rankM m) + 1), 0) := by
  have hb : rangeB (kk : Int) 0 10 = true := by simp [rangeB]; omega
  unfold fitsKV
  rw [if_pos hr, if_pos hb]
  unfold allFits
  rw [short_to, show min (min 10 (rankM m) + 1) (kk + 1) = min kk (rankM m) + 1 by omega]
theorem fits_no {m : List (List Int)} {y : List Int} {k : Int} (h : upE m y k ≠ 0) : fitsKV m y k = ([], upE m y k) := by
  unfold upE at h ⊢
  unfold fitsKV
  split
  · rename_i h1
    rw [if_pos h1] at h
    split
    · rename_i h2; rw [if_pos h2] at h; exact absurd rfl h
    · rfl
  · rfl
set_option maxRecDepth 1000000 in
set_option maxHeartbeats 1600000 in
theorem sfitsK_any (a : Option Addr) (m : List (List Int)) (cap : Nat) (ya : Option Addr) (y : List Int) (yc : Nat) (k : Int) (w : World) (hm : MOk m) (hly : y.length ≤ 1000) (hs : Ms w a m) (hy : Sl w ya y) :
    Calls Tryz.prog 11 #[.slice a m.length cap, .slice ya y.length yc, .int .i64 k] w (FsPost (fitsKV m y k) w) := by
  have h := Lib.hid (askUp_any a m cap ya y yc k w hm (by omega) hs hy)
  by_cases hu : upE m y k = 0
  · have hr : readE m y = 0 := by
      unfold upE at hu
      split at hu
      · assumption
      · exact hu
    have hk : 0 ≤ k ∧ k ≤ 10 := by
      unfold upE at hu
      rw [if_pos hr] at hu
      split at hu
      · rename_i h; simpa [rangeB] using h
      · cases hu
    obtain ⟨kk, rfl⟩ := Int.eq_ofNat_of_zero_le hk.1
    rw [fits_ok hr (by omega)]
    have HUP : Hid (Calls Tryz.prog 34 #[.slice a m.length cap, .slice ya y.length yc, .int .i64 kk] w fun e w' => e = .returned (.tuple #[.agg #[.slice a m.length cap, .slice ya y.length yc], .int .i64 0]) ∧ Below w.heap.size w w') := by
      have h := h.out
      rw [if_pos hu, hu] at h
      exact h
    have HV := Lib.hid (readE_ok hr).1
    have HZL : Hid ((fitsTo zB m y (min kk (rankM m) + 1)).length ≤ 10000) := by
      have := allFits_len HV.out y zB (min kk (rankM m) + 1) (by omega)
      show _ ≤ _
      omega
    obtain ⟨Z, hZ⟩ : ∃ Z, fitsTo zB m y (min kk (rankM m) + 1) = Z := ⟨_, rfl⟩
    have HZZ := Lib.hid hZ
    rw [hZ] at HZL ⊢
    have HS := Lib.hid hs
    have HY := Lib.hid hy
    have HLY := Lib.hid hly
    have HKK : Hid (kk ≤ 10) := by show _ ≤ _; omega
    obtain ⟨ml, hml⟩ : ∃ ml, m.length = ml := ⟨_, rfl⟩
    obtain ⟨yl, hyl⟩ : ∃ yl, y.length = yl := ⟨_, rfl⟩
    have HML := Lib.hid hml
    have HYL := Lib.hid hyl
    rw [hml, hyl] at HUP
    rw [hml, hyl]
    clear h hu hr hk hm hs hy hly hZ hml hyl
    go_enter Tryz.func11, Tryz.ntmps11
    go_wp2_with (first
      | (go_at_call 34; refine HUP.out.mono ?_; rintro e w1 ⟨rfl, hb1⟩; have HB1 := Lib.hid hb1; clear hb1)
      | (go_at_call 36; refine (sfits_any _ _ kk 30 #[] _ ⟨_, _, _, rfl⟩ ⟨_, _, _, rfl⟩).mono ?_; rintro e w3 ⟨rfl, rfl⟩
         obtain ⟨k1, k2, k5, k6, k7, k8⟩ := boxes4 w1 (.slice a ml cap) (.slice ya yl yc) kk (.func (.func 30) #[] #[]) 54 54 3 59
         have HK1 := Lib.hid k1; have HK2 := Lib.hid k2; have HK5 := Lib.hid k5; have HK6 := Lib.hid k6; have HK7 := Lib.hid k7; have HK8 := Lib.hid k8; clear k1 k2 k5 k6 k7 k8
         have hcc : ∀ V0, V0 = ((((w1.alloc (.cells #[.slice a ml cap, .slice ya yl yc] 54)).alloc (.cells #[.slice a ml cap, .slice ya yl yc] 54)).alloc (.cells #[.int .i64 kk] 3)).alloc (.cells #[.func (.func 30) #[] #[]] 59)) → Calls Tryz.prog 35 #[.func (.func 67) #[] #[.pointer (some ⟨w1.heap.size + 1, 0, none⟩), .pointer (some ⟨w1.heap.size + 1 + 1, 0, none⟩), .pointer (some ⟨w1.heap.size + 1 + 1 + 1, 0, none⟩)]] V0 (fun e w' => ∃ ca cc, e = .returned (.slice ca Z.length cc) ∧ Fs w' ca Z ∧ Below V0.heap.size V0 w') := (by
           intro V0 hV0
           have k1 := HK1.out; have k2 := HK2.out; have k5 := HK5.out; have k6 := HK6.out; have k7 := HK7.out; have k8 := HK8.out
           rw [← hV0] at k1 k2 k5 k6 k7 k8
           have hbs : ∀ p ∈ ([(⟨w1.heap.size + 1, 0, none⟩, .slice a m.length cap), (⟨w1.heap.size + 1, 1, none⟩, .slice ya y.length yc), (⟨w1.heap.size + 1 + 1, 0, none⟩, .int .i64 (kk : Int)), (⟨w1.heap.size + 1 + 1 + 1, 0, none⟩, .func (.func 30) #[] #[])] : List (Addr × Value)), V0.cell? p.1 = some p.2 := fun p hp => by
             simp only [List.mem_cons, List.not_mem_nil, or_false] at hp
             rcases hp with rfl | rfl | rfl | rfl
             · rw [HML.out]; exact k5
             · rw [HYL.out]; exact k6
             · exact k7
             · exact k8
           have hsq := fits1_seq (wr := zB) (w0 := w) (w := V0) (kk := kk) (ma := a) (mc := cap) (ya := ya) (yc := yc) (Q := w1.heap.size + 1) (KB := w1.heap.size + 1 + 1) (WB := w1.heap.size + 1 + 1 + 1) (wg := 30) (wl := #[]) HV.out HLY.out (by have := HKK.out; omega) HS.out HY.out (HB1.out.trans (k2.mono HB1.out.size)) hbs List.mem_cons_self (List.mem_cons_of_mem _ List.mem_cons_self) (List.mem_cons_of_mem _ (List.mem_cons_of_mem _ List.mem_cons_self)) (List.mem_cons_of_mem _ (List.mem_cons_of_mem _ (List.mem_cons_of_mem _ List.mem_cons_self))) (fun W a vs cap _ h1 h2 => zfunc_any W a vs cap h1 h2)
           rw [HZZ.out] at hsq
           refine collectF_any (enters_of Tryz.func67 (by kernel_rfl) rfl) hsq (Below.refl _ _) ?_ HZL.out
           have s1 := HB1.out.size
           rintro b (h | ⟨p, hp, rfl⟩)
           · omega
           · simp only [List.mem_cons, List.not_mem_nil, or_false] at hp
             rcases hp with rfl | rfl | rfl | rfl <;> (dsimp only; omega))
         have HCC := Lib.hid hcc; clear hcc)
      | (go_at_call 35; refine (HCC.out _ rfl).mono ?_; rintro e w4 ⟨ca, cc, rfl, hfs, hb4⟩; have HFS := Lib.hid hfs; have HB4 := Lib.hid hb4; clear hfs hb4))
    go_ret2
    exact ⟨(HB1.out.trans (HK2.out.mono HB1.out.size)).trans (HB4.out.mono (by have := HK2.out.size; have := HB1.out.size; omega)), ca, cc, rfl, HFS.out⟩
  · rw [fits_no hu]
    obtain ⟨e0, he0⟩ : ∃ e0, upE m y k = e0 := ⟨_, rfl⟩
    have HUP : Hid (Calls Tryz.prog 34 #[.slice a m.length cap, .slice ya y.length yc, .int .i64 k] w fun e w' => e = .returned (.tuple #[.agg #[.slice none 0 0, .slice none 0 0], .int .i64 e0]) ∧ Below w.heap.size w w') := by
      have h := h.out
      rw [if_neg hu, he0] at h
      exact h
    rw [he0] at hu ⊢
    have y1 : (e0 == 0) = false := by simpa using hu
    have y2 : (e0 != 0) = true := by simpa using hu
    clear h he0 hu hm hs hy
    go_enter Tryz.func11, Tryz.ntmps11
    go_wp2_with (go_at_call 34; refine HUP.out.mono ?_; rintro e w1 ⟨rfl, hb1⟩; have HB1 : Hid (Below w.heap.size w w1) := hb1; clear hb1)
    go_ret2
    exact ⟨HB1.out.alloc HB1.out.size _, none, 0, rfl, fun k p hk => by simp at hk⟩
end Go.Proofs.YtfnomiingelfaaaGreat
/- Circuit and Spark of the answers: contracts. -/
namespace Go.Proofs.YtfnomiingelfaaaGreat
open Go.RowKit

end Go.Proofs.YtfnomiingelfaaaGreat
/- Light of the statements, whatever it says; Circuits of the answers, whole. -/
namespace Go.Proofs.YtfnomiingelfaaaGreat
open Go.RowKit

set_option maxRecDepth 100000 in
set_option maxHeartbeats 800000 in
theorem light_any (a : Option Addr) (m : List (List Int)) (cap : Nat) (w : World) (hl : m.length ≤ 9223372036854775807) (hs : Ms w a m) :
    Calls Tryz.prog 6 #[.slice a m.length cap] w fun e w' => (∃ b, e = .returned (.bool b)) ∧ w = w' := by
  have HS := Lib.hid hs; clear hs
  go_enter Tryz.func6, Tryz.ntmps6
  go_wp2
  go_loopw [3, 8] (fun v i wr => ∃ k : Nat, k ≤ m.length ∧ i = .int .i64 k ∧ (∃ n, v = .int .i64 n) ∧ wr = w) (fun _ i _ => m.length - (intOf i).toNat)
  case atStart => exact ⟨0, Nat.zero_le _, rfl, ⟨_, rfl⟩, rfl⟩
  case round =>
    obtain ⟨k, hk, rfl, ⟨n, rfl⟩, rfl⟩ := hrel
    by_cases hlt : k < m.length
    · obtain ⟨b, o, ai, r, ci, rfl, hc, _, hr⟩ := HS.out.at hlt
      clear hr
      obtain ⟨rl, hrl⟩ : ∃ rl, r.length = rl := ⟨_, rfl⟩
      rw [hrl] at hc
      clear hrl
      by_cases h7 : (7 : Int) < rl
      · by_cases h10 : (rl : Int) ≤ 10
        · go_wp2
          go_ret
          exact ⟨⟨_, rfl⟩, rfl⟩
        · go_wp2
          go_roundw
          case rel => exact ⟨k + 1, by omega, by go_num, ⟨_, rfl⟩, by first | trivial | rfl⟩
          case measure => simp [intOf]; omega
      · go_wp2
        go_roundw
        case rel => exact ⟨k + 1, by omega, by go_num, ⟨_, rfl⟩, by first | trivial | rfl⟩
        case measure => simp [intOf]; omega
    · obtain rfl : k = m.length := by omega
      go_wp2
      go_ret
      exact ⟨⟨_, rfl⟩, rfl⟩
end Go.Proofs.YtfnomiingelfaaaGreat
/- How a slice of fractions that came in is opened. Speaks of no function. -/
namespace Go.Proofs.YtfnomiingelfaaaGreat
open Go.ChangeShapes Go.WideShapes Go.ChangeAt Go.RowKit Go.Joins Go.Deep

def InRatios (w : World) (v : Value) (a : Option Addr) (ps : List (Int × Int)) (cap : Nat) : Prop :=
  v = .slice a ps.length cap ∧ Rr w a ps ∧ ps.length ≤ 9223372036854775807
section
variable {H : Type} {enc : TypeId × Value → H} {P : Program} {w : World} {base : Nat} {held : Bool}
theorem in_ratios {t e : TypeId} {f0 f1 : Field} {fuel : Nat} {v : Value} {x : DataW H × List MemPlace} (ht : P.underlying t = some (.slice e)) (he : P.underlying e = some (.struct #[f0, f1])) (hone : oneCellFields P #[f0, f1] = true) (ce : P.cellsOf e = 2)
    (h0 : P.underlying f0.type = some (.int .i64)) (h1 : P.underlying f1.type = some (.int .i64))
    (h : DataW.trod enc P w base (fun _ => true) held fuel t [v] = some x) : ∃ a ps cap, InRatios w v a ps cap := by
  rcases DataW.trod_slice ht h with ⟨hcs, _⟩ | ⟨ad, len, cap, elems, rest, n, _, hcs, _, _, hl, hm, hlen, hel, _, _⟩
  · simp only [List.cons.injEq, and_true] at hcs
    exact ⟨none, [], 0, hcs, fun j p hj => by simp at hj, by simp⟩
  · simp only [List.cons.injEq, and_true] at hcs
    obtain ⟨o0, k0⟩ := hone_of hone 0 f0 rfl
    obtain ⟨o1, k1⟩ := hone_of hone 1 f1 rfl
    have each : ∀ i, i < len → ∃ p : Int × Int, w.cell? ((ad.add (i * 2)).add 0) = some (.int .i64 p.1) ∧ w.cell? ((ad.add (i * 2)).add 1) = some (.int .i64 p.2) := by
      intro i hi
      have hb := hel i hi
      obtain ⟨y, hy⟩ : ∃ y, elems[i]? = some y := ⟨elems[i]'(by omega), by simp [hlen, hi]⟩
      rw [hy, ce, Option.bind_eq_some_iff] at hb
      obtain ⟨cs, hc, ht2⟩ := hb
      obtain ⟨_, hcl, hce⟩ := World.cells?_some hc
      obtain ⟨y0, y1, m, _, _, g0, g1⟩ := trod_struct2 he ht2
      match cs, hcl with
      | [c0, c1], _ =>
        simp [o0, k0] at g0
        simp [o1, k1] at g1
        obtain ⟨p, rfl, _⟩ := in_int h0 g0
        obtain ⟨q, rfl, _⟩ := in_int h1 g1
        exact ⟨(p, q), by simpa using hce 0 (by simp), by simpa using hce 1 (by simp)⟩
    obtain ⟨f, hf⟩ : ∃ f : Nat → Int × Int, ∀ i, i < len → w.cell? ((ad.add (i * 2)).add 0) = some (.int .i64 (f i).1) ∧ w.cell? ((ad.add (i * 2)).add 1) = some (.int .i64 (f i).2) :=
      ⟨fun i => if hi : i < len then Classical.choose (each i hi) else (0, 0), fun i hi => by
        dsimp only
        rw [dif_pos hi]
        exact Classical.choose_spec (each i hi)⟩
    unfold maxLen at hm
    have hlen2 : ((List.range len).map f).length = len := by simp
    refine ⟨some ad, (List.range len).map f, cap, by rw [hlen2]; exact hcs, fun j p hj => ?_, by rw [hlen2]; omega⟩
    have hjl : j < len := by have := (List.getElem?_eq_some_iff.1 hj).1; simpa using this
    have hp : f j = p := by simpa [hjl] using hj
    obtain ⟨b, off, e0⟩ := addr_flat (w := w) (ad := ad) (v := .int .i64 (f 0).1) (by
      have := (hf 0 (by omega)).1
      have e : (ad.add (0 * 2)).add 0 = ad.add 0 := by unfold Addr.add; split <;> simp_all
      rw [e] at this; exact this)
    subst e0
    have h2 := hf j hjl
    rw [hp, flat_add, flat_add, flat_add, Nat.add_zero] at h2
    exact ⟨b, off, rfl, h2⟩
end
end Go.Proofs.YtfnomiingelfaaaGreat
/- long of two lists, Fits of both sides, in memory. -/
namespace Go.Proofs.YtfnomiingelfaaaGreat
open Go.RowKit Go.Shelf
set_option maxRecDepth 100000 in
theorem long42_any (b o : Nat) (a0 : Option Addr) (n0 c0 : Nat) (a1 : Option Addr) (n1 c1 cap : Nat) (w : World) (_h0 : n0 ≤ 9223372036854775807) (_h1 : n1 ≤ 9223372036854775807) (hc0 : w.cell? ⟨b, o, none⟩ = some (.slice a0 n0 c0)) (hc1 : w.cell? ⟨b, o + 1, none⟩ = some (.slice a1 n1 c1)) :
    Calls Tryz.prog 7 #[.slice (some ⟨b, o, none⟩) 2 cap] w fun e w' => ∃ q, e = .returned (.bool q) ∧ (q = false → n0 ≤ 100 ∧ n1 ≤ 100) ∧ w = w' := by
  go_enter Tryz.func7, Tryz.ntmps7
  go_wp2
  go_loopw [7] (fun i wr => ∃ k : Nat, k ≤ 2 ∧ i = .int .i64 k ∧ wr = w ∧ (1 ≤ k → n0 ≤ 100) ∧ (2 ≤ k → n1 ≤ 100)) (fun i _ => 2 - (intOf i).toNat)
  case atStart => exact ⟨0, by omega, rfl, rfl, fun h => by omega, fun h => by omega⟩
  case round =>
    obtain ⟨k, hk, rfl, rfl, q0, q1⟩ := hrel
    by_cases hlt : k < 2
    · have hcell : ∃ ak nk ck, wr.cell? ⟨b, o + k, none⟩ = some (.slice ak nk ck) ∧ (nk ≤ 100 → (1 ≤ k + 1 → n0 ≤ 100) ∧ (2 ≤ k + 1 → n1 ≤ 100)) := by
        match k, hlt with
        | 0, _ => exact ⟨a0, n0, c0, hc0, fun h => ⟨fun _ => h, fun h2 => by omega⟩⟩
        | 1, _ => exact ⟨a1, n1, c1, hc1, fun h => ⟨fun _ => q0 (by omega), fun _ => h⟩⟩
      obtain ⟨ak, nk, ck, hck, hok⟩ := hcell
      have HOK := Lib.hid hok
      clear hok hc0 hc1
      by_cases h : nk > 100
      · have hk2 : (k : Int) < 2 := by omega
        go_wp2
        go_ret
        exact ⟨true, rfl, (fun h => absurd h (by decide)), rfl⟩
      · have hk2 : (k : Int) < 2 := by omega
        go_wp2
        go_roundw
        case rel => exact ⟨k + 1, by omega, by go_num, by first | trivial | rfl, (HOK.out (by omega)).1, (HOK.out (by omega)).2⟩
        case measure => simp [intOf]; omega
    · obtain rfl : k = 2 := by omega
      go_wp2
      go_ret
      exact ⟨_, rfl, fun _ => ⟨q0 (by omega), q1 (by omega)⟩, rfl⟩
theorem bel_trn {w V V' : World} (hb : Below w.heap.size w V) (h : Below V.heap.size V V') : Below w.heap.size w V' := hb.trans (h.mono hb.size)
theorem fitsKV_short (m : List (List Int)) (y : List Int) (k : Int) : (fitsKV m y k).1.length ≤ 3300 ∧ ∀ q ∈ (fitsKV m y k).1, q.1.length ≤ 1000 ∧ q.2.length ≤ 1000 := by
  unfold fitsKV
  split
  · rename_i h1
    split
    · refine ⟨Nat.le_trans (List.length_filter_le _ _) ?_, fun q hq => ?_⟩
      · have := allFits_len (readE_ok h1).1 y zB (min 10 (rankM m) + 1) (by omega)
        show (fitsTo _ _ _ _).length ≤ _
        omega
      · have h := (List.mem_filter.1 hq).1
        unfold allFits fitsTo at h
        obtain ⟨s, hs, hq⟩ := List.mem_flatMap.1 h
        obtain ⟨px, hpx, e⟩ := List.mem_filterMap.1 hq
        obtain ⟨vs, hvs, rfl⟩ := Option.map_eq_some_iff.1 e
        have h1 := (compl_mem hpx).1
        have h2 := List.mem_range.1 hs
        have h3 := fitO_len hvs
        exact ⟨by show px.length ≤ 1000; omega, by show vs.length ≤ 1000; omega⟩
    · exact ⟨by simp, fun q hq => by cases hq⟩
  · exact ⟨by simp, fun q hq => by cases hq⟩
end Go.Proofs.YtfnomiingelfaaaGreat
/- Determinants of order six with the entries -1, 0 and 1 are at most 320: by the minors of three rows. Plain words. Speaks of no program. -/
namespace Go.Proofs.YtfnomiingelfaaaGreat
open Go.RowKit

def d3 (u v w : Nat → Int) : Int := u 0 * (v 1 * w 2 - v 2 * w 1) - v 0 * (u 1 * w 2 - u 2 * w 1) + w 0 * (u 1 * v 2 - u 2 * v 1)
def d4 (u v w x : Nat → Int) : Int := x 3 * d3 u v w - (u 3 * d3 x v w + v 3 * d3 u x w + w 3 * d3 u v x)
def d5 (u v w x y : Nat → Int) : Int := y 4 * d4 u v w x - (u 4 * d4 y v w x + v 4 * d4 u y w x + w 4 * d4 u v y x + x 4 * d4 u v w y)
def d6 (u v w x y z : Nat → Int) : Int := z 5 * d5 u v w x y - (u 5 * d5 z v w x y + v 5 * d5 u z w x y + w 5 * d5 u v z x y + x 5 * d5 u v w z y + y 5 * d5 u v w x z)
def e3 (u v w : Nat → Int) : Int := d3 (fun i => u (i + 3)) (fun i => v (i + 3)) (fun i => w (i + 3))
theorem d3_of (b : Nat → Nat → Int) : detC 3 b = d3 (b 0) (b 1) (b 2) := by
  simp only [detC, sumTo, updC, d3]
  simp
  grind
theorem d4_of (b : Nat → Nat → Int) : detC 4 b = d4 (b 0) (b 1) (b 2) (b 3) := by
  unfold detC
  simp only [sumTo, d3_of, updC, d4]
  simp
theorem d5_of (b : Nat → Nat → Int) : detC 5 b = d5 (b 0) (b 1) (b 2) (b 3) (b 4) := by
  unfold detC
  simp only [sumTo, d4_of, updC, d5]
  simp
theorem d6_of (b : Nat → Nat → Int) : detC 6 b = d6 (b 0) (b 1) (b 2) (b 3) (b 4) (b 5) := by
  unfold detC
  simp only [sumTo, d5_of, updC, d6]
  simp
theorem d3_12 (u v w : Nat → Int) : d3 v u w = -d3 u v w := by unfold d3; grind
theorem d3_23 (u v w : Nat → Int) : d3 u w v = -d3 u v w := by unfold d3; grind
theorem d3_13 (u v w : Nat → Int) : d3 w v u = -d3 u v w := by unfold d3; grind
theorem d3_312 (u v w : Nat → Int) : d3 w u v = d3 u v w := by unfold d3; grind
theorem d3_231 (u v w : Nat → Int) : d3 v w u = d3 u v w := by unfold d3; grind
theorem d6_lap (u0 u1 u2 u3 u4 u5 : Nat → Int) : d6 u0 u1 u2 u3 u4 u5 = d3 u0 u1 u2 * e3 u3 u4 u5 + -(d3 u0 u1 u3) * e3 u2 u4 u5 + d3 u0 u1 u4 * e3 u2 u3 u5 + -(d3 u0 u1 u5) * e3 u2 u3 u4 + d3 u0 u2 u3 * e3 u1 u4 u5 + -(d3 u0 u2 u4) * e3 u1 u3 u5 + d3 u0 u2 u5 * e3 u1 u3 u4 + d3 u0 u3 u4 * e3 u1 u2 u5 + -(d3 u0 u3 u5) * e3 u1 u2 u4 + d3 u0 u4 u5 * e3 u1 u2 u3 + -(d3 u1 u2 u3) * e3 u0 u4 u5 + d3 u1 u2 u4 * e3 u0 u3 u5 + -(d3 u1 u2 u5) * e3 u0 u3 u4 + -(d3 u1 u3 u4) * e3 u0 u2 u5 + d3 u1 u3 u5 * e3 u0 u2 u4 + -(d3 u1 u4 u5) * e3 u0 u2 u3 + d3 u2 u3 u4 * e3 u0 u1 u5 + -(d3 u2 u3 u5) * e3 u0 u1 u4 + d3 u2 u4 u5 * e3 u0 u1 u3 + -(d3 u3 u4 u5) * e3 u0 u1 u2 := by
  unfold d6 d5 d4
  rw [d3_23 u0 u2 u3, d3_23 u0 u2 u4, d3_23 u0 u3 u4, d3_23 u0 u2 u5, d3_23 u0 u3 u5, d3_23 u0 u4 u5, d3_312 u1 u2 u3, d3_12 u1 u3 u4, d3_12 u1 u3 u5, d3_231 u2 u3 u4, d3_231 u2 u3 u5, d3_23 u3 u4 u5, d3_312 u1 u2 u4, d3_312 u1 u3 u4, d3_12 u1 u4 u5, d3_13 u2 u3 u4, d3_12 u3 u4 u5, d3_231 u2 u4 u5, d3_231 u3 u4 u5, d3_312 u1 u2 u5, d3_312 u1 u3 u5, d3_312 u1 u4 u5, d3_13 u2 u3 u5, d3_312 u3 u4 u5, d3_13 u2 u4 u5, d3_13 u3 u4 u5]
  generalize d3 u0 u1 u2 = m0
  generalize d3 u0 u1 u3 = m1
  generalize d3 u0 u1 u4 = m2
  generalize d3 u0 u1 u5 = m3
  generalize d3 u0 u2 u3 = m4
  generalize d3 u0 u2 u4 = m5
  generalize d3 u0 u2 u5 = m6
  generalize d3 u0 u3 u4 = m7
  generalize d3 u0 u3 u5 = m8
  generalize d3 u0 u4 u5 = m9
  generalize d3 u1 u2 u3 = m10
  generalize d3 u1 u2 u4 = m11
  generalize d3 u1 u2 u5 = m12
  generalize d3 u1 u3 u4 = m13
  generalize d3 u1 u3 u5 = m14
  generalize d3 u1 u4 u5 = m15
  generalize d3 u2 u3 u4 = m16
  generalize d3 u2 u3 u5 = m17
  generalize d3 u2 u4 u5 = m18
  generalize d3 u3 u4 u5 = m19
  unfold e3 d3
  simp only [Nat.reduceAdd, Nat.zero_add]
  generalize u0 3 = a03
  generalize u0 4 = a04
  generalize u0 5 = a05
  generalize u1 3 = a13
  generalize u1 4 = a14
  generalize u1 5 = a15
  generalize u2 3 = a23
  generalize u2 4 = a24
  generalize u2 5 = a25
  generalize u3 3 = a33
  generalize u3 4 = a34
  generalize u3 5 = a35
  generalize u4 3 = a43
  generalize u4 4 = a44
  generalize u4 5 = a45
  generalize u5 3 = a53
  generalize u5 4 = a54
  generalize u5 5 = a55
  grind
end Go.Proofs.YtfnomiingelfaaaGreat
/- validFraction: a contract. -/
namespace Go.Proofs.YtfnomiingelfaaaGreat
open Go.RowKit

def validR (n d : Int) : Bool := decide (1 ≤ d) && decide (d ≤ 400) && decide (-10000000000 ≤ n) && decide (n ≤ 10000000000) && decide (gcd2 n d = 1)
set_option maxRecDepth 1000000 in
set_option maxHeartbeats 1600000 in
theorem validR_any (n d : Int) (w : World) : Calls Tryz.prog 141 #[.agg #[.int .i64 n, .int .i64 d]] w fun e w' => e = .returned (.bool (validR n d)) ∧ Below w.heap.size w w' := by
  obtain ⟨V, hV⟩ : ∃ V, w.alloc (.cells #[.int .i64 n, .int .i64 d] 52) = V := ⟨_, rfl⟩
  have HBV : Hid (Below w.heap.size w V) := by rw [← hV]; exact (Below.refl _ _).alloc (Nat.le_refl _) _
  have c0 : V.cell? ⟨w.heap.size, 0, none⟩ = some (.int .i64 n) := by rw [← hV]; exact alloc_cell _ _ _ _ _ rfl
  have c1 : V.cell? ⟨w.heap.size, 1, none⟩ = some (.int .i64 d) := by rw [← hV]; exact alloc_cell _ _ _ _ _ rfl
  by_cases h1 : d < 1
  · have HV : Hid (validR n d = false) := by show _ = _; unfold validR; rw [decide_eq_false (by omega : ¬ 1 ≤ d)]; rfl
    go_enter Tryz.func141, Tryz.ntmps141
    go_wp2
    go_ret
    exact ⟨ret_bool HV.out.symm, HBV.out⟩
  by_cases h2 : 400 < d
  · have HV : Hid (validR n d = false) := by show _ = _; unfold validR; rw [decide_eq_false (by omega : ¬ d ≤ 400)]; simp
    go_enter Tryz.func141, Tryz.ntmps141
    go_wp2
    go_ret
    exact ⟨ret_bool HV.out.symm, HBV.out⟩
  by_cases h3 : n < -10000000000
  · have HV : Hid (validR n d = false) := by show _ = _; unfold validR; rw [decide_eq_false (by omega : ¬ -10000000000 ≤ n)]; simp
    go_enter Tryz.func141, Tryz.ntmps141
    go_wp2
    go_ret
    exact ⟨ret_bool HV.out.symm, HBV.out⟩
  by_cases h4 : 10000000000 < n
  · have HV : Hid (validR n d = false) := by show _ = _; unfold validR; rw [decide_eq_false (by omega : ¬ n ≤ 10000000000)]; simp
    go_enter Tryz.func141, Tryz.ntmps141
    go_wp2
    go_ret
    exact ⟨ret_bool HV.out.symm, HBV.out⟩
  obtain ⟨G, hG⟩ : ∃ G, gcd2 n d = G := ⟨_, rfl⟩
  have HDV : Hid (∀ W b cap, Sl W (some ⟨b, 0, none⟩) [n, d] → Calls Tryz.prog 150 #[.slice (some ⟨b, 0, none⟩) 2 cap] W fun e w' => e = .returned (.int .i64 G) ∧ ∃ nd, w' = W.drewN nd) := fun W b cap h => by
    have h := divisor_any (some ⟨b, 0, none⟩) [n, d] cap W (by simp) (fun x hx => by
      rcases List.mem_cons.1 hx with e | hx
      · rw [e]; unfold Mid; omega
      · rw [List.mem_singleton.1 hx]; unfold Mid; omega) h
    rw [gcdL_two, hG] at h
    exact h
  obtain ⟨q, hq⟩ : ∃ q, decide (G = 1) = q := ⟨_, rfl⟩
  have HV : Hid (validR n d = q) := by
    show _ = _
    unfold validR
    rw [decide_eq_true (by omega : 1 ≤ d), decide_eq_true (by omega : d ≤ 400), decide_eq_true (by omega : -10000000000 ≤ n), decide_eq_true (by omega : n ≤ 10000000000), hG, hq]; rfl
  have y0 : (G == 1) = q := by rw [← hq]; rfl
  clear hG hq
  go_enter Tryz.func141, Tryz.ntmps141
  go_wp2_with (go_at_call 150; refine (HDV.out _ _ _ (sl_new _ _ _)).mono ?_; rintro e w1 ⟨rfl, nd, rfl⟩)
  go_ret
  exact ⟨ret_bool HV.out.symm, below_drewN (HBV.out.alloc HBV.out.size _) nd⟩
end Go.Proofs.YtfnomiingelfaaaGreat
/- Makes of the program: a contract. -/
namespace Go.Proofs.YtfnomiingelfaaaGreat
open Go.RowKit

def makesB (m : List (List Int)) (ps : List (Int × Int)) (y : List Int) : Bool :=
  decide (readE m y = 0) && decide (ps.length = colsM m) && (ps.all fun p => validR p.1 p.2) && (List.range m.length).all fun i => upB (rowL m i) ps (gt y i)
theorem validR_bd {n d : Int} (h : validR n d = true) : I64' d ∧ -10000000000 ≤ n ∧ n ≤ 10000000000 ∧ 1 ≤ d ∧ d ≤ 400 := by
  unfold validR at h
  simp only [Bool.and_eq_true, decide_eq_true_eq] at h
  unfold I64'; omega
set_option maxRecDepth 1000000 in
set_option maxHeartbeats 3200000 in
theorem lmakes_any (ma : Option Addr) (m : List (List Int)) (mc : Nat) (xa : Option Addr) (ps : List (Int × Int)) (xc : Nat) (ya : Option Addr) (y : List Int) (yc : Nat) (w : World) (hm : MOk m) (hly : y.length ≤ 9223372036854775807) (hlx : ps.length ≤ 9223372036854775807) (hs : Ms w ma m) (hx : Rr w xa ps) (hy : Sl w ya y) :
    Calls Tryz.prog 112 #[.slice ma m.length mc, .slice xa ps.length xc, .slice ya y.length yc] w fun e w' => e = .returned (.bool (makesB m ps y)) ∧ Below w.heap.size w w' := by
  have HS := Lib.hid hs
  have HX := Lib.hid hx
  have HY := Lib.hid hy
  obtain ⟨rv, hrv⟩ : ∃ rv, decide (readE m y = 0) = rv := ⟨_, rfl⟩
  have HRD : Hid (Calls Tryz.prog 140 #[.slice ma m.length mc, .slice ya y.length yc] w fun e w' => e = .returned (.bool rv) ∧ Below w.heap.size w w') := by rw [← hrv]; exact lreading_any ma m mc ya y yc w hm hly hs hy
  have HD0 : Hid (makesB m ps y = (rv && decide (ps.length = colsM m) && (ps.all fun p => validR p.1 p.2) && (List.range m.length).all fun i => upB (rowL m i) ps (gt y i))) := by show _ = _; unfold makesB; rw [hrv]
  cases rv with
  | false =>
    have HD : Hid (makesB m ps y = false) := by show _ = _; rw [HD0.out]; rfl
    clear hs hx hy hm hrv HD0
    go_enter Tryz.func112, Tryz.ntmps112
    go_wp2_with (go_at_call 140; refine HRD.out.mono ?_; rintro e w1 ⟨rfl, hb1⟩; have HB1 := Lib.hid hb1; clear hb1)
    go_ret
    exact ⟨ret_bool HD.out.symm, HB1.out⟩
  | true =>
    obtain ⟨hv, hyl, hyb⟩ := readE_ok (of_decide_eq_true hrv)
    obtain ⟨hm1, hm6, hc1, hc10, hrows⟩ := validM_of hv
    obtain ⟨bm, om, ai, ci, rfl, hcell, _⟩ := hs 0 hm1
    obtain ⟨c, hc⟩ : ∃ c, colsM m = c := ⟨_, rfl⟩
    have hl0 : (m[0]?.getD []).length = c := by rw [← hc]; rfl
    rw [hl0, Nat.add_zero] at hcell
    have HM0 : Hid (∀ W, Below w.heap.size w W → W.cell? ⟨bm, om, none⟩ = some (.slice ai c ci)) := fun W hW => (hW.cell (p := ⟨bm, om, none⟩) (cell_lt hcell)).trans hcell
    rw [hc] at hc10 hc1 HD0 hrows
    have HROW : Hid (∀ i, i < m.length → (rowL m i).length = c ∧ ∀ k, k < (rowL m i).length → -1 ≤ gt (rowL m i) k ∧ gt (rowL m i) k ≤ 1) := fun i hi => by
      have h := hrows _ (rowL_mem hi)
      exact ⟨h.1, fun k hk => gt_in h.2 hk⟩
    have HYB : Hid (∀ i, i < m.length → I64' (gt y i)) := fun i hi => by
      have := gt_in hyb (k := i) (by omega)
      unfold I64'; omega
    have HMN := Lib.hid (show m.length = y.length from hyl.symm)
    obtain ⟨n, hn⟩ : ∃ n, m.length = n := ⟨_, rfl⟩
    have HNL := Lib.hid hn
    obtain ⟨L, hL⟩ : ∃ L, ps.length = L := ⟨_, rfl⟩
    have HLL := Lib.hid hL
    rw [hn] at HRD hm1 hm6 HD0 HROW HYB HMN ⊢
    rw [hL] at HD0 hlx ⊢
    have hn0 : (0 : Int) < (n : Int) := by omega
    have h100 : n ≤ 100 := by omega
    by_cases hlc : L = c
    case neg =>
      have HD : Hid (makesB m ps y = false) := by show _ = _; rw [HD0.out, decide_eq_false hlc]; rfl
      have q1 : ¬ ((L : Int) = (c : Int)) := by omega
      have q2 : ((L : Int) != (c : Int)) = true := by simpa using q1
      clear hs hx hy hm hrv HD0 hv hyl hyb hrows hcell hl0 hc hlc hn hL
      go_enter Tryz.func112, Tryz.ntmps112
      go_wp2_with (go_at_call 140; refine HRD.out.mono ?_; rintro e w1 ⟨rfl, hb1⟩; have HB1 := Lib.hid hb1; have k0 := HM0.out w1 hb1; clear hb1)
      go_ret
      exact ⟨ret_bool HD.out.symm, HB1.out⟩
    case pos =>
      subst hlc
      clear hs hx hy hm hrv hv hyl hyb hrows hcell hl0 hc hn hL
      go_enter Tryz.func112, Tryz.ntmps112
      go_wp2_with (go_at_call 140; refine HRD.out.mono ?_; rintro e w1 ⟨rfl, hb1⟩; have HB1 := Lib.hid hb1; have k0 := HM0.out w1 hb1; clear hb1)
      clear k0
      go_loopw [26] (fun i wr => ∃ k : Nat, k ≤ L ∧ i = .int .i64 k ∧ (∀ t p, t < k → ps[t]? = some p → validR p.1 p.2 = true) ∧ Below w.heap.size w wr) (fun i _ => L - (intOf i).toNat)
      case atStart => exact ⟨0, Nat.zero_le _, rfl, fun t p h => by omega, HB1.out⟩
      case round =>
        obtain ⟨k, hk, rfl, hok, hb⟩ := hrel
        have HOK := Lib.hid hok; clear hok
        have HB := Lib.hid hb; clear hb
        by_cases hlt : k < L
        · obtain ⟨⟨p1, p2⟩, hp⟩ : ∃ p, ps[k]? = some p := ⟨ps[k]'(by rw [HLL.out]; exact hlt), by simp [HLL.out, hlt]⟩
          have HPK := Lib.hid hp
          obtain ⟨xb, xo, rfl, x0, x1⟩ := (HX.out.below HB.out) k _ hp
          dsimp only at x0 x1
          obtain ⟨vb, hvb⟩ : ∃ vb, validR p1 p2 = vb := ⟨_, rfl⟩
          have HVR : Hid (∀ W, Calls Tryz.prog 141 #[.agg #[.int .i64 p1, .int .i64 p2]] W fun e w' => e = .returned (.bool vb) ∧ Below W.heap.size W w') := fun W => by rw [← hvb]; exact validR_any p1 p2 W
          have HVB := Lib.hid hvb
          have hk0 : (k : Int) < (L : Int) := by omega
          clear hp hvb
          cases vb with
          | false =>
            have HD : Hid (makesB m ps y = false) := by
              show _ = _
              rw [HD0.out]
              have e : (ps.all fun p => validR p.1 p.2) = false := by
                rw [List.all_eq_false]
                exact ⟨(p1, p2), List.mem_of_getElem? HPK.out, by rw [HVB.out]; decide⟩
              rw [e, Bool.and_false]; rfl
            go_wp2_with (go_at_call 141; refine (HVR.out _).mono ?_; rintro e w2 ⟨rfl, hb2⟩)
            go_ret
            exact ⟨ret_bool HD.out.symm, (HB.out.alloc HB.out.size _).trans (hb2.mono (by rw [World.size_alloc]; have := HB.out.size; omega))⟩
          | true =>
            go_wp2_with (go_at_call 141; refine (HVR.out _).mono ?_; rintro e w2 ⟨rfl, hb2⟩)
            go_roundw
            case rel => exact ⟨k + 1, by omega, by go_num, fun t p ht hp => by
              by_cases e : t = k
              · subst e
                rw [HPK.out] at hp
                obtain rfl := Option.some.inj hp
                exact HVB.out
              · exact HOK.out t p (by omega) hp, (HB.out.alloc HB.out.size _).trans (hb2.mono (by rw [World.size_alloc]; have := HB.out.size; omega))⟩
            case measure => simp [intOf]; omega
        · obtain rfl : k = L := by omega
          have HALL : Hid ((ps.all fun p => validR p.1 p.2) = true) := by
            show _ = _
            rw [List.all_eq_true]
            intro p hp
            obtain ⟨t, ht, rfl⟩ := List.mem_iff_getElem.1 hp
            exact HOK.out t _ (by rw [HLL.out] at ht; exact ht) (by simp [ht])
          have HBD : Hid (∀ (t : Nat) (p : Int × Int), ps[t]? = some p → I64' p.2 ∧ -10000000000 ≤ p.1 ∧ p.1 ≤ 10000000000) := fun t p hp => by
            have h := HALL.out
            rw [List.all_eq_true] at h
            have := validR_bd (h p (List.mem_of_getElem? hp))
            exact ⟨this.1, this.2.1, this.2.2.1⟩
          have HB0 := HB
          go_wp2
          go_loopw [36] (fun i wr => ∃ j : Nat, j ≤ n ∧ i = .int .i64 j ∧ (∀ t, t < j → upB (rowL m t) ps (gt y t) = true) ∧ Below w.heap.size w wr) (fun i _ => n - (intOf i).toNat)
          case atStart => exact ⟨0, Nat.zero_le _, rfl, fun t h => by omega, HB0.out⟩
          case round =>
            clear HB0 HB
            obtain ⟨j, hj, rfl, hok, hb⟩ := hrel
            have HOJ := Lib.hid hok; clear hok
            have HB := Lib.hid hb; clear hb
            by_cases hlt : j < n
            · obtain ⟨rb, ro, ri, rci, hrb, hcr0, hsr0⟩ := (HS.out.below HB.out) j (by rw [HNL.out]; exact hlt)
              cases hrb
              obtain ⟨h1, h2⟩ := HROW.out j hlt
              have hcr : wr.cell? ⟨bm, om + j, none⟩ = some (.slice ri k rci) := by rw [← h1]; exact hcr0
              have HSR : Hid (Sl wr ri (rowL m j)) := hsr0
              obtain ⟨yb, yo, u, rfl, hcu, hu⟩ := (HY.out.below HB.out).at (k := j) (by rw [← HMN.out]; exact hlt)
              have hgu := gt_some' hu.out
              have hy64 := HYB.out j hlt
              rw [hgu] at hy64
              obtain ⟨ub, hub⟩ : ∃ ub, upB (rowL m j) ps u = ub := ⟨_, rfl⟩
              have HAU : Hid (∀ W, Below wr.heap.size wr W → Calls Tryz.prog 142 #[.slice ri k rci, .slice xa k xc, .int .i64 u] W fun e w' => e = .returned (.bool ub) ∧ Below W.heap.size W w') := fun W hb => by
                have h := addUp_any ri (rowL m j) rci xa ps xc u W (by rw [h1]; exact HLL.out) (by rw [h1]; omega) (HSR.out.below hb) (HX.out.below (HB.out.trans (hb.mono HB.out.size))) h2 HBD.out hy64
                rw [h1, HLL.out, hub] at h
                exact h
              have HUBE : Hid (upB (rowL m j) ps (gt y j) = ub) := by show _ = _; rw [hgu]; exact hub
              have hj0 : (j : Int) < (n : Int) := by omega
              have hj1 : (j : Int) < (y.length : Int) := by rw [← HMN.out]; exact hj0
              clear hcr0 hsr0 hu hgu hub hy64 h1 h2
              cases ub with
              | false =>
                have HD : Hid (makesB m ps y = false) := by
                  show _ = _
                  rw [HD0.out, Bool.and_eq_false_iff]
                  right
                  rw [List.all_eq_false]
                  exact ⟨j, List.mem_range.2 hlt, by rw [HUBE.out]; decide⟩
                go_wp2_with (go_at_call 142; refine (HAU.out _ (Below.refl _ _)).mono ?_; rintro e w2 ⟨rfl, hb2⟩)
                go_ret
                exact ⟨ret_bool HD.out.symm, HB.out.trans (hb2.mono HB.out.size)⟩
              | true =>
                go_wp2_with (go_at_call 142; refine (HAU.out _ (Below.refl _ _)).mono ?_; rintro e w2 ⟨rfl, hb2⟩)
                go_roundw
                case rel => exact ⟨j + 1, by omega, by go_num, fun t ht => by
                  by_cases e : t = j
                  · rw [e]; exact HUBE.out
                  · exact HOJ.out t (by omega), HB.out.trans (hb2.mono HB.out.size)⟩
                case measure => simp [intOf]; omega
            · obtain rfl : j = n := by omega
              have HD : Hid (makesB m ps y = true) := by
                show _ = _
                rw [HD0.out, HALL.out]
                have e : ((List.range j).all fun i => upB (rowL m i) ps (gt y i)) = true := by
                  rw [List.all_eq_true]
                  intro t ht
                  exact HOJ.out t (List.mem_range.1 ht)
                rw [e]; simp
              go_wp2
              go_ret
              exact ⟨ret_bool HD.out.symm, HB.out⟩
end Go.Proofs.YtfnomiingelfaaaGreat
/- Determinants of masks are at most 320, so that what Any answers are valid fractions that make the reading. Plain words. Speaks of no program. -/
namespace Go.Proofs.YtfnomiingelfaaaGreat
open Go.RowKit

def ones3 : List Int := [-1, 0, 1]
theorem in_ones {x : Int} (h : -1 ≤ x ∧ x ≤ 1) : x ∈ ones3 := by
  have : x = -1 ∨ x = 0 ∨ x = 1 := by omega
  unfold ones3
  rcases this with e | e | e <;> simp [e]
theorem cross_all : (ones3.all fun a => ones3.all fun b => ones3.all fun c => ones3.all fun d => ones3.all fun e => ones3.all fun f => decide ((b * f - c * e).natAbs + (a * f - c * d).natAbs + (a * e - b * d).natAbs ≤ 4)) = true := by decide +kernel
theorem cross_bd {a b c d e f : Int} (ha : -1 ≤ a ∧ a ≤ 1) (hb : -1 ≤ b ∧ b ≤ 1) (hc : -1 ≤ c ∧ c ≤ 1) (hd : -1 ≤ d ∧ d ≤ 1) (he : -1 ≤ e ∧ e ≤ 1) (hf : -1 ≤ f ∧ f ≤ 1) : (b * f - c * e).natAbs + (a * f - c * d).natAbs + (a * e - b * d).natAbs ≤ 4 := by
  have h := cross_all
  simp only [List.all_eq_true] at h
  exact of_decide_eq_true (h a (in_ones ha) b (in_ones hb) c (in_ones hc) d (in_ones hd) e (in_ones he) f (in_ones hf))
theorem one_mul_bd {x X : Int} (h : -1 ≤ x ∧ x ≤ 1) : -(X.natAbs : Int) ≤ x * X ∧ x * X ≤ (X.natAbs : Int) := by
  have : x = -1 ∨ x = 0 ∨ x = 1 := by omega
  rcases this with e | e | e <;> subst e <;> omega
theorem d3_bd {u v w : Nat → Int} (hu : ∀ i, i < 3 → -1 ≤ u i ∧ u i ≤ 1) (hv : ∀ i, i < 3 → -1 ≤ v i ∧ v i ≤ 1) (hw : ∀ i, i < 3 → -1 ≤ w i ∧ w i ≤ 1) : -4 ≤ d3 u v w ∧ d3 u v w ≤ 4 := by
  have h := cross_bd (hu 1 (by decide)) (hv 1 (by decide)) (hw 1 (by decide)) (hu 2 (by decide)) (hv 2 (by decide)) (hw 2 (by decide))
  have e1 := one_mul_bd (X := v 1 * w 2 - v 2 * w 1) (hu 0 (by decide))
  have e2 := one_mul_bd (X := u 1 * w 2 - u 2 * w 1) (hv 0 (by decide))
  have e3 := one_mul_bd (X := u 1 * v 2 - u 2 * v 1) (hw 0 (by decide))
  unfold d3
  rw [Int.mul_comm (w 1) (v 2), Int.mul_comm (w 1) (u 2), Int.mul_comm (v 1) (u 2)] at h
  omega
theorem prod_bd {a b : Int} (ha : -4 ≤ a ∧ a ≤ 4) (hb : -4 ≤ b ∧ b ≤ 4) : -16 ≤ a * b ∧ a * b ≤ 16 := by
  have := mul_le ha hb
  omega
theorem d6_bd {u0 u1 u2 u3 u4 u5 : Nat → Int} (h0 : ∀ i, i < 6 → -1 ≤ u0 i ∧ u0 i ≤ 1)  (h1 : ∀ i, i < 6 → -1 ≤ u1 i ∧ u1 i ≤ 1)  (h2 : ∀ i, i < 6 → -1 ≤ u2 i ∧ u2 i ≤ 1)  (h3 : ∀ i, i < 6 → -1 ≤ u3 i ∧ u3 i ≤ 1)  (h4 : ∀ i, i < 6 → -1 ≤ u4 i ∧ u4 i ≤ 1)  (h5 : ∀ i, i < 6 → -1 ≤ u5 i ∧ u5 i ≤ 1) : -320 ≤ d6 u0 u1 u2 u3 u4 u5 ∧ d6 u0 u1 u2 u3 u4 u5 ≤ 320 := by
  rw [d6_lap]
  have b0 : -4 ≤ d3 u0 u1 u2 ∧ d3 u0 u1 u2 ≤ 4 := d3_bd (fun i hi => h0 i (by omega)) (fun i hi => h1 i (by omega)) (fun i hi => h2 i (by omega))
  have c0 : -4 ≤ e3 u3 u4 u5 ∧ e3 u3 u4 u5 ≤ 4 := d3_bd (fun i hi => h3 (i + 3) (by omega)) (fun i hi => h4 (i + 3) (by omega)) (fun i hi => h5 (i + 3) (by omega))
  generalize d3 u0 u1 u2 = m0 at *
  generalize e3 u3 u4 u5 = n0 at *
  have b1 : -4 ≤ d3 u0 u1 u3 ∧ d3 u0 u1 u3 ≤ 4 := d3_bd (fun i hi => h0 i (by omega)) (fun i hi => h1 i (by omega)) (fun i hi => h3 i (by omega))
  have c1 : -4 ≤ e3 u2 u4 u5 ∧ e3 u2 u4 u5 ≤ 4 := d3_bd (fun i hi => h2 (i + 3) (by omega)) (fun i hi => h4 (i + 3) (by omega)) (fun i hi => h5 (i + 3) (by omega))
  generalize d3 u0 u1 u3 = m1 at *
  generalize e3 u2 u4 u5 = n1 at *
  have b2 : -4 ≤ d3 u0 u1 u4 ∧ d3 u0 u1 u4 ≤ 4 := d3_bd (fun i hi => h0 i (by omega)) (fun i hi => h1 i (by omega)) (fun i hi => h4 i (by omega))
  have c2 : -4 ≤ e3 u2 u3 u5 ∧ e3 u2 u3 u5 ≤ 4 := d3_bd (fun i hi => h2 (i + 3) (by omega)) (fun i hi => h3 (i + 3) (by omega)) (fun i hi => h5 (i + 3) (by omega))
  generalize d3 u0 u1 u4 = m2 at *
  generalize e3 u2 u3 u5 = n2 at *
  have b3 : -4 ≤ d3 u0 u1 u5 ∧ d3 u0 u1 u5 ≤ 4 := d3_bd (fun i hi => h0 i (by omega)) (fun i hi => h1 i (by omega)) (fun i hi => h5 i (by omega))
  have c3 : -4 ≤ e3 u2 u3 u4 ∧ e3 u2 u3 u4 ≤ 4 := d3_bd (fun i hi => h2 (i + 3) (by omega)) (fun i hi => h3 (i + 3) (by omega)) (fun i hi => h4 (i + 3) (by omega))
  generalize d3 u0 u1 u5 = m3 at *
  generalize e3 u2 u3 u4 = n3 at *
  have b4 : -4 ≤ d3 u0 u2 u3 ∧ d3 u0 u2 u3 ≤ 4 := d3_bd (fun i hi => h0 i (by omega)) (fun i hi => h2 i (by omega)) (fun i hi => h3 i (by omega))
  have c4 : -4 ≤ e3 u1 u4 u5 ∧ e3 u1 u4 u5 ≤ 4 := d3_bd (fun i hi => h1 (i + 3) (by omega)) (fun i hi => h4 (i + 3) (by omega)) (fun i hi => h5 (i + 3) (by omega))
  generalize d3 u0 u2 u3 = m4 at *
  generalize e3 u1 u4 u5 = n4 at *
  have b5 : -4 ≤ d3 u0 u2 u4 ∧ d3 u0 u2 u4 ≤ 4 := d3_bd (fun i hi => h0 i (by omega)) (fun i hi => h2 i (by omega)) (fun i hi => h4 i (by omega))
  have c5 : -4 ≤ e3 u1 u3 u5 ∧ e3 u1 u3 u5 ≤ 4 := d3_bd (fun i hi => h1 (i + 3) (by omega)) (fun i hi => h3 (i + 3) (by omega)) (fun i hi => h5 (i + 3) (by omega))
  generalize d3 u0 u2 u4 = m5 at *
  generalize e3 u1 u3 u5 = n5 at *
  have b6 : -4 ≤ d3 u0 u2 u5 ∧ d3 u0 u2 u5 ≤ 4 := d3_bd (fun i hi => h0 i (by omega)) (fun i hi => h2 i (by omega)) (fun i hi => h5 i (by omega))
  have c6 : -4 ≤ e3 u1 u3 u4 ∧ e3 u1 u3 u4 ≤ 4 := d3_bd (fun i hi => h1 (i + 3) (by omega)) (fun i hi => h3 (i + 3) (by omega)) (fun i hi => h4 (i + 3) (by omega))
  generalize d3 u0 u2 u5 = m6 at *
  generalize e3 u1 u3 u4 = n6 at *
  have b7 : -4 ≤ d3 u0 u3 u4 ∧ d3 u0 u3 u4 ≤ 4 := d3_bd (fun i hi => h0 i (by omega)) (fun i hi => h3 i (by omega)) (fun i hi => h4 i (by omega))
  have c7 : -4 ≤ e3 u1 u2 u5 ∧ e3 u1 u2 u5 ≤ 4 := d3_bd (fun i hi => h1 (i + 3) (by omega)) (fun i hi => h2 (i + 3) (by omega)) (fun i hi => h5 (i + 3) (by omega))
  generalize d3 u0 u3 u4 = m7 at *
  generalize e3 u1 u2 u5 = n7 at *
  have b8 : -4 ≤ d3 u0 u3 u5 ∧ d3 u0 u3 u5 ≤ 4 := d3_bd (fun i hi => h0 i (by omega)) (fun i hi => h3 i (by omega)) (fun i hi => h5 i (by omega))
  have c8 : -4 ≤ e3 u1 u2 u4 ∧ e3 u1 u2 u4 ≤ 4 := d3_bd (fun i hi => h1 (i + 3) (by omega)) (fun i hi => h2 (i + 3) (by omega)) (fun i hi => h4 (i + 3) (by omega))
  generalize d3 u0 u3 u5 = m8 at *
  generalize e3 u1 u2 u4 = n8 at *
  have b9 : -4 ≤ d3 u0 u4 u5 ∧ d3 u0 u4 u5 ≤ 4 := d3_bd (fun i hi => h0 i (by omega)) (fun i hi => h4 i (by omega)) (fun i hi => h5 i (by omega))
  have c9 : -4 ≤ e3 u1 u2 u3 ∧ e3 u1 u2 u3 ≤ 4 := d3_bd (fun i hi => h1 (i + 3) (by omega)) (fun i hi => h2 (i + 3) (by omega)) (fun i hi => h3 (i + 3) (by omega))
  generalize d3 u0 u4 u5 = m9 at *
  generalize e3 u1 u2 u3 = n9 at *
  have b10 : -4 ≤ d3 u1 u2 u3 ∧ d3 u1 u2 u3 ≤ 4 := d3_bd (fun i hi => h1 i (by omega)) (fun i hi => h2 i (by omega)) (fun i hi => h3 i (by omega))
  have c10 : -4 ≤ e3 u0 u4 u5 ∧ e3 u0 u4 u5 ≤ 4 := d3_bd (fun i hi => h0 (i + 3) (by omega)) (fun i hi => h4 (i + 3) (by omega)) (fun i hi => h5 (i + 3) (by omega))
  generalize d3 u1 u2 u3 = m10 at *
  generalize e3 u0 u4 u5 = n10 at *
  have b11 : -4 ≤ d3 u1 u2 u4 ∧ d3 u1 u2 u4 ≤ 4 := d3_bd (fun i hi => h1 i (by omega)) (fun i hi => h2 i (by omega)) (fun i hi => h4 i (by omega))
  have c11 : -4 ≤ e3 u0 u3 u5 ∧ e3 u0 u3 u5 ≤ 4 := d3_bd (fun i hi => h0 (i + 3) (by omega)) (fun i hi => h3 (i + 3) (by omega)) (fun i hi => h5 (i + 3) (by omega))
  generalize d3 u1 u2 u4 = m11 at *
  generalize e3 u0 u3 u5 = n11 at *
  have b12 : -4 ≤ d3 u1 u2 u5 ∧ d3 u1 u2 u5 ≤ 4 := d3_bd (fun i hi => h1 i (by omega)) (fun i hi => h2 i (by omega)) (fun i hi => h5 i (by omega))
  have c12 : -4 ≤ e3 u0 u3 u4 ∧ e3 u0 u3 u4 ≤ 4 := d3_bd (fun i hi => h0 (i + 3) (by omega)) (fun i hi => h3 (i + 3) (by omega)) (fun i hi => h4 (i + 3) (by omega))
  generalize d3 u1 u2 u5 = m12 at *
  generalize e3 u0 u3 u4 = n12 at *
  have b13 : -4 ≤ d3 u1 u3 u4 ∧ d3 u1 u3 u4 ≤ 4 := d3_bd (fun i hi => h1 i (by omega)) (fun i hi => h3 i (by omega)) (fun i hi => h4 i (by omega))
  have c13 : -4 ≤ e3 u0 u2 u5 ∧ e3 u0 u2 u5 ≤ 4 := d3_bd (fun i hi => h0 (i + 3) (by omega)) (fun i hi => h2 (i + 3) (by omega)) (fun i hi => h5 (i + 3) (by omega))
  generalize d3 u1 u3 u4 = m13 at *
  generalize e3 u0 u2 u5 = n13 at *
  have b14 : -4 ≤ d3 u1 u3 u5 ∧ d3 u1 u3 u5 ≤ 4 := d3_bd (fun i hi => h1 i (by omega)) (fun i hi => h3 i (by omega)) (fun i hi => h5 i (by omega))
  have c14 : -4 ≤ e3 u0 u2 u4 ∧ e3 u0 u2 u4 ≤ 4 := d3_bd (fun i hi => h0 (i + 3) (by omega)) (fun i hi => h2 (i + 3) (by omega)) (fun i hi => h4 (i + 3) (by omega))
  generalize d3 u1 u3 u5 = m14 at *
  generalize e3 u0 u2 u4 = n14 at *
  have b15 : -4 ≤ d3 u1 u4 u5 ∧ d3 u1 u4 u5 ≤ 4 := d3_bd (fun i hi => h1 i (by omega)) (fun i hi => h4 i (by omega)) (fun i hi => h5 i (by omega))
  have c15 : -4 ≤ e3 u0 u2 u3 ∧ e3 u0 u2 u3 ≤ 4 := d3_bd (fun i hi => h0 (i + 3) (by omega)) (fun i hi => h2 (i + 3) (by omega)) (fun i hi => h3 (i + 3) (by omega))
  generalize d3 u1 u4 u5 = m15 at *
  generalize e3 u0 u2 u3 = n15 at *
  have b16 : -4 ≤ d3 u2 u3 u4 ∧ d3 u2 u3 u4 ≤ 4 := d3_bd (fun i hi => h2 i (by omega)) (fun i hi => h3 i (by omega)) (fun i hi => h4 i (by omega))
  have c16 : -4 ≤ e3 u0 u1 u5 ∧ e3 u0 u1 u5 ≤ 4 := d3_bd (fun i hi => h0 (i + 3) (by omega)) (fun i hi => h1 (i + 3) (by omega)) (fun i hi => h5 (i + 3) (by omega))
  generalize d3 u2 u3 u4 = m16 at *
  generalize e3 u0 u1 u5 = n16 at *
  have b17 : -4 ≤ d3 u2 u3 u5 ∧ d3 u2 u3 u5 ≤ 4 := d3_bd (fun i hi => h2 i (by omega)) (fun i hi => h3 i (by omega)) (fun i hi => h5 i (by omega))
  have c17 : -4 ≤ e3 u0 u1 u4 ∧ e3 u0 u1 u4 ≤ 4 := d3_bd (fun i hi => h0 (i + 3) (by omega)) (fun i hi => h1 (i + 3) (by omega)) (fun i hi => h4 (i + 3) (by omega))
  generalize d3 u2 u3 u5 = m17 at *
  generalize e3 u0 u1 u4 = n17 at *
  have b18 : -4 ≤ d3 u2 u4 u5 ∧ d3 u2 u4 u5 ≤ 4 := d3_bd (fun i hi => h2 i (by omega)) (fun i hi => h4 i (by omega)) (fun i hi => h5 i (by omega))
  have c18 : -4 ≤ e3 u0 u1 u3 ∧ e3 u0 u1 u3 ≤ 4 := d3_bd (fun i hi => h0 (i + 3) (by omega)) (fun i hi => h1 (i + 3) (by omega)) (fun i hi => h3 (i + 3) (by omega))
  generalize d3 u2 u4 u5 = m18 at *
  generalize e3 u0 u1 u3 = n18 at *
  have b19 : -4 ≤ d3 u3 u4 u5 ∧ d3 u3 u4 u5 ≤ 4 := d3_bd (fun i hi => h3 i (by omega)) (fun i hi => h4 i (by omega)) (fun i hi => h5 i (by omega))
  have c19 : -4 ≤ e3 u0 u1 u2 ∧ e3 u0 u1 u2 ≤ 4 := d3_bd (fun i hi => h0 (i + 3) (by omega)) (fun i hi => h1 (i + 3) (by omega)) (fun i hi => h2 (i + 3) (by omega))
  generalize d3 u3 u4 u5 = m19 at *
  generalize e3 u0 u1 u2 = n19 at *
  have p0 : -16 ≤ m0 * n0 ∧ m0 * n0 ≤ 16 := prod_bd b0 c0
  generalize m0 * n0 = q0 at *
  have p1 : -16 ≤ -m1 * n1 ∧ -m1 * n1 ≤ 16 := prod_bd (by omega) c1
  generalize -m1 * n1 = q1 at *
  have p2 : -16 ≤ m2 * n2 ∧ m2 * n2 ≤ 16 := prod_bd b2 c2
  generalize m2 * n2 = q2 at *
  have p3 : -16 ≤ -m3 * n3 ∧ -m3 * n3 ≤ 16 := prod_bd (by omega) c3
  generalize -m3 * n3 = q3 at *
  have p4 : -16 ≤ m4 * n4 ∧ m4 * n4 ≤ 16 := prod_bd b4 c4
  generalize m4 * n4 = q4 at *
  have p5 : -16 ≤ -m5 * n5 ∧ -m5 * n5 ≤ 16 := prod_bd (by omega) c5
  generalize -m5 * n5 = q5 at *
  have p6 : -16 ≤ m6 * n6 ∧ m6 * n6 ≤ 16 := prod_bd b6 c6
  generalize m6 * n6 = q6 at *
  have p7 : -16 ≤ m7 * n7 ∧ m7 * n7 ≤ 16 := prod_bd b7 c7
  generalize m7 * n7 = q7 at *
  have p8 : -16 ≤ -m8 * n8 ∧ -m8 * n8 ≤ 16 := prod_bd (by omega) c8
  generalize -m8 * n8 = q8 at *
  have p9 : -16 ≤ m9 * n9 ∧ m9 * n9 ≤ 16 := prod_bd b9 c9
  generalize m9 * n9 = q9 at *
  have p10 : -16 ≤ -m10 * n10 ∧ -m10 * n10 ≤ 16 := prod_bd (by omega) c10
  generalize -m10 * n10 = q10 at *
  have p11 : -16 ≤ m11 * n11 ∧ m11 * n11 ≤ 16 := prod_bd b11 c11
  generalize m11 * n11 = q11 at *
  have p12 : -16 ≤ -m12 * n12 ∧ -m12 * n12 ≤ 16 := prod_bd (by omega) c12
  generalize -m12 * n12 = q12 at *
  have p13 : -16 ≤ -m13 * n13 ∧ -m13 * n13 ≤ 16 := prod_bd (by omega) c13
  generalize -m13 * n13 = q13 at *
  have p14 : -16 ≤ m14 * n14 ∧ m14 * n14 ≤ 16 := prod_bd b14 c14
  generalize m14 * n14 = q14 at *
  have p15 : -16 ≤ -m15 * n15 ∧ -m15 * n15 ≤ 16 := prod_bd (by omega) c15
  generalize -m15 * n15 = q15 at *
  have p16 : -16 ≤ m16 * n16 ∧ m16 * n16 ≤ 16 := prod_bd b16 c16
  generalize m16 * n16 = q16 at *
  have p17 : -16 ≤ -m17 * n17 ∧ -m17 * n17 ≤ 16 := prod_bd (by omega) c17
  generalize -m17 * n17 = q17 at *
  have p18 : -16 ≤ m18 * n18 ∧ m18 * n18 ≤ 16 := prod_bd b18 c18
  generalize m18 * n18 = q18 at *
  have p19 : -16 ≤ -m19 * n19 ∧ -m19 * n19 ≤ 16 := prod_bd (by omega) c19
  generalize -m19 * n19 = q19 at *
  omega
theorem dv_400 {R N cols : Nat} {M : List (List Int)} (h1 : M.length = R) (h2 : ∀ q ∈ M, q.length = N) (hR : R ≤ 6) (hN : cols ≤ N) (hb1 : ∀ i, i < R → ∀ c, c < cols → -1 ≤ a0 M i c ∧ a0 M i c ≤ 1) (hb2 : ∀ i, i < R → ∀ c, c < N → -1000000 ≤ a0 M i c ∧ a0 M i c ≤ 1000000) :
    (clearN { cols := cols, rows := M, piv := [], dv := 1 } cols).dv ≤ 400 := by
  obtain ⟨A, h⟩ := bar_all h1 h2 hR hN hb1 hb2 cols (Nat.le_refl _)
  obtain ⟨r, hr⟩ : ∃ r, clearN { cols := cols, rows := M, piv := [], dv := 1 } cols = r := ⟨_, rfl⟩
  rw [hr] at h ⊢
  have hpt : ∀ t, t < r.piv.length → pivN r t < cols := fun t ht => by have := h.pz t ht; unfold pivN; omega
  have hA1 : ∀ x, x < R → ∀ c, c < cols → -1 ≤ A x c ∧ A x c ≤ 1 := fun x hx c hc => arr_bd h.arr (fun i hi => hb1 i hi c hc) x hx
  have hpl := h.pl
  rw [h.dv]
  unfold dt
  by_cases hk : r.piv.length = 6
  · rw [hk, d6_of]
    have hc : ∀ s, s < 6 → ∀ i, i < 6 → -1 ≤ colF A (pivN r) s i ∧ colF A (pivN r) s i ≤ 1 := fun s hs i hi => hA1 i (by omega) _ (hpt s (by omega))
    have := d6_bd (hc 0 (by decide)) (hc 1 (by decide)) (hc 2 (by decide)) (hc 3 (by decide)) (hc 4 (by decide)) (hc 5 (by decide))
    omega
  · have one : ∀ k, pr (fun _ => 1) k = 1 := fun k => by
      induction k with
      | zero => rfl
      | succ k ih => simp only [pr]; rw [ih]; rfl
    have hd := detC_bd r.piv.length (colF A (pivN r)) (fun _ => 1) (fun _ _ => Int.one_nonneg) (fun s hs i hi => hA1 i (by omega) _ (hpt s hs))
    rw [one, Int.mul_one] at hd
    have : fc r.piv.length ≤ fc 5 := fc_mono (by omega)
    exact Int.le_trans (Int.le_trans hd.2 this) (by decide)
theorem lowR_valid {n d : Int} (hd : 0 < d ∧ d ≤ 400) (hn : -10000000000 ≤ n ∧ n ≤ 10000000000) : validR (lowR n d).1 (lowR n d).2 = true := by
  have hg : 0 < Nat.gcd n.natAbs d.natAbs := Nat.gcd_pos_of_pos_right _ (by omega)
  have en : (n.tdiv (gcd2 n d)).natAbs = n.natAbs / Nat.gcd n.natAbs d.natAbs := by rw [Int.natAbs_tdiv]; rfl
  have ed : (d.tdiv (gcd2 n d)).natAbs = d.natAbs / Nat.gcd n.natAbs d.natAbs := by rw [Int.natAbs_tdiv]; rfl
  have hco : Nat.gcd (n.natAbs / Nat.gcd n.natAbs d.natAbs) (d.natAbs / Nat.gcd n.natAbs d.natAbs) = 1 := Nat.coprime_div_gcd_div_gcd hg
  have hg2 : gcd2 (lowR n d).1 (lowR n d).2 = 1 := by
    unfold lowR gcd2
    dsimp only
    rw [show ((Nat.gcd n.natAbs d.natAbs : Nat) : Int) = gcd2 n d from rfl, en, ed, hco]; rfl
  have hd1 : 1 ≤ d.natAbs / Nat.gcd n.natAbs d.natAbs := Nat.div_pos (Nat.le_of_dvd (by omega) (Nat.gcd_dvd_right _ _)) hg
  have hd2 : d.natAbs / Nat.gcd n.natAbs d.natAbs ≤ d.natAbs := Nat.div_le_self _ _
  have hn2 : n.natAbs / Nat.gcd n.natAbs d.natAbs ≤ n.natAbs := Nat.div_le_self _ _
  have hd0 : 0 ≤ d.tdiv (gcd2 n d) := Int.tdiv_nonneg (by omega) (by unfold gcd2; omega)
  unfold validR
  rw [hg2]
  unfold lowR
  dsimp only
  rw [decide_eq_true (by omega : 1 ≤ d.tdiv (gcd2 n d)), decide_eq_true (by omega : d.tdiv (gcd2 n d) ≤ 400), decide_eq_true (by omega : -10000000000 ≤ n.tdiv (gcd2 n d)), decide_eq_true (by omega : n.tdiv (gcd2 n d) ≤ 10000000000)]; rfl
theorem upN_sum {row : List Int} {ps : List (Int × Int)} {dv : Int} {w : Nat → Int} {C : Nat} (h : ∀ c, c < C → ∃ p, ps[c]? = some p ∧ p.1 * dv = w c * p.2) : ∀ k, k ≤ C → (upN row ps k).1 * dv = (upN row ps k).2 * sumTo (fun c => gt row c * w c) k
  | 0, _ => by show (0 : Int) * dv = 1 * 0; omega
  | k + 1, hk => by
    have ih := upN_sum (row := row) h k (by omega)
    obtain ⟨p, hp, e⟩ := h k (by omega)
    show ((upN row ps k).1 * (ps[k]?.getD (0, 1)).2 + (upN row ps k).2 * (gt row k * (ps[k]?.getD (0, 1)).1)) * dv = (upN row ps k).2 * (ps[k]?.getD (0, 1)).2 * (sumTo (fun c => gt row c * w c) k + gt row k * w k)
    rw [hp]
    show ((upN row ps k).1 * p.2 + (upN row ps k).2 * (gt row k * p.1)) * dv = (upN row ps k).2 * p.2 * (sumTo (fun c => gt row c * w c) k + gt row k * w k)
    generalize (upN row ps k).1 = a at *
    generalize (upN row ps k).2 = b at *
    generalize sumTo (fun c => gt row c * w c) k = s at *
    grind
end Go.Proofs.YtfnomiingelfaaaGreat
/- valid and validFraction of layer 4: contracts. -/
namespace Go.Proofs.YtfnomiingelfaaaGreat
open Go.RowKit Go.Shelf

theorem makes_one (n d : Int) : makesB [[0]] [(n, d)] [0] = validR n d := by
  have h1 : readE [[0]] [0] = 0 := by decide
  have h2 : colsM [[0]] = 1 := by decide
  have h3 : upB [0] [(n, d)] 0 = true := by
    unfold upB upN wideEq
    simp [upN, gt]
  unfold makesB
  rw [h1, h2]
  have h4 : gt [(0 : Int)] 0 = 0 := rfl
  have h5 : rowL [[(0 : Int)]] 0 = [0] := rfl
  simp [h3, h4, h5, List.range_succ]
theorem mok_one : MOk [[0]] := mok_of (by decide)
set_option maxRecDepth 100000 in
set_option maxHeartbeats 800000 in
theorem svalidR_any (n d : Int) (w : World) : Calls Tryz.prog 79 #[.agg #[.int .i64 n, .int .i64 d]] w fun e w' => e = .returned (.bool (validR n d)) ∧ Below w.heap.size w w' := by
  obtain ⟨V1, hV1⟩ : ∃ V1, w.alloc (.cells #[.int .i64 n, .int .i64 d] 52) = V1 := ⟨_, rfl⟩
  obtain ⟨V2, hV2⟩ : ∃ V2, V1.alloc (.cells #[.int .i64 0] 3) = V2 := ⟨_, rfl⟩
  obtain ⟨V3, hV3⟩ : ∃ V3, V2.alloc (.cells #[.slice (some ⟨V1.heap.size, 0, none⟩) 1 1] 24) = V3 := ⟨_, rfl⟩
  obtain ⟨V4, hV4⟩ : ∃ V4, V3.alloc (.cells #[.int .i64 n, .int .i64 d] 52) = V4 := ⟨_, rfl⟩
  obtain ⟨V5, hV5⟩ : ∃ V5, V4.alloc (.cells #[.int .i64 0] 3) = V5 := ⟨_, rfl⟩
  have b1 : Below w.heap.size w V1 := by rw [← hV1]; exact (Below.refl _ _).alloc (Nat.le_refl _) _
  have b2 : Below V1.heap.size V1 V2 := by rw [← hV2]; exact (Below.refl _ _).alloc (Nat.le_refl _) _
  have b3 : Below V2.heap.size V2 V3 := by rw [← hV3]; exact (Below.refl _ _).alloc (Nat.le_refl _) _
  have b4 : Below V3.heap.size V3 V4 := by rw [← hV4]; exact (Below.refl _ _).alloc (Nat.le_refl _) _
  have b5 : Below V4.heap.size V4 V5 := by rw [← hV5]; exact (Below.refl _ _).alloc (Nat.le_refl _) _
  have b35 : Below V3.heap.size V3 V5 := b4.trans (b5.mono b4.size)
  have b25 : Below V2.heap.size V2 V5 := b3.trans (b35.mono b3.size)
  have b15 : Below V1.heap.size V1 V5 := b2.trans (b25.mono b2.size)
  have HB5 : Hid (Below w.heap.size w V5) := b1.trans (b15.mono b1.size)
  have s2 : Sl V2 (some ⟨V1.heap.size, 0, none⟩) [0] := by rw [← hV2]; exact sl_new V1 [0] _
  have hms : Ms V5 (some ⟨V2.heap.size, 0, none⟩) [[0]] := by
    intro i hi
    match i, hi with
    | 0, _ => exact ⟨_, 0, _, 1, rfl, (b35.cell (p := ⟨V2.heap.size, 0, none⟩) (by rw [← hV3, World.size_alloc]; show V2.heap.size < _; omega)).trans (by rw [← hV3]; exact alloc_cell _ _ _ _ _ rfl), s2.below b25⟩
  have hrr : Rr V5 (some ⟨V3.heap.size, 0, none⟩) [(n, d)] := by
    have h : Rl V4 (some ⟨V3.heap.size, 0, none⟩) [(n, d)] := by rw [← hV4]; exact rl_new1 V3 n d _
    intro j p hj
    obtain ⟨b, e, q1, q2⟩ := (h.below b5) j p hj
    exact ⟨b, 0, e, by rw [Nat.zero_add]; exact q1, by rw [Nat.zero_add]; exact q2⟩
  have hsl : Sl V5 (some ⟨V4.heap.size, 0, none⟩) [0] := by rw [← hV5]; exact sl_new V4 [0] _
  have HMA : Hid (Calls Tryz.prog 112 #[.slice (some ⟨V2.heap.size, 0, none⟩) 1 1, .slice (some ⟨V3.heap.size, 0, none⟩) 1 1, .slice (some ⟨V4.heap.size, 0, none⟩) 1 1] V5 fun e w' => e = .returned (.bool (validR n d)) ∧ Below V5.heap.size V5 w') := by
    have h := lmakes_any (some ⟨V2.heap.size, 0, none⟩) [[0]] 1 (some ⟨V3.heap.size, 0, none⟩) [(n, d)] 1 (some ⟨V4.heap.size, 0, none⟩) [0] 1 V5 mok_one (by decide) (by simp) hms hrr hsl
    rw [makes_one] at h
    exact h
  obtain ⟨t0, t1, _, _⟩ := box2 hV1 V1 (Below.refl _ _)
  have b13 : Below V1.heap.size V1 V3 := b2.trans (b3.mono b2.size)
  obtain ⟨u0, u1, _, _⟩ := box2 hV1 V3 b13
  clear b1 b2 b3 b4 b5 b35 b25 b15 s2 hms hrr hsl b13
  go_enter Tryz.func79, Tryz.ntmps79
  go_wp2_with (go_at_call 112; refine HMA.out.mono ?_; rintro e w6 ⟨rfl, hb6⟩; have HB6 : Hid (Below w.heap.size w w6) := HB5.out.trans (hb6.mono HB5.out.size); clear hb6)
  go_ret
  exact ⟨rfl, HB6.out⟩
def fitB (px : List Int) (vs : List (Int × Int)) : Bool := decide (px.length = vs.length) && vs.all (fun p => validR p.1 p.2 && p.1 != 0) && rascB px
theorem fitB_len {px : List Int} {vs : List (Int × Int)} (h : px.length ≠ vs.length) : fitB px vs = false := by unfold fitB; simp [h]
theorem fitB_bad {px : List Int} {vs : List (Int × Int)} {k : Nat} {p : Int × Int} (hp : vs[k]? = some p) (h : (validR p.1 p.2 && p.1 != 0) = false) : fitB px vs = false := by
  have : vs.all (fun p => validR p.1 p.2 && p.1 != 0) = false := List.all_eq_false.2 ⟨p, List.mem_of_getElem? hp, by rw [h]; decide⟩
  unfold fitB; rw [this]; simp
theorem fitB_asc {px : List Int} {vs : List (Int × Int)} (h : rascB px = false) : fitB px vs = false := by unfold fitB; rw [h]; simp
theorem fitB_yes {px : List Int} {vs : List (Int × Int)} (hl : px.length = vs.length) (h : ∀ (k : Nat) (p : Int × Int), vs[k]? = some p → (validR p.1 p.2 && p.1 != 0) = true) (ha : rascB px = true) : fitB px vs = true := by
  have h2 : vs.all (fun p => validR p.1 p.2 && p.1 != 0) = true := List.all_eq_true.2 fun p hp => by
    obtain ⟨k, hk, rfl⟩ := List.mem_iff_getElem.1 hp
    exact h k _ (List.getElem?_eq_getElem hk)
  unfold fitB; rw [h2, ha]; simp [hl]
set_option maxRecDepth 1000000 in
set_option maxHeartbeats 3200000 in
theorem svalid_any (pa : Option Addr) (px : List Int) (pc : Nat) (va : Option Addr) (vs : List (Int × Int)) (vc : Nat) (w : World) (hlp : px.length ≤ 1000) (hlv : vs.length ≤ 1000) (hp : Sl w pa px) (hv : Rr w va vs) :
    Calls Tryz.prog 46 #[.agg #[.slice pa px.length pc, .slice va vs.length vc]] w fun e w' => e = .returned (.bool (fitB px vs)) ∧ Below w.heap.size w w' := by
  obtain ⟨V, hV⟩ : ∃ V, w.alloc (.cells #[.slice pa px.length pc, .slice va vs.length vc] 27) = V := ⟨_, rfl⟩
  have hbv : Below w.heap.size w V := by rw [← hV]; exact (Below.refl _ _).alloc (Nat.le_refl _) _
  have HBV := Lib.hid hbv
  have HVW := Lib.hid (box2 hV)
  obtain ⟨t0, t1, t2, t3⟩ := HVW.out V (Below.refl _ _)
  have HP : Hid (Sl V pa px) := hp.below hbv
  have HV : Hid (Rr V va vs) := hv.below hbv
  obtain ⟨r, hr⟩ : ∃ r, fitB px vs = r := ⟨_, rfl⟩
  have HR := Lib.hid hr
  rw [hr]
  obtain ⟨pn, hpn⟩ : ∃ pn, px.length = pn := ⟨_, rfl⟩
  obtain ⟨vn, hvn⟩ : ∃ vn, vs.length = vn := ⟨_, rfl⟩
  have HPN := Lib.hid hpn
  have HVN := Lib.hid hvn
  rw [hpn] at HVW t0 hV hlp ⊢
  rw [hvn] at HVW t1 hV hlv ⊢
  clear hp hv hbv hr hpn hvn
  by_cases hne : pn = vn
  case neg =>
    have hF : Hid (r = false) := by show _ = _; rw [← HR.out]; exact fitB_len (by rw [HPN.out, HVN.out]; exact hne)
    have hb : ((pn : Int) == (vn : Int)) = false := by simp; omega
    have hb' : ((pn : Int) != (vn : Int)) = true := by simp; omega
    clear hne
    go_enter Tryz.func46, Tryz.ntmps46
    go_wp2
    go_ret
    exact ⟨ret_bool hF.out.symm, HBV.out⟩
  case pos =>
    have HNE := Lib.hid hne
    have hb : ((pn : Int) == (vn : Int)) = true := by simp; omega
    have hb' : ((pn : Int) != (vn : Int)) = false := by simp; omega
    clear hne
    go_enter Tryz.func46, Tryz.ntmps46
    go_wp2
    clear hb hb'
    go_loopw [15] (fun i wr => ∃ k : Nat, k ≤ vn ∧ i = .int .i64 k ∧ Below V.heap.size V wr ∧ (∀ j p, j < k → vs[j]? = some p → (validR p.1 p.2 && p.1 != 0) = true) ∧ ∀ j, j < k → j ≠ 0 → gt px (j - 1) < gt px j) (fun i _ => vn - (intOf i).toNat)
    case atStart => exact ⟨0, Nat.zero_le _, rfl, Below.refl _ _, fun j p h => by omega, fun j h => by omega⟩
    case round =>
      obtain ⟨k, hk, rfl, hB, hok, hasc⟩ := hrel
      have HB := Lib.hid hB; clear hB
      have HOK := Lib.hid hok; clear hok
      have HASC := Lib.hid hasc; clear hasc
      by_cases hlt : k < vn
      · obtain ⟨p, hq⟩ : ∃ p, vs[k]? = some p := ⟨vs[k]'(by rw [HVN.out]; exact hlt), by simp [HVN.out, hlt]⟩
        have HQ := Lib.hid hq
        obtain ⟨b1, o1, rfl, a1, a2⟩ := (HV.out.below HB.out) k p hq
        obtain ⟨p1, p2⟩ := p
        dsimp only at a1 a2
        obtain ⟨wb, hwb⟩ : ∃ wb, wr.alloc (.cells #[.int .i64 p1, .int .i64 p2] 52) = wb := ⟨_, rfl⟩
        have hbb : Below wr.heap.size wr wb := by rw [← hwb]; exact (Below.refl _ _).alloc (Nat.le_refl _) _
        obtain ⟨x0, x1, _, _⟩ := box2 hwb wb (Below.refl _ _)
        have HWB : Hid (Below V.heap.size V wb) := HB.out.trans (hbb.mono HB.out.size)
        have HXB := Lib.hid (box2 hwb)
        obtain ⟨z, hz⟩ : ∃ z, (p1 == 0) = z := ⟨_, rfl⟩
        have HZE : Hid (∀ W, Calls Tryz.prog 30 #[.agg #[.int .i64 p1, .int .i64 p2]] W fun e w' => e = .returned (.bool z) ∧ Below W.heap.size W w') := fun W => by rw [← hz]; exact zero_any p1 p2 W
        obtain ⟨q, hqv⟩ : ∃ q, validR p1 p2 = q := ⟨_, rfl⟩
        have HVF : Hid (∀ W, Calls Tryz.prog 79 #[.agg #[.int .i64 p1, .int .i64 p2]] W fun e w' => e = .returned (.bool q) ∧ Below W.heap.size W w') := fun W => by rw [← hqv]; exact svalidR_any p1 p2 W
        have HBAD : Hid ((q && !z) = false → r = false) := fun h => by rw [← HR.out]; exact fitB_bad HQ.out (by rw [← h, ← hz, ← hqv]; rfl)
        have HGOOD : Hid ((q && !z) = true → (validR (p1, p2).1 (p1, p2).2 && (p1, p2).1 != 0) = true) := fun h => by rw [← h, ← hz, ← hqv]; rfl
        have hk0 : (k : Int) < (vn : Int) := by omega
        clear hq hz hqv hbb
        obtain ⟨u0, u1, _, _⟩ := HVW.out wb HWB.out
        have r0 := cell_regrown x0
        have r1 := cell_regrown x1
        have r2 := cell_regrown u0
        have cZ : ∀ d os, Calls Tryz.prog 30 #[.agg #[.int .i64 p1, .int .i64 p2]] (Sort.grow (redrawn wb d) os) fun e w'' => e = .returned (.bool z) ∧ ∃ p : Regrown, w'' = Sort.grow (redrawn wb p.d) p.os := fun d os => Calls.regrown_of (HZE.out _)
        have cV : ∀ d os, Calls Tryz.prog 79 #[.agg #[.int .i64 p1, .int .i64 p2]] (Sort.grow (redrawn wb d) os) fun e w'' => e = .returned (.bool q) ∧ ∃ p : Regrown, w'' = Sort.grow (redrawn wb p.d) p.os := fun d os => Calls.regrown_of (HVF.out _)
        clear x0 x1 u0 u1
        cases z with
        | true =>
          have hF : Hid (r = false) := HBAD.out (by simp)
          go_wp2
          refine wp_region_quiet_below (by kernel_rfl) (by kernel_rfl) ?_
          repeat (go_big_quiet_step (first | with_reducible exact cZ _ _ | with_reducible exact cV _ _))
          refine wpQuiet_nil ?_
          intro w6 hw6
          have HB6 : Hid (Below wb.heap.size wb w6) := by
            obtain ⟨⟨d6, o6⟩, rfl⟩ := hw6
            exact below_regrown _ _ _
          clear hw6
          go_wp2
          go_ret
          exact ⟨ret_bool hF.out.symm, HBV.out.trans ((HWB.out.trans (HB6.out.mono HWB.out.size)).mono HBV.out.size)⟩
        | false =>
          cases q with
          | false =>
            have hF : Hid (r = false) := HBAD.out (by simp)
            go_wp2
            refine wp_region_quiet_below (by kernel_rfl) (by kernel_rfl) ?_
            repeat (go_big_quiet_step (first | with_reducible exact cZ _ _ | with_reducible exact cV _ _))
            refine wpQuiet_nil ?_
            intro w6 hw6
            have HB6 : Hid (Below wb.heap.size wb w6) := by
              obtain ⟨⟨d6, o6⟩, rfl⟩ := hw6
              exact below_regrown _ _ _
            clear hw6
            go_wp2
            go_ret
            exact ⟨ret_bool hF.out.symm, HBV.out.trans ((HWB.out.trans (HB6.out.mono HWB.out.size)).mono HBV.out.size)⟩
          | true =>
            have HG2 : Hid (∀ j p, j < k + 1 → vs[j]? = some p → (validR p.1 p.2 && p.1 != 0) = true) := fun j p hj hp => by
              by_cases e : j = k
              · subst e
                rw [HQ.out] at hp
                obtain rfl := Option.some.inj hp
                exact HGOOD.out rfl
              · exact HOK.out j p (by omega) hp
            by_cases hk00 : k = 0
            · have hkz : ¬ (0 : Int) < (k : Int) := by omega
              have y9 : decide (0 < k) = false := by simp; omega
              have HKZ := Lib.hid hk00
              clear hk00
              go_wp2
              refine wp_region_quiet_below (by kernel_rfl) (by kernel_rfl) ?_
              repeat (go_big_quiet_step (first | with_reducible exact cZ _ _ | with_reducible exact cV _ _))
              refine wpQuiet_nil ?_
              intro w6 hw6
              have HB6 : Hid (Below wb.heap.size wb w6) := by
                obtain ⟨⟨d6, o6⟩, rfl⟩ := hw6
                exact below_regrown _ _ _
              clear hw6
              go_wp2
              go_roundw
              case rel => exact ⟨k + 1, by omega, by go_num, HWB.out.trans (HB6.out.mono HWB.out.size), HG2.out, fun j hj h0 => by have := HKZ.out; omega⟩
              case measure => simp [intOf]; omega
            · obtain ⟨q3, rfl⟩ : ∃ q3, k = q3 + 1 := ⟨k - 1, by omega⟩
              obtain ⟨pb, po, x, rfl, hcx, hx⟩ := HP.out.at (k := q3 + 1) (by rw [HPN.out, HNE.out]; exact hlt)
              obtain ⟨pb2, po2, y, e2, hcy, hy⟩ := HP.out.at (k := q3) (by rw [HPN.out, HNE.out]; omega)
              cases e2
              have HGX := Lib.hid (gt_some' hx.out)
              have HGY := Lib.hid (gt_some' hy.out)
              obtain ⟨K, hK⟩ : ∃ K, q3 + 1 = K := ⟨_, rfl⟩
              have hK1 : (K : Int) - 1 = (q3 : Int) := by omega
              have hK2 : (0 : Int) < (K : Int) := by omega
              have hK3 : (K : Int) < (pn : Int) := by rw [HNE.out]; omega
              have hq3 : (q3 : Int) < (pn : Int) := by omega
              have HXK : Hid (gt px K = x) := by show _ = _; rw [← hK]; exact HGX.out
              have HKM : Hid (K - 1 = q3) := by show _ = _; omega
              have HK0 : Hid (K ≠ 0) := by show _ ≠ _; omega
              have hK4 : 0 < K := by omega
              have m1 : IntKind.i64.wrap ((K : Int) - 1) = (q3 : Int) := by rw [hK1]; exact IntWalk.i64_in _ (by omega)
              have y9 : decide (0 < K) = true := by simp; omega
              rw [hK] at hcx hlt hk0 HG2 HASC HQ a1 a2 ⊢
              have HLT := Lib.hid hlt
              have r3 := cell_regrown ((HWB.out.cell (p := ⟨pb, po + K, none⟩) (cell_lt hcx)).trans hcx)
              have r4 := cell_regrown ((HWB.out.cell (p := ⟨pb, po + q3, none⟩) (cell_lt hcy)).trans hcy)
              clear hx hy hk00 HOK hK hcx hcy hk
              by_cases hle : x ≤ y
              · have z0 : decide (x ≤ y) = true := by simp [hle]
                have hF : Hid (r = false) := by
                  show _ = _
                  rw [← HR.out]
                  exact fitB_asc (rascB_no (k := K) (by rw [HPN.out, HNE.out]; exact HLT.out) HK0.out (by rw [HXK.out, HKM.out, HGY.out]; omega))
                go_wp2
                refine wp_region_quiet_below (by kernel_rfl) (by kernel_rfl) ?_
                repeat (go_big_quiet_step (first | with_reducible exact cZ _ _ | with_reducible exact cV _ _))
                refine wpQuiet_nil ?_
                intro w6 hw6
                have HB6 : Hid (Below wb.heap.size wb w6) := by
                  obtain ⟨⟨d6, o6⟩, rfl⟩ := hw6
                  exact below_regrown _ _ _
                clear hw6
                go_wp2
                go_ret
                exact ⟨ret_bool hF.out.symm, HBV.out.trans ((HWB.out.trans (HB6.out.mono HWB.out.size)).mono HBV.out.size)⟩
              · have z0 : decide (x ≤ y) = false := by simp; omega
                have HAS2 : Hid (∀ j, j < K + 1 → j ≠ 0 → gt px (j - 1) < gt px j) := fun j hj h0 => by
                  by_cases e : j = K
                  · subst e
                    rw [HXK.out, HKM.out, HGY.out]; omega
                  · exact HASC.out j (by omega) h0
                go_wp2
                refine wp_region_quiet_below (by kernel_rfl) (by kernel_rfl) ?_
                repeat (go_big_quiet_step (first | with_reducible exact cZ _ _ | with_reducible exact cV _ _))
                refine wpQuiet_nil ?_
                intro w6 hw6
                have HB6 : Hid (Below wb.heap.size wb w6) := by
                  obtain ⟨⟨d6, o6⟩, rfl⟩ := hw6
                  exact below_regrown _ _ _
                clear hw6
                go_wp2
                go_roundw
                case rel => exact ⟨K + 1, by have := HLT.out; omega, by go_num, HWB.out.trans (HB6.out.mono HWB.out.size), HG2.out, HAS2.out⟩
                case measure => simp [intOf]; omega
      · obtain rfl : k = vn := by omega
        have hT : Hid (r = true) := by
          show _ = _
          rw [← HR.out]
          refine fitB_yes (by rw [HPN.out, HVN.out, HNE.out]) (fun j p h => HOK.out j p (by rw [← HVN.out]; exact (List.getElem?_eq_some_iff.1 h).1) h) (rascB_yes fun j h h0 => HASC.out j (by rw [← HNE.out, ← HPN.out]; exact h) h0)
        go_wp2
        go_ret
        exact ⟨ret_bool hT.out.symm, HBV.out.trans (HB.out.mono HBV.out.size)⟩
end Go.Proofs.YtfnomiingelfaaaGreat
/- slices.Repeat of one fraction: copy of elements of two cells, and the contract. -/
namespace Go.Proofs.YtfnomiingelfaaaGreat
open Go.RowKit Go.Shelf

theorem run_copy_row2 {P : Program} (w : World) (dT sT ty elem : TypeId) (g o dLen dCap : Nat) (a : Addr) (sLen sCap : Nat) (cur : Array Value) (t : TypeId) (cs : List Value) (k : Nat)
    (hu : P.underlying dT = some (.slice elem)) (hs : (P.info? elem).map (·.size) = some 2)
    (hg : w.heap[g]? = some (.cells cur t (0, 0))) (hk : k = Nat.min sLen dLen) (hn : cs.length = k * 2)
    (hsrc : ∀ j v, cs[j]? = some v → w.cell? (a.add j) = some v) (hfit : o + cs.length ≤ cur.size) (h1 : ∀ v ∈ cs, v.oneCell' = true) :
    (Builtin.copy_ #[dT, sT] ty #[.slice (some ⟨g, o, none⟩) dLen dCap, .slice (some a) sLen sCap]).run P w =
      .ok (goInt k) (w.setRow g (cur.toList.take o ++ cs ++ cur.toList.drop (o + cs.length)).toArray) := by
  have hl := run_loadCells_list (P := P) w a cs hsrc
  have hst := run_storeCells_at P g o t cs 0 cur w hg (by simpa using hfit) h1
  cases hq : P.info? elem with
  | none => simp [hq] at hs
  | some i =>
    have hi : i.size = 2 := by simpa [hq] using hs
    simp [Builtin.copy_, run_underlying hu, Builtin.lenOf, Builtin.firstCells, sizeOf, typeInfo, hq, hi, ← hk, ← hn, hl, hst]
theorem wpList_copy2 {P : Program} {w : World} {ops : Array Oper} {rest : List Oper} {o : Oper} {a : Act} {Q : Exit → Act → World → Prop} (hgd : o.guard = none) (d s : Operand) (dT sT : TypeId)
    (ho : o.op = .call { callee := .builtin .copy, args := #[d, s], argTypes := #[dT, sT] }) (elem : TypeId) (hu : P.underlying dT = some (.slice elem)) (hsz : (P.info? elem).map (·.size) = some 2)
    (g off dLen dCap : Nat) (ad : Addr) (sLen sCap : Nat) (hd : a.eval d = .slice (some ⟨g, off, none⟩) dLen dCap) (hs : a.eval s = .slice (some ad) sLen sCap)
    (cur : List Value) (t : TypeId) (hg : w.heap[g]? = some (.cells cur.toArray t (0, 0))) (cs : List Value) (k : Nat) (hk : k = Nat.min sLen dLen) (hn : cs.length = k * 2)
    (hsrc : ∀ j v, cs[j]? = some v → w.cell? (ad.add j) = some v) (hfit : off + cs.length ≤ cur.length) (h1 : ∀ v ∈ cs, v.oneCell' = true) (B : Nat) (w0 : World) (hb : Below B w0 w) (hBg : B ≤ g)
    (h : ∀ w', Hid (w'.heap[g]? = some (.cells (splice cur off cs).toArray t (0, 0))) → Below B w0 w' → wpList P ops Q rest (a.put o.dst (goInt k)) w') : wpList P ops Q (o :: rest) a w := by
  refine wpList_plain hgd fun K hK => ?_
  have hrun := run_copy_row2 (P := P) w dT sT o.type elem g off dLen dCap ad sLen sCap cur.toArray t cs k hu hsz hg hk hn hsrc (by simpa using hfit) h1
  unfold Oper.wp
  simp [execOp, ho, resolve, invoke, builtin, hd, hs, hrun, Result.andThen]
  exact hK _ _ (h _ (show _ = _ by simpa [splice] using setRow_heap w g _ _ t _ hg) (below_setRow hb hBg _))
theorem flatR_app : ∀ (a b : List (Int × Int)), flatR (a ++ b) = flatR a ++ flatR b
  | [], _ => rfl
  | p :: ps, b => by simp only [List.cons_append, flatR, flatR_app ps b]
theorem flatR_one : ∀ (ps : List (Int × Int)), ∀ v ∈ flatR ps, v.oneCell' = true
  | [], v, h => by cases h
  | p :: ps, v, h => by
    simp only [flatR, List.mem_cons] at h
    rcases h with rfl | rfl | h
    · rfl
    · rfl
    · exact flatR_one ps v h
theorem splice_zero {n c k : Nat} (h : c + k ≤ n) : splice (flatR (zeroTo n c)) (c * 2) (flatR (List.replicate k (0, 1))) = flatR (zeroTo n (c + k)) := by
  have e1 : zeroTo n c = List.replicate c (0, 1) ++ (List.replicate k (0, 0) ++ List.replicate (n - (c + k)) (0, 0)) := by
    unfold zeroTo
    rw [List.replicate_append_replicate]
    congr 2
    omega
  have l1 : (flatR (List.replicate c ((0 : Int), (1 : Int)))).length = c * 2 := by rw [flatR_len, List.length_replicate]
  have l2 : (flatR (List.replicate k ((0 : Int), (0 : Int)))).length = k * 2 := by rw [flatR_len, List.length_replicate]
  have l3 : (flatR (List.replicate k ((0 : Int), (1 : Int)))).length = k * 2 := by rw [flatR_len, List.length_replicate]
  rw [e1, flatR_app, flatR_app]
  unfold splice
  rw [List.take_left' l1, l3, ← List.drop_drop, List.drop_left' l1, List.drop_left' l2, ← flatR_app, ← flatR_app]
  unfold zeroTo
  rw [← List.append_assoc, List.replicate_append_replicate]
set_option maxRecDepth 1000000 in
set_option maxHeartbeats 1600000 in
theorem srepeat_any (n : Nat) (b c : Nat) (w : World) (hn : 1 ≤ n) (hn2 : n ≤ 1000) (hx : Rl w (some ⟨b, 0, none⟩) [(0, 1)]) :
    Calls Tryz.prog 47 #[.slice (some ⟨b, 0, none⟩) 1 c, .int .i64 n] w fun e w' => ∃ g, e = .returned (.slice (some ⟨g, 0, none⟩) n n) ∧ OwnR w' w.heap.size (.slice (some ⟨g, 0, none⟩) n n) (List.replicate n (0, 1)) ∧ Below w.heap.size w w' := by
  have HMU : Hid (∀ V, Calls Tryz.prog 80 #[.int .u64 1, .int .u64 (n : Int)] V fun e w' => e = .returned (.tuple #[.int .u64 0, .int .u64 (n : Int)]) ∧ w' = V) := fun V => by
    have h := Tryz.bits_Mul 1 n (by omega) (by omega) V
    rw [show 1 * n / 18446744073709551616 = 0 by omega, show 1 * n % 18446744073709551616 = n by omega] at h
    exact h
  obtain ⟨b2, e2, hc1, hc2⟩ := hx 0 (0, 1) rfl
  obtain rfl : b = b2 := by simpa using e2
  obtain ⟨i0, hi, hz0, hz1, hz2⟩ := info_parts Tryz.infoRatio
  have hx1 : w.cell? ⟨b, 0, none⟩ = some (.int .i64 0) := hc1
  have hx2 : w.cell? ⟨b, 1, none⟩ = some (.int .i64 1) := hc2
  have HX1 := Lib.hid hx1
  have HX2 := Lib.hid hx2
  have HSZ : Hid ((Tryz.prog.info? 52).map (·.size) = some 2) := by show _ = _; rw [hi]; show some i0.size = _; rw [hz1]
  have m1 : IntKind.u64.wrap (n : Int) = n := IntWalk.u64_in _ (by omega)
  have m2 : IntKind.i64.wrap (n : Int) = n := IntWalk.i64_in _ (by omega)
  have hn0 : ¬ (n : Int) < 0 := by omega
  have hn3 : ¬ (9223372036854775807 : Int) < (n : Int) := by omega
  clear hx hc1 hc2 hx1 hx2 e2
  go_enter Tryz.func47, Tryz.ntmps47
  go_wp2_with (first
    | (go_at_call 80; refine (HMU.out _).mono ?_; rintro e w1 ⟨rfl, hw1⟩; obtain rfl := hw1.symm)
    | (with_reducible refine wpList_make_full _ rfl (.tmp 29) (.tmp 29) 25 rfl w.heap.size 52 i0 (.agg #[.int .i64 0, .int .i64 0]) 2 Tryz.underlying25 hi hz0 hz1 .i64 .i64 (n : Int) (n : Int) n rfl rfl rfl rfl (by rw [hz2]; omega) (by unfold maxLen; omega) (Nat.le_refl _) ?_))
  intro w4 hown hgrow
  have hb4 : Below w.heap.size w w4 := (Below.refl _ _).grown hgrow (Nat.le_refl _) (fun k e => by cases e)
  have hO4 : OwnR w4 w.heap.size (.slice (some ⟨w.heap.size, 0, none⟩) n n) (zeroTo n 0) := by
    show World.ownsRow _ _ _ _ _ _ _
    rw [zeroTo_len (Nat.zero_le _), show zeroTo n 0 = List.replicate n (0, 0) by simp [zeroTo], ← flatR_rep]
    exact hown
  obtain ⟨G, hG⟩ : ∃ G, w.heap.size = G := ⟨_, rfl⟩
  rw [hG] at hO4 hb4 ⊢
  have hheap : w4.heap[G]? = some (.cells (flatR (zeroTo n 0)).toArray 52 (0, 0)) := by
    have hzl : (zeroTo n 0).length = n := zeroTo_len (Nat.zero_le _)
    obtain ⟨_, ⟨e, _⟩ | ⟨g9, cap9, cur, e9, _, h9, _, _, hsz, htk⟩⟩ := hO4
    · cases e
    · obtain ⟨h1, h2, h3⟩ : G = g9 ∧ n = (zeroTo n 0).length ∧ n = cap9 := by simpa using e9
      subst h1
      subst h3
      rw [hzl, List.take_of_length_le (by simp; omega)] at htk
      rw [h9, ← htk]
  have HH := Lib.hid hheap
  have HB4 := Lib.hid hb4
  have HGW := Lib.hid hG
  clear hown hgrow hb4 hO4 hG hheap
  have HB0 : Hid (Below w.heap.size w w4) := by have := HB4.out; rw [← HGW.out] at this; exact this
  have HGL : Hid (w.heap.size ≤ G) := by rw [HGW.out]; exact Nat.le_refl _
  have HK1 : Hid (∀ n, 1 ≤ n → 1 = Nat.min 1 n) := fun n h => by show 1 = min 1 n; omega
  have HN1 := Lib.hid hn
  have HN2 := Lib.hid hn2
  have HFT : Hid (0 + (flatR [((0 : Int), (1 : Int))]).length ≤ (flatR (zeroTo n 0)).length) := by
    show _ ≤ _
    rw [flatR_len, flatR_len, zeroTo_len (Nat.zero_le _)]
    show 0 + 1 * 2 ≤ n * 2
    omega
  have HSRC : Hid (∀ (j : Nat) (v : Value), (flatR [((0 : Int), (1 : Int))])[j]? = some v → w4.cell? ((⟨b, 0, none⟩ : Addr).add j) = some v) := fun j v hj => by
    have y1 := (HB0.out.cell (p := ⟨b, 0, none⟩) (cell_lt HX1.out)).trans HX1.out
    have y2 := (HB0.out.cell (p := ⟨b, 1, none⟩) (cell_lt HX2.out)).trans HX2.out
    rw [addr_add]
    match j, hj with
    | 0, hj => obtain rfl : Value.int .i64 0 = v := by simpa [flatR] using hj
               exact y1
    | 1, hj => obtain rfl : Value.int .i64 1 = v := by simpa [flatR] using hj
               exact y2
    | j + 2, hj => simp [flatR] at hj
  go_wp2_with (refine wpList_copy2 rfl (.tmp 31) (.tmp 32) 25 25 rfl 52 Tryz.underlying25 HSZ.out G 0 n n ⟨b, 0, none⟩ 1 c rfl rfl (flatR (zeroTo n 0)) 52 HH.out (flatR [(0, 1)]) 1 (HK1.out n HN1.out) rfl HSRC.out HFT.out (flatR_one _) w.heap.size w HB0.out HGL.out ?_; intro w5 h5 hb5)
  have HH5 : Hid (w5.heap[G]? = some (.cells (flatR (zeroTo n 1)).toArray 52 (0, 0))) := by
    have h := h5.out
    have e := splice_zero (n := n) (c := 0) (k := 1) (by have := HN1.out; omega)
    rw [Nat.zero_mul, show List.replicate 1 ((0 : Int), (1 : Int)) = [(0, 1)] from rfl, Nat.zero_add] at e
    rw [e] at h
    exact h
  have HB5 := Lib.hid hb5
  clear h5 hb5 HSRC HFT
  go_loopw [8] (fun v wr => ∃ k : Nat, 1 ≤ k ∧ k ≤ n ∧ v = .int .i64 k ∧ wr.heap[G]? = some (.cells (flatR (zeroTo n k)).toArray 52 (0, 0)) ∧ Below w.heap.size w wr) (fun v _ => n - (intOf v).toNat)
  case atStart => exact ⟨1, Nat.le_refl _, hn, rfl, HH5.out, HB5.out⟩
  case round =>
    obtain ⟨k, hk1, hk, rfl, hG, hB⟩ := hrel
    have HG := Lib.hid hG
    have HB := Lib.hid hB
    clear hG hB
    by_cases hlt : k < n
    · have hk0 : (k : Int) < (n : Int) := by omega
      have hne : ¬ n = k := by omega
      obtain ⟨d, hd⟩ : ∃ d, Nat.min k (n - k) = d := ⟨_, rfl⟩
      have hd' : min k (n - k) = d := hd
      have hd1 : 1 ≤ d := by omega
      have hd2 : k + d ≤ n := by omega
      have m3 : IntKind.i64.wrap ((k : Int) + (d : Int)) = ((k + d : Nat) : Int) := by rw [Int.natCast_add]; exact IntWalk.i64_in _ (by omega)
      have HD := Lib.hid hd.symm
      have HKD := Lib.hid hd2
      have HSRC : Hid (∀ (j : Nat) (v : Value), (flatR (List.replicate d ((0 : Int), (1 : Int))))[j]? = some v → wr.drew.cell? ((⟨G, 0, none⟩ : Addr).add j) = some v) := fun j v hj => by
        have e1 : zeroTo n k = List.replicate d (0, 1) ++ (List.replicate (k - d) (0, 1) ++ List.replicate (n - k) (0, 0)) := by
          unfold zeroTo
          rw [← List.append_assoc, List.replicate_append_replicate]
          congr 2
          omega
        have e2 : wr.cell? ⟨G, j, none⟩ = (flatR (zeroTo n k))[j]? := by
          unfold World.cell?
          rw [HG.out]
          simp
        rw [addr_add]
        show wr.cell? ⟨G, 0 + j, none⟩ = _
        rw [Nat.zero_add, e2, e1, flatR_app, List.getElem?_append_left (List.getElem?_eq_some_iff.1 hj).1]
        exact hj
      have HLN : Hid ((flatR (List.replicate d ((0 : Int), (1 : Int)))).length = d * 2) := by show _ = _; rw [flatR_len, List.length_replicate]
      have HFT : Hid (k * 2 + (flatR (List.replicate d ((0 : Int), (1 : Int)))).length ≤ (flatR (zeroTo n k)).length) := by
        show _ ≤ _
        rw [HLN.out, flatR_len, zeroTo_len (by omega)]
        omega
      have HBD : Hid (Below w.heap.size w wr.drew) := HB.out.drew
      obtain ⟨w6, hw6⟩ : ∃ w6, wr.drew.setRow G ((flatR (zeroTo n k)).toArray.toList.take (k * 2) ++ flatR (List.replicate d (0, 1)) ++ (flatR (zeroTo n k)).toArray.toList.drop (k * 2 + (flatR (List.replicate d (0, 1))).length)).toArray = w6 := ⟨_, rfl⟩
      have hrun : (Builtin.copy_ #[25, 25] 3 #[.slice (some ⟨G, k * 2, none⟩) (n - k) (n - k), .slice (some ⟨G, 0, none⟩) k n]).run Tryz.prog wr.drew = .ok (.int .i64 d) w6 := by
        rw [← hw6]
        exact run_copy_row2 (P := Tryz.prog) wr.drew 25 25 3 52 G (k * 2) (n - k) (n - k) ⟨G, 0, none⟩ k n (flatR (zeroTo n k)).toArray 52 (flatR (List.replicate d (0, 1))) d Tryz.underlying25 HSZ.out HG.out HD.out HLN.out HSRC.out (by simpa using HFT.out) (flatR_one _)
      have HG6 : Hid (w6.heap[G]? = some (.cells (flatR (zeroTo n (k + d))).toArray 52 (0, 0))) := by
        show _ = _
        rw [← hw6, ← splice_zero hd2]
        simpa [splice] using setRow_heap wr.drew G _ _ 52 _ HG.out
      have HB6 : Hid (Below w.heap.size w w6) := by rw [← hw6]; exact below_setRow HBD.out HGL.out _
      clear hd hd' hw6
      go_wp2
      go_region_law (fail)
      all_goals
        simp only [Act.put, List.getElem_toArray, List.getElem_cons_zero, List.getElem_cons_succ, List.setIfInBounds_toArray, List.set_cons_zero, List.set_cons_succ]
        go_roundw
        case rel => exact ⟨.int .i64 ((k : Int) + (d : Int)), _, _, _, _, _, _, _, _, _, _, _, _, _, ⟨k + d, by omega, HKD.out, by simp, HG6.out, HB6.out⟩, rfl⟩
        case measure => simp [intOf]; omega
    · obtain rfl : k = n := by omega
      have HOR : Hid (OwnR wr w.heap.size (.slice (some ⟨G, 0, none⟩) k k) (List.replicate k (0, 1))) := by
        show World.ownsRow _ _ _ _ _ _ _
        have hl : (List.replicate k ((0 : Int), (1 : Int))).length = k := List.length_replicate
        have hz : zeroTo k k = List.replicate k (0, 1) := by simp [zeroTo]
        have hg := HG.out
        rw [hz] at hg
        rw [hl]
        refine ⟨by rw [flatR_len, hl], .inr ⟨G, k, _, rfl, HGL.out, hg, Nat.le_refl _, by unfold maxLen; omega, by simp [flatR_len], ?_⟩⟩
        rw [List.take_of_length_le (by simp [flatR_len])]
      go_wp2
      go_ret
      exact ⟨G, rfl, HOR.out, HB.out⟩
end Go.Proofs.YtfnomiingelfaaaGreat
/- Picture of layer 4: a contract. -/
namespace Go.Proofs.YtfnomiingelfaaaGreat
open Go.RowKit Go.Shelf

def spreadTo (n : Nat) (px : List Int) (vs : List (Int × Int)) : Nat → List (Int × Int)
  | 0 => List.replicate n (0, 1)
  | k + 1 => (spreadTo n px vs k).set (gt px k).toNat (vs[k]?.getD (0, 0))
theorem spreadTo_len (n : Nat) (px : List Int) (vs : List (Int × Int)) : ∀ k, (spreadTo n px vs k).length = n
  | 0 => List.length_replicate
  | k + 1 => by unfold spreadTo; rw [List.length_set]; exact spreadTo_len n px vs k
def picE (m : List (List Int)) (px : List Int) (vs : List (Int × Int)) : Int := if validM m = true then (if fitB px vs = true then (if px.all (thereB m) = true then 0 else 5) else 1) else 1
def picV (m : List (List Int)) (px : List Int) (vs : List (Int × Int)) : List (Int × Int) × Int := if picE m px vs = 0 then (spreadTo (colsM m) px vs px.length, 0) else ([], picE m px vs)
theorem picV_no {m : List (List Int)} {px : List Int} {vs : List (Int × Int)} {e : Int} (h : picE m px vs = e) (h0 : e ≠ 0) : picV m px vs = ([], e) := by unfold picV; rw [h, if_neg h0]
set_option maxRecDepth 1000000 in
set_option maxHeartbeats 3200000 in
theorem spicture_any (ma : Option Addr) (m : List (List Int)) (mc : Nat) (pa : Option Addr) (px : List Int) (pc : Nat) (va : Option Addr) (vs : List (Int × Int)) (vc : Nat) (w : World) (hm : MOk m) (hlp : px.length ≤ 1000) (hlv : vs.length ≤ 1000) (hs : Ms w ma m) (hp : Sl w pa px) (hv : Rr w va vs) :
    Calls Tryz.prog 20 #[.slice ma m.length mc, .agg #[.slice pa px.length pc, .slice va vs.length vc]] w (RLPost (picV m px vs) w) := by
  obtain ⟨V, hV⟩ : ∃ V, w.alloc (.cells #[.slice pa px.length pc, .slice va vs.length vc] 27) = V := ⟨_, rfl⟩
  have hbv : Below w.heap.size w V := by rw [← hV]; exact (Below.refl _ _).alloc (Nat.le_refl _) _
  have HBV := Lib.hid hbv
  have HVW := Lib.hid (box2 hV)
  obtain ⟨t0, t1, t2, t3⟩ := HVW.out V (Below.refl _ _)
  obtain ⟨z, hz⟩ : ∃ z, validM m = z := ⟨_, rfl⟩
  have HMV : Hid (Calls Tryz.prog 45 #[.slice ma m.length mc] V fun e w' => e = .returned (.bool z) ∧ Below V.heap.size V w') := by rw [← hz]; exact mvalid_any ma m mc V hm (hs.below hbv)
  cases z with
  | false =>
    have HE : Hid (picV m px vs = ([], 1)) := picV_no (by unfold picE; rw [hz]; rfl) (by decide)
    rw [HE.out]
    clear hm hs hp hv hz hbv hlp hlv
    go_enter Tryz.func20, Tryz.ntmps20
    go_wp2_with (go_at_call 45; refine HMV.out.mono ?_; rintro e w1 ⟨rfl, hb1⟩; have HB1 : Hid (Below w.heap.size w w1) := HBV.out.trans (hb1.mono HBV.out.size); clear hb1)
    go_ret2
    exact RLPost.err HB1.out
  | true =>
    obtain ⟨hm1, hm6, hc1, hc10, hrows⟩ := validM_of hz
    obtain ⟨q, hq⟩ : ∃ q, fitB px vs = q := ⟨_, rfl⟩
    have HSV : Hid (∀ W, Below w.heap.size w W → Calls Tryz.prog 46 #[.agg #[.slice pa px.length pc, .slice va vs.length vc]] W fun e w' => e = .returned (.bool q) ∧ Below W.heap.size W w') := fun W hb => by rw [← hq]; exact svalid_any pa px pc va vs vc W hlp hlv (hp.below hb) (hv.below hb)
    cases q with
    | false =>
      have HE : Hid (picV m px vs = ([], 1)) := picV_no (by unfold picE; rw [hz, hq]; rfl) (by decide)
      rw [HE.out]
      clear hm hs hp hv hz hbv hlp hlv hrows hm1 hm6 hc1 hc10 hq
      go_enter Tryz.func20, Tryz.ntmps20
      go_wp2_with (first
        | (go_at_call 45; refine HMV.out.mono ?_; rintro e w1 ⟨rfl, hb1⟩; obtain ⟨u0, u1, _, _⟩ := HVW.out w1 hb1; have HB1 : Hid (Below w.heap.size w w1) := HBV.out.trans (hb1.mono HBV.out.size); clear hb1)
        | (go_at_call 46; refine (HSV.out _ HB1.out).mono ?_; rintro e w2 ⟨rfl, hb2⟩; have HB2 : Hid (Below w.heap.size w w2) := HB1.out.trans (hb2.mono HB1.out.size); clear hb2))
      go_ret2
      exact RLPost.err HB2.out
    | true =>
      have HPE : Hid (picE m px vs = if px.all (thereB m) = true then 0 else 5) := by show _ = _; unfold picE; rw [if_pos hz, if_pos hq]
      have HPL : Hid (px.length = vs.length) := by
        have := hq
        unfold fitB at this
        simp only [Bool.and_eq_true, decide_eq_true_eq] at this
        exact this.1.1
      obtain ⟨b0, o0, a0, r0, c0, rfl, hcw, _, hr0⟩ := hs.at (i := 0) (by omega)
      obtain ⟨N, hN⟩ : ∃ N, colsM m = N := ⟨_, rfl⟩
      have HN := Lib.hid hN
      have hr0N : r0.length = N := by rw [← hN]; exact (hrows r0 (List.mem_of_getElem? hr0.out)).1
      rw [hr0N, Nat.add_zero] at hcw
      rw [hN] at hc1 hc10
      have HCW := Lib.hid hcw
      have hml : 0 < m.length := by omega
      have HPX := Lib.hid hp
      have HVX := Lib.hid hv
      have HC1 := Lib.hid hc1
      have HC10 := Lib.hid hc10
      obtain ⟨pn, hpn⟩ : ∃ pn, px.length = pn := ⟨_, rfl⟩
      obtain ⟨vn, hvn⟩ : ∃ vn, vs.length = vn := ⟨_, rfl⟩
      have HPN := Lib.hid hpn
      have HVN := Lib.hid hvn
      rw [hpn] at HVW HSV t0 hV hlp HPL
      rw [hvn] at HVW HSV t1 hV hlv HPL
      rw [hpn, hvn]
      clear hm hs hp hv hz hbv hrows hm1 hm6 hc1 hc10 hq hr0 hr0N hN hcw hpn hvn
      go_enter Tryz.func20, Tryz.ntmps20
      go_wp2_with (first
        | (go_at_call 45; refine HMV.out.mono ?_; rintro e w1 ⟨rfl, hb1⟩; obtain ⟨u0, u1, _, _⟩ := HVW.out w1 hb1; have HV1 := Lib.hid hb1; have HB1 : Hid (Below w.heap.size w w1) := HBV.out.trans (hb1.mono HBV.out.size); clear hb1)
        | (go_at_call 46; refine (HSV.out _ HB1.out).mono ?_; rintro e w2 ⟨rfl, hb2⟩
           obtain ⟨w3, hw3⟩ : ∃ w3, w2.alloc (.cells #[.int .i64 0, .int .i64 1] 52) = w3 := ⟨_, rfl⟩
           have hb3 : Below w2.heap.size w2 w3 := by rw [← hw3]; exact (Below.refl _ _).alloc (Nat.le_refl _) _
           have HV3 : Hid (Below V.heap.size V w3) := HV1.out.trans ((hb2.trans (hb3.mono hb2.size)).mono HV1.out.size)
           have HB3 : Hid (Below w.heap.size w w3) := HBV.out.trans (HV3.out.mono HBV.out.size)
           have HRL : Hid (Rl w3 (some ⟨w2.heap.size, 0, none⟩) [(0, 1)]) := by rw [← hw3]; exact rl_new1 w2 0 1 _
           have c0' : w3.cell? ⟨b0, o0, none⟩ = some (.slice a0 N c0) := (HB3.out.cell (p := ⟨b0, o0, none⟩) (cell_lt HCW.out)).trans HCW.out
           clear hb2 hb3)
        | (go_at_call 47; refine (srepeat_any N w2.heap.size 1 w3 HC1.out (by have := HC10.out; omega) HRL.out).mono ?_; rintro e w4 ⟨g, rfl, ho4, hb4⟩
           obtain ⟨v0, v1, _, _⟩ := HVW.out w4 (HV3.out.trans (hb4.mono HV3.out.size))
           have HO4 := Lib.hid ho4; have HV4 : Hid (Below V.heap.size V w4) := HV3.out.trans (hb4.mono HV3.out.size); have HB34 := Lib.hid hb4; clear ho4 hb4))
      have HS3 : Hid (w.heap.size ≤ w3.heap.size) := HB3.out.size
      clear HB3 HRL c0' HMV HSV
      go_loopw [27] (fun i wr => ∃ k : Nat, k ≤ pn ∧ i = .int .i64 k ∧ OwnR wr w3.heap.size (.slice (some ⟨g, 0, none⟩) N N) (spreadTo N px vs k) ∧ Below V.heap.size V wr ∧ ∀ j, j < k → thereB m (gt px j) = true) (fun i _ => pn - (intOf i).toNat)
      case atStart => exact ⟨0, Nat.zero_le _, rfl, HO4.out, HV4.out, fun j h => by omega⟩
      case round =>
        clear HO4 HV4 v0 v1 HB34
        obtain ⟨k, hk, rfl, hO, hB, hok⟩ := hrel
        have HO := Lib.hid hO; clear hO
        have HB := Lib.hid hB; clear hB
        have HOK := Lib.hid hok; clear hok
        have HBW : Hid (Below w.heap.size w wr) := HBV.out.trans (HB.out.mono HBV.out.size)
        obtain ⟨x0, x1, _, _⟩ := HVW.out wr HB.out
        by_cases hlt : k < pn
        · obtain ⟨pb, po, v, hpa, hcv, hgx⟩ := (HPX.out.below HBW.out).at (k := k) (by rw [HPN.out]; exact hlt)
          subst hpa
          have HGX := Lib.hid (gt_some' hgx.out)
          have HG0 := Lib.hid hgx.out
          have hk0 : (k : Int) < (pn : Int) := by omega
          obtain ⟨th, hth⟩ : ∃ th, thereB m v = th := ⟨_, rfl⟩
          have HTH := Lib.hid hth
          have hth2 : (decide (0 ≤ v) && decide (v < (N : Int))) = th := by rw [← hth]; unfold thereB; rw [HN.out]
          clear hgx hth
          cases th with
          | false =>
            have hall : px.all (thereB m) = false := all_no (k := k) (v := v) HG0.out HTH.out
            have HE : Hid (picV m px vs = ([], 5)) := picV_no (by rw [HPE.out, hall]; rfl) (by decide)
            clear hall
            rw [HE.out]
            by_cases hv0 : v < 0
            · clear hth2
              go_wp2
              go_ret2
              exact RLPost.err HBW.out
            · have hv1 : ¬ v < (N : Int) := by
                intro h
                have : (decide (0 ≤ v) && decide (v < (N : Int))) = true := by simp; omega
                rw [hth2] at this
                cases this
              have hv2 : (N : Int) ≤ v := by omega
              clear hth2
              go_wp2
              go_ret2
              exact RLPost.err HBW.out
          | true =>
            have hvv : 0 ≤ v ∧ v < (N : Int) := by simpa using hth2
            obtain ⟨j, rfl⟩ := Int.eq_ofNat_of_zero_le hvv.1
            have hj : j < N := by omega
            have hv1 : ¬ (N : Int) ≤ (j : Int) := by omega
            have hv2 : (j : Int) < (N : Int) := by omega
            clear hth2 hvv
            obtain ⟨p, hp⟩ : ∃ p, vs[k]? = some p := ⟨vs[k]'(by rw [HVN.out, ← HPL.out]; exact hlt), by simp [HVN.out, ← HPL.out, hlt]⟩
            have HP := Lib.hid hp
            obtain ⟨vb, vo, rfl, a1, a2⟩ := (HVX.out.below HBW.out) k p hp
            have hk1 : (k : Int) < (vn : Int) := by rw [← HPL.out]; omega
            have HSL : Hid ((spreadTo N px vs k).length = N) := spreadTo_len _ _ _ _
            have HO5 : Hid (OwnR wr w3.heap.size (.slice (some ⟨g, 0, none⟩) (spreadTo N px vs k).length N) (spreadTo N px vs k)) := HSL.out.symm ▸ HO.out
            obtain ⟨qq, hqq⟩ : ∃ qq, (spreadTo N px vs k)[j]? = some qq := ⟨(spreadTo N px vs k)[j]'(by rw [HSL.out]; exact hj), by simp [HSL.out, hj]⟩
            obtain ⟨⟨cz, fz⟩, cy, fy⟩ := HO5.out.cell hqq
            have HSU : Hid (spreadTo N px vs (k + 1) = (spreadTo N px vs k).set j p) := by
              show (spreadTo N px vs k).set (gt px k).toNat (vs[k]?.getD (0, 0)) = _
              rw [HGX.out, HP.out]
              rfl
            have HGW : Hid (V.heap.size ≤ w3.heap.size) := HV3.out.size
            obtain ⟨p1, p2⟩ := p
            dsimp only at a1 a2
            clear hp hqq
            go_wp2
            go_roundw
            case rel => exact ⟨k + 1, by omega, by go_num, by have h := HO5.out.stored j p1 p2; rw [HSL.out, ← HSU.out] at h; exact h, (HB.out.setCell (p := ⟨g, j * 2, none⟩) (Nat.le_trans HGW.out HO5.out.lt.1) _).setCell (p := ⟨g, j * 2 + 1, none⟩) (Nat.le_trans HGW.out HO5.out.lt.1) _, fun i hi => by
              by_cases e : i = k
              · subst e; rw [HGX.out]; exact HTH.out
              · exact HOK.out i (by omega)⟩
            case measure => simp [intOf]; omega
        · obtain rfl : k = pn := by omega
          have HA : Hid (px.all (thereB m) = true) := all_yes fun j hj => HOK.out j (by rw [← HPN.out]; exact hj)
          have HE : Hid (picV m px vs = (spreadTo N px vs k, 0)) := by
            show _ = _
            unfold picV
            rw [if_pos (by rw [HPE.out, if_pos HA.out]), HN.out, HPN.out]
          rw [HE.out]
          have HSL : Hid ((spreadTo N px vs k).length = N) := spreadTo_len _ _ _ _
          have HRO : Hid (Rl wr (some ⟨g, 0, none⟩) (spreadTo N px vs k)) := by
            have h : OwnR wr w3.heap.size (.slice (some ⟨g, 0, none⟩) (spreadTo N px vs k).length N) (spreadTo N px vs k) := HSL.out.symm ▸ HO.out
            exact h.rl
          go_wp2
          go_ret2
          (try rw [HE.out])
          exact ⟨HBW.out, some ⟨g, 0, none⟩, N, by dsimp only; rw [HSL.out]; rfl, HRO.out⟩
end Go.Proofs.YtfnomiingelfaaaGreat
/- What SparseSmallest says, in plain words: a fit makes its reading; fits are listed; none is smaller than the sparsest one. Speaks of no program. -/
namespace Go.Proofs.YtfnomiingelfaaaGreat
open Go.RowKit Go.Shelf

section
variable {m : List (List Int)} {y px : List Int} {vs : List (Int × Int)}
structure FitP (m : List (List Int)) (y px : List Int) (vs : List (Int × Int)) : Prop where
  rd : readE m y = 0
  nm : listV m px = 0
  set : SetP m px
  full : (redB m px (oneB y)).piv.length = px.length
  poss : possB (redB m px (oneB y)).rows px.length px.length = true
  eq : vs = solL px.length (redB m px (oneB y)).rows (redB m px (oneB y)).piv (redB m px (oneB y)).dv px.length
  nz : ∀ p ∈ vs, p.1 ≠ 0
theorem list_set (h : listV m px = 0) : rascB px = true ∧ px.all (thereB m) = true := by
  unfold listV at h
  split at h
  · rename_i h1
    split at h
    · rename_i h2; exact ⟨h1, h2⟩
    · cases h
  · cases h
theorem asc_pw (h : rascB px = true) : px.Pairwise (· < ·) := by
  have hs := rascB_of h
  have key : ∀ j i, i < j → j < px.length → gt px i < gt px j := by
    intro j
    induction j with
    | zero => intro i hi; omega
    | succ j ih =>
      intro i hi hj
      have h1 := hs (j + 1) hj (by omega)
      rw [Nat.add_sub_cancel] at h1
      by_cases e : i = j
      · subst e; exact h1
      · have := ih i (by omega) (by omega); omega
  rw [List.pairwise_iff_getElem]
  intro i j hi hj hij
  have := key j i hij hj
  unfold gt at this
  simpa [hi, hj] using this
theorem set_of (h : listV m px = 0) : SetP m px := by
  obtain ⟨h1, h2⟩ := list_set h
  refine ⟨asc_pw h1, fun j hj => ?_⟩
  have := List.all_eq_true.1 h2 j hj
  unfold thereB at this
  simpa using this
theorem fitP (h : fitO zB m y px = some vs) : FitP m y px vs := by
  unfold fitO at h
  split at h
  · rename_i h0
    split at h
    · cases h
    · rename_i hz
      have he := Option.some.inj h
      have hpl : (redB m px (oneB y)).piv.length ≤ px.length ∨ True := .inr trivial
      unfold solveV at h0 he hz
      split at h0
      · rename_i hr
        rw [if_pos hr] at he hz
        split at h0
        · rename_i hl
          rw [if_pos hl] at he hz
          split at h0
          · rename_i hp
            rw [if_pos hp] at he hz
            split at h0
            · cases h0
            · rename_i hf
              rw [if_neg hf] at he hz
              dsimp only at he hz
              have hs := set_of hl
              obtain ⟨hv, hyl, hyb⟩ := readE_ok hr
              have hfin := redB_fin hv hs.ok hyl hyb
              have hle : (redB m px (oneB y)).piv.length ≤ px.length := by
                apply Nat.le_of_not_lt
                intro hlt
                have hk : ∀ t, t < (redB m px (oneB y)).piv.length → t ≤ pivN (redB m px (oneB y)) t := by
                  intro t
                  induction t with
                  | zero => intro _; omega
                  | succ t ih =>
                    intro ht
                    have := ih (by omega)
                    have := hfin.asc t (t + 1) (by omega) ht
                    omega
                have h1 := hk px.length hlt
                have h2 := hfin.pivN_lt hlt
                omega
              have hfull : (redB m px (oneB y)).piv.length = px.length := by omega
              rw [hfull] at hp he hz
              refine ⟨hr, hl, hs, hfull, hp, he.symm, fun p hpm e => ?_⟩
              rw [← he] at hpm
              exact hz (List.any_eq_true.2 ⟨p, hpm, by unfold zB; simp [e]⟩)
          · cases h0
        · rename_i hl
          exact absurd h0 hl
      · rename_i hr
        exact absurd h0 hr
  · cases h
theorem FitP.piv (h : FitP m y px vs) : ∀ t, t < px.length → pivN (redB m px (oneB y)) t = t := by
  obtain ⟨hv, hyl, hyb⟩ := readE_ok h.rd
  have hf := redB_fin hv h.set.ok hyl hyb
  have hfull := h.full
  have up : ∀ t, t < px.length → t ≤ pivN (redB m px (oneB y)) t := by
    intro t
    induction t with
    | zero => intro _; omega
    | succ t ih =>
      intro ht
      have := ih (by omega)
      have := hf.asc t (t + 1) (by omega) (by omega)
      omega
  have dn : ∀ d t, t + d + 1 = px.length → pivN (redB m px (oneB y)) t ≤ t := by
    intro d
    induction d with
    | zero =>
      intro t ht
      have := hf.pivN_lt (t := t) (by omega)
      omega
    | succ d ih =>
      intro t ht
      have h1 := ih (t + 1) (by omega)
      have := hf.asc t (t + 1) (by omega) (by omega)
      omega
  intro t ht
  have := up t ht
  have := dn (px.length - 1 - t) t (by omega)
  omega
def numF (m : List (List Int)) (y px : List Int) (t : Nat) : Int := gt (rowL (redB m px (oneB y)).rows t) px.length
theorem FitP.val (h : FitP m y px vs) {t : Nat} (ht : t < px.length) : vs[t]? = some (lowR (numF m y px t) (redB m px (oneB y)).dv) := by
  obtain ⟨hv, hyl, hyb⟩ := readE_ok h.rd
  have hf := redB_fin hv h.set.ok hyl hyb
  have hs := hf.sol_at (i := t) (by rw [h.full]; exact ht)
  rw [h.full, h.piv t ht, ← h.eq] at hs
  exact hs
theorem FitP.len (h : FitP m y px vs) : vs.length = px.length := by rw [h.eq]; exact solL_len _ _ _ _ _
theorem FitP.valid (h : FitP m y px vs) : ∀ p ∈ vs, validR p.1 p.2 = true := by
  obtain ⟨hv, hyl, hyb⟩ := readE_ok h.rd
  have hf := redB_fin hv h.set.ok hyl hyb
  obtain ⟨b1, b2⟩ := pixB_bd hv h.set.ok hyl hyb
  have hd : (redB m px (oneB y)).dv ≤ 400 := dv_400 (pixB_len _ _ _) pixB_row (validM_of hv).2.1 (Nat.le_succ _) b1 b2
  intro p hp
  obtain ⟨t, ht, rfl⟩ := List.mem_iff_getElem.1 hp
  have ht2 : t < px.length := by rw [← h.len]; exact ht
  have hval := h.val ht2
  rw [List.getElem?_eq_getElem ht] at hval
  rw [Option.some.inj hval]
  have hpl := hf.pl
  rw [h.full] at hpl
  have := hf.bdN t (by omega) px.length (Nat.lt_succ_self _)
  exact lowR_valid ⟨hf.pos.1, hd⟩ (by unfold numF; omega)
theorem FitP.makes (h : FitP m y px vs) : ∀ i, i < m.length → sumTo (fun u => a0 m i (pos px u) * numF m y px u) px.length = (redB m px (oneB y)).dv * gt y i := by
  obtain ⟨hv, hyl, hyb⟩ := readE_ok h.rd
  have hf := redB_fin hv h.set.ok hyl hyb
  have hlen := hf.len
  have hz : ∀ x, px.length ≤ x → x < m.length → gt (rowL (redB m px (oneB y)).rows x) px.length = 0 := fun x h1 hx => by
    have hl := hf.row _ (rowL_mem (show x < (redB m px (oneB y)).rows.length by rw [hf.len]; exact hx))
    have hd : (rowL (redB m px (oneB y)).rows x).drop px.length = [gt (rowL (redB m px (oneB y)).rows x) px.length] := by
      refine list_gt (by rw [List.length_drop, hl]; simp) fun t ht => ?_
      rw [List.length_drop, hl] at ht
      obtain rfl : t = 0 := by omega
      show ((rowL (redB m px (oneB y)).rows x).drop px.length)[0]?.getD 0 = _
      rw [List.getElem?_drop, Nat.add_zero]; rfl
    have hp := h.poss
    unfold possB at hp
    have := List.all_eq_true.1 hp x (List.mem_range.2 (by omega))
    rw [Bool.or_eq_true, decide_eq_true_eq, hd] at this
    rcases this with e | e
    · omega
    · unfold allZ at e; simpa using e
  intro i hi
  have hk := (hf.ker (fun c => if c < px.length then numF m y px c else -(redB m px (oneB y)).dv)).mpr (fun x hx => by
    show sumTo (fun c => gt (rowL (redB m px (oneB y)).rows x) c * (if c < px.length then numF m y px c else -(redB m px (oneB y)).dv)) px.length + gt (rowL (redB m px (oneB y)).rows x) px.length * (if px.length < px.length then numF m y px px.length else -(redB m px (oneB y)).dv) = 0
    rw [if_neg (Nat.lt_irrefl _), sumTo_congr px.length fun c hc => by rw [if_pos hc]]
    by_cases e : x < px.length
    · rw [sumOne (s := x) px.length e fun c hc ne => ?_]
      · have hs := hf.self x x (by rw [h.full]; exact e) (by rw [h.full]; exact e)
        rw [if_pos rfl, h.piv x e] at hs
        rw [hs]
        show (redB m px (oneB y)).dv * gt (rowL (redB m px (oneB y)).rows x) px.length + _ = 0
        grind
      · have hs := hf.self c x (by rw [h.full]; exact hc) (by rw [h.full]; exact e)
        rw [h.piv c hc, if_neg (fun e2 => ne e2.symm)] at hs
        rw [hs, Int.zero_mul]
    · rw [hz x (by omega) hx, sumZ px.length fun c hc => by rw [hf.low x (by rw [h.full]; omega) hx c hc, Int.zero_mul]]; omega) i hi
  have hk2 : sumTo (fun c => a0 (pixB px m (oneB y)) i c * (if c < px.length then numF m y px c else -(redB m px (oneB y)).dv)) px.length + a0 (pixB px m (oneB y)) i px.length * (if px.length < px.length then numF m y px px.length else -(redB m px (oneB y)).dv) = 0 := hk
  rw [if_neg (Nat.lt_irrefl _), sumTo_congr px.length fun c hc => by rw [if_pos hc], pixB_at hi, if_neg (Nat.lt_irrefl _), if_pos rfl] at hk2
  rw [sumTo_congr (g := fun u => a0 m i (pos px u) * numF m y px u) px.length fun u hu => by
    rw [pixB_at hi, if_pos hu]; rfl] at hk2
  grind
theorem spread_at (hs : SetP m px) {n : Nat} (hn : n = colsM m) : ∀ k, k ≤ px.length → ∀ u, u < k → (spreadTo n px vs k)[pos px u]? = some (vs[u]?.getD (0, 0))
  | 0, _, u, hu => by omega
  | k + 1, hk, u, hu => by
    have hlt : pos px k < (spreadTo n px vs k).length := by rw [spreadTo_len, hn]; exact hs.lt (by omega)
    show ((spreadTo n px vs k).set (pos px k) (vs[k]?.getD (0, 0)))[pos px u]? = _
    by_cases e : u = k
    · subst e
      rw [List.getElem?_set_self hlt]
    · rw [List.getElem?_set_ne (fun e2 => e (hs.inj (by omega) (by omega) e2.symm))]
      exact spread_at hs hn k (by omega) u (by omega)
theorem spread_no (hs : SetP m px) {n j : Nat} (hn : n = colsM m) (hj : j < n) (hm : (j : Int) ∉ px) : ∀ k, k ≤ px.length → (spreadTo n px vs k)[j]? = some (0, 1)
  | 0, _ => by
    show (List.replicate n ((0 : Int), (1 : Int)))[j]? = _
    rw [List.getElem?_replicate, if_pos hj]
  | k + 1, hk => by
    show ((spreadTo n px vs k).set (pos px k) (vs[k]?.getD (0, 0)))[j]? = _
    rw [List.getElem?_set_ne (fun e => hm (hs.mem.2 ⟨k, by omega, e⟩))]
    exact spread_no hs hn hj hm k (by omega)
theorem FitP.picE (h : FitP m y px vs) : picE m px vs = 0 := by
  obtain ⟨hv, _, _⟩ := readE_ok h.rd
  obtain ⟨h1, h2⟩ := list_set h.nm
  have hf : fitB px vs = true := fitB_yes h.len.symm (fun k p hk => by
    have hm := List.mem_of_getElem? hk
    rw [h.valid p hm]
    simpa using h.nz p hm) h1
  unfold Go.Proofs.YtfnomiingelfaaaGreat.picE
  rw [if_pos hv, if_pos hf, if_pos h2]
theorem FitP.sees (h : FitP m y px vs) : makesB m (picV m px vs).1 y = true := by
  obtain ⟨hv, hyl, hyb⟩ := readE_ok h.rd
  have hf := redB_fin hv h.set.ok hyl hyb
  have hpos := hf.pos.1
  have hpv : (picV m px vs).1 = spreadTo (colsM m) px vs px.length := by unfold picV; rw [if_pos h.picE]
  rw [hpv]
  have hl := spreadTo_len (colsM m) px vs px.length
  have hval : ∀ c, c < colsM m → ∃ p, (spreadTo (colsM m) px vs px.length)[c]? = some p ∧ validR p.1 p.2 = true ∧ p.1 * (redB m px (oneB y)).dv = pushW (pos px) (numF m y px) px.length c * p.2 := fun c hc => by
    by_cases hm : (c : Int) ∈ px
    · obtain ⟨u, hu, rfl⟩ := h.set.mem.1 hm
      have hvu := h.val hu
      refine ⟨lowR (numF m y px u) (redB m px (oneB y)).dv, ?_, h.valid _ (List.mem_of_getElem? hvu), ?_⟩
      · rw [spread_at h.set rfl _ (Nat.le_refl _) u hu, hvu]; rfl
      · rw [pushW_at (fun s hs e => h.set.inj hs hu e) hu]
        exact lowR_val
    · refine ⟨(0, 1), spread_no h.set rfl hc hm _ (Nat.le_refl _), by decide, ?_⟩
      rw [pushW_none fun u hu e => hm (h.set.mem.2 ⟨u, hu, e⟩)]
      omega
  generalize spreadTo (colsM m) px vs px.length = ps at *
  unfold makesB
  have e1 : (ps.all fun p => validR p.1 p.2) = true := by
    rw [List.all_eq_true]
    intro p hpm
    obtain ⟨c, hc, rfl⟩ := List.mem_iff_getElem.1 hpm
    obtain ⟨p, hpe, hpo, _⟩ := hval c (by omega)
    have e : ps[c] = p := by simpa [hc] using hpe
    rw [e]
    exact hpo
  have e2 : ((List.range m.length).all fun i => upB (rowL m i) ps (gt y i)) = true := by
    rw [List.all_eq_true]
    intro i hi
    have hi := List.mem_range.1 hi
    have hs := upN_sum (row := rowL m i) (ps := ps) (dv := (redB m px (oneB y)).dv) (w := pushW (pos px) (numF m y px) px.length) (C := colsM m) (fun c hc => by
      obtain ⟨p, q1, _, q3⟩ := hval c hc
      exact ⟨p, q1, q3⟩) (colsM m) (Nat.le_refl _)
    have e5 : sumTo (fun c => gt (rowL m i) c * pushW (pos px) (numF m y px) px.length c) (colsM m) = (redB m px (oneB y)).dv * gt y i := by
      rw [sum_push (pos px) (numF m y px) (fun c => gt (rowL m i) c) (colsM m) px.length fun u hu => h.set.lt hu]
      exact h.makes i hi
    rw [e5] at hs
    have e : (upN (rowL m i) ps (colsM m)).1 = (upN (rowL m i) ps (colsM m)).2 * gt y i := by
      have e3 : (redB m px (oneB y)).dv * (upN (rowL m i) ps (colsM m)).1 = (redB m px (oneB y)).dv * ((upN (rowL m i) ps (colsM m)).2 * gt y i) := by grind
      exact Int.eq_of_mul_eq_mul_left (by omega) e3
    unfold upB wideEq
    rw [hl, e]; simp
  rw [h.rd, hl, e1, e2]; simp
theorem allFits_mem : (px, vs) ∈ allFits m y ↔ SetP m px ∧ fitO zB m y px = some vs := by
  unfold allFits fitsTo
  rw [List.mem_flatMap]
  constructor
  · rintro ⟨s, _, hq⟩
    obtain ⟨qx, hqx, e⟩ := List.mem_filterMap.1 hq
    obtain ⟨us, hus, e2⟩ := Option.map_eq_some_iff.1 e
    obtain ⟨rfl, rfl⟩ : qx = px ∧ us = vs := by simpa using e2
    exact ⟨compl_set hqx, hus⟩
  · rintro ⟨hs, hf⟩
    have hp := fitP hf
    have hl : px.length ≤ rankM m := by
      apply Nat.le_of_not_lt
      intro hlt
      have := fitO_big (wr := zB) hp.rd hs.ok hlt
      rw [this] at hf
      cases hf
    obtain ⟨hv, hyl, hyb⟩ := readE_ok hp.rd
    have hpl := (redB_fin hv hs.ok hyl hyb).pl
    have hm6 := (validM_of hv).2.1
    have := hp.full
    refine ⟨px.length, List.mem_range.2 (by omega), List.mem_filterMap.2 ⟨px, hs.compl, ?_⟩⟩
    rw [hf]; rfl
theorem isFit_mem : isFitB m y px vs = true ↔ (px, vs) ∈ allFits m y := by
  rw [allFits_mem]
  unfold isFitB
  rw [decide_eq_true_iff]
  exact ⟨fun h => ⟨(fitP h).set, h⟩, fun h => h.2⟩
theorem small_le {q : List Int × List (Int × Int)} (h : q ∈ allFits m y) : (sparsestV m y).2 = 0 ∧ (topV (sparsestV m y)).1.length ≤ q.1.length := by
  have hr : readE m y = 0 := (fitP (allFits_mem.1 h).2).rd
  have hm := fitsTo_mono zB m y (min 10 (rankM m) + 1)
  unfold sparsestV
  rw [if_pos hr]
  have h' : q ∈ fitsTo zB m y (min 10 (rankM m) + 1) := h
  unfold allFits
  generalize fitsTo zB m y (min 10 (rankM m) + 1) = Z at *
  cases Z with
  | nil => cases h'
  | cons p Z =>
    have e : leastF (p :: Z) = p :: Z.filter (fun q => q.1.length == p.1.length) := by
      show (p :: Z).filter (fun q => q.1.length == p.1.length) = _
      rw [List.filter_cons, if_pos (by simp)]
    rw [e, if_neg (by simp)]
    refine ⟨rfl, ?_⟩
    show p.1.length ≤ q.1.length
    rcases List.mem_cons.1 h' with rfl | h'
    · exact Nat.le_refl _
    · exact (List.pairwise_cons.1 hm).1 q h'
theorem short_mem {k : Int} {q : List Int × List (Int × Int)} : q ∈ shortF k (allFits m y) ↔ q ∈ allFits m y ∧ (q.1.length : Int) ≤ k := by
  unfold shortF
  rw [List.mem_filter]
  simp
end
end Go.Proofs.YtfnomiingelfaaaGreat
/- Digits of whole numbers from 0 on. Plain words. Speaks of no program. -/
namespace Go.Proofs.YtfnomiingelfaaaGreat
open Go.RowKit

def digs (n : Nat) : List Int := if h : n = 0 then [] else ((n % 1000000000 : Nat) : Int) :: digs (n / 1000000000)
termination_by n
decreasing_by exact Nat.div_lt_self (Nat.pos_of_ne_zero h) (by decide)
theorem digs_zero : digs 0 = [] := by rw [digs]; rfl
theorem digs_pos {n : Nat} (h : n ≠ 0) : digs n = ((n % 1000000000 : Nat) : Int) :: digs (n / 1000000000) := by rw [digs, dif_neg h]
theorem digs_nil {n : Nat} : digs n = [] ↔ n = 0 := by
  constructor
  · intro h
    by_cases e : n = 0
    · exact e
    · rw [digs_pos e] at h; cases h
  · rintro rfl; exact digs_zero
def valD : List Int → Int
  | [] => 0
  | d :: ds => d + 1000000000 * valD ds
def DOk (ds : List Int) : Prop := ∀ d ∈ ds, 0 ≤ d ∧ d < 1000000000
theorem valD_nonneg : ∀ {ds : List Int}, DOk ds → 0 ≤ valD ds
  | [], _ => Int.le_refl 0
  | d :: ds, h => by
    have h1 := h d (List.mem_cons_self)
    have h2 := valD_nonneg (ds := ds) fun x hx => h x (List.mem_cons_of_mem _ hx)
    unfold valD; omega
theorem digs_of : ∀ {ds : List Int}, DOk ds → (ds = [] ∨ gt ds (ds.length - 1) ≠ 0) → digs (valD ds).toNat = ds
  | [], _, _ => by unfold valD; exact digs_zero
  | d :: ds, h, hl => by
    have h1 := h d (List.mem_cons_self)
    have ho : DOk ds := fun x hx => h x (List.mem_cons_of_mem _ hx)
    have h2 := valD_nonneg ho
    have hl2 : ds = [] ∨ gt ds (ds.length - 1) ≠ 0 := by
      cases ds with
      | nil => exact .inl rfl
      | cons e es =>
        right
        rcases hl with hl | hl
        · cases hl
        · simpa [gt] using hl
    have ih := digs_of ho hl2
    have hv : valD (d :: ds) = d + 1000000000 * valD ds := rfl
    have hne : (valD (d :: ds)).toNat ≠ 0 := by
      rw [hv]
      cases ds with
      | nil =>
        rcases hl with hl | hl
        · cases hl
        · have : d ≠ 0 := by simpa [gt] using hl
          omega
      | cons e es =>
        have : valD (e :: es) ≠ 0 := fun e0 => by
          rw [e0] at ih
          have : digs (0 : Int).toNat = [] := digs_zero
          rw [this] at ih; cases ih
        omega
    rw [digs_pos hne, hv]
    have e1 : (d + 1000000000 * valD ds).toNat % 1000000000 = d.toNat := by omega
    have e2 : (d + 1000000000 * valD ds).toNat / 1000000000 = (valD ds).toNat := by omega
    rw [e1, e2, ih]
    congr 1; omega
theorem valD_app (xs ys : List Int) : valD (xs ++ ys) = valD xs + 1000000000 ^ xs.length * valD ys := by
  induction xs with
  | nil => show valD ys = 0 + 1000000000 ^ 0 * valD ys; simp
  | cons x xs ih =>
    show x + 1000000000 * valD (xs ++ ys) = x + 1000000000 * valD xs + 1000000000 ^ (xs.length + 1) * valD ys
    rw [ih, Int.pow_succ]; grind
theorem gt_digs (n : Nat) : ∀ i, gt (digs n) i = ((n / 1000000000 ^ i % 1000000000 : Nat) : Int) := by
  intro i
  induction i generalizing n with
  | zero =>
    by_cases e : n = 0
    · subst e; rw [digs_zero]; rfl
    · rw [digs_pos e, Nat.pow_zero, Nat.div_one]; rfl
  | succ i ih =>
    by_cases e : n = 0
    · subst e; rw [digs_zero, Nat.zero_div]; rfl
    · rw [digs_pos e]
      show gt (digs (n / 1000000000)) i = _
      rw [ih, Nat.div_div_eq_div_mul, Nat.pow_succ, Nat.mul_comm]
theorem digs_len (n : Nat) : ∀ i, i < (digs n).length ↔ n / 1000000000 ^ i ≠ 0 := by
  intro i
  induction i generalizing n with
  | zero =>
    rw [Nat.pow_zero, Nat.div_one]
    constructor
    · intro h e; subst e; rw [digs_zero] at h; exact absurd h (by decide)
    · intro h
      rw [digs_pos h]; simp
  | succ i ih =>
    by_cases e : n = 0
    · subst e; rw [digs_zero, Nat.zero_div]; simp
    · rw [digs_pos e, List.length_cons, Nat.pow_succ, Nat.mul_comm, ← Nat.div_div_eq_div_mul, ← ih]; omega
theorem valD_set {ds : List Int} {k : Nat} {v : Int} (hk : k < ds.length) : valD (ds.set k v) = valD ds + (v - gt ds k) * 1000000000 ^ k := by
  induction ds generalizing k with
  | nil => simp at hk
  | cons d ds ih =>
    cases k with
    | zero => show v + _ = d + _ + (v - d) * 1000000000 ^ 0; rw [Int.pow_zero]; omega
    | succ k =>
      show d + 1000000000 * valD (ds.set k v) = d + 1000000000 * valD ds + (v - gt ds k) * 1000000000 ^ (k + 1)
      rw [ih (by simpa using hk), Int.pow_succ]; grind
theorem valD_zero : ∀ n, valD (List.replicate n 0) = 0
  | 0 => rfl
  | n + 1 => by rw [List.replicate_succ]; show 0 + 1000000000 * valD (List.replicate n 0) = 0; rw [valD_zero n]; rfl
theorem valD_trim {ds : List Int} {k : Nat} (hz : ∀ i, k ≤ i → i < ds.length → gt ds i = 0) : valD (ds.take k) = valD ds := by
  by_cases hk : k < ds.length
  · have hd : ds.drop k = List.replicate (ds.length - k) 0 := by
      refine list_ext_gt (by simp) fun i hi => ?_
      rw [List.length_drop] at hi
      have e1 : gt (ds.drop k) i = gt ds (k + i) := by unfold gt; rw [List.getElem?_drop]
      rw [e1, hz (k + i) (by omega) (by omega)]
      unfold gt; simp [hi]
    have := valD_app (ds.take k) (ds.drop k)
    rw [List.take_append_drop, hd, valD_zero] at this
    omega
  · rw [List.take_of_length_le (by omega)]
end Go.Proofs.YtfnomiingelfaaaGreat
/- Whole numbers of any size in the answers: natOf, digit, trimmed, order: contracts. -/
namespace Go.Proofs.YtfnomiingelfaaaGreat
open Go.RowKit

def NPost (N : Nat) (w : World) (e : Ending) (w' : World) : Prop := Below w.heap.size w w' ∧ ∃ a cap, e = .returned (.slice a (digs N).length cap) ∧ Sl w' a (digs N)
theorem digs_len_le {N k : Nat} (h : N < 1000000000 ^ k) : (digs N).length ≤ k := by
  have h1 := digs_len N k
  rw [Nat.div_eq_of_lt h] at h1
  have : ¬ k < (digs N).length := fun e => (h1.1 e) rfl
  omega
theorem wpList_pushN {ops : Array Oper} {rest : List Oper} {o : Oper} {a : Act} {Q : Exit → Act → World → Prop} (hgd : o.guard = none) (s x : Operand)
    (ho : o.op = .call { callee := .builtin .append, args := #[s, x], argTypes := #[82, 82] }) (base : Nat) (v : Value) (zs : List Int) (y : Int) (V : World) (B : Nat) (t : TypeId)
    (hs : a.eval s = v) (hx : a.eval x = .slice (some ⟨B, 0, none⟩) 1 1) (hB : B = V.heap.size) (hown : OwnI V base v zs) (hl : zs.length ≤ 100000) (hbase : base ≤ V.heap.size)
    (h : ∀ v' w', OwnI w' base v' (zs ++ [y]) → Below base V w' → wpList Tryz.prog ops Q rest (a.put o.dst v') w') : wpList Tryz.prog ops Q (o :: rest) a (V.alloc (.cells #[.int .i64 y] t)) := by
  obtain ⟨i0, hi, hz0, hz1, hz2⟩ := info_parts Tryz.infoInt
  subst hB
  refine wpList_append_own (V.alloc (.cells #[.int .i64 y] t)) hgd s x 82 ho base 3 i0 (.int .i64 0) 1 8 Tryz.underlying82 hi hz0 hz1 hz2 rfl (by decide) v zs.length (zs.map (Value.int .i64)) hs (hown.alloc _) ⟨V.heap.size, 0, none⟩ 1 1 [.int .i64 y] hx rfl ?_ ?_ (by unfold maxLen; omega) (by omega) (by rw [World.size_alloc]; omega) ?_
  · intro j u hj
    match j, hj with
    | 0, hj =>
      simp at hj; subst hj
      rw [addr_add]
      exact alloc_cell V #[.int .i64 y] t 0 _ rfl
    | j + 1, hj => simp at hj
  · intro u hu; simp at hu; subst hu; rfl
  · intro v' w' h1 h2 h3
    refine h v' w' ?_ ?_
    · simpa [OwnI] using h1
    · exact ((Below.refl base V).alloc hbase _).grown h2 (by rw [World.size_alloc]; omega) (fun k e => (World.ownsRow.lt hown k e).1)

set_option maxRecDepth 100000 in
set_option maxHeartbeats 800000 in
theorem natOf_any (N : Nat) (w : World) (hN : N ≤ 9223372036854775807) : Calls Tryz.prog 123 #[.int .i64 (N : Int)] w (NPost N w) := by
  have HL := Lib.hid (digs_len_le (N := N) (k := 3) (Nat.lt_of_le_of_lt hN (by decide)))
  go_enter Tryz.func123, Tryz.ntmps123
  go_wp2
  go_loopw [0, 3] (fun nv v wr => ∃ (r : Nat) (out : List Int), r ≤ 9223372036854775807 ∧ nv = .int .i64 (r : Int) ∧ digs N = out ++ digs r ∧ OwnI wr w.heap.size v out ∧ Below w.heap.size w wr) (fun nv _ _ => (intOf nv).toNat)
  case atStart => exact ⟨N, [], hN, rfl, rfl, OwnI.nil _ _, Below.refl _ _⟩
  case round =>
    obtain ⟨r, out, hr, rfl, hd, hO, hB⟩ := hrel
    have HD := Lib.hid hd; clear hd
    have HO := Lib.hid hO; clear hO
    have HB := Lib.hid hB; clear hB
    by_cases h0 : r = 0
    · subst h0
      have HE : Hid (out = digs N) := by show _ = _; rw [HD.out, digs_zero, List.append_nil]
      obtain ⟨pa, pc, rfl, hps⟩ := HO.out.any
      have HPS := Lib.hid hps; clear hps
      go_wp2
      go_ret
      exact ⟨HB.out, pa, pc, by rw [← HE.out]; rfl, by rw [← HE.out]; exact HPS.out⟩
    · have hr1 : (0 : Int) < (r : Int) := by omega
      have hq : (r : Int).tdiv 1000000000 = ((r / 1000000000 : Nat) : Int) := by rw [Int.tdiv_eq_ediv_of_nonneg (by omega)]; omega
      have hm : (r : Int).tmod 1000000000 = ((r % 1000000000 : Nat) : Int) := by rw [Int.tmod_eq_emod_of_nonneg (by omega)]; omega
      have HN : Hid (digs N = (out ++ [((r % 1000000000 : Nat) : Int)]) ++ digs (r / 1000000000)) := by show _ = _; rw [HD.out, digs_pos h0, List.append_assoc]; rfl
      have hol : out.length ≤ 100000 := by have := congrArg List.length HD.out; rw [List.length_append] at this; have := HL.out; omega
      obtain ⟨q, hqq⟩ : ∃ q, r / 1000000000 = q := ⟨_, rfl⟩
      obtain ⟨d, hdd⟩ : ∃ d, r % 1000000000 = d := ⟨_, rfl⟩
      have hqr : q < r := by omega
      have hq63 : q ≤ 9223372036854775807 := by omega
      rw [hqq] at hq HN
      rw [hdd] at hm HN
      clear hqq hdd
      go_wp2_with (at_builtin; go_must (refine wpList_pushN rfl (.tmp 8) (.tmp 11) rfl w.heap.size _ out _ _ _ _ rfl rfl rfl HO.out hol HB.out.size ?_); intro v' w9 ho' hb')
      go_roundw
      case rel => exact ⟨q, out ++ [(d : Int)], hq63, by first | rfl | go_num, HN.out, ho', HB.out.trans hb'⟩
      case measure => simp [intOf]; omega
set_option maxRecDepth 100000 in
theorem digit_any (a : Option Addr) (xs : List Int) (c i : Nat) (w : World) (hs : Sl w a xs) : Calls Tryz.prog 144 #[.slice a xs.length c, .int .i64 (i : Int)] w fun e w' => e = .returned (.int .i64 (gt xs i)) ∧ w = w' := by
  by_cases h : i < xs.length
  · obtain ⟨b, o, x, rfl, hc, hx⟩ := hs.at h
    have HG : Hid (gt xs i = x) := gt_some' hx.out
    have h0 : (i : Int) < (xs.length : Int) := by omega
    clear hx hs
    go_enter Tryz.func144, Tryz.ntmps144
    go_wp2
    go_ret
    exact ⟨ret_i64 HG.out.symm, rfl⟩
  · have HG : Hid (gt xs i = 0) := by show _ = _; unfold gt; rw [List.getElem?_eq_none (by omega)]; rfl
    have h0 : ¬ (i : Int) < (xs.length : Int) := by omega
    clear hs
    go_enter Tryz.func144, Tryz.ntmps144
    go_wp2
    go_ret
    exact ⟨ret_i64 HG.out.symm, rfl⟩
set_option maxRecDepth 100000 in
set_option maxHeartbeats 800000 in
theorem trimmed_any (a : Option Addr) (xs : List Int) (c : Nat) (N : Nat) (w : World) (hl : xs.length ≤ 100000) (hc : xs.length ≤ c) (hok : DOk xs) (hv : valD xs = (N : Int)) (hs : Sl w a xs) : Calls Tryz.prog 145 #[.slice a xs.length c] w (NPost N w) := by
  have HS := Lib.hid hs; clear hs
  have HOK := Lib.hid hok; clear hok
  have HV := Lib.hid hv; clear hv
  go_enter Tryz.func145, Tryz.ntmps145
  go_wp2
  go_loopw [0] (fun v wr => ∃ k : Nat, k ≤ xs.length ∧ v = .slice a k c ∧ (∀ i, k ≤ i → i < xs.length → gt xs i = 0) ∧ Below w.heap.size w wr) (fun v _ => match v with | .slice _ n _ => n | _ => 0)
  case atStart => exact ⟨xs.length, Nat.le_refl _, rfl, fun i h1 h2 => by omega, Below.refl _ _⟩
  case round =>
    obtain ⟨k, hk, rfl, hz, hB⟩ := hrel
    have HZ := Lib.hid hz; clear hz
    have HB := Lib.hid hB; clear hB
    have fin : (k = 0 ∨ gt xs (k - 1) ≠ 0) → Hid (xs.take k = digs N) := fun h => by
      show _ = _
      have h1 := valD_trim HZ.out
      have h2 : DOk (xs.take k) := fun d hd => HOK.out d (List.mem_of_mem_take hd)
      have h3 := digs_of h2 (by
        rcases h with h | h
        · left; subst h; rfl
        · by_cases e : k = 0
          · left; subst e; rfl
          · right
            rw [List.length_take, Nat.min_eq_left hk]
            have e2 : gt (xs.take k) (k - 1) = gt xs (k - 1) := by unfold gt; rw [List.getElem?_take_of_lt (by omega)]
            rw [e2]; exact h)
      rw [h1, HV.out, Int.toNat_natCast] at h3
      exact h3.symm
    have len : (xs.take k).length = k := by rw [List.length_take, Nat.min_eq_left hk]
    by_cases h0 : k = 0
    · have HF := fin (.inl h0)
      subst h0
      have HE : Hid (digs N = []) := by show _ = _; rw [← HF.out]; rfl
      clear fin len
      go_wp2
      go_ret
      exact ⟨HB.out, a, c, by rw [HE.out]; rfl, by rw [HE.out]; intro i hi; exact absurd hi (by simp)⟩
    · obtain ⟨b, o, x, rfl, hcx, hx⟩ := (HS.out.below HB.out).at (show k - 1 < xs.length by omega)
      have HG : Hid (gt xs (k - 1) = x) := gt_some' hx.out
      have hk0 : (0 : Int) < (k : Int) := by omega
      obtain ⟨j, hj⟩ : ∃ j, k = j + 1 := ⟨k - 1, by omega⟩
      subst hj
      rw [show j + 1 - 1 = j by omega] at hcx HG fin
      have e1 : ((j + 1 : Nat) : Int) - 1 = (j : Int) := by omega
      clear hx h0
      by_cases hx0 : x = 0
      · have HX0 := Lib.hid hx0
        have y0 : (x == 0) = true := by simp [hx0]
        clear hx0 fin len
        have hj0 : (j : Int) < ((j + 1 : Nat) : Int) := by omega
        go_wp2
        go_roundw
        case rel => exact ⟨j, by omega, by first | rfl | simp, fun i h1 h2 => by
          by_cases e : i = j
          · rw [e, HG.out]; exact HX0.out
          · exact HZ.out i (by omega) h2, HB.out⟩
        case measure => simp
      · have y0 : (x == 0) = false := by simpa using hx0
        have HF := fin (.inr (by rw [HG.out]; exact hx0))
        have HLN : Hid ((digs N).length = j + 1) := by show _ = _; rw [← HF.out]; exact len
        have HSN : Hid (Sl w (some ⟨b, o, none⟩) (digs N)) := fun i hi => by
          rw [HLN.out] at hi
          obtain ⟨b', o', e, h⟩ := HS.out i (by omega)
          refine ⟨b', o', e, ?_⟩
          rw [h, ← HF.out, List.getElem?_take_of_lt hi]
        have hj0 : (j : Int) < ((j + 1 : Nat) : Int) := by omega
        clear hx0 fin len
        go_wp2
        go_ret
        exact ⟨HB.out, _, c, by rw [HLN.out]; rfl, HSN.out.below HB.out⟩
end Go.Proofs.YtfnomiingelfaaaGreat
/- Whole numbers of any size in the answers: order: a contract. -/
namespace Go.Proofs.YtfnomiingelfaaaGreat
open Go.RowKit

theorem digs_short {a b : Nat} (h : (digs a).length < (digs b).length) : a < b := by
  have h1 := (digs_len b (digs a).length).1 h
  have h2 : a / 1000000000 ^ (digs a).length = 0 := by
    by_cases e : a / 1000000000 ^ (digs a).length = 0
    · exact e
    · exact absurd ((digs_len a (digs a).length).2 e) (Nat.lt_irrefl _)
  apply Nat.lt_of_not_le
  intro hle
  have := Nat.div_le_div_right (c := 1000000000 ^ (digs a).length) hle
  rw [h2] at this
  exact h1 (Nat.le_zero.1 this)
theorem div_lt_of {a b k : Nat} (h : a / 1000000000 ^ k < b / 1000000000 ^ k) : a < b := by
  apply Nat.lt_of_not_le
  intro hle
  exact absurd h (Nat.not_lt.2 (Nat.div_le_div_right (c := 1000000000 ^ k) hle))
set_option maxRecDepth 100000 in
set_option maxHeartbeats 1600000 in
theorem order_any (a : Option Addr) (ca : Nat) (b : Option Addr) (cb : Nat) (A B : Nat) (w : World) (hA : (digs A).length ≤ 100000) (hB : (digs B).length ≤ 100000) (ha : Sl w a (digs A)) (hb : Sl w b (digs B)) :
    Calls Tryz.prog 121 #[.slice a (digs A).length ca, .slice b (digs B).length cb] w fun e w' => e = .returned (.int .i64 (cmpZ A B)) ∧ ∃ n, w' = w.drewN n := by
  have HSA := Lib.hid ha; clear ha
  have HSB := Lib.hid hb; clear hb
  have HGA := Lib.hid (gt_digs A)
  have HGB := Lib.hid (gt_digs B)
  have hsh := fun h => digs_short (a := A) (b := B) h
  have hsh2 := fun h => digs_short (a := B) (b := A) h
  have hla := fun k => digs_len A k
  have hlb := fun k => digs_len B k
  obtain ⟨da, hda⟩ : ∃ d, digs A = d := ⟨_, rfl⟩
  obtain ⟨db, hdb⟩ : ∃ d, digs B = d := ⟨_, rfl⟩
  rw [hda] at HSA HGA hA hsh hsh2 hla ⊢
  rw [hdb] at HSB HGB hB hsh hsh2 hlb ⊢
  clear hda hdb
  obtain ⟨la, hlla⟩ : ∃ n, da.length = n := ⟨_, rfl⟩
  obtain ⟨lb, hllb⟩ : ∃ n, db.length = n := ⟨_, rfl⟩
  have HLA := Lib.hid hlla
  have HLB := Lib.hid hllb
  rw [hlla] at hA hsh hsh2 hla ⊢
  rw [hllb] at hB hsh hsh2 hlb ⊢
  clear hlla hllb
  by_cases h1 : la < lb
  · have HC : Hid (cmpZ A B = -1) := by show _ = _; unfold cmpZ; rw [if_pos (by have := hsh h1; omega)]
    have q1 : ¬ ((la : Int) = (lb : Int)) := by omega
    have q2 : ((la : Int) != (lb : Int)) = true := by simpa using q1
    have q3 : (la : Int) < (lb : Int) := by omega
    clear hsh hsh2 hla hlb
    go_enter Tryz.func121, Tryz.ntmps121
    go_wp2
    go_ret
    exact ⟨ret_i64 HC.out.symm, 0, rfl⟩
  by_cases h2 : lb < la
  · have HC : Hid (cmpZ A B = 1) := by show _ = _; unfold cmpZ; have := hsh2 h2; rw [if_neg (by omega), if_pos (by omega)]
    have q1 : ¬ ((la : Int) = (lb : Int)) := by omega
    have q2 : ((la : Int) != (lb : Int)) = true := by simpa using q1
    have q3 : ¬ (la : Int) < (lb : Int) := by omega
    clear hsh hsh2 hla hlb
    go_enter Tryz.func121, Tryz.ntmps121
    go_wp2
    go_ret
    exact ⟨ret_i64 HC.out.symm, 0, rfl⟩
  obtain rfl : la = lb := by omega
  have H0 : Hid (A / 1000000000 ^ la = B / 1000000000 ^ la) := by
    show _ = _
    have p := hla la
    have q := hlb la
    have p0 : ¬ (A / 1000000000 ^ la ≠ 0) := fun e => absurd (p.2 e) (Nat.lt_irrefl _)
    have q0 : ¬ (B / 1000000000 ^ la ≠ 0) := fun e => absurd (q.2 e) (Nat.lt_irrefl _)
    omega
  have q2 : ((la : Int) != (la : Int)) = false := by simp
  clear hsh hsh2 hla hlb h1 h2
  go_enter Tryz.func121, Tryz.ntmps121
  go_wp2
  go_loopw [5] (fun i wr => ∃ k nd : Nat, k ≤ la ∧ i = .int .i64 ((k : Int) - 1) ∧ A / 1000000000 ^ k = B / 1000000000 ^ k ∧ wr = w.drewN nd) (fun i _ => (intOf i + 1).toNat)
  case atStart => exact ⟨la, 0, Nat.le_refl _, rfl, H0.out, rfl⟩
  case round =>
    clear H0
    obtain ⟨k, nd, hk, rfl, he, rfl⟩ := hrel
    have HE := Lib.hid he; clear he
    by_cases h0 : k = 0
    · subst h0
      have HC : Hid (cmpZ A B = 0) := by
        show _ = _
        have := HE.out
        rw [Nat.pow_zero, Nat.div_one, Nat.div_one] at this
        unfold cmpZ; rw [if_neg (by omega), if_neg (by omega)]
      have hz : ((0 : Nat) : Int) - 1 = -1 := rfl
      rw [hz]
      go_wp2
      go_ret
      exact ⟨ret_i64 HC.out.symm, nd, rfl⟩
    · obtain ⟨j, rfl⟩ : ∃ j, k = j + 1 := ⟨k - 1, by omega⟩
      have e1 : ((j + 1 : Nat) : Int) - 1 = (j : Int) := by omega
      rw [e1]
      obtain ⟨b1, o1, x, rfl, hcx, hx⟩ := HSA.out.at (show j < da.length by rw [HLA.out]; omega)
      obtain ⟨b2, o2, y, rfl, hcy, hy⟩ := HSB.out.at (show j < db.length by rw [HLB.out]; omega)
      have HX : Hid (x = ((A / 1000000000 ^ j % 1000000000 : Nat) : Int)) := by show _ = _; rw [← HGA.out j, gt_some' hx.out]
      have HY : Hid (y = ((B / 1000000000 ^ j % 1000000000 : Nat) : Int)) := by show _ = _; rw [← HGB.out j, gt_some' hy.out]
      have HP : Hid (A / 1000000000 ^ j / 1000000000 = B / 1000000000 ^ j / 1000000000) := by
        have := HE.out
        rw [Nat.pow_succ, ← Nat.div_div_eq_div_mul, ← Nat.div_div_eq_div_mul] at this
        exact this
      have hj0 : (j : Int) < (la : Int) := by omega
      clear hx hy e1 h0
      by_cases l1 : x < y
      · have HC : Hid (cmpZ A B = -1) := by
          show _ = _
          have h := div_lt_of (a := A) (b := B) (k := j) (by have h1 := HX.out; have h2 := HY.out; have h3 := HP.out; omega)
          unfold cmpZ; rw [if_pos (by omega)]
        go_wp2
        go_quiet (fail)
        all_goals go_wp2
        all_goals go_ret
        all_goals exact ⟨ret_i64 HC.out.symm, _, by first | rfl | exact World.drewN_drewN _ _ _ | (rw [World.drewN_drewN, World.drewN_drewN])⟩
      · by_cases l2 : y < x
        · have HC : Hid (cmpZ A B = 1) := by
            show _ = _
            have h := div_lt_of (a := B) (b := A) (k := j) (by have h1 := HX.out; have h2 := HY.out; have h3 := HP.out; omega)
            unfold cmpZ; rw [if_neg (by omega), if_pos (by omega)]
          go_wp2
          go_quiet (fail)
          all_goals go_wp2
          all_goals go_quiet (fail)
          all_goals go_wp2
          all_goals go_ret
          all_goals exact ⟨ret_i64 HC.out.symm, _, by first | rfl | exact World.drewN_drewN _ _ _ | (rw [World.drewN_drewN, World.drewN_drewN])⟩
        · have HQ : Hid (A / 1000000000 ^ j = B / 1000000000 ^ j) := by have h1 := HX.out; have h2 := HY.out; have h3 := HP.out; show _ = _; omega
          have hej : IntKind.i64.wrap ((j : Int) - 1) = (j : Int) - 1 := wrap_id (by omega) (by omega)
          go_wp2
          go_quiet (fail)
          all_goals go_wp2
          all_goals go_quiet (fail)
          all_goals go_wp2
          all_goals go_roundw
          all_goals first
            | exact ⟨j, _, by omega, by go_num, HQ.out, by first | rfl | exact World.drewN_drewN _ _ _ | (rw [World.drewN_drewN, World.drewN_drewN])⟩
            | (simp [intOf]; done)
            | (simp [intOf]; omega)
end Go.Proofs.YtfnomiingelfaaaGreat
/- Whole numbers of any size in the answers: plus and minus: contracts. -/
namespace Go.Proofs.YtfnomiingelfaaaGreat
open Go.RowKit

theorem pow_div (a i : Nat) : a / 1000000000 ^ (i + 1) = a / 1000000000 ^ i / 1000000000 := by rw [Nat.pow_succ, Nat.div_div_eq_div_mul]
set_option maxRecDepth 1000000 in
set_option maxHeartbeats 1600000 in
theorem plusN_any (a : Option Addr) (ca : Nat) (b : Option Addr) (cb : Nat) (A B : Nat) (w : World) (hL : (digs (A + B)).length ≤ 1000) (ha : Sl w a (digs A)) (hb : Sl w b (digs B)) :
    Calls Tryz.prog 120 #[.slice a (digs A).length ca, .slice b (digs B).length cb] w (NPost (A + B) w) := by
  have HSA := Lib.hid ha; clear ha
  have HSB := Lib.hid hb; clear hb
  have HDA : Hid (∀ (W : World) (i : Nat), Below w.heap.size w W → Calls Tryz.prog 144 #[.slice a (digs A).length ca, .int .i64 (i : Int)] W fun e w' => e = .returned (.int .i64 ((A / 1000000000 ^ i % 1000000000 : Nat) : Int)) ∧ W = w') := fun W i h => by
    have h := digit_any a (digs A) ca i W (HSA.out.below h)
    rw [gt_digs] at h
    exact h
  have HDB : Hid (∀ (W : World) (i : Nat), Below w.heap.size w W → Calls Tryz.prog 144 #[.slice b (digs B).length cb, .int .i64 (i : Int)] W fun e w' => e = .returned (.int .i64 ((B / 1000000000 ^ i % 1000000000 : Nat) : Int)) ∧ W = w') := fun W i h => by
    have h := digit_any b (digs B) cb i W (HSB.out.below h)
    rw [gt_digs] at h
    exact h
  have HLA := Lib.hid (digs_len A)
  have HLB := Lib.hid (digs_len B)
  obtain ⟨D, hD⟩ : ∃ D, digs (A + B) = D := ⟨_, rfl⟩
  have HDD := Lib.hid hD
  obtain ⟨la, hla⟩ : ∃ n, (digs A).length = n := ⟨_, rfl⟩
  obtain ⟨lb, hlb⟩ : ∃ n, (digs B).length = n := ⟨_, rfl⟩
  rw [hla] at HDA HLA ⊢
  rw [hlb] at HDB HLB ⊢
  rw [hD] at hL
  clear hla hlb hD
  have HLL := Lib.hid hL
  go_enter Tryz.func120, Tryz.ntmps120
  go_wp2
  go_loopw [5, 6, 7] (fun v cv iv wr => ∃ (i c : Nat) (out : List Int), iv = .int .i64 (i : Int) ∧ cv = .int .i64 (c : Int) ∧ c ≤ 1 ∧ out.length = i ∧ D = out ++ digs (A / 1000000000 ^ i + B / 1000000000 ^ i + c) ∧ OwnI wr w.heap.size v out ∧ Below w.heap.size w wr) (fun _ cv iv _ => A / 1000000000 ^ (intOf iv).toNat + B / 1000000000 ^ (intOf iv).toNat + (intOf cv).toNat)
  case atStart => exact ⟨0, 0, [], rfl, rfl, by omega, rfl, by rw [Nat.pow_zero, Nat.div_one, Nat.div_one, Nat.add_zero]; exact HDD.out.symm, OwnI.nil _ _, Below.refl _ _⟩
  case round =>
    obtain ⟨i, c, out, rfl, rfl, hc, hol, hd, hO, hB⟩ := hrel
    have HD := Lib.hid hd; clear hd
    have HO := Lib.hid hO; clear hO
    have HB := Lib.hid hB; clear hB
    have HOL := Lib.hid hol; clear hol
    have hla := HLA.out i
    have hlb := HLB.out i
    have HDA1 := Lib.hid (HDA.out wr i HB.out)
    have HDB1 := Lib.hid (HDB.out wr i HB.out)
    have hpa := pow_div A i
    have hpb := pow_div B i
    have hi1000 : i ≤ 1000 := by have := congrArg List.length HD.out; rw [List.length_append, HOL.out] at this; have := HLL.out; omega
    obtain ⟨P, hP⟩ : ∃ P, A / 1000000000 ^ i = P := ⟨_, rfl⟩
    obtain ⟨Q, hQ⟩ : ∃ Q, B / 1000000000 ^ i = Q := ⟨_, rfl⟩
    rw [hP] at hla HDA1 HD hpa
    rw [hQ] at hlb HDB1 HD hpb
    have HPA := Lib.hid hpa
    have HPB := Lib.hid hpb
    have HPP := Lib.hid hP
    have HQQ := Lib.hid hQ
    clear hpa hpb hP hQ
    by_cases hr : P + Q + c = 0
    · have HE : Hid (D = out) := by show _ = _; rw [HD.out, hr, digs_zero, List.append_nil]
      obtain ⟨pa, pc, rfl, hps⟩ := HO.out.any
      have HPS := Lib.hid hps; clear hps
      have n1 : ¬ (i : Int) < (la : Int) := fun h => by have := hla.1 (by omega); omega
      have n2 : ¬ (i : Int) < (lb : Int) := fun h => by have := hlb.1 (by omega); omega
      obtain rfl : c = 0 := by omega
      clear hla hlb hr
      go_wp2
      go_ret
      exact ⟨HB.out, pa, pc, by rw [HDD.out, HE.out]; rfl, by rw [HDD.out, HE.out]; exact HPS.out⟩
    · obtain ⟨d, hdn⟩ : ∃ d, (P + Q + c) % 1000000000 = d := ⟨_, rfl⟩
      obtain ⟨q, hqn⟩ : ∃ q, (P % 1000000000 + Q % 1000000000 + c) / 1000000000 = q := ⟨_, rfl⟩
      have hq1 : q ≤ 1 := by omega
      obtain ⟨x, hx⟩ : ∃ x, P % 1000000000 = x := ⟨_, rfl⟩
      obtain ⟨y, hy⟩ : ∃ y, Q % 1000000000 = y := ⟨_, rfl⟩
      have hx1 : x < 1000000000 := by omega
      have hy1 : y < 1000000000 := by omega
      have hm : ((x : Int) + (y : Int) + (c : Int)).tmod 1000000000 = (d : Int) := by rw [Int.tmod_eq_emod_of_nonneg (by omega)]; omega
      have hqq : ((x : Int) + (y : Int) + (c : Int)).tdiv 1000000000 = (q : Int) := by rw [Int.tdiv_eq_ediv_of_nonneg (by omega)]; omega
      have HN : Hid (D = (out ++ [(d : Int)]) ++ digs (A / 1000000000 ^ (i + 1) + B / 1000000000 ^ (i + 1) + q)) := by
        show _ = _
        rw [HD.out, digs_pos hr, hdn, HPA.out, HPB.out, List.append_assoc]
        have e : (P + Q + c) / 1000000000 = P / 1000000000 + Q / 1000000000 + q := by omega
        rw [e]; rfl
      have hmeas : P / 1000000000 + Q / 1000000000 + q < P + Q + c := by omega
      have HME : Hid (A / 1000000000 ^ (i + 1) + B / 1000000000 ^ (i + 1) + q < A / 1000000000 ^ i + B / 1000000000 ^ i + c) := by show _ < _; rw [HPA.out, HPB.out, HPP.out, HQQ.out]; exact hmeas
      have hlen : out.length ≤ 100000 := by rw [HOL.out]; omega
      rw [hx] at HDA1
      rw [hy] at HDB1
      have hc0 : (0 : Int) ≤ (c : Int) := by omega
      have hc1 : (c : Int) ≤ 1 := by omega
      have hx0 : (x : Int) < 1000000000 := by omega
      have hy0 : (y : Int) < 1000000000 := by omega
      by_cases t1 : (i : Int) < (la : Int)
      · clear hla hlb hr hdn hqn hx hy hmeas
        go_wp2_with (first | (go_at_call 144; with_reducible refine HDA1.out.mono ?_; rintro e w1 ⟨rfl, rfl⟩) | (go_at_call 144; with_reducible refine HDB1.out.mono ?_; rintro e w1 ⟨rfl, rfl⟩) | (at_builtin; go_must (refine wpList_pushN rfl (.tmp 34) (.tmp 37) rfl w.heap.size _ out _ _ _ _ rfl rfl rfl HO.out hlen HB.out.size ?_); intro v' w9 ho' hb'))
        go_roundw
        case rel => exact ⟨i + 1, q, out ++ [(d : Int)], by go_num, by first | rfl | go_num, hq1, by rw [List.length_append, HOL.out]; rfl, HN.out, ho', HB.out.trans hb'⟩
        case measure => simpa [intOf] using HME.out
      · by_cases t2 : (i : Int) < (lb : Int)
        · clear hla hlb hr hdn hqn hx hy hmeas
          go_wp2_with (first | (go_at_call 144; with_reducible refine HDA1.out.mono ?_; rintro e w1 ⟨rfl, rfl⟩) | (go_at_call 144; with_reducible refine HDB1.out.mono ?_; rintro e w1 ⟨rfl, rfl⟩) | (at_builtin; go_must (refine wpList_pushN rfl (.tmp 34) (.tmp 37) rfl w.heap.size _ out _ _ _ _ rfl rfl rfl HO.out hlen HB.out.size ?_); intro v' w9 ho' hb'))
          go_roundw
          case rel => exact ⟨i + 1, q, out ++ [(d : Int)], by go_num, by first | rfl | go_num, hq1, by rw [List.length_append, HOL.out]; rfl, HN.out, ho', HB.out.trans hb'⟩
          case measure => simpa [intOf] using HME.out
        · have t3 : (0 : Int) < (c : Int) := by
            have e1 : P = 0 := by
              by_cases e : P = 0
              · exact e
              · exact absurd (hla.2 e) (by omega)
            have e2 : Q = 0 := by
              by_cases e : Q = 0
              · exact e
              · exact absurd (hlb.2 e) (by omega)
            omega
          clear hla hlb hr hdn hqn hx hy hmeas
          obtain ⟨c', rfl⟩ : ∃ c', c = c' + 1 := ⟨c - 1, by omega⟩
          obtain rfl : c' = 0 := by omega
          simp only [Nat.zero_add, Int.cast_ofNat_Int] at hm hqq ⊢
          go_wp2_with (first | (go_at_call 144; with_reducible refine HDA1.out.mono ?_; rintro e w1 ⟨rfl, rfl⟩) | (go_at_call 144; with_reducible refine HDB1.out.mono ?_; rintro e w1 ⟨rfl, rfl⟩) | (at_builtin; go_must (refine wpList_pushN rfl (.tmp 34) (.tmp 37) rfl w.heap.size _ out _ _ _ _ rfl rfl rfl HO.out hlen HB.out.size ?_); intro v' w9 ho' hb'))
          go_roundw
          case rel => exact ⟨i + 1, q, out ++ [(d : Int)], by go_num, by first | rfl | go_num, hq1, by rw [List.length_append, HOL.out]; rfl, HN.out, ho', HB.out.trans hb'⟩
          case measure => simpa [intOf] using HME.out
end Go.Proofs.YtfnomiingelfaaaGreat
/- Whole numbers of any size in the answers: minus: a contract. -/
namespace Go.Proofs.YtfnomiingelfaaaGreat
open Go.RowKit

theorem OwnI.capped {w : World} {base : Nat} {v : Value} {xs : List Int} (h : OwnI w base v xs) : ∃ a cap, v = .slice a xs.length cap ∧ xs.length ≤ cap ∧ Sl w a xs := by
  by_cases h1 : 1 ≤ xs.length
  · obtain ⟨g, cap, rfl, _⟩ := h.shape h1
    exact ⟨_, cap, rfl, h.cap_le, h.sl⟩
  · obtain ⟨a, cap, rfl, hs⟩ := h.any
    exact ⟨a, cap, rfl, by omega, hs⟩
theorem valD_snoc (xs : List Int) (d : Int) : valD (xs ++ [d]) = valD xs + 1000000000 ^ xs.length * d := by
  rw [valD_app]
  show _ + _ * (d + 1000000000 * 0) = _
  rw [Int.mul_zero, Int.add_zero]
set_option maxRecDepth 1000000 in
set_option maxHeartbeats 1600000 in
theorem minusN_any (a : Option Addr) (ca : Nat) (b : Option Addr) (cb : Nat) (A B : Nat) (w : World) (hBA : B ≤ A) (hA : (digs A).length ≤ 1000) (ha : Sl w a (digs A)) (hb : Sl w b (digs B)) :
    Calls Tryz.prog 122 #[.slice a (digs A).length ca, .slice b (digs B).length cb] w (NPost (A - B) w) := by
  have HSA := Lib.hid ha; clear ha
  have HSB := Lib.hid hb; clear hb
  have HDB : Hid (∀ (W : World) (i : Nat), Below w.heap.size w W → Calls Tryz.prog 144 #[.slice b (digs B).length cb, .int .i64 (i : Int)] W fun e w' => e = .returned (.int .i64 ((B / 1000000000 ^ i % 1000000000 : Nat) : Int)) ∧ W = w') := fun W i h => by
    have h := digit_any b (digs B) cb i W (HSB.out.below h)
    rw [gt_digs] at h
    exact h
  have HLA := Lib.hid (digs_len A)
  have HGA := Lib.hid (gt_digs A)
  obtain ⟨D, hD⟩ : ∃ D, A - B = D := ⟨_, rfl⟩
  have hD1 : (A : Int) - (B : Int) = (D : Int) := by omega
  have HD1 := Lib.hid hD1
  rw [hD]
  obtain ⟨lb, hlb⟩ : ∃ n, (digs B).length = n := ⟨_, rfl⟩
  obtain ⟨da, hda⟩ : ∃ d, digs A = d := ⟨_, rfl⟩
  rw [hda] at HSA HLA HGA hA ⊢
  rw [hlb] at HDB ⊢
  obtain ⟨la, hla⟩ : ∃ n, da.length = n := ⟨_, rfl⟩
  have HLL := Lib.hid hla
  rw [hla] at HLA hA ⊢
  have HTR : Hid (∀ (W : World) (x : Option Addr) (xs : List Int) (cx : Nat), xs.length ≤ 100000 → xs.length ≤ cx → DOk xs → valD xs = (D : Int) → Sl W x xs → Calls Tryz.prog 145 #[.slice x xs.length cx] W (NPost D W)) := fun W x xs cx h1 h2 h3 h4 h5 => trimmed_any x xs cx D W h1 h2 h3 h4 h5
  clear hlb hD hda hla hBA hD1
  go_enter Tryz.func122, Tryz.ntmps122
  go_wp2
  go_loopw [5, 6, 11] (fun v cv iv wr => ∃ (i c r : Nat) (out : List Int), i ≤ la ∧ iv = .int .i64 (i : Int) ∧ cv = .int .i64 (c : Int) ∧ c ≤ 1 ∧ out.length = i ∧ ((A / 1000000000 ^ i : Nat) : Int) - ((B / 1000000000 ^ i : Nat) : Int) - (c : Int) = (r : Int) ∧ DOk out ∧ valD out + 1000000000 ^ i * (r : Int) = (D : Int) ∧ OwnI wr w.heap.size v out ∧ Below w.heap.size w wr) (fun _ _ iv _ => la - (intOf iv).toNat)
  case atStart => exact ⟨0, 0, D, [], Nat.zero_le _, rfl, rfl, by omega, rfl, by rw [Nat.pow_zero, Nat.div_one, Nat.div_one]; have := HD1.out; omega, (fun d hd => by cases hd), by show 0 + 1000000000 ^ 0 * (D : Int) = D; rw [Int.pow_zero]; omega, OwnI.nil _ _, Below.refl _ _⟩
  case round =>
    obtain ⟨i, c, r, out, hi, rfl, rfl, hc, hol, hr, hok, hv, hO, hB⟩ := hrel
    have HO := Lib.hid hO; clear hO
    have HB := Lib.hid hB; clear hB
    have HOL := Lib.hid hol; clear hol
    have HOK := Lib.hid hok; clear hok
    have HV := Lib.hid hv; clear hv
    have hla := HLA.out i
    have hpa := pow_div A i
    have hpb := pow_div B i
    have HDB1 := Lib.hid (HDB.out)
    have hga := HGA.out i
    obtain ⟨P, hP⟩ : ∃ P, A / 1000000000 ^ i = P := ⟨_, rfl⟩
    obtain ⟨Q, hQ⟩ : ∃ Q, B / 1000000000 ^ i = Q := ⟨_, rfl⟩
    have HDI : Hid (∀ (W : World), Below w.heap.size w W → Calls Tryz.prog 144 #[.slice b lb cb, .int .i64 (i : Int)] W fun e w' => e = .returned (.int .i64 ((Q % 1000000000 : Nat) : Int)) ∧ W = w') := fun W h => by rw [← hQ]; exact HDB.out W i h
    rw [hP] at hla hpa hr hga
    rw [hQ] at hpb hr
    have HPA := Lib.hid hpa
    have HPB := Lib.hid hpb
    clear hpa hpb hP hQ HDB1
    by_cases hlt : i < la
    · obtain ⟨b1, o1, x, rfl, hcx, hx⟩ := (HSA.out.below HB.out).at (show i < da.length by rw [HLL.out]; exact hlt)
      have hgx := gt_some' hx.out
      rw [hga] at hgx
      obtain ⟨y, hy⟩ : ∃ y, Q % 1000000000 = y := ⟨_, rfl⟩
      rw [hy] at HDI
      have hx0 : 0 ≤ x ∧ x < 1000000000 := by omega
      have hy0 : (y : Int) < 1000000000 := by omega
      have hy1 : (0 : Int) ≤ (y : Int) := by omega
      have hi0 : (i : Int) < (la : Int) := by omega
      have hlen : out.length ≤ 100000 := by rw [HOL.out]; omega
      have hc0 : (0 : Int) ≤ (c : Int) := by omega
      have hc1 : (c : Int) ≤ 1 := by omega
      obtain ⟨hxa, hxb⟩ := hx0
      have HHS : Hid (Below w.heap.size w wr.drew) := HB.out.drew
      have fin : ∀ (d : Int) (c' r' : Nat), 0 ≤ d → d < 1000000000 → c' ≤ 1 → d + 1000000000 * (r' : Int) = (r : Int) → ((P / 1000000000 : Nat) : Int) - ((Q / 1000000000 : Nat) : Int) - (c' : Int) = (r' : Int) → Hid (((A / 1000000000 ^ (i + 1) : Nat) : Int) - ((B / 1000000000 ^ (i + 1) : Nat) : Int) - (c' : Int) = (r' : Int) ∧ DOk (out ++ [d]) ∧ valD (out ++ [d]) + 1000000000 ^ (i + 1) * (r' : Int) = (D : Int)) := fun d c' r' h1 h2 h3 h4 h5 => by
        refine ⟨by rw [HPA.out, HPB.out]; exact h5, fun z hz => ?_, ?_⟩
        · rcases List.mem_append.1 hz with hz | hz
          · exact HOK.out z hz
          · rw [List.mem_singleton.1 hz]; exact ⟨h1, h2⟩
        · rw [valD_snoc, HOL.out, Int.pow_succ, ← HV.out, ← h4]; grind
      by_cases hn : x - (y : Int) - (c : Int) < 0
      · obtain ⟨d, hd⟩ : ∃ d, x - (y : Int) - (c : Int) + 1000000000 = d := ⟨_, rfl⟩
        have HF := fin d 1 (r / 1000000000) (by omega) (by omega) (by omega) (by omega) (by omega)
        have hd' : (x - (y : Int) - (c : Int)) + 1000000000 = d := hd
        obtain ⟨n, hnn⟩ : ∃ n, x - (y : Int) - (c : Int) = n := ⟨_, rfl⟩
        have hn0 : n < 0 := by omega
        have hn1 : -1000000000 ≤ n := by omega
        have hsub2 : IntKind.i64.wrap (x - (y : Int)) = x - (y : Int) := wrap_id (by omega) (by omega)
        have hsub : IntKind.i64.wrap (x - (y : Int) - (c : Int)) = n := by rw [wrap_id (by omega) (by omega)]; exact hnn
        rw [hnn] at hd'
        have hadd : IntKind.i64.wrap (n + 1000000000) = d := by rw [wrap_id (by omega) (by omega)]; exact hd'
        clear fin hla hr hga hx hgx hy hn hd hc0 hc1 hc hy0 hy1 hxa hxb hnn hd' hn1
        go_wp2
        go_region_held_law (fun w' => w'.cell? ⟨b1, o1 + i, none⟩ = some (.int .i64 x)) (first | assumption | go_keep) (first | (go_at_call 144; refine (HDI.out _ HHS.out).mono ?_; rintro e w1 ⟨rfl, rfl⟩))
        go_wp2_with (at_builtin; go_must (refine wpList_pushN rfl (.tmp 28) (.tmp 30) rfl w.heap.size _ out _ _ _ _ rfl rfl rfl (OwnI.drew HO.out) hlen HHS.out.size ?_); intro v' w9 ho' hb')
        go_roundw
        case rel => exact ⟨i + 1, 1, r / 1000000000, out ++ [d], by omega, by go_num, by first | rfl | go_num, by omega, by rw [List.length_append, HOL.out]; rfl, HF.out.1, HF.out.2.1, HF.out.2.2, ho', HHS.out.trans hb'⟩
        case measure => simp [intOf]; omega
      · obtain ⟨d, hd⟩ : ∃ d, x - (y : Int) - (c : Int) = d := ⟨_, rfl⟩
        have HF := fin d 0 (r / 1000000000) (by omega) (by omega) (by omega) (by omega) (by omega)
        have hn0 : ¬ d < 0 := by omega
        have hsub2 : IntKind.i64.wrap (x - (y : Int)) = x - (y : Int) := wrap_id (by omega) (by omega)
        have hsub : IntKind.i64.wrap (x - (y : Int) - (c : Int)) = d := by rw [wrap_id (by omega) (by omega)]; exact hd
        clear fin hla hr hga hx hgx hy hn hc0 hc1 hc hy0 hy1 hxa hxb hd
        go_wp2
        go_region_held_law (fun w' => w'.cell? ⟨b1, o1 + i, none⟩ = some (.int .i64 x)) (first | assumption | go_keep) (first | (go_at_call 144; refine (HDI.out _ HHS.out).mono ?_; rintro e w1 ⟨rfl, rfl⟩))
        go_wp2_with (at_builtin; go_must (refine wpList_pushN rfl (.tmp 28) (.tmp 30) rfl w.heap.size _ out _ _ _ _ rfl rfl rfl (OwnI.drew HO.out) hlen HHS.out.size ?_); intro v' w9 ho' hb')
        go_roundw
        case rel => exact ⟨i + 1, 0, r / 1000000000, out ++ [d], by omega, by go_num, by first | rfl | go_num, by omega, by rw [List.length_append, HOL.out]; rfl, HF.out.1, HF.out.2.1, HF.out.2.2, ho', HHS.out.trans hb'⟩
        case measure => simp [intOf]; omega
    · obtain rfl : i = la := by omega
      have hp0 : P = 0 := by
        by_cases e : P = 0
        · exact e
        · exact absurd (hla.2 e) (Nat.lt_irrefl _)
      have hr0 : r = 0 := by omega
      have HVD : Hid (valD out = (D : Int)) := by
        have := HV.out
        rw [hr0] at this
        show _ = _
        have e : (1000000000 : Int) ^ i * ((0 : Nat) : Int) = 0 := by simp
        rw [e] at this; omega
      obtain ⟨oa, oc, rfl, hcap, hos⟩ := HO.out.capped
      have HTT : Hid (Calls Tryz.prog 145 #[.slice oa out.length oc] wr (NPost D wr)) := HTR.out wr oa out oc (by rw [HOL.out]; omega) hcap HOK.out HVD.out hos
      have hi0 : ¬ (i : Int) < (i : Int) := by omega
      clear hla hr hga hlt hp0 hr0 hcap hos
      go_wp2_with (go_at_call 145; refine HTT.out.mono ?_; rintro e w1 ⟨hb1, ra, rc, rfl, hs1⟩)
      go_ret
      exact ⟨HB.out.trans (hb1.mono HB.out.size), ra, rc, rfl, hs1⟩
end Go.Proofs.YtfnomiingelfaaaGreat
/- Whole numbers of any size in the answers: times: a contract. -/
namespace Go.Proofs.YtfnomiingelfaaaGreat
open Go.RowKit

theorem DOk.set {ds : List Int} (h : DOk ds) (k : Nat) {v : Int} (hv : 0 ≤ v ∧ v < 1000000000) : DOk (ds.set k v) := fun d hd => by
  rcases List.mem_or_eq_of_mem_set hd with e | e
  · exact h d e
  · rw [e]; exact hv
theorem DOk.at {ds : List Int} (h : DOk ds) {k : Nat} (hk : k < ds.length) : 0 ≤ gt ds k ∧ gt ds k < 1000000000 := h _ (mem_gt.2 ⟨k, hk, rfl⟩)
theorem mod_pow (a i : Nat) : a % 1000000000 ^ (i + 1) = a % 1000000000 ^ i + 1000000000 ^ i * (a / 1000000000 ^ i % 1000000000) := by
  rw [Nat.pow_succ, Nat.mod_mul]
theorem digs_lt (a : Nat) : a < 1000000000 ^ (digs a).length := by
  have h := digs_len a (digs a).length
  by_cases e : a / 1000000000 ^ (digs a).length = 0
  · exact (Nat.div_eq_zero_iff_lt (Nat.pow_pos (by decide))).1 e
  · exact absurd (h.2 e) (Nat.lt_irrefl _)
def TInv (A M i j c : Nat) (x : Int) (O : List Int) : Prop := DOk O ∧ valD O + (c : Int) * 1000000000 ^ (i + j) = ((A % 1000000000 ^ i : Nat) : Int) * M + x * ((M % 1000000000 ^ j : Nat) : Int) * 1000000000 ^ i
theorem TInv.step {A M i j c d q : Nat} {x o : Int} {O : List Int} (h : TInv A M i j c x O) (hk : i + j < O.length) (ho : gt O (i + j) = o) (hd : (d : Int) < 1000000000) (hn : o + x * ((M / 1000000000 ^ j % 1000000000 : Nat) : Int) + c = (d : Int) + 1000000000 * (q : Int)) : TInv A M i (j + 1) q x (O.set (i + j) (d : Int)) := by
  refine ⟨h.1.set _ ⟨by omega, hd⟩, ?_⟩
  have h2 := h.2
  rw [valD_set hk, ho, mod_pow M j, show i + (j + 1) = (i + j) + 1 by omega, Int.pow_succ, Int.pow_add]
  rw [Int.pow_add] at h2
  have e : ((M % 1000000000 ^ j + 1000000000 ^ j * (M / 1000000000 ^ j % 1000000000) : Nat) : Int) = ((M % 1000000000 ^ j : Nat) : Int) + (1000000000 : Int) ^ j * ((M / 1000000000 ^ j % 1000000000 : Nat) : Int) := by simp
  rw [e]
  generalize ((M % 1000000000 ^ j : Nat) : Int) = mj at *
  generalize ((M / 1000000000 ^ j % 1000000000 : Nat) : Int) = y at *
  generalize ((A % 1000000000 ^ i : Nat) : Int) = ai at *
  generalize (1000000000 : Int) ^ i = pi at *
  generalize (1000000000 : Int) ^ j = pj at *
  grind
theorem TInv.whole {A M i j c : Nat} {x : Int} {O : List Int} (h : TInv A M i j c x O) (hM : M < 1000000000 ^ j) (hx : x = ((A / 1000000000 ^ i % 1000000000 : Nat) : Int)) : valD O + (c : Int) * 1000000000 ^ (i + j) = ((A % 1000000000 ^ (i + 1) : Nat) : Int) * M := by
  rw [h.2, Nat.mod_eq_of_lt hM, mod_pow A i, hx]
  have e : ((A % 1000000000 ^ i + 1000000000 ^ i * (A / 1000000000 ^ i % 1000000000) : Nat) : Int) = ((A % 1000000000 ^ i : Nat) : Int) + (1000000000 : Int) ^ i * ((A / 1000000000 ^ i % 1000000000 : Nat) : Int) := by simp
  rw [e]; grind
theorem pow_lt_inv {a b : Nat} (h : 1000000000 ^ a < 1000000000 ^ b) : a < b := by
  apply Nat.lt_of_not_le
  intro hle
  exact absurd h (Nat.not_lt.2 (Nat.pow_le_pow_right (by decide) hle))
theorem TInv.bound {A M i j c lb : Nat} {x : Int} {O : List Int} (h : TInv A M i j c x O) (hM : M < 1000000000 ^ lb) (hj : lb ≤ j) (hc : c ≠ 0) (hx : x = ((A / 1000000000 ^ i % 1000000000 : Nat) : Int)) : j ≤ lb := by
  have hw := h.whole (Nat.lt_of_lt_of_le hM (Nat.pow_le_pow_right (by decide) hj)) hx
  have h0 := valD_nonneg h.1
  have h1 : A % 1000000000 ^ (i + 1) < 1000000000 ^ (i + 1) := Nat.mod_lt _ (Nat.pow_pos (by decide))
  have h2 : A % 1000000000 ^ (i + 1) * M < 1000000000 ^ (i + 1) * 1000000000 ^ lb := Nat.mul_lt_mul_of_lt_of_le h1 (Nat.le_of_lt hM) (Nat.pos_of_ne_zero (by have := Nat.pow_pos (n := lb) (show 0 < 1000000000 by decide); omega))
  rw [← Nat.pow_add] at h2
  have hw2 : valD O + (c : Int) * ((1000000000 ^ (i + j) : Nat) : Int) = ((A % 1000000000 ^ (i + 1) * M : Nat) : Int) := by rw [Int.natCast_mul, Int.natCast_pow]; exact hw
  obtain ⟨p, hp⟩ : ∃ p, 1000000000 ^ (i + j) = p := ⟨_, rfl⟩
  obtain ⟨s, hs⟩ : ∃ s, 1000000000 ^ (i + 1 + lb) = s := ⟨_, rfl⟩
  obtain ⟨t, ht⟩ : ∃ t, A % 1000000000 ^ (i + 1) * M = t := ⟨_, rfl⟩
  rw [hp, ht] at hw2
  rw [hs, ht] at h2
  have h4 : (1 : Int) * (p : Int) ≤ (c : Int) * (p : Int) := Int.mul_le_mul_of_nonneg_right (by omega) (by omega)
  have h6 : p < s := by omega
  rw [← hp, ← hs] at h6
  have hlt := pow_lt_inv h6
  omega
end Go.Proofs.YtfnomiingelfaaaGreat
/- Whole numbers of any size in the answers: times: a contract. -/
namespace Go.Proofs.YtfnomiingelfaaaGreat
open Go.RowKit

theorem wrap_q {q : Nat} (h : q < 1000000000) : wrap64 (q : Int) = (q : Int) ∧ IntKind.i64.wrap (q : Int) = (q : Int) := ⟨IntWalk.wrap64_in _ (by omega), wrap_id (by omega) (by omega)⟩
theorem wrap_p {p n : Nat} (h : p < n) (h2 : n ≤ 2000) : IntKind.i64.wrap (p : Int) = (p : Int) := wrap_id (by omega) (by omega)
set_option maxRecDepth 1000000 in
set_option maxHeartbeats 3200000 in
theorem timesN_any (a : Option Addr) (ca : Nat) (b : Option Addr) (cb : Nat) (A B : Nat) (w : World) (hA : (digs A).length ≤ 1000) (hB : (digs B).length ≤ 1000) (ha : Sl w a (digs A)) (hb : Sl w b (digs B)) :
    Calls Tryz.prog 119 #[.slice a (digs A).length ca, .slice b (digs B).length cb] w (NPost (A * B) w) := by
  have HSA := Lib.hid ha; clear ha
  have HSB := Lib.hid hb; clear hb
  have HDB : Hid (∀ (W : World) (i : Nat), Below w.heap.size w W → Calls Tryz.prog 144 #[.slice b (digs B).length cb, .int .i64 (i : Int)] W fun e w' => e = .returned (.int .i64 ((B / 1000000000 ^ i % 1000000000 : Nat) : Int)) ∧ W = w') := fun W i h => by
    have h := digit_any b (digs B) cb i W (HSB.out.below h)
    rw [gt_digs] at h
    exact h
  have HGA := Lib.hid (gt_digs A)
  have HAL := Lib.hid (digs_lt A)
  have HBL := Lib.hid (digs_lt B)
  obtain ⟨D, hD⟩ : ∃ D, A * B = D := ⟨_, rfl⟩
  have HD := Lib.hid hD
  rw [hD]
  obtain ⟨da, hda⟩ : ∃ d, digs A = d := ⟨_, rfl⟩
  rw [hda] at HSA HGA HAL hA ⊢
  obtain ⟨la, hla⟩ : ∃ n, da.length = n := ⟨_, rfl⟩
  obtain ⟨lb, hlb⟩ : ∃ n, (digs B).length = n := ⟨_, rfl⟩
  have HLL := Lib.hid hla
  rw [hla] at HAL hA ⊢
  rw [hlb] at HBL HDB hB ⊢
  have HTR : Hid (∀ (W : World) (x : Option Addr) (xs : List Int) (cx : Nat), xs.length ≤ 100000 → xs.length ≤ cx → DOk xs → valD xs = (D : Int) → Sl W x xs → Calls Tryz.prog 145 #[.slice x xs.length cx] W (NPost D W)) := fun W x xs cx h1 h2 h3 h4 h5 => trimmed_any x xs cx D W h1 h2 h3 h4 h5
  obtain ⟨n, hn⟩ : ∃ n, la + lb = n := ⟨_, rfl⟩
  have hni : (la : Int) + (lb : Int) = (n : Int) := by omega
  have HN := Lib.hid hn
  have hn2 : n ≤ 2000 := by omega
  obtain ⟨i0, hi, hz0, hz1, hz2⟩ := info_parts Tryz.infoInt
  clear hda hla hlb hD hn
  go_enter Tryz.func119, Tryz.ntmps119
  go_wp2_with (with_reducible refine wpList_make_full _ rfl (.tmp 15) (.tmp 15) 82 rfl w.heap.size 3 i0 (.int .i64 0) 1 Tryz.underlying82 hi hz0 hz1 .i64 .i64 (n : Int) (n : Int) n rfl rfl rfl rfl (by rw [hz2]; omega) (by unfold maxLen; omega) (Nat.le_refl _) ?_)
  intro w4 hown hgrow
  have hb4 : Below w.heap.size w w4 := (Below.refl _ _).grown hgrow (Nat.le_refl _) (fun k e => by cases e)
  have HO4 : Hid (OwnI w4 w.heap.size (.slice (some ⟨w.heap.size, 0, none⟩) n n) (List.replicate n 0)) := by
    have z := zeros_are n
    rw [Nat.mul_one] at z
    show w4.ownsRow _ _ _ _ _ _
    rw [List.length_replicate, ← z]; exact hown
  have HB4 := Lib.hid hb4
  clear hown hgrow hb4 hi hz0 hz1 hz2 i0
  obtain ⟨g, hg⟩ : ∃ g, w.heap.size = g := ⟨_, rfl⟩
  have HG := Lib.hid hg
  rw [hg] at HO4 ⊢
  go_wp2
  clear hg
  go_loopw [19] (fun iv wr => ∃ (i : Nat) (O : List Int), i ≤ la ∧ iv = .int .i64 (i : Int) ∧ O.length = n ∧ DOk O ∧ valD O = ((A % 1000000000 ^ i : Nat) : Int) * (B : Int) ∧ OwnI wr g (.slice (some ⟨g, 0, none⟩) n n) O ∧ Below g w wr) (fun iv _ => la - (intOf iv).toNat)
  case atStart => exact ⟨0, List.replicate n 0, Nat.zero_le _, rfl, List.length_replicate, (fun d hd => by rw [List.eq_of_mem_replicate hd]; omega), by rw [valD_zero, Nat.pow_zero, Nat.mod_one]; show (0 : Int) = 0 * (B : Int); rw [Int.zero_mul], HO4.out, by rw [← HG.out]; exact HB4.out⟩
  case round =>
    clear HO4 HB4
    obtain ⟨i, O, hi, rfl, hol, hok, hv, hO, hB2⟩ := hrel
    have HO := Lib.hid hO; clear hO
    have HB := Lib.hid hB2; clear hB2
    have HOL := Lib.hid hol; clear hol
    have HOK := Lib.hid hok; clear hok
    have HV := Lib.hid hv; clear hv
    have HBW : Hid (Below w.heap.size w wr) := by rw [HG.out]; exact HB.out
    by_cases hlt : i < la
    · obtain ⟨b1, o1, x, rfl, hcx, hx⟩ := (HSA.out.below HBW.out).at (show i < da.length by rw [HLL.out]; exact hlt)
      have hgx := gt_some' hx.out
      rw [HGA.out i] at hgx
      have HXE : Hid (x = ((A / 1000000000 ^ i % 1000000000 : Nat) : Int)) := hgx.symm
      have hx0 : 0 ≤ x ∧ x < 1000000000 := ⟨by rw [HXE.out]; exact Int.natCast_nonneg _, by rw [HXE.out]; exact Int.ofNat_lt.2 (Nat.mod_lt _ (by decide))⟩
      have HX0 := Lib.hid hx0
      have hi0 : (i : Int) < (la : Int) := by omega
      clear hx hgx hx0
      go_wp2
      clear hcx
      have HB0 := HB
      have HO0 := HO
      go_loopw [8, 9] (fun cv jv wr => ∃ (j c : Nat) (O2 : List Int), jv = .int .i64 (j : Int) ∧ cv = .int .i64 (c : Int) ∧ j ≤ lb + 1 ∧ c < 1000000000 ∧ O2.length = n ∧ TInv A B i j c x O2 ∧ OwnI wr g (.slice (some ⟨g, 0, none⟩) n n) O2 ∧ Below g w wr) (fun _ jv _ => lb + 2 - (intOf jv).toNat)
      case atStart => exact ⟨0, 0, O, rfl, rfl, Nat.zero_le _, by omega, HOL.out, ⟨HOK.out, by rw [HV.out, Nat.pow_zero, Nat.mod_one]; show _ + (0 : Int) * _ = _ + x * (0 : Int) * _; rw [Int.zero_mul, Int.mul_zero, Int.zero_mul]⟩, HO0.out, HB0.out⟩
      case round =>
        clear HO HB HOL HOK HV HBW HB0 HO0
        obtain ⟨j, c, O2, rfl, rfl, hj, hc, hol, hti, hO, hB2⟩ := hrel
        have HO := Lib.hid hO; clear hO
        have HB := Lib.hid hB2; clear hB2
        have HOL := Lib.hid hol; clear hol
        have HTI := Lib.hid hti; clear hti
        have HBW : Hid (Below w.heap.size w wr) := by rw [HG.out]; exact HB.out
        have hcase : (j < lb ∨ (lb ≤ j ∧ c ≠ 0)) ∨ (lb ≤ j ∧ c = 0) := by omega
        rcases hcase with hgo | ⟨hj2, rfl⟩
        · have hjlb : j ≤ lb := by
            rcases hgo with h | ⟨h1, h2⟩
            · omega
            · exact HTI.out.bound HBL.out h1 h2 HXE.out
          have hcond : (j : Int) < (lb : Int) ∨ (¬ (j : Int) < (lb : Int) ∧ (0 : Int) < (c : Int)) := by
            rcases hgo with h | ⟨h1, h2⟩
            · exact .inl (Int.ofNat_lt.2 h)
            · exact .inr ⟨fun e => absurd (Int.ofNat_lt.1 e) (Nat.not_lt.2 h1), Int.ofNat_lt.2 (Nat.pos_of_ne_zero h2)⟩
          obtain ⟨p, hp⟩ : ∃ p, i + j = p := ⟨_, rfl⟩
          have hpn : p < n := by have := HN.out; omega
          have hpi : (i : Int) + (j : Int) = (p : Int) := by omega
          have HDI := Lib.hid (HDB.out wr.drew j HBW.out.drew)
          obtain ⟨y, hy⟩ : ∃ y, B / 1000000000 ^ j % 1000000000 = y := ⟨_, rfl⟩
          have hy0 : y < 1000000000 := hy ▸ Nat.mod_lt _ (by decide)
          have HYY := Lib.hid hy
          obtain ⟨c1, f1⟩ := HO.out.cell (j := p) (by rw [HOL.out]; exact hpn)
          have hod := HTI.out.1.at (k := p) (by rw [HOL.out]; exact hpn)
          obtain ⟨o, ho⟩ : ∃ o, gt O2 p = o := ⟨_, rfl⟩
          have c1' : wr.cell? ⟨g, p, none⟩ = some (.int .i64 o) := by rw [← ho]; exact c1
          rw [ho] at hod
          rw [hy] at HDI
          clear hy
          obtain ⟨hx0, hx1⟩ := HX0.out
          have hz1 : 0 ≤ x * (y : Int) := Int.mul_nonneg hx0 (by omega)
          have hz2 : x * (y : Int) ≤ 999999999 * 999999999 := Int.mul_le_mul (by omega) (by omega) (by omega) (by omega)
          obtain ⟨z, hz⟩ : ∃ z, x * (y : Int) = z := ⟨_, rfl⟩
          rw [hz] at hz1 hz2
          have wz : IntKind.i64.wrap z = z := wrap_id (by omega) (by omega)
          obtain ⟨s1, hs1⟩ : ∃ s1, o + z = s1 := ⟨_, rfl⟩
          have ws1 : IntKind.i64.wrap s1 = s1 := wrap_id (by omega) (by omega)
          obtain ⟨s2, hs2⟩ : ∃ s2, s1 + (c : Int) = s2 := ⟨_, rfl⟩
          have ws2 : IntKind.i64.wrap s2 = s2 := wrap_id (by omega) (by omega)
          obtain ⟨d, hd⟩ : ∃ d : Nat, s2.tmod 1000000000 = (d : Int) := ⟨(s2.tmod 1000000000).toNat, by rw [Int.tmod_eq_emod_of_nonneg (by omega)]; omega⟩
          obtain ⟨q, hq⟩ : ∃ q : Nat, s2.tdiv 1000000000 = (q : Int) := ⟨(s2.tdiv 1000000000).toNat, by rw [Int.tdiv_eq_ediv_of_nonneg (by omega)]; omega⟩
          have hdq : s2 = (d : Int) + 1000000000 * (q : Int) ∧ (d : Int) < 1000000000 ∧ q < 1000000000 := by
            rw [Int.tmod_eq_emod_of_nonneg (by omega)] at hd
            rw [Int.tdiv_eq_ediv_of_nonneg (by omega)] at hq
            omega
          have HT2 : Hid (TInv A B i (j + 1) q x (O2.set p (d : Int))) := by
            have h := HTI.out.step (d := d) (q := q) (o := o) (by rw [hp, HOL.out]; exact hpn) (by rw [hp]; exact ho) hdq.2.1 (by rw [HYY.out, hz]; omega)
            rw [hp] at h
            exact h
          have HQ := Lib.hid hdq.2.2
          obtain ⟨wq1, wq2⟩ := wrap_q hdq.2.2
          have HST := Lib.hid ((OwnI.drew HO.out).stored p (d : Int))
          have HL2 : Hid ((O2.set p (d : Int)).length = n) := by show _ = _; rw [List.length_set]; exact HOL.out
          have hgw : g ≤ g := Nat.le_refl _
          have HBS : Hid (Below g w (wr.drew.setCell ⟨g, p, none⟩ (.int .i64 (d : Int)))) := HB.out.drew.setCell (p := ⟨g, p, none⟩) (Nat.le_refl _) _
          have f1' : wr.frozen? ⟨g, p, none⟩ = false := f1
          have hp0 : (p : Int) < (n : Int) := by omega
          have hwp : IntKind.i64.wrap (p : Int) = (p : Int) := wrap_p hpn hn2
          have hp1 : (0 : Int) ≤ (p : Int) := by omega
          have hp2 : ¬ (p : Int) < 0 := by omega
          clear hgo hc hp hpn hy0 c1 f1 hod ho hx0 hx1 hz1 hz2 hdq hj
          have HJL := Lib.hid hjlb
          clear hjlb
          rcases hcond with hj3 | ⟨hj3, hc3⟩
          · go_wp2
            go_region_held_law (fun w' => w'.cell? ⟨g, p, none⟩ = some (.int .i64 o)) (first | assumption | go_keep) (first | (go_at_call 144; refine HDI.out.mono ?_; rintro e w1 ⟨rfl, rfl⟩))
            go_wp2
            go_roundw
            case rel => exact ⟨j + 1, q, O2.set p (d : Int), by go_num, by first | rfl | (simp only [wq1, wq2]; done) | (rw [wq1]) | go_num, by have := HJL.out; omega, HQ.out, HL2.out, HT2.out, HST.out, HBS.out⟩
            case measure => have := HJL.out; simp [intOf]; omega
          · go_wp2
            go_region_held_law (fun w' => w'.cell? ⟨g, p, none⟩ = some (.int .i64 o)) (first | assumption | go_keep) (first | (go_at_call 144; refine HDI.out.mono ?_; rintro e w1 ⟨rfl, rfl⟩))
            go_wp2
            go_roundw
            case rel => exact ⟨j + 1, q, O2.set p (d : Int), by go_num, by first | rfl | (simp only [wq1, wq2]; done) | (rw [wq1]) | go_num, by have := HJL.out; omega, HQ.out, HL2.out, HT2.out, HST.out, HBS.out⟩
            case measure => have := HJL.out; simp [intOf]; omega
        · have hj3 : ¬ (j : Int) < (lb : Int) := by omega
          have HW : Hid (valD O2 = ((A % 1000000000 ^ (i + 1) : Nat) : Int) * (B : Int)) := by
            have h := HTI.out.whole (Nat.lt_of_lt_of_le HBL.out (Nat.pow_le_pow_right (by decide) hj2)) HXE.out
            show _ = _
            have e : ((0 : Nat) : Int) * 1000000000 ^ (i + j) = 0 := Int.zero_mul _
            rw [e, Int.add_zero] at h; exact h
          have HOK2 := Lib.hid HTI.out.1
          clear hj hc hj2
          go_wp2
          go_roundw
          case rel => exact ⟨i + 1, O2, by omega, by go_num, HOL.out, HOK2.out, HW.out, HO.out, HB.out⟩
          case measure => simp [intOf]; omega
    · obtain rfl : i = la := by omega
      have HVD : Hid (valD O = (D : Int)) := by show _ = _; rw [HV.out, Nat.mod_eq_of_lt HAL.out, ← HD.out]; simp
      have HTT : Hid (Calls Tryz.prog 145 #[.slice (some ⟨g, 0, none⟩) n n] wr (NPost D wr)) := by
        have h := HTR.out wr (some ⟨g, 0, none⟩) O n (by rw [HOL.out]; omega) (by rw [HOL.out]; exact Nat.le_refl _) HOK.out HVD.out HO.out.sl
        rw [HOL.out] at h
        exact h
      have hi0 : ¬ (i : Int) < (i : Int) := by omega
      clear hlt
      go_wp2_with (go_at_call 145; refine HTT.out.mono ?_; rintro e w1 ⟨hb1, ra, rc, rfl, hs1⟩)
      go_ret
      exact ⟨HBW.out.trans (hb1.mono HBW.out.size), ra, rc, rfl, hs1⟩
end Go.Proofs.YtfnomiingelfaaaGreat
/- Exact fractions of the answers: Exact, Whole, Times: contracts. -/
namespace Go.Proofs.YtfnomiingelfaaaGreat
open Go.RowKit

def RatPost (s : Bool) (N D : Nat) (w : World) (e : Ending) (w' : World) : Prop := Below w.heap.size w w' ∧ ∃ na nc da dc, e = .returned (.agg #[.bool s, .slice na (digs N).length nc, .slice da (digs D).length dc]) ∧ Sl w' na (digs N) ∧ Sl w' da (digs D)
structure Bx3 (W : World) (b : Nat) (u v x : Value) : Prop where
  lt : b < W.heap.size
  c0 : W.cell? ⟨b, 0, none⟩ = some u
  c1 : W.cell? ⟨b, 1, none⟩ = some v
  c2 : W.cell? ⟨b, 2, none⟩ = some x
  f0 : W.frozen? ⟨b, 0, none⟩ = false
  f1 : W.frozen? ⟨b, 1, none⟩ = false
  f2 : W.frozen? ⟨b, 2, none⟩ = false
theorem Bx3.next {W W' : World} {b : Nat} {u v x : Value} (h : Bx3 W b u v x) (hb : Below W.heap.size W W') : Bx3 W' b u v x :=
  ⟨Nat.lt_of_lt_of_le h.lt hb.size, (hb.cell (p := ⟨b, 0, none⟩) h.lt).trans h.c0, (hb.cell (p := ⟨b, 1, none⟩) h.lt).trans h.c1, (hb.cell (p := ⟨b, 2, none⟩) h.lt).trans h.c2, (hb.frozen (p := ⟨b, 0, none⟩) h.lt).trans h.f0, (hb.frozen (p := ⟨b, 1, none⟩) h.lt).trans h.f1, (hb.frozen (p := ⟨b, 2, none⟩) h.lt).trans h.f2⟩
theorem Bx3.new (W : World) (u v x : Value) (t : TypeId) : Bx3 (W.alloc (.cells #[u, v, x] t)) W.heap.size u v x := ⟨by rw [World.size_alloc]; omega, alloc_cell _ _ _ _ _ rfl, alloc_cell _ _ _ _ _ rfl, alloc_cell _ _ _ _ _ rfl, by simp, by simp, by simp⟩
theorem sl_set {W : World} {a : Option Addr} {xs : List Int} (h : Sl W a xs) {p : Addr} {u : Value} (hp : W.cell? p = some u) (hu : ∀ n, u ≠ .int .i64 n) (v : Value) : Sl (W.setCell p v) a xs := by
  intro k hk
  obtain ⟨b, off, e, hc⟩ := h k hk
  refine ⟨b, off, e, ?_⟩
  rw [← hc]
  refine World.cell?_setCell_other _ p ⟨b, off + k, none⟩ v fun e2 => ?_
  first
    | (rw [← e2, hp] at hc; exact hu _ (Option.some.inj hc))
    | (rw [e2, hp] at hc; exact hu _ (Option.some.inj hc))
theorem sl_box3 {W : World} {a : Option Addr} {xs : List Int} (h : Sl W a xs) {T : Nat} {s : Bool} {a1 a2 : Option Addr} {n1 c1 n2 c2 : Nat} (hb : Bx3 W T (.bool s) (.slice a1 n1 c1) (.slice a2 n2 c2)) (x y z : Value) : Sl (((W.setCell ⟨T, 0, none⟩ x).setCell ⟨T, 1, none⟩ y).setCell ⟨T, 2, none⟩ z) a xs := by
  have h0 := sl_set h hb.c0 (fun n e => by cases e) x
  have k1 : (W.setCell ⟨T, 0, none⟩ x).cell? ⟨T, 1, none⟩ = some (.slice a1 n1 c1) := (World.cell?_setCell_other _ ⟨T, 0, none⟩ ⟨T, 1, none⟩ _ (by simp)).trans hb.c1
  have h1 := sl_set h0 k1 (fun n e => by cases e) y
  have k2 : ((W.setCell ⟨T, 0, none⟩ x).setCell ⟨T, 1, none⟩ y).cell? ⟨T, 2, none⟩ = some (.slice a2 n2 c2) := (World.cell?_setCell_other _ ⟨T, 1, none⟩ ⟨T, 2, none⟩ _ (by simp)).trans ((World.cell?_setCell_other _ ⟨T, 0, none⟩ ⟨T, 2, none⟩ _ (by simp)).trans hb.c2)
  exact sl_set h1 k2 (fun n e => by cases e) z
theorem below_box3 {B T : Nat} {w W : World} (h : Below B w W) (hT : B ≤ T) (x y z : Value) : Below B w (((W.setCell ⟨T, 0, none⟩ x).setCell ⟨T, 1, none⟩ y).setCell ⟨T, 2, none⟩ z) := ((h.setCell (p := ⟨T, 0, none⟩) hT _).setCell (p := ⟨T, 1, none⟩) hT _).setCell (p := ⟨T, 2, none⟩) hT _
theorem Bx3.other {W : World} {b : Nat} {u v t : Value} (h : Bx3 W b u v t) {B : Nat} (hB : b ≠ B) (x y z : Value) : Bx3 (((W.setCell ⟨B, 0, none⟩ x).setCell ⟨B, 1, none⟩ y).setCell ⟨B, 2, none⟩ z) b u v t := by
  refine ⟨by rw [World.size_setCell, World.size_setCell, World.size_setCell]; exact h.lt, ?_, ?_, ?_, ?_, ?_, ?_⟩
  · exact (cell_other _ _ _ _ hB).trans ((cell_other _ _ _ _ hB).trans ((cell_other _ _ _ _ hB).trans h.c0))
  · exact (cell_other _ _ _ _ hB).trans ((cell_other _ _ _ _ hB).trans ((cell_other _ _ _ _ hB).trans h.c1))
  · exact (cell_other _ _ _ _ hB).trans ((cell_other _ _ _ _ hB).trans ((cell_other _ _ _ _ hB).trans h.c2))
  all_goals rw [World.frozen?_setCell, World.frozen?_setCell, World.frozen?_setCell]
  · exact h.f0
  · exact h.f1
  · exact h.f2
theorem Bx3.stored {W : World} {b : Nat} {u v t : Value} (h : Bx3 W b u v t) (x y z : Value) : Bx3 (((W.setCell ⟨b, 0, none⟩ x).setCell ⟨b, 1, none⟩ y).setCell ⟨b, 2, none⟩ z) b x y z := by
  have o := fun (V : World) (i j : Nat) (q : Value) (e : i ≠ j) => World.cell?_setCell_other V ⟨b, i, none⟩ ⟨b, j, none⟩ q (by simp <;> omega)
  refine ⟨by rw [World.size_setCell, World.size_setCell, World.size_setCell]; exact h.lt, ?_, ?_, ?_, ?_, ?_, ?_⟩
  · exact (o _ 2 0 _ (by decide)).trans ((o _ 1 0 _ (by decide)).trans (World.cell?_setCell_same _ _ _ h.c0))
  · exact (o _ 2 1 _ (by decide)).trans (World.cell?_setCell_same _ _ _ ((o _ 0 1 _ (by decide)).trans h.c1))
  · exact World.cell?_setCell_same _ _ _ ((o _ 1 2 _ (by decide)).trans ((o _ 0 2 _ (by decide)).trans h.c2))
  all_goals rw [World.frozen?_setCell, World.frozen?_setCell, World.frozen?_setCell]
  · exact h.f0
  · exact h.f1
  · exact h.f2
set_option maxRecDepth 1000000 in
set_option maxHeartbeats 1600000 in
theorem exact_any (n d : Int) (w : World) (hn : -1000000000000000000 ≤ n ∧ n ≤ 1000000000000000000) (hd : 0 ≤ d ∧ d ≤ 1000000000000000000) : Calls Tryz.prog 87 #[.agg #[.int .i64 n, .int .i64 d]] w (RatPost (decide (n < 0)) n.natAbs d.toNat w) := by
  have HN : Hid (∀ W, Calls Tryz.prog 123 #[.int .i64 ((n.natAbs : Nat) : Int)] W (NPost n.natAbs W)) := fun W => natOf_any n.natAbs W (by omega)
  have HD : Hid (∀ W, Calls Tryz.prog 123 #[.int .i64 d] W (NPost d.toNat W)) := fun W => by
    have h := natOf_any d.toNat W (by omega)
    rw [show ((d.toNat : Nat) : Int) = d by omega] at h
    exact h
  obtain ⟨m, hm⟩ : ∃ m, ((n.natAbs : Nat) : Int) = m := ⟨_, rfl⟩
  obtain ⟨dn, hdn⟩ : ∃ x, digs n.natAbs = x := ⟨_, rfl⟩
  obtain ⟨dd, hdd⟩ : ∃ x, digs d.toNat = x := ⟨_, rfl⟩
  have wneg : IntKind.i64.wrap (-n) = -n := wrap_id (by omega) (by omega)
  have hmax : max n (-n) = m := by omega
  have hmax2 : (if n < -n then -n else n) = m := by split <;> omega
  obtain ⟨V, hV⟩ : ∃ V, (w.alloc (.cells #[.int .i64 n, .int .i64 d] 52)).alloc (.cells #[.bool false, .slice none 0 0, .slice none 0 0] 84) = V := ⟨_, rfl⟩
  have hs1 : (w.alloc (.cells #[.int .i64 n, .int .i64 d] 52)).heap.size = w.heap.size + 1 := World.size_alloc _ _
  have HBV : Hid (Below w.heap.size w V) := hV ▸ ((Below.refl _ _).alloc (Nat.le_refl _) _).alloc (by omega) _
  have hA : Bx V w.heap.size (.int .i64 n) (.int .i64 d) := hV ▸ (Bx.new w _ _ _).next ((Below.refl _ _).alloc (Nat.le_refl _) _)
  have hR : Bx3 V (w.heap.size + 1) (.bool false) (.slice none 0 0) (.slice none 0 0) := by
    have h := Bx3.new (w.alloc (.cells #[.int .i64 n, .int .i64 d] 52)) (.bool false) (.slice none 0 0) (.slice none 0 0) 84
    rw [hs1, hV] at h
    exact h
  have HVW : Hid (∀ W, Below V.heap.size V W → W.cell? ⟨w.heap.size, 0, none⟩ = some (.int .i64 n) ∧ W.cell? ⟨w.heap.size, 1, none⟩ = some (.int .i64 d) ∧ (W.cell? ⟨w.heap.size + 1, 0, none⟩ = some (.bool false) ∧ W.cell? ⟨w.heap.size + 1, 1, none⟩ = some (.slice none 0 0) ∧ W.cell? ⟨w.heap.size + 1, 2, none⟩ = some (.slice none 0 0)) ∧ W.frozen? ⟨w.heap.size + 1, 0, none⟩ = false ∧ W.frozen? ⟨w.heap.size + 1, 1, none⟩ = false ∧ W.frozen? ⟨w.heap.size + 1, 2, none⟩ = false) := fun W h => by
    have a := hA.next h
    have r := hR.next h
    exact ⟨a.c0, a.c1, ⟨r.c0, r.c1, r.c2⟩, r.f0, r.f1, r.f2⟩
  have HRN := Lib.hid hR
  rw [hm] at HN
  clear hm hA hR
  go_enter Tryz.func87, Tryz.ntmps87
  go_wp2
  rename_i aK
  have HKO := Lib.hid aK
  clear aK hV hs1
  refine wp_region_G (S := untilS 14 (fun _ => True) (fun W => Below V.heap.size V W)) (by kernel_rfl) (untilS_all ⟨trivial, (Below.refl _ _).drew⟩ _) ?_
  intro hc hS
  refine wpAnyG_take (i := 0) (oi := ?oia0) (v := ?va0) ?hia0 (by kernel_rfl) (by kernel_rfl) (by kernel_rfl) ?hQa0 (untilS_set (by decide)) hc ?hya0 hS ?resta0
  case hia0 => (simp only [List.getElem?_toArray, List.getElem?_cons_zero]; exact rfl)
  case hQa0 => exact fun _ _ _ h => h
  case hya0 => (refine Or.inl ⟨rfl, ?_⟩; (intro w _; go_simp; (try with_reducible rfl)))
  clear hc hS; intro hc hS
  simp only [Act.put, List.setIfInBounds_toArray, List.set_cons_zero, List.set_cons_succ]
  refine wpAnyG_take (i := 1) (oi := ?oia1) (v := ?va1) ?hia1 (by kernel_rfl) (by kernel_rfl) (by kernel_rfl) ?hQa1 (untilS_set (by decide)) hc ?hya1 hS ?resta1
  case hia1 => (simp only [List.getElem?_toArray, List.getElem?_cons_succ, List.getElem?_cons_zero]; exact rfl)
  case hQa1 => exact fun _ _ _ h => h
  case hya1 => (refine Or.inl ⟨rfl, ?_⟩; (rintro w ⟨L, hsd, hL, _, hB⟩; replace hB := hB (hsd.not (i := 1) (by kernel_rfl) hL); obtain ⟨_, _, _, _, _, _⟩ := HVW.out w hB; clear hsd hL hB; go_simp; (try with_reducible rfl)))
  clear hc hS; intro hc hS
  simp only [Act.put, List.setIfInBounds_toArray, List.set_cons_zero, List.set_cons_succ]
  refine wpAnyG_take (i := 2) (oi := ?oia2) (v := ?va2) ?hia2 (by kernel_rfl) (by kernel_rfl) (by kernel_rfl) ?hQa2 (untilS_set (by decide)) hc ?hya2 hS ?resta2
  case hia2 => (simp only [List.getElem?_toArray, List.getElem?_cons_succ, List.getElem?_cons_zero]; exact rfl)
  case hQa2 => exact fun _ _ _ h => h
  case hya2 => (refine Or.inl ⟨rfl, ?_⟩; (intro w _; go_simp; (try with_reducible rfl)))
  clear hc hS; intro hc hS
  simp only [Act.put, List.setIfInBounds_toArray, List.set_cons_zero, List.set_cons_succ]
  refine wpAnyG_take (i := 3) (oi := ?oia3) (v := ?va3) ?hia3 (by kernel_rfl) (by kernel_rfl) (by kernel_rfl) ?hQa3 (untilS_set (by decide)) hc ?hya3 hS ?resta3
  case hia3 => (simp only [List.getElem?_toArray, List.getElem?_cons_succ, List.getElem?_cons_zero]; exact rfl)
  case hQa3 => exact fun _ _ _ h => h
  case hya3 => (refine Or.inl ⟨rfl, ?_⟩; (intro w _; go_simp; (try with_reducible rfl)))
  clear hc hS; intro hc hS
  simp only [Act.put, List.setIfInBounds_toArray, List.set_cons_zero, List.set_cons_succ]
  refine wpAnyG_take (i := 4) (oi := ?oia4) (v := ?va4) ?hia4 (by kernel_rfl) (by kernel_rfl) (by kernel_rfl) ?hQa4 (untilS_set (by decide)) hc ?hya4 hS ?resta4
  case hia4 => (simp only [List.getElem?_toArray, List.getElem?_cons_succ, List.getElem?_cons_zero]; exact rfl)
  case hQa4 => exact fun _ _ _ h => h
  case hya4 => (refine Or.inl ⟨rfl, ?_⟩; (rintro w ⟨L, hsd, hL, _, hB⟩; replace hB := hB (hsd.not (i := 4) (by kernel_rfl) hL); obtain ⟨_, _, _, _, _, _⟩ := HVW.out w hB; clear hsd hL hB; go_simp; (try with_reducible rfl)))
  clear hc hS; intro hc hS
  simp only [Act.put, List.setIfInBounds_toArray, List.set_cons_zero, List.set_cons_succ]
  refine wpAnyG_take (i := 5) (oi := ?oia5) (v := ?va5) ?hia5 (by kernel_rfl) (by kernel_rfl) (by kernel_rfl) ?hQa5 (untilS_set (by decide)) hc ?hya5 hS ?resta5
  case hia5 => (simp only [List.getElem?_toArray, List.getElem?_cons_succ, List.getElem?_cons_zero]; exact rfl)
  case hQa5 => exact fun _ _ _ h => h
  case hya5 => (refine Or.inl ⟨rfl, ?_⟩; (intro w _; go_simp; (try with_reducible rfl)))
  clear hc hS; intro hc hS
  simp only [Act.put, List.setIfInBounds_toArray, List.set_cons_zero, List.set_cons_succ]
  refine wpAnyG_take (i := 6) (oi := ?oia6) (v := ?va6) ?hia6 (by kernel_rfl) (by kernel_rfl) (by kernel_rfl) ?hQa6 (untilS_set (by decide)) hc ?hya6 hS ?resta6
  case hia6 => (simp only [List.getElem?_toArray, List.getElem?_cons_succ, List.getElem?_cons_zero]; exact rfl)
  case hQa6 => exact fun _ _ _ h => h
  case hya6 => (refine Or.inl ⟨rfl, ?_⟩; (rintro w ⟨L, hsd, hL, _, hB⟩; replace hB := hB (hsd.not (i := 6) (by kernel_rfl) hL); obtain ⟨_, _, _, _, _, _⟩ := HVW.out w hB; clear hsd hL hB; go_simp; (try with_reducible rfl)))
  clear hc hS; intro hc hS
  simp only [Act.put, List.setIfInBounds_toArray, List.set_cons_zero, List.set_cons_succ]
  refine wpAnyG_take (i := 7) (oi := ?oia7) (v := ?va7) ?hia7 (by kernel_rfl) (by kernel_rfl) (by kernel_rfl) ?hQa7 (untilS_set (by decide)) hc ?hya7 hS ?resta7
  case hia7 => (simp only [List.getElem?_toArray, List.getElem?_cons_succ, List.getElem?_cons_zero]; exact rfl)
  case hQa7 => exact fun _ _ _ h => h
  case hya7 => (refine Or.inl ⟨rfl, ?_⟩; (intro w _; go_simp; (try with_reducible rfl)))
  clear hc hS; intro hc hS
  simp only [Act.put, List.setIfInBounds_toArray, List.set_cons_zero, List.set_cons_succ]
  refine wpAnyG_take (i := 8) (oi := ?oia8) (v := ?va8) ?hia8 (by kernel_rfl) (by kernel_rfl) (by kernel_rfl) ?hQa8 (untilS_set (by decide)) hc ?hya8 hS ?resta8
  case hia8 => (simp only [List.getElem?_toArray, List.getElem?_cons_succ, List.getElem?_cons_zero]; exact rfl)
  case hQa8 => exact fun _ _ _ h => h
  case hya8 => (refine Or.inl ⟨rfl, ?_⟩; (intro w _; go_simp; (try with_reducible rfl)))
  clear hc hS; intro hc hS
  simp only [Act.put, List.setIfInBounds_toArray, List.set_cons_zero, List.set_cons_succ]
  refine wpAnyG_take (i := 10) (oi := ?oia10) (v := ?va10) ?hia10 (by kernel_rfl) (by kernel_rfl) (by kernel_rfl) ?hQa10 (untilS_set (by decide)) hc ?hya10 hS ?resta10
  case hia10 => (simp only [List.getElem?_toArray, List.getElem?_cons_succ, List.getElem?_cons_zero]; exact rfl)
  case hQa10 => exact fun _ _ _ h => h
  case hya10 => (refine Or.inl ⟨rfl, ?_⟩; (intro w _; go_simp; (try with_reducible rfl)))
  clear hc hS; intro hc hS
  simp only [Act.put, List.setIfInBounds_toArray, List.set_cons_zero, List.set_cons_succ]
  refine wpAnyG_take (i := 11) (oi := ?oia11) (v := ?va11) ?hia11 (by kernel_rfl) (by kernel_rfl) (by kernel_rfl) ?hQa11 (untilS_set (by decide)) hc ?hya11 hS ?resta11
  case hia11 => (simp only [List.getElem?_toArray, List.getElem?_cons_succ, List.getElem?_cons_zero]; exact rfl)
  case hQa11 => exact fun _ _ _ h => h
  case hya11 => (refine Or.inl ⟨rfl, ?_⟩; (rintro w ⟨L, hsd, hL, _, hB⟩; replace hB := hB (hsd.not (i := 11) (by kernel_rfl) hL); obtain ⟨_, _, _, _, _, _⟩ := HVW.out w hB; clear hsd hL hB; go_simp; (try with_reducible rfl)))
  clear hc hS; intro hc hS
  simp only [Act.put, List.setIfInBounds_toArray, List.set_cons_zero, List.set_cons_succ]
  refine wpAnyG_only (i := 9) (o := ?oia9) (by kernel_rfl) ?hia9 hc ?resta9
  case hia9 => (simp only [List.getElem?_toArray, List.getElem?_cons_succ, List.getElem?_cons_zero]; exact rfl)
  clear hc; intro hc K hK; have HK := Lib.hid hK; clear hK
  go_simp
  go_at_call 123
  refine (HN.out _).mono ?_
  rintro e w5 ⟨hb5, na, nc, rfl, hs5⟩
  have HB5 : Hid (Below V.heap.size V w5) := (Below.refl V.heap.size V).drew.trans (hb5.mono (Below.refl V.heap.size V).drew.size)
  have HS5 := Lib.hid hs5
  clear hb5
  refine HK.out _ _ (untilS_all ⟨trivial, HB5.out⟩ _) ?_
  clear HK K hS; intro hS
  refine wpAnyG_only (i := 12) (o := ?oia12) (by kernel_rfl) ?hia12 hc ?resta12
  case hia12 => (simp only [List.getElem?_toArray, List.getElem?_cons_succ, List.getElem?_cons_zero]; exact rfl)
  clear hc; intro hc K hK; have HK := Lib.hid hK; clear hK
  go_simp
  go_at_call 123
  refine (HD.out _).mono ?_
  rintro e w6 ⟨hb6, da, dc, rfl, hs6⟩
  have HB6 : Hid (Below V.heap.size V w6) := HB5.out.trans (hb6.mono HB5.out.size)
  have HS6 := Lib.hid hs6; have HS56 := Lib.hid (HS5.out.below hb6)
  clear hb6
  refine HK.out _ _ (untilS_all ⟨trivial, HB6.out⟩ _) ?_
  clear HK K hS; intro hS
  refine wpAnyG_take (i := 13) (oi := ?oia13) (v := ?va13) ?hia13 (by kernel_rfl) (by kernel_rfl) (by kernel_rfl) ?hQa13 (untilS_set (by decide)) hc ?hya13 hS ?resta13
  case hia13 => (simp only [List.getElem?_toArray, List.getElem?_cons_succ, List.getElem?_cons_zero]; exact rfl)
  case hQa13 => exact fun _ _ _ h => h
  case hya13 => (refine Or.inl ⟨rfl, ?_⟩; (intro w _; go_simp; (try with_reducible rfl)))
  clear hc hS; intro hc hS
  simp only [Act.put, List.setIfInBounds_toArray, List.set_cons_zero, List.set_cons_succ]
  obtain ⟨_, _, _, _, _, _⟩ := HVW.out w6 HB6.out
  refine wpAnyG_only (i := 14) (o := ?oia14) (by kernel_rfl) ?hia14 hc ?resta14
  case hia14 => (simp only [List.getElem?_toArray, List.getElem?_cons_succ, List.getElem?_cons_zero]; exact rfl)
  clear hc; intro hc K hK; have HK := Lib.hid hK; clear hK
  go_simp
  refine HK.out _ _ (untilS_past trivial (by first | rfl | decide)) ?_
  clear HK K hS; intro hS
  refine wpAnyG_done (by kernel_rfl) ?_ _
  refine HKO.out _ _ ?_
  clear HKO hS hc
  have HB3 := Lib.hid (HRN.out.next HB6.out)
  have HFX := Lib.hid (HB3.out.stored (.bool (decide (n < 0))) (.slice na dn.length nc) (.slice da dd.length dc))
  have HFB : Hid (Below w.heap.size w (((w6.setCell ⟨w.heap.size + 1, 0, none⟩ (.bool (decide (n < 0)))).setCell ⟨w.heap.size + 1, 1, none⟩ (.slice na dn.length nc)).setCell ⟨w.heap.size + 1, 2, none⟩ (.slice da dd.length dc))) := below_box3 (HBV.out.trans (HB6.out.mono HBV.out.size)) (Nat.le_succ _) _ _ _
  have HSN := Lib.hid (sl_box3 HS56.out HB3.out (.bool (decide (n < 0))) (.slice na dn.length nc) (.slice da dd.length dc))
  have HSD := Lib.hid (sl_box3 HS6.out HB3.out (.bool (decide (n < 0))) (.slice na dn.length nc) (.slice da dd.length dc))
  generalize (((w6.setCell ⟨w.heap.size + 1, 0, none⟩ (.bool (decide (n < 0)))).setCell ⟨w.heap.size + 1, 1, none⟩ (.slice na dn.length nc)).setCell ⟨w.heap.size + 1, 2, none⟩ (.slice da dd.length dc)) = WF at *
  obtain ⟨_, q0, q1, q2, _, _, _⟩ := HFX.out
  go_wp2
  refine bodyPost_ret_by (v := .agg #[.bool (decide (n < 0)), .slice na dn.length nc, .slice da dd.length dc]) ?_ rfl ⟨HFB.out, na, nc, da, dc, by rw [hdn, hdd], HSN.out, HSD.out⟩
  rw [results_cell_one' rfl]
  go_simp
set_option maxRecDepth 1000000 in
theorem whole_any (n : Int) (w : World) (hn : -1000000000000000000 ≤ n ∧ n ≤ 1000000000000000000) : Calls Tryz.prog 57 #[.int .i64 n] w (RatPost (decide (n < 0)) n.natAbs 1 w) := by
  have HEX : Hid (∀ W, Calls Tryz.prog 87 #[.agg #[.int .i64 n, .int .i64 1]] W (RatPost (decide (n < 0)) n.natAbs 1 W)) := fun W => exact_any n 1 W hn ⟨by decide, by decide⟩
  obtain ⟨s, hs⟩ : ∃ s, decide (n < 0) = s := ⟨_, rfl⟩
  obtain ⟨N, hN⟩ : ∃ N, n.natAbs = N := ⟨_, rfl⟩
  rw [hs, hN] at HEX ⊢
  clear hs hN hn
  obtain ⟨V, hV⟩ : ∃ V, w.alloc (.cells #[.bool false, .slice none 0 0, .slice none 0 0] 84) = V := ⟨_, rfl⟩
  have HBV : Hid (Below w.heap.size w V) := hV ▸ (Below.refl _ _).alloc (Nat.le_refl _) _
  have HRN : Hid (Bx3 V w.heap.size (.bool false) (.slice none 0 0) (.slice none 0 0)) := hV ▸ Bx3.new w _ _ _ _
  go_enter Tryz.func57, Tryz.ntmps57
  go_wp2_with (go_at_call 87; refine (HEX.out V).mono ?_; rintro e w6 ⟨hb6, na, nc, da, dc, rfl, hs5, hs6⟩; have HB6 := Lib.hid hb6; have HS5 := Lib.hid hs5; have HS6 := Lib.hid hs6; have HB3 := Lib.hid (HRN.out.next hb6); obtain ⟨_, _, _, _, _, _, _⟩ := HB3.out; clear hb6 hs5 hs6)
  have HFX := Lib.hid (HB3.out.stored (.bool s) (.slice na (digs N).length nc) (.slice da (digs 1).length dc))
  have HFB : Hid (Below w.heap.size w (((w6.setCell ⟨w.heap.size, 0, none⟩ (.bool s)).setCell ⟨w.heap.size, 1, none⟩ (.slice na (digs N).length nc)).setCell ⟨w.heap.size, 2, none⟩ (.slice da (digs 1).length dc))) := below_box3 (HBV.out.trans (HB6.out.mono HBV.out.size)) (Nat.le_refl _) _ _ _
  have HSN := Lib.hid (sl_box3 HS5.out HB3.out (.bool s) (.slice na (digs N).length nc) (.slice da (digs 1).length dc))
  have HSD := Lib.hid (sl_box3 HS6.out HB3.out (.bool s) (.slice na (digs N).length nc) (.slice da (digs 1).length dc))
  generalize (((w6.setCell ⟨w.heap.size, 0, none⟩ (.bool s)).setCell ⟨w.heap.size, 1, none⟩ (.slice na (digs N).length nc)).setCell ⟨w.heap.size, 2, none⟩ (.slice da (digs 1).length dc)) = WF at *
  obtain ⟨_, q0, q1, q2, _, _, _⟩ := HFX.out
  refine bodyPost_ret_by (v := .agg #[.bool s, .slice na (digs N).length nc, .slice da (digs 1).length dc]) ?_ rfl ⟨HFB.out, na, nc, da, dc, rfl, HSN.out, HSD.out⟩
  rw [results_cell_one' rfl]
  go_simp
set_option maxRecDepth 1000000 in
set_option maxHeartbeats 1600000 in
theorem timesR_any (n : Int) (s : Bool) (N D : Nat) (na : Option Addr) (nc : Nat) (da : Option Addr) (dc : Nat) (w : World) (hn : -1000000000000000000 ≤ n ∧ n ≤ 1000000000000000000) (hN : (digs N).length ≤ 1000) (hsn : Sl w na (digs N)) (hsd : Sl w da (digs D)) :
    Calls Tryz.prog 86 #[.int .i64 n, .agg #[.bool s, .slice na (digs N).length nc, .slice da (digs D).length dc]] w (RatPost (s != decide (n < 0)) (n.natAbs * N) D w) := by
  have HN : Hid (∀ W, Calls Tryz.prog 123 #[.int .i64 ((n.natAbs : Nat) : Int)] W (NPost n.natAbs W)) := fun W => natOf_any n.natAbs W (by omega)
  have hnl : (digs n.natAbs).length ≤ 1000 := Nat.le_trans (digs_len_le (k := 3) (Nat.lt_of_le_of_lt (show n.natAbs ≤ 1000000000000000000 by omega) (by decide))) (by decide)
  have HT : Hid (∀ (W : World) (x : Option Addr) (cx : Nat), Below w.heap.size w W → Sl W x (digs n.natAbs) → Calls Tryz.prog 119 #[.slice x (digs n.natAbs).length cx, .slice na (digs N).length nc] W (NPost (n.natAbs * N) W)) := fun W x cx h h2 => timesN_any x cx na nc n.natAbs N W hnl hN h2 (hsn.below h)
  have HSD0 := Lib.hid hsd
  obtain ⟨m, hm⟩ : ∃ m, ((n.natAbs : Nat) : Int) = m := ⟨_, rfl⟩
  have wneg : IntKind.i64.wrap (-n) = -n := wrap_id (by omega) (by omega)
  have hmax : max n (-n) = m := by omega
  have hmax2 : (if n < -n then -n else n) = m := by split <;> omega
  rw [hm] at HN
  obtain ⟨q, hq⟩ : ∃ q, decide (n < 0) = q := ⟨_, rfl⟩
  obtain ⟨bq, hbq⟩ : ∃ bq, (s != q) = bq := ⟨_, rfl⟩
  have hbq2 : (!(s == q)) = bq := hbq
  rw [hq, hbq]
  obtain ⟨A, hA0⟩ : ∃ A, n.natAbs = A := ⟨_, rfl⟩
  rw [hA0] at HN HT hm ⊢
  obtain ⟨P, hP⟩ : ∃ P, A * N = P := ⟨_, rfl⟩
  rw [hP] at HT ⊢
  clear hm hA0 hP hn hnl hN hsn hsd
  obtain ⟨V, hV⟩ : ∃ V, (w.alloc (.cells #[.bool s, .slice na (digs N).length nc, .slice da (digs D).length dc] 84)).alloc (.cells #[.bool false, .slice none 0 0, .slice none 0 0] 84) = V := ⟨_, rfl⟩
  have hs1 : (w.alloc (.cells #[.bool s, .slice na (digs N).length nc, .slice da (digs D).length dc] 84)).heap.size = w.heap.size + 1 := World.size_alloc _ _
  have HBV : Hid (Below w.heap.size w V) := hV ▸ ((Below.refl _ _).alloc (Nat.le_refl _) _).alloc (by omega) _
  have hA : Bx3 V w.heap.size (.bool s) (.slice na (digs N).length nc) (.slice da (digs D).length dc) := hV ▸ (Bx3.new w _ _ _ _).next ((Below.refl _ _).alloc (Nat.le_refl _) _)
  have hR : Bx3 V (w.heap.size + 1) (.bool false) (.slice none 0 0) (.slice none 0 0) := by
    have h := Bx3.new (w.alloc (.cells #[.bool s, .slice na (digs N).length nc, .slice da (digs D).length dc] 84)) (.bool false) (.slice none 0 0) (.slice none 0 0) 84
    rw [hs1, hV] at h
    exact h
  have HVW : Hid (∀ W, Below V.heap.size V W → W.cell? ⟨w.heap.size, 0, none⟩ = some (.bool s) ∧ (W.cell? ⟨w.heap.size, 1, none⟩ = some (.slice na (digs N).length nc) ∧ W.cell? ⟨w.heap.size, 2, none⟩ = some (.slice da (digs D).length dc)) ∧ (W.cell? ⟨w.heap.size + 1, 0, none⟩ = some (.bool false) ∧ W.cell? ⟨w.heap.size + 1, 1, none⟩ = some (.slice none 0 0) ∧ W.cell? ⟨w.heap.size + 1, 2, none⟩ = some (.slice none 0 0)) ∧ W.frozen? ⟨w.heap.size + 1, 0, none⟩ = false ∧ W.frozen? ⟨w.heap.size + 1, 1, none⟩ = false ∧ W.frozen? ⟨w.heap.size + 1, 2, none⟩ = false) := fun W h => by
    have a := hA.next h
    have r := hR.next h
    exact ⟨a.c0, ⟨a.c1, a.c2⟩, ⟨r.c0, r.c1, r.c2⟩, r.f0, r.f1, r.f2⟩
  have HRN := Lib.hid hR
  clear hA hR
  go_enter Tryz.func86, Tryz.ntmps86
  go_wp2
  rename_i aK
  have HKO := Lib.hid aK
  clear aK hV hs1
  refine wp_region_G (S := untilS 16 (fun _ => True) (fun W => Below V.heap.size V W)) (by kernel_rfl) (untilS_all ⟨trivial, (Below.refl _ _).drew⟩ _) ?_
  intro hc hS
  refine wpAnyG_take (i := 0) (oi := ?oit0) (v := ?vt0) ?hit0 (by kernel_rfl) (by kernel_rfl) (by kernel_rfl) ?hQt0 (untilS_set (by decide)) hc ?hyt0 hS ?restt0
  case hit0 => (simp only [List.getElem?_toArray, List.getElem?_cons_zero]; exact rfl)
  case hQt0 => exact fun _ _ _ h => h
  case hyt0 => (refine Or.inl ⟨rfl, ?_⟩; (intro w _; go_simp; (try with_reducible rfl)))
  clear hc hS; intro hc hS
  simp only [Act.put, List.setIfInBounds_toArray, List.set_cons_zero, List.set_cons_succ]
  refine wpAnyG_take (i := 1) (oi := ?oit1) (v := ?vt1) ?hit1 (by kernel_rfl) (by kernel_rfl) (by kernel_rfl) ?hQt1 (untilS_set (by decide)) hc ?hyt1 hS ?restt1
  case hit1 => (simp only [List.getElem?_toArray, List.getElem?_cons_succ, List.getElem?_cons_zero]; exact rfl)
  case hQt1 => exact fun _ _ _ h => h
  case hyt1 => (refine Or.inl ⟨rfl, ?_⟩; (rintro w ⟨L, hsd, hL, _, hB⟩; replace hB := hB (hsd.not (i := 1) (by kernel_rfl) hL); obtain ⟨_, _, _, _, _, _⟩ := HVW.out w hB; clear hsd hL hB; go_simp; (try with_reducible rfl)))
  clear hc hS; intro hc hS
  simp only [Act.put, List.setIfInBounds_toArray, List.set_cons_zero, List.set_cons_succ]
  refine wpAnyG_take (i := 2) (oi := ?oit2) (v := ?vt2) ?hit2 (by kernel_rfl) (by kernel_rfl) (by kernel_rfl) ?hQt2 (untilS_set (by decide)) hc ?hyt2 hS ?restt2
  case hit2 => (simp only [List.getElem?_toArray, List.getElem?_cons_succ, List.getElem?_cons_zero]; exact rfl)
  case hQt2 => exact fun _ _ _ h => h
  case hyt2 => (refine Or.inl ⟨rfl, ?_⟩; (intro w _; go_simp; (try with_reducible rfl)))
  clear hc hS; intro hc hS
  simp only [Act.put, List.setIfInBounds_toArray, List.set_cons_zero, List.set_cons_succ]
  refine wpAnyG_take (i := 3) (oi := ?oit3) (v := ?vt3) ?hit3 (by kernel_rfl) (by kernel_rfl) (by kernel_rfl) ?hQt3 (untilS_set (by decide)) hc ?hyt3 hS ?restt3
  case hit3 => (simp only [List.getElem?_toArray, List.getElem?_cons_succ, List.getElem?_cons_zero]; exact rfl)
  case hQt3 => exact fun _ _ _ h => h
  case hyt3 => (refine Or.inl ⟨rfl, ?_⟩; (intro w _; go_simp; (try with_reducible rfl)))
  clear hc hS; intro hc hS
  simp only [Act.put, List.setIfInBounds_toArray, List.set_cons_zero, List.set_cons_succ]
  refine wpAnyG_take (i := 4) (oi := ?oit4) (v := ?vt4) ?hit4 (by kernel_rfl) (by kernel_rfl) (by kernel_rfl) ?hQt4 (untilS_set (by decide)) hc ?hyt4 hS ?restt4
  case hit4 => (simp only [List.getElem?_toArray, List.getElem?_cons_succ, List.getElem?_cons_zero]; exact rfl)
  case hQt4 => exact fun _ _ _ h => h
  case hyt4 => (refine Or.inl ⟨rfl, ?_⟩; (intro w _; go_simp; (try with_reducible rfl)))
  clear hc hS; intro hc hS
  simp only [Act.put, List.setIfInBounds_toArray, List.set_cons_zero, List.set_cons_succ]
  refine wpAnyG_take (i := 5) (oi := ?oit5) (v := ?vt5) ?hit5 (by kernel_rfl) (by kernel_rfl) (by kernel_rfl) ?hQt5 (untilS_set (by decide)) hc ?hyt5 hS ?restt5
  case hit5 => (simp only [List.getElem?_toArray, List.getElem?_cons_succ, List.getElem?_cons_zero]; exact rfl)
  case hQt5 => exact fun _ _ _ h => h
  case hyt5 => (refine Or.inl ⟨rfl, ?_⟩; (intro w _; go_simp; (try with_reducible rfl)))
  clear hc hS; intro hc hS
  simp only [Act.put, List.setIfInBounds_toArray, List.set_cons_zero, List.set_cons_succ]
  refine wpAnyG_take (i := 6) (oi := ?oit6) (v := ?vt6) ?hit6 (by kernel_rfl) (by kernel_rfl) (by kernel_rfl) ?hQt6 (untilS_set (by decide)) hc ?hyt6 hS ?restt6
  case hit6 => (simp only [List.getElem?_toArray, List.getElem?_cons_succ, List.getElem?_cons_zero]; exact rfl)
  case hQt6 => exact fun _ _ _ h => h
  case hyt6 => (refine Or.inl ⟨rfl, ?_⟩; (intro w _; go_simp; (try with_reducible rfl)))
  clear hc hS; intro hc hS
  simp only [Act.put, List.setIfInBounds_toArray, List.set_cons_zero, List.set_cons_succ]
  refine wpAnyG_take (i := 7) (oi := ?oit7) (v := ?vt7) ?hit7 (by kernel_rfl) (by kernel_rfl) (by kernel_rfl) ?hQt7 (untilS_set (by decide)) hc ?hyt7 hS ?restt7
  case hit7 => (simp only [List.getElem?_toArray, List.getElem?_cons_succ, List.getElem?_cons_zero]; exact rfl)
  case hQt7 => exact fun _ _ _ h => h
  case hyt7 => (refine Or.inl ⟨rfl, ?_⟩; (intro w _; go_simp; (try with_reducible rfl)))
  clear hc hS; intro hc hS
  simp only [Act.put, List.setIfInBounds_toArray, List.set_cons_zero, List.set_cons_succ]
  refine wpAnyG_take (i := 8) (oi := ?oit8) (v := ?vt8) ?hit8 (by kernel_rfl) (by kernel_rfl) (by kernel_rfl) ?hQt8 (untilS_set (by decide)) hc ?hyt8 hS ?restt8
  case hit8 => (simp only [List.getElem?_toArray, List.getElem?_cons_succ, List.getElem?_cons_zero]; exact rfl)
  case hQt8 => exact fun _ _ _ h => h
  case hyt8 => (refine Or.inl ⟨rfl, ?_⟩; (intro w _; go_simp; (try with_reducible rfl)))
  clear hc hS; intro hc hS
  simp only [Act.put, List.setIfInBounds_toArray, List.set_cons_zero, List.set_cons_succ]
  refine wpAnyG_take (i := 10) (oi := ?oit10) (v := ?vt10) ?hit10 (by kernel_rfl) (by kernel_rfl) (by kernel_rfl) ?hQt10 (untilS_set (by decide)) hc ?hyt10 hS ?restt10
  case hit10 => (simp only [List.getElem?_toArray, List.getElem?_cons_succ, List.getElem?_cons_zero]; exact rfl)
  case hQt10 => exact fun _ _ _ h => h
  case hyt10 => (refine Or.inl ⟨rfl, ?_⟩; (intro w _; go_simp; (try with_reducible rfl)))
  clear hc hS; intro hc hS
  simp only [Act.put, List.setIfInBounds_toArray, List.set_cons_zero, List.set_cons_succ]
  refine wpAnyG_take (i := 11) (oi := ?oit11) (v := ?vt11) ?hit11 (by kernel_rfl) (by kernel_rfl) (by kernel_rfl) ?hQt11 (untilS_set (by decide)) hc ?hyt11 hS ?restt11
  case hit11 => (simp only [List.getElem?_toArray, List.getElem?_cons_succ, List.getElem?_cons_zero]; exact rfl)
  case hQt11 => exact fun _ _ _ h => h
  case hyt11 => (refine Or.inl ⟨rfl, ?_⟩; (rintro w ⟨L, hsd, hL, _, hB⟩; replace hB := hB (hsd.not (i := 11) (by kernel_rfl) hL); obtain ⟨_, _, _, _, _, _⟩ := HVW.out w hB; clear hsd hL hB; go_simp; (try with_reducible rfl)))
  clear hc hS; intro hc hS
  simp only [Act.put, List.setIfInBounds_toArray, List.set_cons_zero, List.set_cons_succ]
  refine wpAnyG_take (i := 13) (oi := ?oit13) (v := ?vt13) ?hit13 (by kernel_rfl) (by kernel_rfl) (by kernel_rfl) ?hQt13 (untilS_set (by decide)) hc ?hyt13 hS ?restt13
  case hit13 => (simp only [List.getElem?_toArray, List.getElem?_cons_succ, List.getElem?_cons_zero]; exact rfl)
  case hQt13 => exact fun _ _ _ h => h
  case hyt13 => (refine Or.inl ⟨rfl, ?_⟩; (intro w _; go_simp; (try with_reducible rfl)))
  clear hc hS; intro hc hS
  simp only [Act.put, List.setIfInBounds_toArray, List.set_cons_zero, List.set_cons_succ]
  refine wpAnyG_take (i := 14) (oi := ?oit14) (v := ?vt14) ?hit14 (by kernel_rfl) (by kernel_rfl) (by kernel_rfl) ?hQt14 (untilS_set (by decide)) hc ?hyt14 hS ?restt14
  case hit14 => (simp only [List.getElem?_toArray, List.getElem?_cons_succ, List.getElem?_cons_zero]; exact rfl)
  case hQt14 => exact fun _ _ _ h => h
  case hyt14 => (refine Or.inl ⟨rfl, ?_⟩; (rintro w ⟨L, hsd, hL, _, hB⟩; replace hB := hB (hsd.not (i := 14) (by kernel_rfl) hL); obtain ⟨_, _, _, _, _, _⟩ := HVW.out w hB; clear hsd hL hB; go_simp; (try with_reducible rfl)))
  clear hc hS; intro hc hS
  simp only [Act.put, List.setIfInBounds_toArray, List.set_cons_zero, List.set_cons_succ]
  refine wpAnyG_only (i := 9) (o := ?oit9) (by kernel_rfl) ?hit9 hc ?restt9
  case hit9 => (simp only [List.getElem?_toArray, List.getElem?_cons_succ, List.getElem?_cons_zero]; exact rfl)
  clear hc; intro hc K hK; have HK := Lib.hid hK; clear hK
  go_simp
  go_at_call 123
  refine (HN.out _).mono ?_
  rintro e w5 ⟨hb5, xa, xc, rfl, hs5⟩
  have HB5 : Hid (Below V.heap.size V w5) := (Below.refl V.heap.size V).drew.trans (hb5.mono (Below.refl V.heap.size V).drew.size)
  have HS5 := Lib.hid hs5; have HBW5 : Hid (Below w.heap.size w w5) := HBV.out.trans (HB5.out.mono HBV.out.size)
  clear hb5
  refine HK.out _ _ (untilS_all ⟨trivial, HB5.out⟩ _) ?_
  clear HK K hS; intro hS
  refine wpAnyG_only (i := 12) (o := ?oit12) (by kernel_rfl) ?hit12 hc ?restt12
  case hit12 => (simp only [List.getElem?_toArray, List.getElem?_cons_succ, List.getElem?_cons_zero]; exact rfl)
  clear hc; intro hc K hK; have HK := Lib.hid hK; clear hK
  go_simp
  go_at_call 119
  refine (HT.out _ xa xc HBW5.out HS5.out).mono ?_
  rintro e w6 ⟨hb6, pa, pc, rfl, hs6⟩
  have HB6 : Hid (Below V.heap.size V w6) := HB5.out.trans (hb6.mono HB5.out.size)
  have HS6 := Lib.hid hs6
  clear hb6
  refine HK.out _ _ (untilS_all ⟨trivial, HB6.out⟩ _) ?_
  clear HK K hS; intro hS
  refine wpAnyG_take (i := 15) (oi := ?oit15) (v := ?vt15) ?hit15 (by kernel_rfl) (by kernel_rfl) (by kernel_rfl) ?hQt15 (untilS_set (by decide)) hc ?hyt15 hS ?restt15
  case hit15 => (simp only [List.getElem?_toArray, List.getElem?_cons_succ, List.getElem?_cons_zero]; exact rfl)
  case hQt15 => exact fun _ _ _ h => h
  case hyt15 => (refine Or.inl ⟨rfl, ?_⟩; (intro w _; go_simp; (try with_reducible rfl)))
  clear hc hS; intro hc hS
  simp only [Act.put, List.setIfInBounds_toArray, List.set_cons_zero, List.set_cons_succ]
  obtain ⟨_, _, _, _, _, _⟩ := HVW.out w6 HB6.out
  refine wpAnyG_only (i := 16) (o := ?oit16) (by kernel_rfl) ?hit16 hc ?restt16
  case hit16 => (simp only [List.getElem?_toArray, List.getElem?_cons_succ, List.getElem?_cons_zero]; exact rfl)
  clear hc; intro hc K hK; have HK := Lib.hid hK; clear hK
  go_simp
  refine HK.out _ _ (untilS_past trivial (by first | rfl | decide)) ?_
  clear HK K hS; intro hS
  refine wpAnyG_done (by kernel_rfl) ?_ _
  refine HKO.out _ _ ?_
  clear HKO hS hc
  have HB3 := Lib.hid (HRN.out.next HB6.out)
  have HFX := Lib.hid (HB3.out.stored (.bool bq) (.slice pa (digs P).length pc) (.slice da (digs D).length dc))
  have HFB : Hid (Below w.heap.size w (((w6.setCell ⟨w.heap.size + 1, 0, none⟩ (.bool bq)).setCell ⟨w.heap.size + 1, 1, none⟩ (.slice pa (digs P).length pc)).setCell ⟨w.heap.size + 1, 2, none⟩ (.slice da (digs D).length dc))) := below_box3 (HBV.out.trans (HB6.out.mono HBV.out.size)) (Nat.le_succ _) _ _ _
  have HSN := Lib.hid (sl_box3 HS6.out HB3.out (.bool bq) (.slice pa (digs P).length pc) (.slice da (digs D).length dc))
  have HSD := Lib.hid (sl_box3 (HSD0.out.below (HBV.out.trans (HB6.out.mono HBV.out.size))) HB3.out (.bool bq) (.slice pa (digs P).length pc) (.slice da (digs D).length dc))
  generalize (((w6.setCell ⟨w.heap.size + 1, 0, none⟩ (.bool bq)).setCell ⟨w.heap.size + 1, 1, none⟩ (.slice pa (digs P).length pc)).setCell ⟨w.heap.size + 1, 2, none⟩ (.slice da (digs D).length dc)) = WF at *
  obtain ⟨_, q0, q1, q2, _, _, _⟩ := HFX.out
  go_wp2
  refine bodyPost_ret_by (v := .agg #[.bool bq, .slice pa (digs P).length pc, .slice da (digs D).length dc]) ?_ rfl ⟨HFB.out, pa, pc, da, dc, rfl, HSN.out, HSD.out⟩
  rw [results_cell_one' rfl]
  go_simp
end Go.Proofs.YtfnomiingelfaaaGreat
