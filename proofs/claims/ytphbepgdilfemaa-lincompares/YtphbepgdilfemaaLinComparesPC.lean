/- Parts of the proof of LinCompares: plain words, walks and contracts, each under its own heading. -/
import Derived.Test.YtphbepgdilfemaaLinComparesPB
import Derived.Test.YtphbepgdilfemaaLinComparesPA
import Derived.Test.YtphbepgdilfemaaProg
import Derived.BigQuiet
import Derived.Deep.QuietTactic
import Derived.Deep.RegionHeldLaw
/- circuits of layer 3: the contract of what it hands back. -/
namespace Go.Proofs.Ytphbepgdilfemaa
open Go.RowKit Go.Shelf
attribute [local go_sem] Oper.semAt_some

/-- The circuits with at most k pixels. -/
def circsTo (m : List (List Int)) (k : Nat) : List (List Int) := (List.range k).flatMap fun f => ((compl (colsM m) (f + 1) 0).filter (circB m)).map (circH m)
def rankM (m : List (List Int)) : Nat := (redN m (upTo (colsM m))).piv.length
def circsAll (m : List (List Int)) : List (List Int) := circsTo m (rankM m + 1)
theorem circsTo_succ (m : List (List Int)) (k : Nat) : circsTo m (k + 1) = circsTo m k ++ ((compl (colsM m) (k + 1) 0).filter (circB m)).map (circH m) := by
  unfold circsTo; rw [List.range_succ, List.flatMap_append]; simp
theorem circsTo_split (m : List (List Int)) (k n : Nat) (h : k ≤ n) : ∃ post, circsTo m n = circsTo m k ++ post := by
  obtain ⟨d, rfl⟩ : ∃ d, n = k + d := ⟨n - k, by omega⟩
  unfold circsTo
  rw [List.range_add, List.flatMap_append]
  exact ⟨_, rfl⟩
abbrev ownC (x : SetV) : Blk := fun b => b = x.1
/-- What circuits' walk keeps between two sets, and between two values. -/
structure CIn (w0 : World) (B Y l : Nat) (ma : Option Addr) (M mc : Nat) (ms : List Nat) (K : List SetV → Blk → Blk → World → Prop) (pre : List SetV) (C T : Blk) (W : World) : Prop where
  cl : ∃ T2, K pre C T2 W ∧ (∀ b, T b → T2 b) ∧ T2 Y ∧ ∀ D, D ∈ ms → T2 D
  nc : ∀ b, b < w0.heap.size ∨ b = B → ¬ C b
  nt : ∀ b, b < w0.heap.size ∨ b = B ∨ b = Y ∨ b ∈ ms → ¬ T b
  bw : Below w0.heap.size w0 W
  cB : W.cell? ⟨B, 0, none⟩ = some (.slice ma M mc)
  cY : W.cell? ⟨Y, 0, none⟩ = some (.func (.yield l) #[] #[])
  dm : ∀ D, D ∈ ms → W.heap[D]? = some (.deferred (some []))
theorem CIn.client {w0 : World} {B Y l : Nat} {ma : Option Addr} {M mc : Nat} {ms : List Nat} {K : List SetV → Blk → Blk → World → Prop} {β : Type} {q : List β → List SetV → Prop} (hK : Client K) : Client fun (s : List β) C T W => ∃ pre, q s pre ∧ CIn w0 B Y l ma M mc ms K pre C T W where
  lt := by
    rintro s C T W ⟨pre, _, h⟩ b hb
    obtain ⟨T2, hk, h1, _⟩ := h.cl
    exact ⟨(hK.lt hk b hb).1, fun e => (hK.lt hk b hb).2 (h1 b e)⟩
  keep := by
    rintro s C T T' W W' ⟨pre, hq, h⟩ ht hT
    obtain ⟨T2, hk, h1, h2, h3⟩ := h.cl
    have lB := cell_lt h.cB
    have lY := cell_lt h.cY
    have lD : ∀ D, D ∈ ms → D < W.heap.size := fun D hD => (Array.getElem?_eq_some_iff.1 (h.dm D hD)).1
    have hnt : ∀ b, b < w0.heap.size ∨ b = B ∨ b = Y ∨ b ∈ ms → ¬ T' b := by
      intro b hb e
      rcases hT b e with q | q
      · exact h.nt b hb q
      · have := h.bw.size
        rcases hb with hb | rfl | rfl | hb
        · omega
        · dsimp only at lB; omega
        · dsimp only at lY; omega
        · have := lD b hb; omega
    refine ⟨pre, hq, ⟨fun b => T2 b ∨ W.heap.size ≤ b, hK.keep hk (ht.mono fun b _ e => h1 b e) (fun b e => e), fun b e => (hT b e).elim (fun e => .inl (h1 b e)) .inr, .inl h2, fun D hD => .inl (h3 D hD)⟩, h.nc, hnt, h.bw.trans (ht.below h.bw.size fun b hb => h.nt b (.inl hb)), ht.cell h.cB (h.nt _ (by simp)), ht.cell h.cY (h.nt _ (by simp)), fun D hD => (ht.same D (lD D hD) (h.nt D (by simp [hD]))).trans (h.dm D hD)⟩
theorem cin_next {w0 V2 W5 W6 : World} {B Y l M mc bh : Nat} {ma : Option Addr} {ms : List Nat} {J K : List SetV → Blk → Blk → World → Prop} {pre' : List SetV} {h : List Int} {C3 T3 T2 : Blk} (hJ : Client J) (hI : CIn w0 B Y l ma M mc ms J pre' C3 T3 V2)
    (hk : J pre' C3 T2 V2) (h1 : ∀ b, T3 b → T2 b) (h2 : T2 Y) (h3 : ∀ D, D ∈ ms → T2 D) (hb5 : Below V2.heap.size V2 W5) (hbh : V2.heap.size ≤ bh) (hw : Went K ownC pre' (bh, h) C3 (fun b => T2 b ∨ V2.heap.size ≤ b) W5 W6) :
    ∃ C', CIn w0 B Y l ma M mc ms K (pre' ++ [(bh, h)]) C' (fun b => T3 b ∧ b < V2.heap.size) W6 ∧ (∀ b, C' b → C3 b ∨ V2.heap.size ≤ b) ∧ Turned C3 V2 W6 := by
  obtain ⟨C', T', hj6, hT', hC', ht'⟩ := hw
  have s5 := hb5.size
  have lB := cell_lt hI.cB
  have lY := cell_lt hI.cY
  dsimp only at lB lY
  have lD : ∀ D, D ∈ ms → D < V2.heap.size := fun D hD => (Array.getElem?_eq_some_iff.1 (hI.dm D hD)).1
  have lw := hI.bw.size
  have nC : ∀ b, T2 b → ¬ C3 b := fun b hb hc => (hJ.lt hk b hc).2 hb
  have no : ∀ b, b < V2.heap.size → ¬ C3 b → ¬ (C3 b ∨ ownC (bh, h) b) := fun b hb hn e => e.elim hn fun e => by have : b = bh := e; omega
  have t5 : Turned C3 V2 W5 := turned_below hb5
  have hc5 : ∀ {a : Addr} {v : Value}, a.block < V2.heap.size → V2.cell? a = some v → ¬ C3 a.block → W6.cell? a = some v := fun hl hc hn => ht'.cell ((hb5.cell hl).trans hc) (no _ hl hn)
  refine ⟨C', ⟨⟨T', hj6, fun b hb => hT' b (.inl (h1 b hb.1)) (by omega) (fun e => by have : b = bh := e; omega), hT' Y (.inl h2) (by omega) (fun e => by have : Y = bh := e; omega), fun D hD => hT' D (.inl (h3 D hD)) (by have := lD D hD; omega) (fun e => by have : D = bh := e; have := lD D hD; omega)⟩, ?_, fun b hb e => hI.nt b hb e.1, ?_, hc5 lB hI.cB (hI.nc B (.inr rfl)), hc5 lY hI.cY (nC Y h2), ?_⟩, ?_, ?_⟩
  · intro b hb e
    rcases hC' b e with q | q | q
    · exact hI.nc b hb q
    · have q : b = bh := q
      rcases hb with hb | hb <;> omega
    · rcases hb with hb | hb <;> omega
  · refine hI.bw.trans ((hb5.mono lw).trans (ht'.below (by omega) fun b hb => no b (by omega) (hI.nc b (.inl hb))))
  · intro D hD
    have := lD D hD
    exact (ht'.same D (by omega) (no D this (nC D (h3 D hD)))).trans ((hb5.block D this).trans (hI.dm D hD))
  · intro b hb
    rcases hC' b hb with q | q | q
    · exact .inl q
    · have q : b = bh := q
      exact .inr (by omega)
    · exact .inr (by omega)
  · exact t5.trans ht' fun b e => e.elim .inl fun e => .inr (by have : b = bh := e; omega)
theorem leaves_marks2 {F : Fence} {n : Nat} {P : Program} {fn : Func} {tmps : Array Value} {R : Ending → World → Prop} (p : World → Prop) (ms0 : List Nat)
    (hp : ∀ W D, D ∈ ms0 → p W → p (W.putObj D (.deferred none))) (hR : ∀ W, p W → LeavesIn F n P fn tmps R [] .returning W) :
    ∀ (ms : List Nat) (W : World), (∀ D, D ∈ ms → D ∈ ms0) → ms.Nodup → (∀ D, D ∈ ms → W.heap[D]? = some (.deferred (some []))) → p W → LeavesInM F n P fn tmps R (ms.map mark) .returning W := by
  intro ms
  induction ms with
  | nil => intro W _ _ _ h; exact hR W h
  | cons D ms ih =>
    intro W hs hn hd h
    have hn' := List.nodup_cons.1 hn
    refine ⟨by simp, .inl ⟨D, W.putObj D (.deferred none), rfl, run_takeDeferred (hd D (by simp)), ih _ (fun E hE => hs E (by simp [hE])) hn'.2 (fun E hE => ?_) (hp W D (hs D (by simp)) h)⟩⟩
    exact (World.putObj_heap_other (fun e => hn'.1 (by rw [← e]; exact hE))).trans (hd E (by simp [hE]))
/-- At a return: what the caller is told. -/
theorem circ_leaves {fn : Func} {tmps : Array Value} {K J Jx : List SetV → Blk → Blk → World → Prop} {Z : List (List Int)} {pre : List SetV} {C T2 : Blk} {ms : List Nat} {V : World} (hf : fn.results = #[]) (hK : Client K) (hk : K pre C T2 V) (hT : ∀ D, D ∈ ms → T2 D) (hn : ms.Nodup) (hd : ∀ D, D ∈ ms → V.heap[D]? = some (.deferred (some [])))
    (hR : ∀ C T W, K pre C T W → (∃ xs C T, xs.map Prod.snd = Z ∧ J xs C T W) ∨ (∃ pre C T, Jx pre C T W)) :
    LeavesInM Fence.wide 50 Try.prog fn tmps (fun e W' => (∃ v, e = .returned v) ∧ ((∃ xs C T, xs.map Prod.snd = Z ∧ J xs C T W') ∨ (∃ pre C T, Jx pre C T W'))) (ms.map mark) .returning V := by
  refine leaves_marks2 (fun W => ∃ C T, K pre C T W ∧ ∀ D, D ∈ ms → T D) ms ?_ ?_ ms V (fun _ h => h) hn hd ⟨C, T2, hk, hT⟩
  · rintro W D hD ⟨C', T', h1, h2⟩
    exact ⟨C', T', hK.keep h1 (turned_put W _ (h2 D hD)) (fun b e => .inl e), h2⟩
  · rintro W ⟨C', T', h1, _⟩
    exact ⟨_, results_none hf _ _ _, ⟨_, rfl⟩, hR _ _ _ h1⟩
set_option maxRecDepth 100000 in
set_option maxHeartbeats 2000000 in
theorem circuits1_seq {ma : Option Addr} {m : List (List Int)} {mc B : Nat} {w0 w : World} (hv : validM m = true) (hms : Ms w0 ma m) (hw0 : Below w0.heap.size w0 w) (hB : w.cell? ⟨B, 0, none⟩ = some (.slice ma m.length mc)) :
    SeqM Try.prog 151 #[.pointer (some ⟨B, 0, none⟩)] encS MemS ownC Prod.snd (circsAll m) (fun b => b < w0.heap.size ∨ b = B) w := by
  intro l J Jx C T W hW hJ hJx hneed hY h0
  obtain ⟨hm1, hm6, hc1, hc10, hrows⟩ := validM_of hv
  have h64 : Hid (All64 m) := fun q hq x hx => by
    obtain ⟨c, hc, rfl⟩ := mem_gt.1 hx
    have := gt_in (hrows q hq).2 hc
    unfold In64; omega
  have HRL : Hid (∀ r ∈ m, r.length = colsM m) := fun r hr => (hrows r hr).1
  have HM6 := Lib.hid hm6
  have HM1 := Lib.hid hm1
  have HC : Hid (1 ≤ colsM m ∧ colsM m ≤ 10) := ⟨hc1, hc10⟩
  have HMS := Lib.hid hms
  have HV := Lib.hid hv
  have HY := Lib.hid hY
  have H0 := Lib.hid h0
  have HNEED := Lib.hid hneed
  have HW0 : Hid (Below w0.heap.size w0 W) := hw0.trans (hW.mono hw0.size)
  have cB : W.cell? ⟨B, 0, none⟩ = some (.slice ma m.length mc) := (hW.cell (p := ⟨B, 0, none⟩) (cell_lt hB)).trans hB
  clear hms hv hY h0 hneed hw0 hB hW hrows hc1 hc10 hm6
  obtain ⟨V, hV⟩ : ∃ V, W.alloc (.cells #[.func (.yield l) #[] #[]] 47) = V := ⟨_, rfl⟩
  have HB0 : Hid (Below W.heap.size W V) := by rw [← hV]; exact (Below.refl _ _).alloc (Nat.le_refl _) _
  have HVS : Hid (V.heap.size = W.heap.size + 1) := by rw [← hV]; exact World.size_alloc _ _
  have HCY : Hid (V.cell? ⟨W.heap.size, 0, none⟩ = some (.func (.yield l) #[] #[])) := by rw [← hV]; exact alloc_cell _ _ _ _ _ rfl
  have cBV : V.cell? ⟨B, 0, none⟩ = some (.slice ma m.length mc) := (HB0.out.cell (p := ⟨B, 0, none⟩) (cell_lt cB)).trans cB
  have HBV := Lib.hid cBV
  have HBW : Hid (Below w0.heap.size w0 V) := HW0.out.trans (HB0.out.mono HW0.out.size)
  have HLB : Hid (B < W.heap.size) := cell_lt cB
  clear cB
  show Calls _ _ (#[.func (.yield l) #[] #[], .pointer (some ⟨B, 0, none⟩)]) _ _
  refine (callsIn_wide (n := 50)).1 ?_
  refine callsIn_of_wp_marks Try.func151 rfl trivial ?_ rfl
  simp only [Try.ntmps151, List.size_toArray, List.length_cons, List.length_nil, Nat.reduceAdd, Nat.reduceSub, Array.replicate_succ, Array.replicate_zero, List.push_toArray, List.append_toArray, List.nil_append, List.cons_append]
  obtain ⟨rd, hrd⟩ : ∃ rd, redN m (upTo (colsM m)) = rd := ⟨_, rfl⟩
  obtain ⟨rk, hrk⟩ : ∃ rk, rd.piv.length = rk := ⟨_, rfl⟩
  have HRK : Hid (rankM m = rk) := by show _ = _; unfold rankM; rw [hrd, hrk]
  have hrk6 : rk ≤ 6 := by
    have h := (redN_fin HV.out (px := upTo (colsM m)) (fun j hj => upTo_in hj)).pl
    rw [hrd, hrk] at h; have := HM6.out; omega
  have HRD : Hid (Calls Try.prog 79 #[.slice ma m.length mc, .func (.func 80) #[] #[]] V (RdPost rd V)) := by
    rw [← hrd]; exact reduceAll_any HM6 HM1 HC HRL h64 (HMS.out.below HBW.out)
  have HRKD := Lib.hid hrk
  clear hrd hrk
  obtain ⟨rd, hrd⟩ : ∃ rd, redN m (upTo (colsM m)) = rd := ⟨_, rfl⟩
  obtain ⟨rk, hrk⟩ : ∃ rk, rd.piv.length = rk := ⟨_, rfl⟩
  have HRK : Hid (rankM m = rk) := by show _ = _; unfold rankM; rw [hrd, hrk]
  have hrk6 : rk ≤ 6 := by
    have h := (redN_fin HV.out (px := upTo (colsM m)) (fun j hj => upTo_in hj)).pl
    rw [hrd, hrk] at h; have := HM6.out; omega
  have HRD : Hid (Calls Try.prog 79 #[.slice ma m.length mc, .func (.func 80) #[] #[]] V (RdPost rd V)) := by
    rw [← hrd]; exact reduceAll_any HM6 HM1 HC HRL h64 (HMS.out.below HBW.out)
  have HRKD := Lib.hid hrk
  clear hrd hrk
  obtain ⟨rd, hrd⟩ : ∃ rd, redN m (upTo (colsM m)) = rd := ⟨_, rfl⟩
  obtain ⟨rk, hrk⟩ : ∃ rk, rd.piv.length = rk := ⟨_, rfl⟩
  have HRK : Hid (rankM m = rk) := by show _ = _; unfold rankM; rw [hrd, hrk]
  have hrk6 : rk ≤ 6 := by
    have h := (redN_fin HV.out (px := upTo (colsM m)) (fun j hj => upTo_in hj)).pl
    rw [hrd, hrk] at h; have := HM6.out; omega
  have HRD : Hid (Calls Try.prog 79 #[.slice ma m.length mc, .func (.func 80) #[] #[]] V (RdPost rd V)) := by
    rw [← hrd]; exact reduceAll_any HM6 HM1 HC HRL h64 (HMS.out.below HBW.out)
  have HRKD := Lib.hid hrk
  clear hrd hrk
  obtain ⟨rd, hrd⟩ : ∃ rd, redN m (upTo (colsM m)) = rd := ⟨_, rfl⟩
  obtain ⟨rk, hrk⟩ : ∃ rk, rd.piv.length = rk := ⟨_, rfl⟩
  have HRK : Hid (rankM m = rk) := by show _ = _; unfold rankM; rw [hrd, hrk]
  have hrk6 : rk ≤ 6 := by
    have h := (redN_fin HV.out (px := upTo (colsM m)) (fun j hj => upTo_in hj)).pl
    rw [hrd, hrk] at h; have := HM6.out; omega
  have HRD : Hid (Calls Try.prog 79 #[.slice ma m.length mc, .func (.func 80) #[] #[]] V (RdPost rd V)) := by
    rw [← hrd]; exact reduceAll_any HM6 HM1 HC HRL h64 (HMS.out.below HBW.out)
  have HRKD := Lib.hid hrk
  clear hrd hrk
  obtain ⟨rd, hrd⟩ : ∃ rd, redN m (upTo (colsM m)) = rd := ⟨_, rfl⟩
  obtain ⟨rk, hrk⟩ : ∃ rk, rd.piv.length = rk := ⟨_, rfl⟩
  have HRK : Hid (rankM m = rk) := by show _ = _; unfold rankM; rw [hrd, hrk]
  have hrk6 : rk ≤ 6 := by
    have h := (redN_fin HV.out (px := upTo (colsM m)) (fun j hj => upTo_in hj)).pl
    rw [hrd, hrk] at h; have := HM6.out; omega
  have HRD : Hid (Calls Try.prog 79 #[.slice ma m.length mc, .func (.func 80) #[] #[]] V (RdPost rd V)) := by
    rw [← hrd]; exact reduceAll_any HM6 HM1 HC HRL h64 (HMS.out.below HBW.out)
  have HRKD := Lib.hid hrk
  clear hrd hrk
  obtain ⟨rd, hrd⟩ : ∃ rd, redN m (upTo (colsM m)) = rd := ⟨_, rfl⟩
  obtain ⟨rk, hrk⟩ : ∃ rk, rd.piv.length = rk := ⟨_, rfl⟩
  have HRK : Hid (rankM m = rk) := by show _ = _; unfold rankM; rw [hrd, hrk]
  have hrk6 : rk ≤ 6 := by
    have h := (redN_fin HV.out (px := upTo (colsM m)) (fun j hj => upTo_in hj)).pl
    rw [hrd, hrk] at h; have := HM6.out; omega
  have HRD : Hid (Calls Try.prog 79 #[.slice ma m.length mc, .func (.func 80) #[] #[]] V (RdPost rd V)) := by
    rw [← hrd]; exact reduceAll_any HM6 HM1 HC HRL h64 (HMS.out.below HBW.out)
  have HRKD := Lib.hid hrk
  clear hrd hrk
  obtain ⟨rd, hrd⟩ : ∃ rd, redN m (upTo (colsM m)) = rd := ⟨_, rfl⟩
  obtain ⟨rk, hrk⟩ : ∃ rk, rd.piv.length = rk := ⟨_, rfl⟩
  have HRK : Hid (rankM m = rk) := by show _ = _; unfold rankM; rw [hrd, hrk]
  have hrk6 : rk ≤ 6 := by
    have h := (redN_fin HV.out (px := upTo (colsM m)) (fun j hj => upTo_in hj)).pl
    rw [hrd, hrk] at h; have := HM6.out; omega
  have HRD : Hid (Calls Try.prog 79 #[.slice ma m.length mc, .func (.func 80) #[] #[]] V (RdPost rd V)) := by
    rw [← hrd]; exact reduceAll_any HM6 HM1 HC HRL h64 (HMS.out.below HBW.out)
  have HRKD := Lib.hid hrk
  clear hrd hrk
  obtain ⟨rd, hrd⟩ : ∃ rd, redN m (upTo (colsM m)) = rd := ⟨_, rfl⟩
  obtain ⟨rk, hrk⟩ : ∃ rk, rd.piv.length = rk := ⟨_, rfl⟩
  have HRK : Hid (rankM m = rk) := by show _ = _; unfold rankM; rw [hrd, hrk]
  have hrk6 : rk ≤ 6 := by
    have h := (redN_fin HV.out (px := upTo (colsM m)) (fun j hj => upTo_in hj)).pl
    rw [hrd, hrk] at h; have := HM6.out; omega
  have HRD : Hid (Calls Try.prog 79 #[.slice ma m.length mc, .func (.func 80) #[] #[]] V (RdPost rd V)) := by
    rw [← hrd]; exact reduceAll_any HM6 HM1 HC HRL h64 (HMS.out.below HBW.out)
  have HRKD := Lib.hid hrk
  clear hrd hrk
  gi_wp2_with (first | (refine ⟨trivial, ?_⟩; gi_at_call 79; refine (callsIn_wide.2 HRD.out).mono ?_; rintro e w2 ⟨hb2, g, cap, ads, pa2, pc2, rfl, hgg, si, pi⟩; unfold rdV; have HB2 := Lib.hid hb2; clear hb2 si pi hgg) | (refine ⟨trivial, ?_⟩; gi_at_call 81; refine (callsIn_wide.2 (rank_any rd.cols g rd.rows.length cap pa2 rd.piv pc2 rd.dv _)).mono ?_; rintro e w3 ⟨rfl, hb3⟩; have HB3 := Lib.hid hb3; clear hb3; rw [HRKD.out]))
  have HV3 : Hid (Below V.heap.size V w3) := HB2.out.trans (HB3.out.mono HB2.out.size)
  have HW3 : Hid (Below W.heap.size W w3) := HB0.out.trans (HV3.out.mono (by have := HVS.out; omega))
  have HI0 : Hid (∃ pre C, CIn w0 B W.heap.size l ma m.length mc [] J pre C (fun _ => False) w3 ∧ pre.map Prod.snd = circsTo m 0) := by
    refine ⟨[], C, ⟨⟨fun b => T b ∨ W.heap.size ≤ b, hJ.keep H0.out (turned_below HW3.out) (fun b e => e), fun b e => e.elim, .inr (Nat.le_refl _), fun D hD => by cases hD⟩, HNEED.out, fun b _ e => e, HW0.out.trans (HW3.out.mono HW0.out.size), ?_, ?_, fun D hD => by cases hD⟩, rfl⟩
    · exact (HV3.out.cell (p := ⟨B, 0, none⟩) (by have := HLB.out; have := HVS.out; show B < _; omega)).trans HBV.out
    · exact (HV3.out.cell (p := ⟨W.heap.size, 0, none⟩) (by have := HVS.out; show W.heap.size < _; omega)).trans HCY.out
  clear hV cBV
  refine wpIn_loop (fun a' X => ∃ (k : Nat) (ms : List Nat) (u4 u5 u6 u7 u8 u9 u10 u11 u14 u15 u16 u17 u18 u19 u20 u21 u22 u23 u24 u25 u26 u27 u28 u29 u30 u31 u32 u33 u34 u35 u36 u37 : Value), a' = { tmps := #[.func (.yield l) #[] #[], .pointer (some ⟨B, 0, none⟩), .pointer (some ⟨W.heap.size, 0, none⟩), .int .i64 (rk : Int), u4, u5, u6, u7, u8, u9, u10, u11, .int .i64 ((rk : Int) + 1), .int .i64 (k : Int), u14, u15, u16, u17, u18, u19, u20, u21, u22, u23, u24, u25, u26, u27, u28, u29, u30, u31, u32, u33, u34, u35, u36, u37], defers := ms.map mark } ∧ k ≤ rk + 1 ∧ ms.Nodup ∧ ∃ pre C, CIn w0 B W.heap.size l ma m.length mc ms J pre C (fun _ => False) X ∧ pre.map Prod.snd = circsTo m k)
    (fun a' _ => 8 - (intOf (a'.tmps.getD 13 undef)).toNat) ?start ?round
  case start =>
    exact ⟨0, [], _, _, _, _, _, _, _, _, _, _, _, _, _, _, _, _, _, _, _, _, _, _, _, _, _, _, _, _, _, _, _, _, rfl, Nat.zero_le _, List.nodup_nil, HI0.out⟩
  case round =>
    rintro a' X ⟨k, ms, u4, u5, u6, u7, u8, u9, u10, u11, u14, u15, u16, u17, u18, u19, u20, u21, u22, u23, u24, u25, u26, u27, u28, u29, u30, u31, u32, u33, u34, u35, u36, u37, rfl, hk, hnd, pre, C1, hI, hpre⟩
    have HI := Lib.hid hI
    have HPRE := Lib.hid hpre
    have HND := Lib.hid hnd
    clear HI0 hpre hnd
    by_cases hlt : k < rk + 1
    · obtain ⟨n, hn⟩ : ∃ n, colsM m = n := ⟨_, rfl⟩
      have HN := Lib.hid hn
      have hn1 : 1 ≤ n := by rw [← hn]; exact HC.out.1
      have hn10 : n ≤ 10 := by rw [← hn]; exact HC.out.2
      obtain ⟨b1, o1, ai, rr, ci, rfl, hcell, hsl, HR⟩ := HMS.out.at (show 0 < m.length from HM1.out)
      have hrn : rr.length = n := by rw [← hn]; exact HRL.out rr (List.mem_of_getElem? HR.out)
      rw [hrn] at hcell
      have hcX : X.cell? ⟨b1, o1, none⟩ = some (.slice ai n ci) := (hI.bw.cell (p := ⟨b1, o1, none⟩) (cell_lt hcell)).trans hcell
      have hcB := hI.cB
      clear hrn hsl hcell hn hI
      gi_wp2_with (refine ⟨trivial, ?_⟩; gi_at_call 152; refine (callsIn_wide.2 (sets_any (n : Int) ((k : Int) + 1) X)).mono ?_; rintro e w4 ⟨rfl, rfl⟩)
      obtain ⟨V1, hV1⟩ : ∃ V1, (X.alloc (.cells #[.int .i64 (n : Int)] 3)).alloc (.cells #[.int .i64 ((k : Int) + 1)] 3) = V1 := ⟨_, rfl⟩
      have hv1 : V1.heap.size = X.heap.size + 2 := by rw [← hV1, World.size_alloc, World.size_alloc]
      have hcN : V1.cell? ⟨X.heap.size, 0, none⟩ = some (.int .i64 n) := by rw [← hV1]; exact (alloc_old _ _ _ _ (alloc_lt' rfl)).trans (alloc_cell _ _ _ _ _ rfl)
      have hcS : V1.cell? ⟨X.heap.size + 1, 0, none⟩ = some (.int .i64 ((k + 1 : Nat) : Int)) := by rw [← hV1]; exact (two_last _ _ _ _).1
      have hbX : Below X.heap.size X V1 := by rw [← hV1]; exact ((Below.refl _ _).alloc (Nat.le_refl _) _).alloc (by rw [World.size_alloc]; omega) _
      rw [hV1]
      have hC1 : ∀ b, C1 b → b < X.heap.size := by
        obtain ⟨T2, hk2, _⟩ := HI.out.cl
        exact fun b hb => (hJ.lt hk2 b hb).1
      have hI1 : ∃ pre', (pre'.map Prod.snd = circsTo m k ++ ((([] : List SetV).map Prod.snd).filter (circB m)).map (circH m)) ∧ CIn w0 B W.heap.size l (some ⟨b1, o1, none⟩) m.length mc ms J pre' C1 (fun _ => False) V1 :=
        (CIn.client hJ (q := fun (s : List SetV) pre' => pre'.map Prod.snd = circsTo m k ++ ((s.map Prod.snd).filter (circB m)).map (circH m))).keep ⟨pre, by rw [HPRE.out]; simp, HI.out⟩ (turned_below hbX) (fun b e => e.elim)
      have HI1 := Lib.hid hI1
      have HXV := Lib.hid hbX
      have HV1 := Lib.hid hv1
      have HC1 := Lib.hid hC1
      have HK := Lib.hid hlt
      clear hI1 hbX hV1 hcB hcX hC1
      refine wpIn_rangeFunc_M (by omega) (gf := 170) (lb := #[.pointer (some ⟨X.heap.size + 1, 0, none⟩), .pointer (some ⟨X.heap.size, 0, none⟩)]) rfl (enters_of Try.func170 (by kernel_rfl) rfl)
        (sets1_seq n (k + 1) (X.heap.size + 1) X.heap.size (by omega) (by omega) V1 hcS hcN) (Below.refl _ _) (fun _ => rfl) memS_put
        (fun s C T W' => ∃ pre', (pre'.map Prod.snd = circsTo m k ++ ((s.map Prod.snd).filter (circB m)).map (circH m)) ∧ CIn w0 B W.heap.size l (some ⟨b1, o1, none⟩) m.length mc ms J pre' C T W')
        (fun c s C T W' => ∃ pre' : List SetV, c = .ret ∧ CIn w0 B W.heap.size l (some ⟨b1, o1, none⟩) m.length mc ms Jx pre' C T W')
        (CIn.client hJ) (fun c => CIn.client hJx (q := fun _ _ => c = .ret)) C1 (fun _ => False) ?need (fun _ e => e.elim) HI1.out
        (fun x => { tmps := #[.func (.yield l) #[] #[], .pointer (some ⟨B, 0, none⟩), .pointer (some ⟨W.heap.size, 0, none⟩), .int .i64 (rk : Int), .int .i64 (k : Int), .slice (some ⟨x.1, 0, none⟩) x.2.length x.2.length, u6, u7, u8, u9, u10, u11, .int .i64 ((rk : Int) + 1), .int .i64 (k : Int), .bool true, .int .i64 (k : Int), .slice (some ⟨b1, o1, none⟩) m.length mc, .pointer (some ⟨b1, o1, none⟩), .slice ai n ci, .int .i64 (n : Int), .int .i64 (k : Int), .int .i64 ((k : Int) + 1), .func (.func 170) #[] #[.pointer (some ⟨X.heap.size + 1, 0, none⟩), .pointer (some ⟨X.heap.size, 0, none⟩)], .slice (some ⟨x.1, 0, none⟩) x.2.length x.2.length, u24, u25, u26, u27, u28, u29, u30, u31, u32, u33, u34, u35, u36, u37], defers := [] }) ?assign ?body ?done ?stop
      case need =>
        have h1 := HV1.out
        rintro b (rfl | rfl)
        · exact ⟨fun e => by have := HC1.out _ e; omega, by omega⟩
        · exact ⟨fun e => by have := HC1.out _ e; omega, by omega⟩
      case assign =>
        intro l2 x V K hK
        gi_wp2
        exact hK
      case stop =>
        rintro D c pre2 C3 T3 V2 hD ⟨pre', rfl, hI'⟩ hTD hK2
        obtain ⟨T2, q1, q2, q3, q4⟩ := hI'.cl
        have X1 := Lib.hid q1; have X4 := Lib.hid q4
        have XT := Lib.hid (q2 D hTD)
        have XD := Lib.hid hK2
        have XM := Lib.hid hI'.dm
        have hlD : ∀ E, E ∈ ms → E < X.heap.size := fun E hE => (Array.getElem?_eq_some_iff.1 (HI.out.dm E hE)).1
        have XN : Hid ((D :: ms).Nodup) := List.nodup_cons.2 ⟨fun hm => by have := hlD D hm; have := HV1.out; omega, HND.out⟩
        clear q1 q2 q3 q4 hI' hK2 hTD hD hcS hcN hv1 hlD
        gi_wp2
        refine circ_leaves (ms := D :: ms) rfl hJx X1.out ?_ XN.out ?_ (fun C T W h => .inr ⟨_, _, _, h⟩)
        · intro E hE
          rcases List.mem_cons.1 hE with rfl | hE
          · exact XT.out
          · exact X4.out E hE
        · intro E hE
          rcases List.mem_cons.1 hE with rfl | hE
          · exact XD.out
          · exact XM.out E hE
      case done =>
        rintro D ys C3 T3 V2 hD hys ⟨pre', hpre', hI'⟩ hTD hK2
        have hlD : ∀ E, E ∈ ms → E < X.heap.size := fun E hE => (Array.getElem?_eq_some_iff.1 (HI.out.dm E hE)).1
        have XN : Hid ((D :: ms).Nodup) := List.nodup_cons.2 ⟨fun hm => by have := hlD D hm; have := HV1.out; omega, HND.out⟩
        have XP : Hid (pre'.map Prod.snd = circsTo m (k + 1)) := by show _ = _; rw [hpre', hys, circsTo_succ, HN.out]
        have XI : Hid (CIn w0 B W.heap.size l (some ⟨b1, o1, none⟩) m.length mc (D :: ms) J pre' C3 (fun _ => False) V2) := by
          obtain ⟨T2, q1, q2, q3, q4⟩ := hI'.cl
          refine ⟨⟨T2, q1, fun b e => e.elim, q3, fun E hE => ?_⟩, hI'.nc, fun b _ e => e, hI'.bw, hI'.cB, hI'.cY, fun E hE => ?_⟩
          · rcases List.mem_cons.1 hE with rfl | hE
            · exact q2 _ hTD
            · exact q4 E hE
          · rcases List.mem_cons.1 hE with rfl | hE
            · exact hK2
            · exact hI'.dm E hE
        clear hys hpre' hI' hTD hK2 hcS hcN hv1 hlD hD
        gi_wp2
        refine ⟨?_, ?_⟩
        · refine ⟨k + 1, D :: ms, ?_⟩
          (repeat apply Exists.intro)
          refine ⟨?_, by have := HK.out; omega, XN.out, pre', C3, XI.out, XP.out⟩
          simp only [List.map_cons, mark]
          congr 1
        · have := HK.out; simp [intOf]; omega
      case body =>
        rintro l2 pre2 ⟨xb, xs⟩ C3 T3 V2 ⟨pre', hpre', hI'⟩ hmem hown ⟨rest, hrest⟩
        dsimp only at hmem hrest
        have hin : xs ∈ compl n (k + 1) 0 := by rw [hrest]; simp
        obtain ⟨hxl, hxr⟩ := compl_mem hin
        have XPX : Hid (1 ≤ xs.length ∧ xs.length ≤ 10) := by show _ ∧ _; rw [hxl]; have := HK.out; omega
        have XIN : Hid (pxOk m xs) := fun j hj => by have := hxr j hj; rw [HN.out]; omega
        have XSL := Lib.hid (OwnI.sl hmem)
        have XI := Lib.hid hI'
        have XMS : Hid (Ms V2 (some ⟨b1, o1, none⟩) m) := HMS.out.below hI'.bw
        have XP := Lib.hid hpre'
        have XR := Lib.hid hrest
        have hcB2 := hI'.cB
        have HCO : Hid (Calls Try.prog 153 #[.slice (some ⟨b1, o1, none⟩) m.length mc, .slice (some ⟨xb, 0, none⟩) xs.length xs.length] V2 (CPost m xs V2)) := circuitOn_any HV.out XPX.out XIN.out XMS.out XSL.out
        have HNN := Lib.hid HN.out
        clear hmem hrest hin hxl hxr hI' hpre' hown hcS hcN hv1
        dsimp only
        by_cases hcb : circB m xs = true
        case neg =>
          have hcb' : circB m xs = false := by simpa using hcb
          have HCB := Lib.hid hcb'
          clear hcb hcb'
          gi_wp2_with (refine ⟨trivial, ?_⟩; gi_at_call 153; refine (callsIn_wide.2 HCO.out).mono ?_; rintro e W5 ⟨hb5, (⟨-, rfl⟩ | ⟨ht, -⟩)⟩; rotate_left 1; exact absurd ht (by rw [HCB.out]; simp); have HB5 := Lib.hid hb5; clear hb5)
          obtain ⟨q1, q2, q3⟩ := (CIn.client hJ (q := fun (s : List SetV) pre' => pre'.map Prod.snd = circsTo m k ++ ((s.map Prod.snd).filter (circB m)).map (circH m))).keep (pre := pre2) ⟨pre', XP.out, XI.out⟩ (turned_below HB5.out) (fun b e => .inl e)
          have Q1 := Lib.hid q2; have Q3 := Lib.hid q3
          clear q2 q3
          refine ⟨fun _ h => (by cases h), ?_⟩
          gi_wp2
          refine ⟨C3, T3, ⟨q1, ?_, Q3.out⟩, fun b hb _ _ => hb, fun b hb => .inl hb, turned_below HB5.out⟩
          rw [Q1.out, List.map_append, List.filter_append]
          simp [HCB.out]
        case pos =>
          have HCB := Lib.hid hcb
          have HHL : Hid ((circH m xs).length = n) := by show _ = _; rw [← HN.out]; exact putTo_len _ _ _ _
          obtain ⟨T2, q1, q2, q3, q4⟩ := XI.out.cl
          have XPR : Hid (∃ rest2, circsAll m = pre'.map Prod.snd ++ circH m xs :: rest2) := by
            obtain ⟨post, hpost⟩ := circsTo_split m (k + 1) (rk + 1) (by have := HK.out; omega)
            refine ⟨((rest).filter (circB m)).map (circH m) ++ post, ?_⟩
            unfold circsAll
            rw [HRK.out, hpost, circsTo_succ, HN.out, XR.out, XP.out, List.filter_append, List.filter_cons_of_pos HCB.out]
            simp
          have Q1 := Lib.hid q1; have Q2 := Lib.hid q2; have Q3 := Lib.hid q3; have Q4 := Lib.hid q4
          clear hcb q1 q2 q3 q4
          gi_wp2_with (refine ⟨trivial, ?_⟩; gi_at_call 153; refine (callsIn_wide.2 HCO.out).mono ?_; rintro e W5 ⟨hb5, (⟨hff, rfl⟩ | ⟨-, bh, rfl, ho5⟩)⟩; exact absurd HCB.out (by rw [hff]; simp); rw [HN.out] at ho5 ⊢; have hY2 := HY.out pre' (bh, circH m xs) C3 (fun b => T2 b ∨ V2.heap.size ≤ b) W5 (hJ.keep Q1.out (turned_below hb5) (fun b e => e)) (by show OwnI _ _ _ _; dsimp only; rw [HHL.out]; exact ho5.mono (Nat.zero_le _)) (fun b e => by have e : b = bh := e; subst e; exact .inr (OwnI.lt ho5).2) XPR.out 47; obtain ⟨fn, tmps, assign, body, hy1, hR⟩ := hY2; dsimp only [encS] at hy1; rw [HHL.out] at hy1; have HBH := Lib.hid (OwnI.lt ho5).2; have HB5 := Lib.hid hb5; have hcY5 := (hb5.cell (p := ⟨W.heap.size, 0, none⟩) (cell_lt XI.out.cY)).trans XI.out.cY; clear hb5 ho5)
          refine hR.mono ?_
          rintro e W6 (⟨rfl, hw⟩ | ⟨rfl, hw⟩)
          · obtain ⟨C', r1, r2, r3⟩ := cin_next hJ XI.out Q1.out Q2.out Q3.out Q4.out HB5.out HBH.out hw
            have R1 := Lib.hid r1; have R2 := Lib.hid r2; have R3 := Lib.hid r3
            clear r1 r2 r3 hw hR hy1 hcY5 hcB2
            gi_wp2
            refine ⟨C', fun b => T3 b ∧ b < V2.heap.size, ⟨_, ?_, R1.out⟩, fun b hb hl _ => ⟨hb, hl⟩, fun b hb => (R2.out b hb).elim .inl (fun q => .inr (.inr q)), R3.out.mono fun b _ e => .inl e⟩
            rw [List.map_append, XP.out, List.map_append, List.filter_append]
            simp [HCB.out]
          · obtain ⟨C', r1, r2, r3⟩ := cin_next hJ XI.out Q1.out Q2.out Q3.out Q4.out HB5.out HBH.out hw
            have R1 := Lib.hid r1; have R2 := Lib.hid r2; have R3 := Lib.hid r3
            clear r1 r2 r3 hw hR hy1 hcY5 hcB2
            gi_wp2
            exact ⟨C', fun b => T3 b ∧ b < V2.heap.size, ⟨_, rfl, R1.out⟩, fun b hb hl _ => ⟨hb, hl⟩, fun b hb => (R2.out b hb).elim .inl (fun q => .inr (.inr q)), R3.out.mono fun b _ e => .inl e⟩
    · obtain ⟨T2, q1, q2, q3, q4⟩ := hI.cl
      obtain rfl : k = rk + 1 := by omega
      have X1 := Lib.hid q1; have X4 := Lib.hid q4
      have XM := Lib.hid hI.dm
      clear q1 q2 q3 q4 hI
      gi_wp2
      refine circ_leaves (ms := ms) rfl hJ X1.out X4.out HND.out XM.out (fun C T W h => .inl ⟨_, _, _, ?_, h⟩)
      rw [HPRE.out]; unfold circsAll; rw [HRK.out]
end Go.Proofs.Ytphbepgdilfemaa
/- What asks masks and lists for their ranges, in layer 2 and in its answers: contracts. -/
namespace Go.Proofs.Ytphbepgdilfemaa
open Go.RowKit

def allR (lo hi : Int) (xs : List Int) : Bool := xs.all fun x => rangeB x lo hi
theorem allR_sym (lim : Int) (xs : List Int) : allR (-lim) lim xs = allB lim xs := by
  unfold allR allB
  congr 1; funext x
  simp only [rangeB, outB]
  by_cases h1 : -lim ≤ x <;> by_cases h2 : x ≤ lim <;> simp [h1, h2] <;> omega
theorem allR_no {lo hi : Int} {xs : List Int} {k : Nat} {x : Int} (hx : xs[k]? = some x) (ho : rangeB x lo hi = false) : allR lo hi xs = false := by
  unfold allR; rw [List.all_eq_false]
  exact ⟨x, List.mem_of_getElem? hx, by simp [ho]⟩
theorem allR_yes {lo hi : Int} {xs : List Int} (h : ∀ j, j < xs.length → rangeB (xs[j]?.getD 0) lo hi = true) : allR lo hi xs = true := by
  unfold allR; rw [List.all_eq_true]; intro x hx
  obtain ⟨j, hj, rfl⟩ := List.mem_iff_getElem.1 hx
  have := h j hj
  simpa [hj] using this

theorem btw_any (n lo hi : Int) (B C : Nat) (w : World) (c1 : w.cell? ⟨B, 0, none⟩ = some (.int .i64 lo)) (c2 : w.cell? ⟨C, 0, none⟩ = some (.int .i64 hi)) :
    Calls Try.prog 174 #[.int .i64 n, .pointer (some ⟨B, 0, none⟩), .pointer (some ⟨C, 0, none⟩)] w fun e w' => e = .returned (.bool (rangeB n lo hi)) ∧ w = w' := by
  go_enter Try.func174, Try.ntmps174
  go_wp2
  all_goals go_ret
  all_goals exact ⟨ret_bool (by first | (simp [rangeB, *]; done) | (simp [rangeB]; omega)), rfl⟩
theorem between_any (lo hi : Int) (w : World) :
    Calls Try.prog 166 #[.int .i64 lo, .int .i64 hi] w fun e w' => e = .returned (.func (.func 174) #[] #[.pointer (some ⟨w.heap.size, 0, none⟩), .pointer (some ⟨w.heap.size + 1, 0, none⟩)]) ∧
      w'.cell? ⟨w.heap.size, 0, none⟩ = some (.int .i64 lo) ∧ w'.cell? ⟨w.heap.size + 1, 0, none⟩ = some (.int .i64 hi) ∧ Below w.heap.size w w' := by
  go_enter Try.func166, Try.ntmps166
  go_wp2
  go_ret
  exact ⟨by simp, (alloc_old _ _ _ _ (by simp)).trans (alloc_cell _ _ _ _ _ rfl), by simp, ((Below.refl _ _).alloc (Nat.le_refl _) _).alloc (by simp) _⟩
theorem allbtw_any (lo hi : Int) (B C : Nat) (a : Option Addr) (xs : List Int) (cap : Nat) (w : World) (hl : xs.length ≤ 9223372036854775807)
    (c1 : w.cell? ⟨B, 0, none⟩ = some (.int .i64 lo)) (c2 : w.cell? ⟨C, 0, none⟩ = some (.int .i64 hi)) (hs : Sl w a xs) :
    Calls Try.prog 165 #[.slice a xs.length cap, .func (.func 174) #[] #[.pointer (some ⟨B, 0, none⟩), .pointer (some ⟨C, 0, none⟩)]] w fun e w' => e = .returned (.bool (allR lo hi xs)) ∧ w = w' := by
  have HS := Lib.hid hs; clear hs
  go_enter Try.func165, Try.ntmps165
  go_wp2
  go_loop [9] (fun i => ∃ k : Nat, k ≤ xs.length ∧ i = .int .i64 k ∧ ∀ j, j < k → rangeB (xs[j]?.getD 0) lo hi = true) (fun i => xs.length - (intOf i).toNat)
  case atStart => exact ⟨0, Nat.zero_le _, rfl, fun j h => by omega⟩
  case round =>
    obtain ⟨k, hk, rfl, hno⟩ := hrel
    have HN := Lib.hid hno; clear hno
    by_cases hlt : k < xs.length
    · obtain ⟨b, off, x, rfl, hcell, HX⟩ := HS.out.at hlt
      cases ho : rangeB x lo hi
      · go_wp2_with (go_at_call 174; refine (btw_any _ lo hi _ _ _ c1 c2).mono ?_; rintro e w' ⟨rfl, rfl⟩)
        go_ret
        exact ⟨ret_bool (allR_no HX.out ho).symm, rfl⟩
      · go_wp2_with (go_at_call 174; refine (btw_any _ lo hi _ _ _ c1 c2).mono ?_; rintro e w' ⟨rfl, rfl⟩)
        go_round
        case rel => exact ⟨k + 1, by omega, by go_num, fun j hj => by
            by_cases hj' : j = k
            · subst hj'; rw [HX.out]; exact ho
            · exact HN.out j (by omega)⟩
        case measure => simp [intOf]; omega
    · go_wp2
      go_ret
      exact ⟨ret_bool (allR_yes (fun j hj => HN.out j (by omega))).symm, rfl⟩
theorem validRow_any (a : Option Addr) (r : List Int) (cap : Nat) (w : World) (hl : r.length ≤ 9223372036854775807) (hs : Sl w a r) :
    Calls Try.prog 136 #[.slice a r.length cap] w fun e w' => e = .returned (.bool (rowB r)) ∧ Below w.heap.size w w' := by
  have HS := Lib.hid hs; clear hs
  by_cases h1 : 1 ≤ r.length ∧ r.length ≤ 10
  · obtain ⟨h1, h2⟩ := h1
    go_enter Try.func136, Try.ntmps136
    go_wp2_with fail
    refine (between_any (-1) 1 _).mono ?_
    rintro e w1 ⟨rfl, c1, c2, hb⟩
    have HB := Lib.hid hb; clear hb
    go_wp2_with fail
    refine (allbtw_any (-1) 1 _ _ _ _ _ _ hl c1 c2 (HS.out.below HB.out)).mono ?_
    rintro e w2 ⟨rfl, rfl⟩
    go_wp2
    go_ret
    refine ⟨ret_bool ?_, HB.out⟩
    rw [allR_sym 1]
    simp [rowB, rangeB]; omega
  · have HX : Hid (rowB r = false) := by
      show rowB r = false
      simp only [rowB, rangeB]
      by_cases h2 : 1 ≤ r.length
      · have : ¬ ((r.length : Int) ≤ 10) := by omega
        simp [this]
      · have : ¬ (1 ≤ (r.length : Int)) := by omega
        simp [this]
    by_cases h2 : 1 ≤ r.length
    · have h3 : 10 < r.length := by omega
      clear h1
      go_enter Try.func136, Try.ntmps136
      go_wp2
      go_ret
      exact ⟨ret_bool HX.out.symm, Below.refl _ _⟩
    · have h3 : r.length < 1 := by omega
      clear h1 h2
      go_enter Try.func136, Try.ntmps136
      go_wp2
      go_ret
      exact ⟨ret_bool HX.out.symm, Below.refl _ _⟩
theorem fits_any (a : Option Addr) (xs : List Int) (cap : Nat) (n lim : Int) (h0 : 0 ≤ lim) (h1 : lim ≤ 1000000000) (w : World) (hl : xs.length ≤ 9223372036854775807) (hs : Sl w a xs) :
    Calls Try.prog 148 #[.slice a xs.length cap, .int .i64 n, .int .i64 lim] w fun e w' => e = .returned (.int .i64 (fitsV xs n lim)) ∧ Below w.heap.size w w' := by
  have HS := Lib.hid hs; clear hs
  by_cases hn : (xs.length : Int) = n
  · have HN : Hid (fitsV xs n lim = if allB lim xs = true then 0 else 7) := by show fitsV xs n lim = _; unfold fitsV; rw [if_pos hn]
    have hb : ((xs.length : Int) == n) = true := by simpa using hn
    have hb' : ((xs.length : Int) != n) = false := by simpa using hn
    clear hn
    have HV := Lib.hid (allR_sym lim xs)
    go_enter Try.func148, Try.ntmps148
    go_wp2_with fail
    refine (between_any (-lim) lim _).mono ?_
    rintro e w1 ⟨rfl, c1, c2, hb⟩
    have HB := Lib.hid hb; clear hb
    go_wp2_with fail
    refine (allbtw_any (-lim) lim _ _ _ _ _ _ hl c1 c2 (HS.out.below HB.out)).mono ?_
    rintro e w2 ⟨rfl, rfl⟩
    rw [HV.out]
    cases hA : allB lim xs
    · rw [hA] at HN
      have HN' := HN; clear HN hA
      go_wp2
      go_ret
      exact ⟨by rw [HN'.out]; rfl, HB.out⟩
    · rw [hA] at HN
      have HN' := HN; clear HN hA
      go_wp2
      go_ret
      exact ⟨by rw [HN'.out]; rfl, HB.out⟩
  · have HN : Hid (fitsV xs n lim = 9) := by show fitsV xs n lim = _; unfold fitsV; rw [if_neg hn]
    have hb : ((xs.length : Int) == n) = false := by simpa using hn
    have hb' : ((xs.length : Int) != n) = true := by simpa using hn
    clear hn
    go_enter Try.func148, Try.ntmps148
    go_wp2
    go_ret
    exact ⟨by rw [HN.out]; rfl, Below.refl _ _⟩

theorem row0 {w : World} {a : Option Addr} {m : List (List Int)} (h : Ms w a m) (h1 : 1 ≤ m.length) : ∃ b off a0 c0, a = some ⟨b, off, none⟩ ∧ w.cell? ⟨b, off, none⟩ = some (.slice a0 (colsM m) c0) := by
  obtain ⟨b, off, a0, c0, h1, h2, _⟩ := h 0 (by omega)
  exact ⟨b, off, a0, c0, h1, h2⟩
theorem valid1_any (B : Nat) (a : Option Addr) (m : List (List Int)) (cap : Nat) (b : Option Addr) (r : List Int) (c : Nat) (w : World) (hm : 1 ≤ m.length) (hl : r.length ≤ 9223372036854775807)
    (hbox : w.cell? ⟨B, 0, none⟩ = some (.slice a m.length cap)) (hs : Ms w a m) (hr : Sl w b r) :
    Calls Try.prog 135 #[.slice b r.length c, .pointer (some ⟨B, 0, none⟩)] w fun e w' => e = .returned (.bool (decide (r.length = colsM m) && rowB r)) ∧ Below w.heap.size w w' := by
  obtain ⟨b0, o0, a0, c0, rfl, hcell⟩ := row0 hs hm
  have HR := Lib.hid hr; clear hr hs
  by_cases he : r.length = colsM m
  · have e1 : ((r.length : Int) == (colsM m : Int)) = true := by simp [he]
    have HE : Hid (decide (r.length = colsM m) = true) := by show decide (r.length = colsM m) = true; simp [he]
    clear he
    go_enter Try.func135, Try.ntmps135
    go_wp2_with (go_at_call 136; refine (validRow_any b r c _ hl HR.out).mono ?_; rintro e w1 ⟨rfl, hb⟩)
    go_ret
    exact ⟨ret_bool (by rw [HE.out, Bool.true_and]), hb⟩
  · have e1 : ((r.length : Int) == (colsM m : Int)) = false := by simp; omega
    have HE : Hid (decide (r.length = colsM m) = false) := by show decide (r.length = colsM m) = false; simp [he]
    clear he
    go_enter Try.func135, Try.ntmps135
    go_wp2
    go_ret
    exact ⟨ret_bool (by rw [HE.out, Bool.false_and]), Below.refl _ _⟩
theorem allrows_any (B : Nat) (a : Option Addr) (m : List (List Int)) (cap : Nat) (w : World) (hm : MOk m) (h1 : 1 ≤ m.length) (hB : B < w.heap.size)
    (hbox : w.cell? ⟨B, 0, none⟩ = some (.slice a m.length cap)) (hs : Ms w a m) :
    Calls Try.prog 134 #[.slice a m.length cap, .func (.func 135) #[] #[.pointer (some ⟨B, 0, none⟩)]] w fun e w' => e = .returned (.bool (m.all fun r => decide (r.length = colsM m) && rowB r)) ∧ Below w.heap.size w w' := by
  have HS := Lib.hid hs; clear hs
  have HM := Lib.hid hm
  have hml := hm.1
  clear hm
  have HBX := Lib.hid hbox; clear hbox
  go_enter Try.func134, Try.ntmps134
  go_wp2
  go_loopw [9] (fun i wr => ∃ k : Nat, k ≤ m.length ∧ i = .int .i64 k ∧ (∀ j, j < k → (decide ((m[j]?.getD []).length = colsM m) && rowB (m[j]?.getD [])) = true) ∧ Below w.heap.size w wr) (fun i _ => m.length - (intOf i).toNat)
  case atStart => exact ⟨0, Nat.zero_le _, rfl, fun j h => by omega, Below.refl _ _⟩
  case round =>
    obtain ⟨k, hk, rfl, hno, hb⟩ := hrel
    have HN := Lib.hid hno; clear hno
    have HB := Lib.hid hb; clear hb
    by_cases hlt : k < m.length
    · obtain ⟨b, off, ai, r, ci, rfl, hcell, hsl, HX⟩ := (HS.out.below HB.out).at hlt
      have HSL := Lib.hid hsl; clear hsl
      have hrl := (HM.out.row HX.out).1
      have hbx := (HB.out.cell (p := ⟨B, 0, none⟩) hB).trans HBX.out
      cases ho : (decide (r.length = colsM m) && rowB r)
      · have HO := Lib.hid ho; clear ho
        go_wp2_with (go_at_call 135; refine (valid1_any B _ m cap _ _ _ _ h1 hrl hbx (HS.out.below HB.out) HSL.out).mono ?_; rintro e w1 ⟨rfl, hb1⟩; rw [HO.out])
        go_ret
        refine ⟨ret_bool ?_, HB.out.trans (hb1.mono HB.out.size)⟩
        symm; rw [List.all_eq_false]; exact ⟨r, List.mem_of_getElem? HX.out, by rw [HO.out]; simp⟩
      · have HO := Lib.hid ho; clear ho
        go_wp2_with (go_at_call 135; refine (valid1_any B _ m cap _ _ _ _ h1 hrl hbx (HS.out.below HB.out) HSL.out).mono ?_; rintro e w1 ⟨rfl, hb1⟩; rw [HO.out])
        go_roundw
        case rel => exact ⟨k + 1, by omega, by go_num, fun j hj => by
            by_cases hj' : j = k
            · subst hj'; rw [HX.out]; exact HO.out
            · exact HN.out j (by omega), HB.out.trans (hb1.mono HB.out.size)⟩
        case measure => simp [intOf]; omega
    · go_wp2
      go_ret
      refine ⟨ret_bool ?_, HB.out⟩
      symm; rw [List.all_eq_true]; intro r hr
      obtain ⟨i, hi, rfl⟩ := List.mem_iff_getElem.1 hr
      have := HN.out i (by omega)
      simpa [hi] using this
theorem mvalid_any (a : Option Addr) (m : List (List Int)) (cap : Nat) (w : World) (hm : MOk m) (hs : Ms w a m) :
    Calls Try.prog 78 #[.slice a m.length cap] w fun e w' => e = .returned (.bool (validM m)) ∧ Below w.heap.size w w' := by
  have HM := Lib.hid hm
  have hml := hm.1
  clear hm
  have HS := Lib.hid (hs.alloc (.cells #[.slice a m.length cap] 23)); clear hs
  have HX : Hid (validM m = (rangeB m.length 1 6 && m.all fun r => decide (r.length = colsM m) && rowB r)) := Lib.hid rfl
  by_cases h1 : 1 ≤ m.length
  · by_cases h2 : m.length ≤ 6
    · go_enter Try.func78, Try.ntmps78
      go_wp2_with (go_at_call 134; refine (allrows_any w.heap.size a m cap _ HM.out h1 (by simp) (by simp) HS.out).mono ?_; rintro e w1 ⟨rfl, hb⟩)
      go_ret
      refine ⟨ret_bool ?_, ((Below.refl _ _).alloc (Nat.le_refl _) _).trans (hb.mono (by simp))⟩
      rw [HX.out]; simp [rangeB]; omega
    · have h2' : 6 < m.length := by omega
      clear h2
      go_enter Try.func78, Try.ntmps78
      go_wp2
      go_ret
      refine ⟨ret_bool ?_, (Below.refl _ _).alloc (Nat.le_refl _) _⟩
      rw [HX.out]
      have : ¬ ((m.length : Int) ≤ 6) := by omega
      simp [rangeB, this]
  · have h1' : m.length < 1 := by omega
    clear h1
    go_enter Try.func78, Try.ntmps78
    go_wp2
    go_ret
    refine ⟨ret_bool ?_, (Below.refl _ _).alloc (Nat.le_refl _) _⟩
    rw [HX.out]
    have : ¬ (1 ≤ (m.length : Int)) := by omega
    simp [rangeB, this]
end Go.Proofs.Ytphbepgdilfemaa
/- Circuit and Spark of layer 3: contracts. -/
namespace Go.Proofs.Ytphbepgdilfemaa
open Go.RowKit Go.Shelf
attribute [local go_sem] Oper.semAt_some

theorem mok_of {m : List (List Int)} (hv : validM m = true) : MOk m := by
  obtain ⟨hm1, hm6, hc1, hc10, hrows⟩ := validM_of hv
  refine ⟨by omega, fun r hr => ⟨by have := (hrows r hr).1; omega, fun x hx => ?_⟩⟩
  obtain ⟨c, hc, rfl⟩ := mem_gt.1 hx
  have := gt_in (hrows r hr).2 hc
  unfold I64; omega
/-- **circuits(m)**: the function value over the mask's box. -/
theorem circuits_any (a : Option Addr) (M cap : Nat) (w : World) :
    Calls Try.prog 106 #[.slice a M cap] w fun e w' =>
      e = .returned (.func (.func 151) #[] #[.pointer (some ⟨w.heap.size, 0, none⟩)]) ∧ w' = w.alloc (.cells #[.slice a M cap] 23) := by
  go_enter Try.func106, Try.ntmps106
  go_wp2
  go_ret
  exact ⟨rfl, rfl⟩
def circuitV (m : List (List Int)) : List Int × Int := if validM m = true then (match circsAll m with | [] => ([], 8) | h :: _ => (h, 0)) else ([], 1)
/-- Circuit's result cells, and the circuit that was handed over, if one was. -/
structure CirI (w : World) (v : Value) (n : Int) (pre : List SetV) (C T : Blk) (W : World) : Prop where
  r : W.cell? ⟨w.heap.size, 0, none⟩ = some v
  e : W.cell? ⟨w.heap.size + 1, 0, none⟩ = some (.int .i64 n)
  fr : W.frozen? ⟨w.heap.size, 0, none⟩ = false
  fe : W.frozen? ⟨w.heap.size + 1, 0, none⟩ = false
  bw : Below w.heap.size w W
  nt : ∀ b, b < w.heap.size + 2 → ¬ T b
  cc : ∀ b, C b ↔ b = w.heap.size ∨ b = w.heap.size + 1 ∨ ∃ x ∈ pre, b = x.1
  mem : ∀ x ∈ pre, MemS x W ∧ ¬ T x.1 ∧ w.heap.size + 2 ≤ x.1
theorem memS_turned {x : SetV} {T : Blk} {W W' : World} (h : MemS x W) (ht : Turned T W W') (hn : ¬ T x.1) : MemS x W' := OwnI.sameBlock h (ht.same _ (OwnI.lt h).1 hn)
theorem CirI.keep {w : World} {v : Value} {n : Int} {pre : List SetV} {C T T' : Blk} {W W' : World} (h : CirI w v n pre C T W) (ht : Turned T W W') (hT : ∀ b, T' b → T b ∨ W.heap.size ≤ b) : CirI w v n pre C T' W' := by
  have l0 := cell_lt h.r
  have l1 := cell_lt h.e
  dsimp only at l0 l1
  have hnt : ∀ b, b < w.heap.size + 2 → ¬ T' b := fun b hb e => (hT b e).elim (h.nt b hb) (by omega)
  refine ⟨ht.cell h.r (h.nt _ (by show w.heap.size < _; omega)), ht.cell h.e (h.nt _ (by show w.heap.size + 1 < _; omega)), (ht.frozen l0 (h.nt _ (by show w.heap.size < _; omega))).trans h.fr, (ht.frozen l1 (h.nt _ (by show w.heap.size + 1 < _; omega))).trans h.fe, h.bw.trans (ht.below h.bw.size fun b hb => h.nt b (by omega)), hnt, h.cc, fun x hx => ?_⟩
  obtain ⟨m1, m2, m3⟩ := h.mem x hx
  exact ⟨memS_turned m1 ht m2, fun e => (hT _ e).elim m2 (by have := (OwnI.lt m1).1; omega), m3⟩
theorem CirI.client {w : World} {p : List SetV → Value → Prop} {n : Int} : Client fun pre C T W => ∃ v, p pre v ∧ CirI w v n pre C T W where
  lt := by
    rintro pre C T W ⟨v, _, h⟩ b hb
    rcases (h.cc b).1 hb with rfl | rfl | ⟨x, hx, rfl⟩
    · exact ⟨cell_lt h.r, h.nt _ (by omega)⟩
    · exact ⟨cell_lt h.e, h.nt _ (by omega)⟩
    · exact ⟨(OwnI.lt (h.mem x hx).1).1, (h.mem x hx).2.1⟩
  keep := fun ⟨v, hp, h⟩ ht hT => ⟨v, hp, h.keep ht hT⟩
theorem CirI.over {w : World} {v : Value} {n : Int} {C T : Blk} {W : World} (h : CirI w v n [] C T W) (pre : List SetV) (hp : ∀ x ∈ pre, MemS x W ∧ T x.1) (v' : Value) (n' : Int) :
    CirI w v' n' pre (fun b => C b ∨ ∃ x ∈ pre, b = x.1) (fun b => T b ∧ ∀ x ∈ pre, b ≠ x.1) ((W.setCell ⟨w.heap.size, 0, none⟩ v').setCell ⟨w.heap.size + 1, 0, none⟩ (.int .i64 n')) := by
  obtain ⟨c0, c1, f0, f1, bw, nt, cc, -⟩ := h
  have hge : ∀ x ∈ pre, w.heap.size + 2 ≤ x.1 := fun x hx => Nat.le_of_not_lt fun e => nt x.1 e (hp x hx).2
  refine ⟨?_, ?_, ?_, ?_, ?_, fun b hb e => nt b hb e.1, fun b => ?_, fun x hx => ⟨?_, fun e => e.2 x hx rfl, hge x hx⟩⟩
  · exact (cell_other _ _ _ _ (by show w.heap.size ≠ w.heap.size + 1; omega)).trans (World.cell?_setCell_same _ _ _ c0)
  · exact World.cell?_setCell_same _ _ _ ((cell_other _ _ _ _ (by show w.heap.size + 1 ≠ w.heap.size; omega)).trans c1)
  · simpa using f0
  · simpa using f1
  · exact (bw.setCell (p := ⟨w.heap.size, 0, none⟩) (Nat.le_refl _) _).setCell (p := ⟨w.heap.size + 1, 0, none⟩) (Nat.le_succ _) _
  · constructor
    · rintro (e | e)
      · rcases (cc b).1 e with e | e | ⟨x, hx, _⟩
        · exact .inl e
        · exact .inr (.inl e)
        · cases hx
      · exact .inr (.inr e)
    · rintro (e | e | e)
      · exact .inl ((cc b).2 (.inl e))
      · exact .inl ((cc b).2 (.inr (.inl e)))
      · exact .inr e
  · have := hge x hx
    refine OwnI.sameBlock (hp x hx).1 ?_
    exact (Below.heap_setCell _ _ _ _ (by show x.1 ≠ w.heap.size + 1; omega)).trans (Below.heap_setCell _ _ _ _ (by show x.1 ≠ w.heap.size; omega))
/-- What Circuit leaves as it returns. -/
theorem cir_leaves {fn : Func} {tmps : Array Value} {w : World} {v : Value} {n : Int} {pre : List SetV} {C T : Blk} {ms : List Nat} {V : World} {R : Ending → World → Prop}
    (hres : ∀ W : World, W.cell? ⟨w.heap.size, 0, none⟩ = some v → W.cell? ⟨w.heap.size + 1, 0, none⟩ = some (.int .i64 n) → (results fn tmps).run Try.prog W = .ok (.tuple #[v, .int .i64 n]) W)
    (h : CirI w v n pre C T V) (hT : ∀ D, D ∈ ms → T D) (hn : ms.Nodup) (hd : ∀ D, D ∈ ms → V.heap[D]? = some (.deferred (some []))) (hR : ∀ W, CirI w v n pre C T W → R (.returned (.tuple #[v, .int .i64 n])) W) :
    LeavesInM Fence.wide 50 Try.prog fn tmps R (ms.map mark) .returning V := by
  refine leaves_marks2 (fun W => CirI w v n pre C T W) ms ?_ ?_ ms V (fun _ h => h) hn hd h
  · exact fun W D hD hW => hW.keep (turned_put W _ (hT D hD)) fun b e => .inl e
  · exact fun W hW => ⟨_, hres W hW.r hW.e, hR W hW⟩
set_option maxRecDepth 100000 in
set_option maxHeartbeats 2000000 in
theorem circuit_in (a : Option Addr) (m : List (List Int)) (cap : Nat) (w : World) (hm : MOk m) (hs : Ms w a m) :
    CallsIn Fence.wide 50 Try.prog 42 #[.slice a m.length cap] w (LPost (circuitV m) w) := by
  have HM := Lib.hid hm; clear hm
  have HS := Lib.hid hs; clear hs
  obtain ⟨V0, hV0⟩ : ∃ V0, (w.alloc (.cells #[.slice none 0 0] 25)).alloc (.cells #[.int .i64 0] 35) = V0 := ⟨_, rfl⟩
  have hw1 : (w.alloc (.cells #[.slice none 0 0] 25)).heap.size = w.heap.size + 1 := World.size_alloc _ _
  have hB0 : Below w.heap.size w V0 := by rw [← hV0]; exact ((Below.refl _ _).alloc (Nat.le_refl _) _).alloc (by omega) _
  have hsz0 : V0.heap.size = w.heap.size + 2 := by rw [← hV0, World.size_alloc, hw1]
  have c0 : V0.cell? ⟨w.heap.size, 0, none⟩ = some (.slice none 0 0) := by rw [← hV0]; exact (alloc_old _ _ _ _ (by omega)).trans (alloc_cell _ _ _ _ _ rfl)
  have c1 : V0.cell? ⟨w.heap.size + 1, 0, none⟩ = some (.int .i64 0) := by rw [← hV0, ← hw1]; exact alloc_cell _ _ _ _ _ rfl
  have f0 : V0.frozen? ⟨w.heap.size, 0, none⟩ = false := by rw [← hV0]; simp
  have f1 : V0.frozen? ⟨w.heap.size + 1, 0, none⟩ = false := by rw [← hV0]; simp
  have HV : Hid (Calls Try.prog 78 #[.slice a m.length cap] V0 fun e w' => e = .returned (.bool (validM m)) ∧ Below V0.heap.size V0 w') := mvalid_any a m cap V0 HM.out (HS.out.below hB0)
  have HI0 : Hid (CirI w (.slice none 0 0) 0 [] (fun b => b = w.heap.size ∨ b = w.heap.size + 1) (fun _ => False) V0) := ⟨c0, c1, f0, f1, hB0, fun _ _ e => e, fun b => by simp, fun x hx => by cases hx⟩
  have HSZ := Lib.hid hsz0
  clear c0 c1 f0 f1 hB0 hsz0 hw1
  cases hv : validM m
  case false =>
    rw [hv] at HV
    have HC : Hid (circuitV m = ([], 1)) := by show circuitV m = _; simp [circuitV, hv]
    clear hv
    refine callsIn_of_wp_marks Try.func42 rfl trivial ?_ rfl
    simp only [Try.ntmps42, List.size_toArray, List.length_cons, List.length_nil, Nat.reduceAdd, Nat.reduceSub, Array.replicate_succ, Array.replicate_zero, List.push_toArray, List.append_toArray, List.nil_append, List.cons_append]
    gi_wp2_with (refine ⟨trivial, ?_⟩; gi_at_call 78; refine (callsIn_wide.2 HV.out).mono ?_; rintro e w1 ⟨rfl, hb⟩; have hI1 := HI0.out.keep (turned_below hb) (fun b e => .inl e); have HI1 := Lib.hid hI1; obtain ⟨c0, c1, f0, f1, -⟩ := hI1; clear hb)
    rw [HC.out]
    exact cir_leaves (ms := []) (v := .slice none 0 0) (n := 1) (by intro W q0 q1; simp [results, Try.results42, go_sem, q0, q1]) (HI1.out.over [] (fun x hx => by cases hx) _ 1) (fun _ h => by cases h) List.nodup_nil (fun _ h => by cases h) (fun W h => ⟨h.bw, none, 0, rfl, Sl.none _⟩)
  case true =>
    rw [hv] at HV
    have HVV := Lib.hid hv
    have hn1 : 1 ≤ m.length := (validM_of hv).1
    clear hv
    refine callsIn_of_wp_marks Try.func42 rfl trivial ?_ rfl
    simp only [Try.ntmps42, List.size_toArray, List.length_cons, List.length_nil, Nat.reduceAdd, Nat.reduceSub, Array.replicate_succ, Array.replicate_zero, List.push_toArray, List.append_toArray, List.nil_append, List.cons_append]
    gi_wp2_with (first | (refine ⟨trivial, ?_⟩; gi_at_call 78; refine (callsIn_wide.2 HV.out).mono ?_; rintro e w1 ⟨rfl, hb⟩; have HI1 := Lib.hid (HI0.out.keep (turned_below hb) (fun b e => .inl e)); have HZ1 : Hid (w.heap.size + 2 ≤ w1.heap.size) := (by have := hb.size; have := HSZ.out; show _ ≤ _; omega); clear hb) | (refine ⟨trivial, ?_⟩; gi_at_call 106; refine (callsIn_wide.2 (circuits_any a m.length cap w1)).mono ?_; rintro e w2 ⟨rfl, rfl⟩))
    obtain ⟨V1, hV1⟩ : ∃ V1, w1.alloc (.cells #[.slice a m.length cap] 23) = V1 := ⟨_, rfl⟩
    have hBV : Below w1.heap.size w1 V1 := by rw [← hV1]; exact (Below.refl _ _).alloc (Nat.le_refl _) _
    have hcB : V1.cell? ⟨w1.heap.size, 0, none⟩ = some (.slice a m.length cap) := by rw [← hV1]; exact alloc_cell _ _ _ _ _ rfl
    have hvs : V1.heap.size = w1.heap.size + 1 := by rw [← hV1]; exact World.size_alloc _ _
    rw [hV1]
    have HI2 := Lib.hid (HI1.out.keep (turned_below hBV) (fun b e => .inl e))
    have HVS := Lib.hid hvs
    clear hV1 hBV hvs
    refine wpIn_rangeFunc_M (by omega) (gf := 151) (lb := #[.pointer (some ⟨w1.heap.size, 0, none⟩)]) rfl (enters_of Try.func151 (by kernel_rfl) rfl)
      (circuits1_seq (w0 := w) HVV.out HS.out HI2.out.bw hcB) (Below.refl _ _) (fun _ => rfl) memS_put
      (fun pre C T W => ∃ v, (pre = [] ∧ v = .slice none 0 0) ∧ CirI w v 0 pre C T W)
      (fun c pre C T W => ∃ v, (c = .ret ∧ ∃ x, pre = [x] ∧ v = .slice (some ⟨x.1, 0, none⟩) x.2.length x.2.length ∧ ∃ rest, circsAll m = x.2 :: rest) ∧ CirI w v 0 pre C T W)
      (CirI.client (p := fun pre v => pre = [] ∧ v = .slice none 0 0)) (fun c => CirI.client (p := fun pre v => c = .ret ∧ ∃ x, pre = [x] ∧ v = .slice (some ⟨x.1, 0, none⟩) x.2.length x.2.length ∧ ∃ rest, circsAll m = x.2 :: rest)) (fun b => b = w.heap.size ∨ b = w.heap.size + 1) (fun _ => False) ?need (fun _ e => e.elim) ⟨_, ⟨rfl, rfl⟩, HI2.out⟩
      (fun x => { tmps := #[.slice a m.length cap, undef, .pointer (some ⟨w.heap.size, 0, none⟩), .pointer (some ⟨w.heap.size + 1, 0, none⟩), .slice (some ⟨x.1, 0, none⟩) x.2.length x.2.length, .slice a m.length cap, .bool true, .bool false, .slice a m.length cap, .func (.func 151) #[] #[.pointer (some ⟨w1.heap.size, 0, none⟩)], .slice (some ⟨x.1, 0, none⟩) x.2.length x.2.length, undef], defers := [] }) ?assign ?body ?done ?stop
    case need =>
      have h1 := HZ1.out
      have h2 := HVS.out
      rintro b (h | rfl)
      · exact ⟨by rintro (e | e) <;> omega, by omega⟩
      · exact ⟨by rintro (e | e) <;> omega, by omega⟩
    case assign =>
      intro l2 x V K hK
      gi_wp2
      exact hK
    case body =>
      rintro l2 pre ⟨xb, xs⟩ C T V ⟨v, ⟨rfl, rfl⟩, hI⟩ hmem hown ⟨rest, hrest⟩
      have HI := Lib.hid hI
      have HX := Lib.hid (hI.over [(xb, xs)] (fun x hx => (by obtain rfl : x = (xb, xs) := List.mem_singleton.1 hx; exact ⟨hmem, hown xb rfl⟩)) (.slice (some ⟨xb, 0, none⟩) xs.length xs.length) 0)
      have HR : Hid (circsAll m = xs :: rest) := hrest
      have HT := Lib.hid (hown xb rfl)
      obtain ⟨c0, c1, f0, f1, -⟩ := hI
      clear hmem hown hrest hcB
      dsimp only
      gi_wp2
      refine ⟨_, _, ⟨_, ⟨rfl, (xb, xs), rfl, rfl, rest, HR.out⟩, HX.out⟩, ?_, ?_, ?_⟩
      · rintro b hb hl hn
        exact ⟨hb, fun x hx => (by obtain rfl : x = (xb, xs) := List.mem_singleton.1 hx; exact hn)⟩
      · rintro b (e | ⟨x, hx, rfl⟩)
        · exact .inl e
        · obtain rfl : x = (xb, xs) := List.mem_singleton.1 hx
          exact .inr (.inl rfl)
      · exact (turned_set V _ (.inl ((HI.out.cc _).2 (.inl rfl)))).trans (turned_set _ _ (.inl ((HI.out.cc _).2 (.inr (.inl rfl))))) fun b e => .inl e
    case done =>
      rintro D ys C T V hD hys ⟨v, ⟨rfl, rfl⟩, hI⟩ hTD hK
      have HI := Lib.hid hI
      have HC : Hid (circuitV m = ([], 8)) := by show circuitV m = _; unfold circuitV; rw [if_pos HVV.out, ← hys]; rfl
      have HX := Lib.hid (hI.over [] (fun x hx => by cases hx) (.slice none 0 0) 8)
      have HT := Lib.hid hTD
      have HK := Lib.hid ((Below.heap_setCell (V.setCell ⟨w.heap.size, 0, none⟩ (.slice none 0 0)) ⟨w.heap.size + 1, 0, none⟩ (.int .i64 8) D (fun e => hI.nt D (by have e : D = w.heap.size + 1 := e; omega) hTD)).trans ((Below.heap_setCell V ⟨w.heap.size, 0, none⟩ (.slice none 0 0) D (fun e => hI.nt D (by have e : D = w.heap.size := e; omega) hTD)).trans hK))
      obtain ⟨c0, c1, f0, f1, -⟩ := hI
      clear hys hTD hK hcB hD
      gi_wp2
      rw [HC.out]
      refine cir_leaves (ms := [D]) (v := .slice none 0 0) (n := 8) (by intro W q0 q1; simp [results, Try.results42, go_sem, q0, q1]) HX.out (fun E hE => ?_) (by simp) (fun E hE => ?_) (fun W h => ⟨h.bw, none, 0, rfl, Sl.none _⟩)
      · obtain rfl : E = D := by simpa using hE
        exact ⟨HT.out, fun x hx => by cases hx⟩
      · obtain rfl : E = D := by simpa using hE
        exact HK.out
    case stop =>
      rintro D c pre C T V hD ⟨v, ⟨rfl, x, rfl, rfl, rest, hrest⟩, hI⟩ hTD hK
      have HI := Lib.hid hI
      have HC : Hid (circuitV m = (x.2, 0)) := by show circuitV m = _; unfold circuitV; rw [if_pos HVV.out, hrest]
      have HT := Lib.hid hTD
      have HK := Lib.hid hK
      clear hrest hTD hK hcB hD hI
      gi_wp2
      rw [HC.out]
      refine cir_leaves (ms := [D]) (v := .slice (some ⟨x.1, 0, none⟩) x.2.length x.2.length) (n := 0) (by intro W q0 q1; simp [results, Try.results42, go_sem, q0, q1]) HI.out (fun E hE => ?_) (by simp) (fun E hE => ?_) (fun W h => ⟨h.bw, _, _, rfl, (h.mem x (by simp)).1.sl⟩)
      · obtain rfl : E = D := by simpa using hE
        exact HT.out
      · obtain rfl : E = D := by simpa using hE
        exact HK.out
/-- **Circuit**: the first circuit, or the error. -/
theorem circuit_any (a : Option Addr) (m : List (List Int)) (cap : Nat) (w : World) (hm : MOk m) (hs : Ms w a m) : Calls Try.prog 42 #[.slice a m.length cap] w (LPost (circuitV m) w) := callsIn_wide.1 (circuit_in a m cap w hm hs)
end Go.Proofs.Ytphbepgdilfemaa
/- Spark of layer 3: a contract. -/
namespace Go.Proofs.Ytphbepgdilfemaa
open Go.RowKit

/-- How many of the first k numbers are not 0. -/
def nzTo (xs : List Int) : Nat → Int
  | 0 => 0
  | k + 1 => if gt xs k = 0 then nzTo xs k else nzTo xs k + 1
theorem nzTo_in (xs : List Int) : ∀ k, 0 ≤ nzTo xs k ∧ nzTo xs k ≤ k
  | 0 => by simp [nzTo]
  | k + 1 => by have := nzTo_in xs k; unfold nzTo; split <;> omega
def sparkV (m : List (List Int)) : Int × Int := if (circuitV m).2 = 0 then (nzTo (circuitV m).1 (circuitV m).1.length, 0) else (0, (circuitV m).2)
theorem circH_len (m : List (List Int)) (px : List Int) : (circH m px).length = colsM m := putTo_len _ _ _ _
theorem circsAll_len {m : List (List Int)} {h : List Int} (hh : h ∈ circsAll m) : h.length = colsM m := by
  unfold circsAll circsTo at hh
  obtain ⟨f, _, h2⟩ := List.mem_flatMap.1 hh
  obtain ⟨px, _, rfl⟩ := List.mem_map.1 h2
  exact circH_len m px
theorem circuitV_len {m : List (List Int)} : (circuitV m).1.length ≤ 10 := by
  unfold circuitV
  split
  · rename_i hv
    split
    · exact Nat.zero_le _
    · rename_i h t e
      show h.length ≤ 10
      rw [circsAll_len (m := m) (by rw [e]; simp)]
      exact (validM_of hv).2.2.2.1
  · exact Nat.zero_le _
set_option maxRecDepth 100000 in
set_option maxHeartbeats 800000 in
theorem spark_any (a : Option Addr) (m : List (List Int)) (cap : Nat) (w : World) (hm : MOk m) (hs : Ms w a m) :
    Calls Try.prog 40 #[.slice a m.length cap] w fun e w' => e = .returned (.tuple #[.int .i64 (sparkV m).1, .int .i64 (sparkV m).2]) ∧ Below w.heap.size w w' := by
  have HCI : Hid (Calls Try.prog 42 #[.slice a m.length cap] w (LPost (circuitV m) w)) := circuit_any a m cap w hm hs
  have HL := Lib.hid (circuitV_len (m := m))
  have HSP : Hid (sparkV m = if (circuitV m).2 = 0 then (nzTo (circuitV m).1 (circuitV m).1.length, 0) else (0, (circuitV m).2)) := rfl
  clear hm hs
  obtain ⟨⟨h, e0⟩, hr⟩ : ∃ r, circuitV m = r := ⟨_, rfl⟩
  rw [hr] at HCI HL HSP
  dsimp only at HL HSP
  clear hr
  by_cases he : e0 = 0
  · subst he
    rw [if_pos rfl] at HSP
    rw [HSP.out]
    dsimp only
    clear HSP
    go_enter Try.func40, Try.ntmps40
    go_wp2_with (go_at_call 42; refine HCI.out.mono ?_; rintro e w1 ⟨hb1, ah, ch, rfl, hsl⟩; dsimp only at hsl ⊢; have HB := Lib.hid hb1; have HS := Lib.hid hsl; clear hb1 hsl)
    go_loopw [6, 19] (fun v i wr => ∃ k : Nat, k ≤ h.length ∧ i = .int .i64 k ∧ v = .int .i64 (nzTo h k) ∧ wr = w1) (fun _ i _ => h.length - (intOf i).toNat)
    case atStart => exact ⟨0, Nat.zero_le _, rfl, rfl, rfl⟩
    case round =>
      obtain ⟨k, hk, rfl, rfl, rfl⟩ := hrel
      have hl := HL.out
      by_cases hlt : k < h.length
      · obtain ⟨b, o, x, rfl, hc, hx⟩ := HS.out.at hlt
        have hgx := gt_some' hx.out
        have hin := nzTo_in h k
        by_cases h0 : x = 0
        · subst h0
          have HT : Hid (nzTo h (k + 1) = nzTo h k) := by show _ = _; rw [nzTo, if_pos hgx]
          clear hgx
          go_wp2
          go_roundw
          case rel => exact ⟨k + 1, by omega, by go_num, by rw [HT.out], by first | trivial | rfl⟩
          case measure => simp [intOf]; omega
        · have HT : Hid (nzTo h (k + 1) = nzTo h k + 1) := by show _ = _; rw [nzTo, if_neg (by rw [hgx]; exact h0)]
          clear hgx
          have hne : (x != 0) = true := by simpa using h0
          obtain ⟨n, hn⟩ : ∃ n, nzTo h k = n := ⟨_, rfl⟩
          rw [hn] at hin HT ⊢
          clear hn
          go_wp2
          go_roundw
          case rel => exact ⟨k + 1, by omega, by go_num, by rw [HT.out], by first | trivial | rfl⟩
          case measure => simp [intOf]; omega
      · obtain rfl : k = h.length := by omega
        go_wp2
        go_ret2
        exact ⟨rfl, HB.out⟩
  · rw [if_neg he] at HSP
    rw [HSP.out]
    dsimp only
    have hne : (e0 != 0) = true := by simpa using he
    clear HSP he
    go_enter Try.func40, Try.ntmps40
    go_wp2_with (go_at_call 42; refine HCI.out.mono ?_; rintro e w1 ⟨hb1, ah, ch, rfl, hsl⟩; dsimp only; have HB := Lib.hid hb1; clear hb1 hsl)
    go_ret2
    exact ⟨rfl, HB.out⟩
end Go.Proofs.Ytphbepgdilfemaa
/- Kernel of layer 3: a contract. -/
namespace Go.Proofs.Ytphbepgdilfemaa
open Go.RowKit

/-- One row appended, operation by operation. -/
theorem wpList_pushRow {ops : Array Oper} {rest : List Oper} {o : Oper} {act : Act} {Q : Exit → Act → World → Prop} (hgd : o.guard = none) (s x : Operand)
    (ho : o.op = .call { callee := .builtin .append, args := #[s, x], argTypes := #[22, 22] }) (base : Nat) (rv : Value) (ads : List (Nat × Nat)) (M : List (List Int)) (row : List Int) (rl : Nat) (hrl : row.length = rl) (nb nc : Nat) (V : World) (t : TypeId) (A : Nat)
    (hv : act.eval s = rv) (hx : act.eval x = .slice (some ⟨A, 0, none⟩) 1 1) (hA : A = V.heap.size) (hown : RS base rv ads M V) (hrow : OwnI V base (.slice (some ⟨nb, 0, none⟩) row.length nc) row)
    (hap : ∀ (i : Nat) (x : Nat × Nat), ads[i]? = some x → x.1 ≠ nb) (hne : rv.ownBlock ≠ some nb) (hl : M.length ≤ 100000) (hbase : base ≤ V.heap.size)
    (h : ∀ g cap w', RS base (.slice (some ⟨g, 0, none⟩) (M.length + 1) cap) (ads ++ [(nb, nc)]) (M ++ [row]) w' → Below base V w' → wpList Try.prog ops Q rest (act.put o.dst (.slice (some ⟨g, 0, none⟩) (M.length + 1) cap)) w') : wpList Try.prog ops Q (o :: rest) act (V.alloc (.cells #[.slice (some ⟨nb, 0, none⟩) rl nc] t)) := by
  subst hrl
  obtain ⟨i0, hi, hz0, hz1, hz2⟩ := info_parts Try.infoRowL
  subst hA
  have hb1 : Below V.heap.size V (V.alloc (.cells #[.slice (some ⟨nb, 0, none⟩) row.length nc] t)) := (Below.refl _ _).alloc (Nat.le_refl _) _
  have hown' := hown.below hb1
  refine wpList_append_lies _ hgd s x 22 ho base 25 i0 (.slice none 0 0) 1 24 Try.underlying22 hi hz0 hz1 hz2 rfl (by decide) rv M.length (hdrs ads M) hv hown'.own ⟨V.heap.size, 0, none⟩ 1 1 [.slice (some ⟨nb, 0, none⟩) row.length nc] hx rfl ?_ ?_ (by decide) (by unfold maxLen; omega) (by omega) (by rw [World.size_alloc]; omega) _ rfl ?_
  · intro j u hj
    match j, hj with
    | 0, hj =>
      simp at hj; subst hj
      rw [addr_add]; exact alloc_cell _ _ _ _ _ rfl
    | j + 1, hj => simp at hj
  · intro u hu; simp at hu; subst hu; rfl
  · intro g cap w' h1 h2 h3 _
    exact h g cap w' (hown'.push (hrow.below hb1) hap hne h1 h2 h3) (((Below.refl base V).alloc hbase _).grown h2 (by rw [World.size_alloc]; omega) (fun k e => (World.ownsRow.lt hown.own k e).1))
theorem RS.nil (base : Nat) (w : World) : RS base (.slice none 0 0) [] [] w := ⟨rfl, World.ownsRow_nil _ _ _ _, fun i x r e _ => by simp at e, fun i j x y e _ _ => by simp at e, fun i x e => by simp at e⟩
/-- What rows that were appended read as. -/
theorem RS.ms {base : Nat} {rv : Value} {ads : List (Nat × Nat)} {M : List (List Int)} {w : World} (h : RS base rv ads M w) : ∃ a cap, rv = .slice a M.length cap ∧ Ms w a M := by
  obtain ⟨hx, ⟨e, h0⟩ | ⟨g, cap, cur, e, hg, hb, hn, hm, hsz, ht⟩⟩ := h.own
  · have : M = [] := List.eq_nil_of_length_eq_zero h0
    subst this
    exact ⟨none, 0, e, fun i hi => by simp at hi⟩
  · refine ⟨some ⟨g, 0, none⟩, cap, e, fun i hi => ?_⟩
    have e1 : ads[i]? = some (ads[i]'(by rw [h.len]; exact hi)) := by simp [h.len, hi]
    have e2 : M[i]? = some M[i] := by simp [hi]
    have ho := h.own
    rw [e] at ho
    have hc := ho.cellAt i (by rw [Nat.mul_one]; exact hi)
    rw [hdrs_at e1 e2] at hc
    rw [e2]
    exact ⟨g, 0, _, _, rfl, by rw [Nat.zero_add]; exact hc, (h.row i _ _ e1 e2).sl⟩
/-- What a function that returns lists and an error returns. -/
def LLPost (r : List (List Int) × Int) (w : World) (e : Ending) (w' : World) : Prop := Below w.heap.size w w' ∧ ∃ a cap, e = .returned (.tuple #[.slice a r.1.length cap, .int .i64 r.2]) ∧ Ms w' a r.1
/-- The kernel's basis. -/
def basisM (m : List (List Int)) : List (List Int) := (freeTo (redN m (upTo (colsM m))).piv (colsM m)).map fun c => shortL (kvec (redN m (upTo (colsM m))) (colsM m) c.toNat)
def kernelV (m : List (List Int)) : List (List Int) × Int := if validM m = true then (basisM m, 0) else ([], 1)
set_option maxRecDepth 100000 in
set_option maxHeartbeats 1600000 in
theorem kernel_all (a : Option Addr) (m : List (List Int)) (cap : Nat) (w : World) (hm : MOk m) (hs : Ms w a m) : Calls Try.prog 30 #[.slice a m.length cap] w (LLPost (kernelV m) w) := by
  have HVA : Hid (Calls Try.prog 78 #[.slice a m.length cap] w fun e w' => e = .returned (.bool (validM m)) ∧ Below w.heap.size w w') := mvalid_any a m cap w hm hs
  have HS := Lib.hid hs
  clear hm hs
  cases hv : validM m
  case false =>
    rw [hv] at HVA
    have HK : Hid (kernelV m = ([], 1)) := by show _ = _; simp [kernelV, hv]
    clear hv
    go_enter Try.func30, Try.ntmps30
    go_wp2_with (go_at_call 78; refine HVA.out.mono ?_; rintro e w1 ⟨rfl, hb⟩; have HB := Lib.hid hb; clear hb)
    go_ret2
    rw [HK.out]
    exact ⟨HB.out, none, 0, rfl, fun i hi => by simp at hi⟩
  case true =>
    rw [hv] at HVA
    have HV := Lib.hid hv
    have HK : Hid (kernelV m = (basisM m, 0)) := by show _ = _; simp [kernelV, hv]
    obtain ⟨hm1, hm6, hc1, hc10, hrows⟩ := validM_of hv
    have h64 : Hid (All64 m) := fun q hq x hx => by
      obtain ⟨c, hc, rfl⟩ := mem_gt.1 hx
      have := gt_in (hrows q hq).2 hc
      unfold In64; omega
    have HRL : Hid (∀ r ∈ m, r.length = colsM m) := fun r hr => (hrows r hr).1
    have HM6 := Lib.hid hm6
    have HM1 := Lib.hid hm1
    have HC : Hid (1 ≤ colsM m ∧ colsM m ≤ 10) := ⟨hc1, hc10⟩
    have HF := Lib.hid (redN_fin hv (px := upTo (colsM m)) (fun j hj => upTo_in hj))
    have HRA : Hid (∀ w1 : World, Below w.heap.size w w1 → Calls Try.prog 79 #[.slice a m.length cap, .func (.func 80) #[] #[]] w1 (RdPost (redN m (upTo (colsM m))) w1)) := fun w1 hb => reduceAll_any HM6 HM1 HC HRL h64 (HS.out.below hb)
    have HCO : Hid ((redN m (upTo (colsM m))).cols = colsM m) := by show _ = _; rw [redN_cols, upTo_len]
    have HBA : Hid (basisM m = (freeTo (redN m (upTo (colsM m))).piv (colsM m)).map fun c => shortL (kvec (redN m (upTo (colsM m))) (colsM m) c.toNat)) := rfl
    clear hv hm1 hm6 hc1 hc10 hrows
    rw [upTo_len] at HF
    obtain ⟨rd, hrd⟩ : ∃ rd, redN m (upTo (colsM m)) = rd := ⟨_, rfl⟩
    rw [hrd] at HF HRA HCO HBA
    obtain ⟨n, hn⟩ : ∃ n, colsM m = n := ⟨_, rfl⟩
    rw [hn] at HF HCO HBA HC
    have HNN := Lib.hid hn
    clear hrd hn
    obtain ⟨cols, rows, piv, dv⟩ := rd
    have hcols : cols = n := HCO.out
    subst hcols
    obtain ⟨fz, hfz⟩ : ∃ fz, freeTo piv cols = fz := ⟨_, rfl⟩
    dsimp only at HBA
    rw [hfz] at HBA
    have HFM : Hid (∀ c, c ∈ fz ↔ ∃ j : Nat, j < cols ∧ c = (j : Int) ∧ (j : Int) ∉ piv) := fun c => by rw [← hfz]; exact freeTo_mem piv cols c
    have HFZ := Lib.hid hfz
    have HFL : Hid (fz.length ≤ 10) := by have h1 := freeTo_len piv cols; rw [hfz] at h1; have := HC.out.2; show _ ≤ _; omega
    clear hfz
    have HRLEN : Hid (rows.length = m.length) := HF.out.len
    have HPL : Hid (piv.length ≤ m.length) := HF.out.pl
    go_enter Try.func30, Try.ntmps30
    go_wp2_with (first | (go_at_call 78; refine HVA.out.mono ?_; rintro e w1 ⟨rfl, hb⟩; have HB := Lib.hid hb; clear hb) | (go_at_call 79; refine (HRA.out w1 HB.out).mono ?_; rintro e w2 ⟨hb2, g, cp, ads, pa2, pc2, rfl, hgg, si, pi⟩; unfold rdV; dsimp only at si pi ⊢; have HB2 := Lib.hid (HB.out.trans (hb2.mono HB.out.size)); have HSI := Lib.hid si; have HPI := Lib.hid (OwnI.sl pi); clear si pi hgg hb2) | (go_at_call 93; refine (free_any cols g rows.length cp pa2 piv pc2 dv _ (by have := HC.out.2; omega) (by have := HPL.out; have := HM6.out; omega) (HPI.out.below ((Below.refl _ _).alloc (Nat.le_refl _) _))).mono ?_; rintro e w3 ⟨hb3, fa, fk, rfl, hsf⟩; rw [HFZ.out] at hsf ⊢; have HB3 := Lib.hid hb3; have HSF := Lib.hid hsf; clear hb3 hsf))
    have hbx : Below w2.heap.size w2 w3 := ((Below.refl _ _).alloc (Nat.le_refl _) _).trans (HB3.out.mono (by rw [World.size_alloc]; omega))
    have hsz : (w2.alloc (.cells #[.int .i64 (cols : Int), .slice (some ⟨g, 0, none⟩) rows.length cp, .slice pa2 piv.length pc2, .int .i64 dv] 85)).heap.size = w2.heap.size + 1 := World.size_alloc _ _
    have HBX := Lib.hid ((HB3.out.cell (p := ⟨w2.heap.size, 0, none⟩) (by rw [hsz]; exact Nat.lt_succ_self _)).trans (alloc_cell w2 _ _ _ _ rfl))
    have HBY := Lib.hid ((HB3.out.cell (p := ⟨w2.heap.size, 1, none⟩) (by rw [hsz]; exact Nat.lt_succ_self _)).trans (alloc_cell w2 _ _ _ _ rfl))
    have HBZ := Lib.hid ((HB3.out.cell (p := ⟨w2.heap.size, 2, none⟩) (by rw [hsz]; exact Nat.lt_succ_self _)).trans (alloc_cell w2 _ _ _ _ rfl))
    have HBW := Lib.hid ((HB3.out.cell (p := ⟨w2.heap.size, 3, none⟩) (by rw [hsz]; exact Nat.lt_succ_self _)).trans (alloc_cell w2 _ _ _ _ rfl))
    have HL2 : Hid (w2.heap.size < w3.heap.size) := by have := HB3.out.size; show _ < _; omega
    have HSI3 : Hid (SI w3 w2.heap.size g ads rows ∨ SI w3 w1.heap.size g ads rows) := .inr (HSI.out.below hbx)
    have HPI3 : Hid (Sl w3 pa2 piv) := HPI.out.below hbx
    have HB03 : Hid (Below w.heap.size w w3) := HB2.out.trans (hbx.mono HB2.out.size)
    have HBL : Hid ((basisM m).length = fz.length) := by show _ = _; rw [HBA.out, List.length_map]
    clear hbx hsz
    go_loopw [5, 16] (fun v i wr => ∃ (k : Nat) (ads' : List (Nat × Nat)), k ≤ fz.length ∧ i = .int .i64 k ∧ RS w3.heap.size v ads' ((basisM m).take k) wr ∧ Below w3.heap.size w3 wr) (fun _ i _ => fz.length - (intOf i).toNat)
    case atStart => exact ⟨0, [], Nat.zero_le _, rfl, by rw [List.take_zero]; exact RS.nil _ _, Below.refl _ _⟩
    case round =>
      obtain ⟨k, ads', hk, rfl, hR, hB⟩ := hrel
      have HR := Lib.hid hR; clear hR
      have HBB := Lib.hid hB; clear hB
      by_cases hlt : k < fz.length
      · obtain ⟨fb, fo, v, rfl, hcv, HVV⟩ := (HSF.out.below HBB.out).at hlt
        obtain ⟨fr, hfr, rfl, hfn⟩ := (HFM.out v).1 (List.mem_of_getElem? HVV.out)
        have HRW : Hid ((basisM m)[k]? = some (kerL cols rows piv dv fr)) := by
          show _ = _
          rw [HBA.out, List.getElem?_map, HVV.out]; rfl
        have HTK : Hid ((basisM m).take (k + 1) = (basisM m).take k ++ [kerL cols rows piv dv fr]) := by
          show _ = _
          rw [List.take_add_one, HRW.out]; rfl
        have HRL' : Hid ((kerL cols rows piv dv fr).length = cols) := by show _ = _; unfold kerL shortL; rw [List.length_map, kerTo_len]
        have HTL : Hid (((basisM m).take k).length = k) := by show _ = _; rw [List.length_take, HBL.out]; omega
        have b0 := (HBB.out.cell (p := ⟨w2.heap.size, 0, none⟩) HL2.out).trans HBX.out
        have b1 := (HBB.out.cell (p := ⟨w2.heap.size, 1, none⟩) HL2.out).trans HBY.out
        have b2 := (HBB.out.cell (p := ⟨w2.heap.size, 2, none⟩) HL2.out).trans HBZ.out
        have b3 := (HBB.out.cell (p := ⟨w2.heap.size, 3, none⟩) HL2.out).trans HBW.out
        have HKE : Hid (Calls Try.prog 94 #[.agg #[.int .i64 (cols : Int), .slice (some ⟨g, 0, none⟩) rows.length cp, .slice pa2 piv.length pc2, .int .i64 dv], .int .i64 (fr : Int)] wr fun e w2 => Below wr.heap.size wr w2 ∧ ∃ b k, e = .returned (.slice (some ⟨b, 0, none⟩) cols k) ∧ OwnI w2 wr.heap.size (.slice (some ⟨b, 0, none⟩) cols k) (kerL cols rows piv dv fr)) := by
          rcases HSI3.out with h | h <;> exact kernel_any _ cols g cp ads rows pa2 piv pc2 dv fr wr (by have := HC.out.2; omega) hfr (by have h3 := HRLEN.out; have h4 := HPL.out; omega) (by have h3 := HRLEN.out; have h4 := HM6.out; omega) (fun k hk => by have := HF.out.pz k hk; dsimp only at this; exact this)
            (fun r hr => by have := HF.out.row r hr; omega) (HF.out.kvec_mid HM6.out (Nat.le_refl _) hfr hfn) (HF.out.kvec_gcd HM6.out (Nat.le_refl _) hfr hfn) (HPI3.out.below HBB.out) (h.below HBB.out)
        have hfl := HFL.out
        obtain ⟨pre, hpre⟩ : ∃ pre, (basisM m).take k = pre := ⟨_, rfl⟩
        rw [hpre] at HTK HTL HR
        clear hfr hfn hpre
        go_wp2_with (first | (go_at_call 94; refine HKE.out.mono ?_; rintro e w4 ⟨hb4, kb, kk, rfl, ho4⟩; have HB4 := Lib.hid hb4; have HO4 := Lib.hid ho4; clear hb4 ho4) | (at_builtin; go_must (refine wpList_pushRow rfl (.tmp 20) (.tmp 24) rfl w3.heap.size u5 ads' pre (kerL cols rows piv dv fr) cols HRL'.out kb kk w4 _ _ rfl rfl rfl (HR.out.below HB4.out) (by rw [HRL'.out]; exact HO4.out.mono HBB.out.size) (fun i x e h => by have h1 := (HR.out.out i x e).2.1; have h2 := (OwnI.lt HO4.out).2; omega) (fun h => by have h1 := (World.ownsRow.lt HR.out.own _ h).2; have h2 := (OwnI.lt HO4.out).2; omega) (by rw [HTL.out]; omega) (Nat.le_trans HBB.out.size HB4.out.size) ?_); intro g2 cap2 w9 ho' hb'))
        go_roundw
        case rel => exact ⟨k + 1, _, by omega, by go_num, by rw [HTK.out]; exact ho', HBB.out.trans ((HB4.out.mono HBB.out.size).trans hb')⟩
        case measure => simp [intOf]; omega
      · obtain rfl : k = fz.length := by omega
        have hR := HR.out
        rw [List.take_of_length_le (by rw [HBL.out]; exact Nat.le_refl _)] at hR
        obtain ⟨ra, rc, rfl, hms⟩ := hR.ms
        have HMS := Lib.hid hms
        clear hR hms
        go_wp2
        go_ret2
        rw [HK.out]
        exact ⟨HB03.out.trans (HBB.out.mono HB03.out.size), ra, rc, rfl, HMS.out⟩
end Go.Proofs.Ytphbepgdilfemaa
/- SameInts of the answers of layer 1: a contract. -/
namespace Go.Proofs.Ytphbepgdilfemaa
open Go.RowKit

theorem sameInts_any (a : Option Addr) (xs : List Int) (ca : Nat) (b : Option Addr) (ys : List Int) (cb : Nat) (w : World) (hx : xs.length ≤ 140737488351232) (hy : ys.length ≤ 140737488351232) (ha : Sl w a xs) (hb : Sl w b ys) :
    Calls Try.prog 44 #[.slice a xs.length ca, .slice b ys.length cb] w fun e w' => e = .returned (.bool (decide (xs = ys))) ∧ ∃ n, w' = w.drewN n := by
  have HA := Lib.hid ha; clear ha
  have HB := Lib.hid hb; clear hb
  by_cases hl : xs.length = ys.length
  · have hb : ((xs.length : Int) == (ys.length : Int)) = true := by simp [hl]
    have hb' : ((xs.length : Int) != (ys.length : Int)) = false := by simp [hl]
    have HL := Lib.hid hl; clear hl
    go_enter Try.func44, Try.ntmps44
    go_wp2
    go_loopw [13] (fun i wr => ∃ k nd : Nat, k ≤ xs.length ∧ i = .int .i64 k ∧ wr = w.drewN nd ∧ ∀ j, j < k → xs[j]?.getD 0 = ys[j]?.getD 0) (fun i _ => xs.length - (intOf i).toNat)
    case atStart => exact ⟨0, 0, Nat.zero_le _, rfl, rfl, fun j h => by omega⟩
    case round =>
      obtain ⟨k, nd, hk, rfl, rfl, hno⟩ := hrel
      have HN := Lib.hid hno; clear hno
      by_cases hlt : k < xs.length
      · have hly : k < ys.length := by rw [← HL.out]; exact hlt
        obtain ⟨b1, o1, x, rfl, hc1, HX⟩ := HA.out.at hlt
        obtain ⟨b2, o2, y, rfl, hc2, HY⟩ := HB.out.at hly
        by_cases he : x = y
        · subst he
          go_wp2
          go_quiet (fail)
          go_wp2
          go_roundw
          case rel => exact ⟨k + 1, _, by omega, by go_num, rfl, fun j hj => by
              by_cases hj' : j = k
              · subst hj'; rw [HX.out, HY.out]
              · exact HN.out j (by omega)⟩
          case measure => simp [intOf]; omega
        · have hne : (x == y) = false := by simpa using he
          have hne' : (x != y) = true := by simpa using he
          have HE : Hid (decide (xs = ys) = false) := by
            show decide (xs = ys) = false
            rw [decide_eq_false_iff_not]
            rintro rfl
            have h1 := HX.out
            have h2 := HY.out
            rw [h1] at h2
            exact he (by simpa using h2)
          clear he
          go_wp2
          go_quiet (fail)
          go_wp2
          go_ret
          exact ⟨ret_bool HE.out.symm, _, World.drewN_drewN _ _ _⟩
      · have HE : Hid (decide (xs = ys) = true) := by
          show decide (xs = ys) = true
          rw [decide_eq_true_iff]
          refine List.ext_getElem HL.out (fun j h1 h2 => ?_)
          have := HN.out j (by omega)
          simpa [h1, h2] using this
        go_wp2
        go_ret
        exact ⟨ret_bool HE.out.symm, _, rfl⟩
  · have hb : ((xs.length : Int) == (ys.length : Int)) = false := by simp; omega
    have hb' : ((xs.length : Int) != (ys.length : Int)) = true := by simp; omega
    have HX : Hid (decide (xs = ys) = false) := by
      show decide (xs = ys) = false
      rw [decide_eq_false_iff_not]; rintro rfl; exact hl rfl
    clear hl
    go_enter Try.func44, Try.ntmps44
    go_wp2
    go_ret
    exact ⟨ret_bool HX.out.symm, 0, rfl⟩

theorem Sl.below' {w w' : World} {a : Option Addr} {xs : List Int} (h : Sl w a xs) {B : Nat} (hb : Below B w w') (hB : w.heap.size ≤ B) : Sl w' a xs := h.below (hb.mono hB)
end Go.Proofs.Ytphbepgdilfemaa
/- SameLists of the answers of layer 1: a contract. -/
namespace Go.Proofs.Ytphbepgdilfemaa
open Go.RowKit

theorem lists_eq {m m' : List (List Int)} (hl : m.length = m'.length) (h : ∀ j, j < m.length → m[j]?.getD [] = m'[j]?.getD []) : m = m' := by
  refine List.ext_getElem hl (fun j h1 h2 => ?_)
  have := h j h1
  simpa [h1, h2] using this
set_option maxRecDepth 100000 in
set_option maxHeartbeats 400000 in
theorem sameLists_any (a : Option Addr) (m : List (List Int)) (ca : Nat) (b : Option Addr) (m' : List (List Int)) (cb : Nat) (w : World) (hm : m.length ≤ 100000 ∧ ∀ r ∈ m, r.length ≤ 100000) (hm' : m'.length ≤ 100000 ∧ ∀ r ∈ m', r.length ≤ 100000) (ha : Ms w a m) (hb : Ms w b m') :
    Calls Try.prog 32 #[.slice a m.length ca, .slice b m'.length cb] w fun e w' => e = .returned (.bool (decide (m = m'))) ∧ Below w.heap.size w w' := by
  have HA := Lib.hid ha; clear ha
  have HB := Lib.hid hb; clear hb
  have l1 := hm.1
  have l2 := hm'.1
  have HM := Lib.hid hm; clear hm
  have HM' := Lib.hid hm'; clear hm'
  by_cases hl : m.length = m'.length
  · have hb : ((m.length : Int) == (m'.length : Int)) = true := by simp [hl]
    have hb' : ((m.length : Int) != (m'.length : Int)) = false := by simp [hl]
    have HL := Lib.hid hl; clear hl
    go_enter Try.func32, Try.ntmps32
    go_wp2
    clear hb hb'
    go_loopw [13] (fun i wr => ∃ k : Nat, k ≤ m.length ∧ i = .int .i64 k ∧ Below w.heap.size w wr ∧ ∀ j, j < k → m[j]?.getD [] = m'[j]?.getD []) (fun i _ => m.length - (intOf i).toNat)
    case atStart => exact ⟨0, Nat.zero_le _, rfl, Below.refl _ _, fun j h => by omega⟩
    case round =>
      obtain ⟨k, hk, rfl, hB, hno⟩ := hrel
      have HN := Lib.hid hno; clear hno
      have HW := Lib.hid hB; clear hB
      by_cases hlt : k < m.length
      · have hly : k < m'.length := by rw [← HL.out]; exact hlt
        obtain ⟨b1, o1, a1, r1, c1, rfl, hc1, hs1, HX⟩ := (HA.out.below HW.out).at hlt
        obtain ⟨b2, o2, a2, r2, c2, rfl, hc2, hs2, HY⟩ := (HB.out.below HW.out).at hly
        have HS1 := Lib.hid hs1; clear hs1
        have HS2 := Lib.hid hs2; clear hs2
        have q1 := HM.out.2 r1 (List.mem_of_getElem? HX.out)
        have q2 := HM'.out.2 r2 (List.mem_of_getElem? HY.out)
        have g1 := cell_lt hc1
        have g2 := cell_lt hc2
        go_wp2
        go_region_held_law (fun w' => w'.cell? ⟨b1, o1 + k, none⟩ = some (.slice a1 r1.length c1) ∧ w'.cell? ⟨b2, o2 + k, none⟩ = some (.slice a2 r2.length c2)) (first | exact ⟨by assumption, by assumption⟩ | go_keep) (first | (go_at_call 44; refine (sameInts_any a1 r1 c1 a2 r2 c2 _ (by omega) (by omega) (HS1.out.drew) (HS2.out.drew)).mono ?_; rintro e w1 ⟨rfl, nd, rfl⟩))
        rename_i hHeld; clear hHeld hc1 hc2
        have HW2 : Hid (Below w.heap.size w (wr.drewN (1 + nd))) := HW.out.trans ⟨rfl, rfl, rfl, Nat.le_refl _, fun _ _ => rfl⟩
        obtain ⟨bb, hbb⟩ : ∃ bb, decide (r1 = r2) = bb := ⟨_, rfl⟩
        rw [hbb]
        have HBB := Lib.hid hbb
        clear hbb
        cases bb
        · have HE : Hid (m ≠ m') := fun e => by
            have hx := HX.out
            rw [e, HY.out] at hx
            have he : r1 ≠ r2 := by simpa using HBB.out
            exact he (by simpa using hx.symm)
          clear HBB
          go_wp2
          go_ret
          exact ⟨ret_bool (by simpa using HE.out), HW2.out⟩
        · have HR : Hid (r1 = r2) := by show _ = _; simpa using HBB.out
          clear HBB
          go_wp2
          go_roundw
          case rel => exact ⟨k + 1, by omega, by go_num, HW2.out, fun q hq => by
            by_cases hq' : q = k
            · subst hq'; rw [HX.out, HY.out, HR.out]
            · exact HN.out q (by omega)⟩
          case measure => simp [intOf]; omega
      · obtain rfl : k = m.length := by omega
        have HE : Hid (m = m') := lists_eq HL.out HN.out
        go_wp2
        go_ret
        exact ⟨ret_bool (by simpa using HE.out), HW.out⟩
  · have hb : ((m.length : Int) != (m'.length : Int)) = true := by simpa using (fun e => hl (by omega))
    have HE : Hid (m ≠ m') := fun e => hl (by rw [e])
    clear hl
    go_enter Try.func32, Try.ntmps32
    go_wp2
    go_ret
    exact ⟨ret_bool (by simpa using HE.out), Below.refl _ _⟩
end Go.Proofs.Ytphbepgdilfemaa
/- The sanity check of layer 3: the document's example. -/
namespace Go.Proofs.Ytphbepgdilfemaa
open Go.RowKit

def twoM : List (List Int) := [[1, 1, 0], [0, 1, 1]]
theorem two_valid : validM twoM = true := by decide
theorem two_kernel : kernelV twoM = ([[1, -1, 1]], 0) := by decide +kernel
theorem two_spark : sparkV twoM = (3, 0) := by decide +kernel
/-- Ints in a new block. -/
theorem sl_new (w : World) (xs : List Int) (t : TypeId) : Sl (w.alloc (.cells ((xs.map (Value.int .i64)).toArray) t)) (some ⟨w.heap.size, 0, none⟩) xs := by
  intro k hk
  refine ⟨w.heap.size, 0, rfl, ?_⟩
  rw [Nat.zero_add]
  refine alloc_cell _ _ _ _ _ ?_
  simp [hk]
theorem two_any (w : World) : Calls Try.prog 64 #[] w fun e w' => ∃ a, e = .returned (.slice a twoM.length 2) ∧ Ms w' a twoM ∧ Below w.heap.size w w' := by
  go_enter Try.func64, Try.ntmps64
  go_wp2
  go_ret
  have e1 : (w.alloc (.cells #[.int .i64 1, .int .i64 1, .int .i64 0] 3)).heap.size = w.heap.size + 1 := World.size_alloc _ _
  have e2 : ((w.alloc (.cells #[.int .i64 1, .int .i64 1, .int .i64 0] 3)).alloc (.cells #[.int .i64 0, .int .i64 1, .int .i64 1] 3)).heap.size = w.heap.size + 2 := by rw [World.size_alloc, e1]
  have s1 : Sl (w.alloc (.cells #[.int .i64 1, .int .i64 1, .int .i64 0] 3)) (some ⟨w.heap.size, 0, none⟩) [1, 1, 0] := sl_new w [1, 1, 0] _
  have s2 : Sl ((w.alloc (.cells #[.int .i64 1, .int .i64 1, .int .i64 0] 3)).alloc (.cells #[.int .i64 0, .int .i64 1, .int .i64 1] 3)) (some ⟨w.heap.size + 1, 0, none⟩) [0, 1, 1] := by
    rw [← e1]; exact sl_new _ [0, 1, 1] _
  refine ⟨_, rfl, ?_, (((Below.refl _ _).alloc (Nat.le_refl _) _).alloc (by omega) _).alloc (by omega) _⟩
  intro i hi
  have hc : ∀ k v, (#[Value.slice (some ⟨w.heap.size, 0, none⟩) 3 3, Value.slice (some ⟨w.heap.size + 1, 0, none⟩) 3 3] : Array Value)[k]? = some v → (((w.alloc (.cells #[.int .i64 1, .int .i64 1, .int .i64 0] 3)).alloc (.cells #[.int .i64 0, .int .i64 1, .int .i64 1] 3)).alloc (.cells #[.slice (some ⟨w.heap.size, 0, none⟩) 3 3, .slice (some ⟨w.heap.size + 1, 0, none⟩) 3 3] 25)).cell? ⟨w.heap.size + 1 + 1, k, none⟩ = some v := by
    intro k v h
    rw [← show _ = w.heap.size + 1 + 1 from e2]
    exact alloc_cell _ _ _ _ _ h
  match i, hi with
  | 0, _ => exact ⟨_, 0, _, 3, rfl, hc 0 _ rfl, (s1.below ((Below.refl _ _).alloc (Nat.le_refl _) _)).below ((Below.refl _ _).alloc (Nat.le_refl _) _)⟩
  | 1, _ => exact ⟨_, 0, _, 3, rfl, hc 1 _ rfl, s2.below ((Below.refl _ _).alloc (Nat.le_refl _) _)⟩
/-- One list in a new slice of lists. -/
theorem ms_one (w : World) : Ms ((w.alloc (.cells #[.int .i64 1, .int .i64 (-1), .int .i64 1] 3)).alloc (.cells #[.slice (some ⟨w.heap.size, 0, none⟩) 3 3] 25)) (some ⟨w.heap.size + 1, 0, none⟩) [[1, -1, 1]] := by
  have e1 : (w.alloc (.cells #[.int .i64 1, .int .i64 (-1), .int .i64 1] 3)).heap.size = w.heap.size + 1 := World.size_alloc _ _
  have s1 : Sl (w.alloc (.cells #[.int .i64 1, .int .i64 (-1), .int .i64 1] 3)) (some ⟨w.heap.size, 0, none⟩) [1, -1, 1] := sl_new w [1, -1, 1] _
  intro i hi
  match i, hi with
  | 0, _ =>
    refine ⟨_, 0, _, 3, rfl, ?_, s1.below ((Below.refl _ _).alloc (Nat.le_refl _) _)⟩
    rw [← e1]; exact alloc_cell _ _ _ _ _ rfl
set_option maxRecDepth 100000 in
set_option maxHeartbeats 800000 in
theorem awake_any (w : World) : Calls Try.prog 16 #[] w fun e w' => e = .returned (.bool true) ∧ Below w.heap.size w w' := by
  have mk2 : MOk twoM := mok_of two_valid
  have HKE : Hid (∀ (w1 : World) (a : Option Addr), Ms w1 a twoM → Calls Try.prog 30 #[.slice a twoM.length 2] w1 (LLPost ([[1, -1, 1]], 0) w1)) := fun w1 a h => by have := kernel_all a twoM 2 w1 mk2 h; rw [two_kernel] at this; exact this
  have HSP : Hid (∀ (w1 : World) (a : Option Addr), Ms w1 a twoM → Calls Try.prog 40 #[.slice a twoM.length 2] w1 fun e w' => e = .returned (.tuple #[.int .i64 3, .int .i64 0]) ∧ Below w1.heap.size w1 w') := fun w1 a h => by have := spark_any a twoM 2 w1 mk2 h; rw [two_spark] at this; exact this
  clear mk2
  go_enter Try.func16, Try.ntmps16
  go_wp2_with (first | (go_at_call 64; refine (two_any _).mono ?_; rintro e w1 ⟨a1, rfl, hm1, hb1⟩; have HM := Lib.hid hm1; have HB := Lib.hid hb1; clear hm1 hb1) | (go_at_call 30; refine (HKE.out _ _ HM.out).mono ?_; rintro e w2 ⟨hb2, ka, kc, rfl, hk⟩; have HB2 := Lib.hid (HB.out.trans (hb2.mono HB.out.size)); have HL := Lib.hid hk; clear hb2 hk HB HM) | (go_at_call 40; refine (HSP.out _ _ HM.out).mono ?_; rintro e w3 ⟨rfl, hb3⟩; have HB3 := Lib.hid hb3; clear hb3) | (go_at_call 32; refine (sameLists_any ka [[1, -1, 1]] kc _ [[1, -1, 1]] 1 _ (by decide) (by decide) ((HL.out.below (HB.out.trans (HB3.out.mono HB.out.size))).below (((Below.refl _ _).alloc (Nat.le_refl _) _).alloc (by rw [World.size_alloc]; omega) _)) (ms_one w3)).mono ?_; rintro e w4 ⟨rfl, hb4⟩; rw [show decide (([[1, -1, 1]] : List (List Int)) = [[1, -1, 1]]) = true from by decide]; have HB4 := Lib.hid hb4; clear hb4))
  go_ret
  refine ⟨rfl, ?_⟩
  have h1 : Below w.heap.size w w3 := HB2.out.trans ((HB.out.mono HB2.out.size).trans (HB3.out.mono (Nat.le_trans HB2.out.size HB.out.size)))
  exact h1.trans ((((Below.refl _ _).alloc (Nat.le_refl _) _).alloc (by rw [World.size_alloc]; omega) _).mono h1.size |>.trans (HB4.out.mono (by rw [World.size_alloc, World.size_alloc]; have := h1.size; omega)))
end Go.Proofs.Ytphbepgdilfemaa
/- LinCompares: the walk. -/
namespace Go.Proofs.Ytphbepgdilfemaa.linCompares
open Go.RowKit

theorem cmpZ_le {a b : Int} : cmpZ a b ≤ 0 ↔ a ≤ b := by unfold cmpZ; split <;> (try split) <;> omega
theorem cmpZ_neg (a b : Int) : cmpZ b a = -cmpZ a b := by unfold cmpZ; split <;> (try split) <;> (try split) <;> omega
theorem cmpZ_in (a b : Int) : -1 ≤ cmpZ a b ∧ cmpZ a b ≤ 1 := by unfold cmpZ; split <;> (try split) <;> omega
theorem cmpR_trans {n d p q s t : Int} (hd : 1 ≤ lowD d) (hq : 1 ≤ lowD q) (ht : 1 ≤ lowD t) (h1 : cmpR n d p q ≤ 0) (h2 : cmpR p q s t ≤ 0) : cmpR n d s t ≤ 0 := by
  unfold cmpR at *
  rw [cmpZ_le] at *
  have a1 := Int.mul_le_mul_of_nonneg_right h1 (show 0 ≤ lowD t by omega)
  have a2 := Int.mul_le_mul_of_nonneg_right h2 (show 0 ≤ lowD d by omega)
  have e : n * lowD t * lowD q ≤ s * lowD d * lowD q := by grind
  exact Int.le_of_mul_le_mul_right e (by omega)
set_option maxRecDepth 100000 in
set_option maxHeartbeats 4000000 in
theorem walk (x0 y0 : Int) (x1 y1 : Int) (x2 y2 : Int) (w : World) (rx0 : I64 x0) (ry0 : I64 y0) (rx1 : I64 x1) (ry1 : I64 y1) (rx2 : I64 x2) (ry2 : I64 y2) :
    Calls Try.prog 4 #[.agg #[.int .i64 x0, .int .i64 y0], .agg #[.int .i64 x1, .int .i64 y1], .agg #[.int .i64 x2, .int .i64 y2]] w fun e w' => e = .returned (.bool true) ∧ Below w.heap.size w w' := by
  have HAB : Hid (∀ V, Calls Try.prog 21 #[.agg #[.int .i64 x0, .int .i64 y0], .agg #[.int .i64 x1, .int .i64 y1]] V fun e w' => e = .returned (.int .i64 (cmpR x0 y0 x1 y1)) ∧ Below V.heap.size V w') := fun V => compare_any _ _ _ _ V rx0 ry0 rx1 ry1
  have HBA : Hid (∀ V, Calls Try.prog 21 #[.agg #[.int .i64 x1, .int .i64 y1], .agg #[.int .i64 x0, .int .i64 y0]] V fun e w' => e = .returned (.int .i64 (-cmpR x0 y0 x1 y1)) ∧ Below V.heap.size V w') := fun V => by
    have h : cmpR x1 y1 x0 y0 = -cmpR x0 y0 x1 y1 := cmpZ_neg _ _
    rw [← h]; exact compare_any _ _ _ _ V rx1 ry1 rx0 ry0
  have HRR : Hid (∀ V, Calls Try.prog 22 #[.agg #[.int .i64 x0, .int .i64 y0], .agg #[.int .i64 x1, .int .i64 y1]] V fun e w' => e = .returned (.int .i64 (cmpR x0 y0 x1 y1)) ∧ Below V.heap.size V w') := fun V => rcompare_any _ _ _ _ _ V (Nat.le_refl _) rx0 ry0 rx1 ry1
  have HBC : Hid (∀ V, Calls Try.prog 21 #[.agg #[.int .i64 x1, .int .i64 y1], .agg #[.int .i64 x2, .int .i64 y2]] V fun e w' => e = .returned (.int .i64 (cmpR x1 y1 x2 y2)) ∧ Below V.heap.size V w') := fun V => compare_any _ _ _ _ V rx1 ry1 rx2 ry2
  have HAC : Hid (∀ V, Calls Try.prog 21 #[.agg #[.int .i64 x0, .int .i64 y0], .agg #[.int .i64 x2, .int .i64 y2]] V fun e w' => e = .returned (.int .i64 (cmpR x0 y0 x2 y2)) ∧ Below V.heap.size V w') := fun V => compare_any _ _ _ _ V rx0 ry0 rx2 ry2
  have htr := fun h1 h2 => cmpR_trans (n := x0) (d := y0) (p := x1) (q := y1) (s := x2) (t := y2) (lowD_in ry0).1 (lowD_in ry1).1 (lowD_in ry2).1 h1 h2
  have hin := cmpZ_in (x0 * lowD y1) (x1 * lowD y0)
  have hin : -1 ≤ cmpR x0 y0 x1 y1 ∧ cmpR x0 y0 x1 y1 ≤ 1 := hin
  have HAW : Hid (∀ V, Calls Try.prog 16 #[] V fun e w' => e = .returned (.bool true) ∧ Below V.heap.size V w') := fun V => awake_any V
  obtain ⟨r, hr⟩ : ∃ r, cmpR x0 y0 x1 y1 = r := ⟨_, rfl⟩
  obtain ⟨s, hs⟩ : ∃ s, cmpR x1 y1 x2 y2 = s := ⟨_, rfl⟩
  obtain ⟨t, ht⟩ : ∃ t, cmpR x0 y0 x2 y2 = t := ⟨_, rfl⟩
  rw [hr] at HAB HBA HRR htr hin
  rw [hs] at HBC htr
  rw [ht] at HAC htr
  have HTR := Lib.hid htr
  clear hr hs ht htr rx0 ry0 rx1 ry1 rx2 ry2
  obtain ⟨i1, i2⟩ := hin
  have hs1 : (w.alloc (.cells #[.int .i64 x0, .int .i64 y0] 32)).heap.size = w.heap.size + 1 := World.size_alloc _ _
  have HB0 : Hid (Below w.heap.size w (((w.alloc (.cells #[.int .i64 x0, .int .i64 y0] 32)).alloc (.cells #[.int .i64 x1, .int .i64 y1] 32)).alloc (.cells #[.int .i64 x2, .int .i64 y2] 32))) := (((Below.refl _ _).alloc (Nat.le_refl _) _).alloc (by omega) _).alloc (by rw [World.size_alloc]; omega) _
  obtain ⟨V0, hV0⟩ : ∃ V0, ((w.alloc (.cells #[.int .i64 x0, .int .i64 y0] 32)).alloc (.cells #[.int .i64 x1, .int .i64 y1] 32)).alloc (.cells #[.int .i64 x2, .int .i64 y2] 32) = V0 := ⟨_, rfl⟩
  have HC : Hid (∀ W, Below V0.heap.size V0 W → (W.cell? ⟨w.heap.size, 0, none⟩ = some (.int .i64 x0) ∧ W.cell? ⟨w.heap.size, 1, none⟩ = some (.int .i64 y0)) ∧ (W.cell? ⟨w.heap.size + 1, 0, none⟩ = some (.int .i64 x1) ∧ W.cell? ⟨w.heap.size + 1, 1, none⟩ = some (.int .i64 y1)) ∧ (W.cell? ⟨w.heap.size + 1 + 1, 0, none⟩ = some (.int .i64 x2) ∧ W.cell? ⟨w.heap.size + 1 + 1, 1, none⟩ = some (.int .i64 y2))) := by
    intro W hW
    obtain ⟨b0, b1, sz, _⟩ := two_cells w #[.int .i64 x0, .int .i64 y0] #[.int .i64 x1, .int .i64 y1] #[.int .i64 x2, .int .i64 y2] 32 32 32
    rw [hV0] at b0 b1 sz
    have hs2 : ((w.alloc (.cells #[.int .i64 x0, .int .i64 y0] 32)).alloc (.cells #[.int .i64 x1, .int .i64 y1] 32)).heap.size = w.heap.size + 1 + 1 := by rw [World.size_alloc, hs1]
    have b2 : ∀ k v, (#[Value.int .i64 x2, Value.int .i64 y2] : Array Value)[k]? = some v → V0.cell? ⟨w.heap.size + 1 + 1, k, none⟩ = some v := fun k v h => by rw [← hV0, ← hs2]; exact alloc_cell _ _ _ _ _ h
    have k : ∀ {b o : Nat} {v : Value}, V0.cell? ⟨b, o, none⟩ = some v → W.cell? ⟨b, o, none⟩ = some v := fun h => (hW.cell (p := ⟨_, _, none⟩) (cell_lt h)).trans h
    exact ⟨⟨k (b0 0 _ rfl), k (b0 1 _ rfl)⟩, ⟨k (b1 0 _ rfl), k (b1 1 _ rfl)⟩, ⟨k (b2 0 _ rfl), k (b2 1 _ rfl)⟩⟩
  rw [hV0] at HB0
  obtain ⟨⟨p0, p1⟩, ⟨p2, p3⟩, p4, p5⟩ := HC.out V0 (Below.refl _ _)
  clear hs1
  have hrn : wrap64 (-r) = -r := by unfold wrap64; omega
  by_cases h1 : 0 < r
  · go_enter Try.func4, Try.ntmps4
    go_wp2_with (first | (go_at_call 21; with_reducible refine (HAB.out _).mono ?_; rintro e w1 ⟨rfl, hb1⟩; have HB1 := Lib.hid hb1; obtain ⟨⟨q0, q1⟩, ⟨q2, q3⟩, q4, q5⟩ := HC.out _ hb1; clear hb1) | (go_at_call 22; with_reducible refine (HRR.out _).mono ?_; rintro e w2 ⟨rfl, hb2⟩; have HB2 := Lib.hid (HB1.out.trans (hb2.mono HB1.out.size)); obtain ⟨⟨r0, r1⟩, ⟨r2, r3⟩, r4, r5⟩ := HC.out _ HB2.out; clear hb2) | (go_at_call 21; with_reducible refine (HBA.out _).mono ?_; rintro e w3 ⟨rfl, hb3⟩; have HB3 := Lib.hid (HB2.out.trans (hb3.mono HB2.out.size)); obtain ⟨⟨s0, s1⟩, ⟨s2, s3⟩, s4, s5⟩ := HC.out _ HB3.out; clear hb3) | (go_at_call 16; with_reducible refine (HAW.out _).mono ?_; rintro e w9 ⟨rfl, hb9⟩; have HB9 := Lib.hid hb9; clear hb9))
    all_goals (go_ret; exact ⟨rfl, HB0.out.trans ((HB3.out.trans (HB9.out.mono HB3.out.size)).mono HB0.out.size)⟩)
  · by_cases h2 : 0 < s
    · go_enter Try.func4, Try.ntmps4
      go_wp2_with (first | (go_at_call 21; with_reducible refine (HAB.out _).mono ?_; rintro e w1 ⟨rfl, hb⟩; have HB1 := Lib.hid (hb); obtain ⟨⟨_, _⟩, ⟨_, _⟩, _, _⟩ := HC.out _ HB1.out; clear hb) | (go_at_call 22; with_reducible refine (HRR.out _).mono ?_; rintro e w2 ⟨rfl, hb⟩; have HB2 := Lib.hid (HB1.out.trans (hb.mono HB1.out.size)); obtain ⟨⟨_, _⟩, ⟨_, _⟩, _, _⟩ := HC.out _ HB2.out; clear hb) | (go_at_call 21; with_reducible refine (HBA.out _).mono ?_; rintro e w3 ⟨rfl, hb⟩; have HB3 := Lib.hid (HB2.out.trans (hb.mono HB2.out.size)); obtain ⟨⟨_, _⟩, ⟨_, _⟩, _, _⟩ := HC.out _ HB3.out; clear hb) | (go_at_call 21; with_reducible refine (HBC.out _).mono ?_; rintro e w4 ⟨rfl, hb⟩; have HB4 := Lib.hid (HB3.out.trans (hb.mono HB3.out.size)); obtain ⟨⟨_, _⟩, ⟨_, _⟩, _, _⟩ := HC.out _ HB4.out; clear hb) | (go_at_call 16; with_reducible refine (HAW.out _).mono ?_; rintro e w9 ⟨rfl, hb⟩; have HB9 := Lib.hid hb; clear hb))
      all_goals (go_ret; exact ⟨rfl, HB0.out.trans ((HB4.out.trans (HB9.out.mono HB4.out.size)).mono HB0.out.size)⟩)
    · have h3 : t ≤ 0 := HTR.out (by omega) (by omega)
      go_enter Try.func4, Try.ntmps4
      go_wp2_with (first | (go_at_call 21; with_reducible refine (HAB.out _).mono ?_; rintro e w1 ⟨rfl, hb⟩; have HB1 := Lib.hid (hb); obtain ⟨⟨_, _⟩, ⟨_, _⟩, _, _⟩ := HC.out _ HB1.out; clear hb) | (go_at_call 22; with_reducible refine (HRR.out _).mono ?_; rintro e w2 ⟨rfl, hb⟩; have HB2 := Lib.hid (HB1.out.trans (hb.mono HB1.out.size)); obtain ⟨⟨_, _⟩, ⟨_, _⟩, _, _⟩ := HC.out _ HB2.out; clear hb) | (go_at_call 21; with_reducible refine (HBA.out _).mono ?_; rintro e w3 ⟨rfl, hb⟩; have HB3 := Lib.hid (HB2.out.trans (hb.mono HB2.out.size)); obtain ⟨⟨_, _⟩, ⟨_, _⟩, _, _⟩ := HC.out _ HB3.out; clear hb) | (go_at_call 21; with_reducible refine (HBC.out _).mono ?_; rintro e w4 ⟨rfl, hb⟩; have HB4 := Lib.hid (HB3.out.trans (hb.mono HB3.out.size)); obtain ⟨⟨_, _⟩, ⟨_, _⟩, _, _⟩ := HC.out _ HB4.out; clear hb) | (go_at_call 21; with_reducible refine (HAC.out _).mono ?_; rintro e w5 ⟨rfl, hb⟩; have HB5 := Lib.hid (HB4.out.trans (hb.mono HB4.out.size)); obtain ⟨⟨_, _⟩, ⟨_, _⟩, _, _⟩ := HC.out _ HB5.out; clear hb) | (go_at_call 16; with_reducible refine (HAW.out _).mono ?_; rintro e w9 ⟨rfl, hb⟩; have HB9 := Lib.hid hb; clear hb))
      all_goals (go_ret; exact ⟨rfl, HB0.out.trans ((HB5.out.trans (HB9.out.mono HB5.out.size)).mono HB0.out.size)⟩)
end Go.Proofs.Ytphbepgdilfemaa.linCompares
