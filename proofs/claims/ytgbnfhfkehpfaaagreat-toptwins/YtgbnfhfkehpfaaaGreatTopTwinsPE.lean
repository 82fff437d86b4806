/- Parts of the proof of TopTwins: plain words, walks and contracts, each under its own heading. -/
import Derived.Test.YtgbnfhfkehpfaaaGreatTopTwinsPD
import Derived.Test.YtgbnfhfkehpfaaaGreatTopTwinsPC
import Derived.Test.YtgbnfhfkehpfaaaGreatTopTwinsPA
import Derived.Deep.AppendLies
import Derived.Test.YtgbnfhfkehpfaaaGreatProg
import Derived.IntWalk
import Derived.Deep.RegionHeld3
import Derived.Deep.RegionLaw
import Derived.Test.YtgbnfhfkehpfaaaGreatTopTwinsPB
import Derived.Laws.MakeOwn
import Derived.StillTailTactics
import Derived.RegionTactic
import Derived.WalkSmall
import Derived.Laws.ResultCell
/- Fits of layer 4 once more, with where its memory lies: contracts. Written by mk_dfits.py. -/
namespace Go.Proofs.YtgbnfhfkehpfaaaGreat
open Go.RowKit Go.Shelf
attribute [local go_sem] Oper.semAt_some

def FsN (lo hi : Nat) (W : World) (a : Option Addr) (l : List (List Int × List (Int × Int))) : Prop := ∀ k p, l[k]? = some p → ∃ b x, a = some ⟨b, 0, none⟩ ∧ (lo ≤ b ∧ b < hi) ∧ W.cell? ⟨b, k * 2, none⟩ = some (.slice x.qa x.px.length x.qc) ∧ W.cell? ⟨b, k * 2 + 1, none⟩ = some (.slice x.va x.vs.length x.vc) ∧ MemF x W ∧ keyF x = p ∧ ∀ c, ownF x c → lo ≤ c ∧ c < hi
theorem OwnF.fsN {W : World} {base lo : Nat} {a : Option Addr} {n cap : Nat} {xs : List FitV} (h : OwnF W base (.slice a n cap) xs) (hlo : lo ≤ base) (hm : ∀ x ∈ xs, MemF x W) (hn : ∀ x ∈ xs, ∀ b, ownF x b → lo ≤ b) : n = xs.length ∧ FsN lo W.heap.size W a (xs.map keyF) := by
  rcases h.form with ⟨e, rfl⟩ | ⟨g, cap', e⟩
  · have : n = 0 := by simpa using congrArg (fun v => match v with | .slice _ n _ => n | _ => 0) e
    exact ⟨this, fun k p hk => by simp at hk⟩
  · obtain ⟨rfl, rfl, rfl⟩ : a = some ⟨g, 0, none⟩ ∧ n = xs.length ∧ cap = cap' := by simpa using e
    refine ⟨rfl, fun k p hk => ?_⟩
    rw [List.getElem?_map] at hk
    obtain ⟨x, hx, rfl⟩ := Option.map_eq_some_iff.1 hk
    obtain ⟨c1, c2⟩ := h.cell hx
    have hx2 := List.mem_of_getElem? hx
    have hg := World.ownsRow.lt h g rfl
    exact ⟨g, x, rfl, ⟨by omega, hg.2⟩, c1, c2, hm x hx2, rfl, fun c hc => ⟨hn x hx2 c hc, memF_lt (hm x hx2) hc⟩⟩
def SpJ (w : World) (FB : Nat) (pre : List FitV) (C T : Blk) (W : World) : Prop := (∃ v, True ∧ SpI w FB v pre C T W) ∧ ∀ x ∈ pre, ∀ b, ownF x b → FB ≤ b
theorem SpJ.client {w : World} {FB : Nat} : Client (SpJ w FB) where
  lt := fun h => (SpI.client (p := fun _ _ => True) (q := fun pre => pre)).lt h.1
  keep := fun h ht hT => ⟨(SpI.client (p := fun _ _ => True) (q := fun pre => pre)).keep h.1 ht hT, h.2⟩
theorem SpJ.went {w : World} {FB : Nat} {v : Value} {pre : List FitV} {C T : Blk} {W W2 w' : World} {x : FitV} {g cap : Nat} (h : SpI w FB v pre C T W) (h0 : ∀ x ∈ pre, ∀ b, ownF x b → FB ≤ b) (hx : MemF x W) (hown : ∀ b, ownF x b → T b) (hb : Below W.heap.size W W2) (hp : PushedF W2 (FB + 1) v pre x g cap w') :
    Went (SpJ w FB) ownF pre x C T W (w'.setCell ⟨FB, 0, none⟩ (.slice (some ⟨g, 0, none⟩) (pre.length + 1) cap)) := by
  obtain ⟨C', T', h1, h2, h3, h4⟩ := SpI.went2 h hx hown hb hp
  refine ⟨C', T', ⟨h1, fun z hz b hzb => ?_⟩, h2, h3, h4⟩
  rcases List.mem_append.1 hz with hz | hz
  · exact h0 z hz b hzb
  · obtain rfl := List.mem_singleton.1 hz
    by_cases hle : FB ≤ b
    · exact hle
    · exact absurd (hown b hzb) (h.nt b (by omega))
set_option maxRecDepth 1000000 in
set_option maxHeartbeats 4000000 in
theorem appendN_in {gf : Nat} {lb : Array Value} (eg : ∀ args w, (callFunc gf args).run Tryz.prog w = .ok (.enter gf args) w) {Z : List (List Int × List (Int × Int))} {need : Blk} {w wq : World} (hseq : SeqM Tryz.prog gf lb encF MemF ownF keyF Z need wq) (hb : Below wq.heap.size wq w) (hneed : ∀ b, need b → b < w.heap.size) (hZ : Z.length ≤ 10000) :
    CallsIn Fence.wide 50 Tryz.prog 113 #[.slice none 0 0, .func (.func gf) #[] lb] w fun e w' => ∃ ca cc, e = .returned (.slice ca Z.length cc) ∧ FsN w.heap.size w'.heap.size w' ca Z ∧ Below w.heap.size w w' := by
  have HI0 := Lib.hid (SpI.start w)
  obtain ⟨FB, hFB⟩ : ∃ FB, w.heap.size = FB := ⟨_, rfl⟩
  obtain ⟨V0, hV0⟩ : ∃ V0, w.alloc (.cells #[.slice none 0 0] 78) = V0 := ⟨_, rfl⟩
  have hVs : V0.heap.size = w.heap.size + 1 := by rw [← hV0]; exact World.size_alloc _ _
  rw [hV0] at HI0
  rw [hFB] at HI0 hVs hneed
  have HFB := Lib.hid hFB
  have HVS := Lib.hid hVs
  have HSEQ := Lib.hid hseq
  have HB := Lib.hid hb
  have HNEED := Lib.hid hneed
  have HZ := Lib.hid hZ
  clear hVs hseq hb hneed hZ
  refine callsIn_of_wp_marks Tryz.func113 rfl trivial ?_ rfl
  simp only [Tryz.ntmps113, List.size_toArray, List.length_cons, List.length_nil, Nat.reduceAdd, Nat.reduceSub, Array.replicate_succ, Array.replicate_zero, List.push_toArray, List.append_toArray, List.nil_append, List.cons_append]
  gi_wp2
  clear hV0 hFB
  refine wpIn_rangeFunc_M2 (by omega) (gf := gf) (lb := lb) rfl eg HSEQ.out (HB.out.trans (HI0.out.bw.mono HB.out.size)) (fun _ => rfl) memF_put
    (SpJ w FB) (fun _ _ _ _ _ => False) SpJ.client (fun _ => ⟨fun h => h.elim, fun h => h.elim⟩) (fun b => b = FB) (fun _ => False) ?need (fun _ e => e.elim) ⟨⟨_, trivial, HI0.out⟩, fun x hx => by cases hx⟩
    (fun x X => { tmps := #[.slice none 0 0, .func (.func gf) #[] lb, .pointer (some ⟨FB, 0, none⟩), undef, .slice none 0 0, .pointer (some ⟨X.heap.size, 0, none⟩), .func (.func gf) #[] lb, fitV x, undef, undef, undef, undef, undef], defers := [] }) (fun x X => X.alloc (.cells #[.slice x.qa x.px.length x.qc, .slice x.va x.vs.length x.vc] 106)) (fun x W => (Below.refl _ _).alloc (Nat.le_refl _) _) (fun x W W' h hb => ⟨h.sl.below hb, h.rl.below hb, fun ad e => ⟨(h.q ad e).1, Nat.lt_of_lt_of_le (h.q ad e).2 hb.size⟩, fun ad e => ⟨(h.v ad e).1, Nat.lt_of_lt_of_le (h.v ad e).2 hb.size⟩⟩) ?assign ?body ?done ?stop
  case need =>
    have h2 := HVS.out
    intro b hb
    have := HNEED.out b hb
    exact ⟨by omega, by omega⟩
  case assign =>
    rintro l2 ⟨qa, qc, px, va, vc, vs⟩ V K hK
    dsimp only
    gi_wp2
    exact hK
  case body =>
    rintro l2 pre x C T X W ⟨⟨v, _, hI⟩, hnw⟩ hmem hown ⟨rest, hrest⟩ hcl
    have hb0 := hcl _ _ (alloc_cell X #[.slice x.qa x.px.length x.qc, .slice x.va x.vs.length x.vc] 106 0 (.slice x.qa x.px.length x.qc) rfl)
    have hb1 := hcl _ _ (alloc_cell X #[.slice x.qa x.px.length x.qc, .slice x.va x.vs.length x.vc] 106 1 (.slice x.va x.vs.length x.vc) rfl)
    have HI := Lib.hid hI
    have HNW := Lib.hid hnw
    have HMX := Lib.hid hmem
    have HOWN := Lib.hid hown
    have HP : Hid (pre.length ≤ 100000) := by
      show _ ≤ _
      have e := congrArg List.length hrest
      have := HZ.out
      simp at e
      omega
    have hr := hI.r
    have hfr := hI.fr
    have HO2 : Hid (OwnF W (FB + 1) v pre) := hI.own
    have HFW2 : Hid (FB + 1 ≤ W.heap.size) := by have := cell_lt hr; show _ ≤ _; dsimp only at this; omega
    clear hI hnw hmem hown hrest hcl
    try dsimp only
    gi_wp2_with (gi_at_builtin; go_must (refine wpListIn_pushF rfl (.tmp 8) (.tmp 10) rfl (FB + 1) _ pre x W _ _ rfl rfl rfl HO2.out HP.out HFW2.out ?_); intro g gc w' hp; have HPU := Lib.hid hp; obtain ⟨z1, z2⟩ := SpI.pcell HI.out (Below.refl _ _) hp; clear hp)
    exact SpJ.went HI.out HNW.out HMX.out HOWN.out (Below.refl _ _) HPU.out
  case done =>
    rintro D xs C T V hD hxs ⟨⟨v, _, hI⟩, hnw⟩ hTD hK
    have HI := Lib.hid hI
    have HNW := Lib.hid hnw
    have HTD := Lib.hid hTD
    have HK := Lib.hid hK
    have HXS := Lib.hid hxs
    have hr := hI.r
    have hfm := hI.own.form
    clear hI hnw hTD hK hxs hD
    have hv : ∃ ca cc, v = .slice ca xs.length cc := by
      rcases hfm with ⟨e, e2⟩ | ⟨g, cap, e⟩
      · exact ⟨none, 0, by rw [e, e2]; rfl⟩
      · exact ⟨_, _, e⟩
    clear hfm
    obtain ⟨ca, cc, rfl⟩ := hv
    obtain ⟨xl, hxl⟩ : ∃ xl, xs.length = xl := ⟨_, rfl⟩
    have HXL := Lib.hid hxl
    rw [hxl] at hr HI
    clear hxl
    gi_wp2
    refine sp_leaves (ms := [D]) (r := .slice ca xl cc) (by intro W; simp [results, Tryz.results113, go_sem]) HI.out (fun E hE => ?_) (by simp) (fun E hE => ?_) (fun W h => ⟨ca, cc, by rw [← HXS.out, List.length_map, HXL.out], by rw [← HXS.out]; exact (OwnF.fsN h.own (Nat.le_succ_of_le h.lo) (fun z hz => (h.mem z hz).1) fun z hz b hb => Nat.le_trans h.lo (HNW.out z hz b hb)).2, h.bw⟩)
    · obtain rfl : E = D := by simpa using hE
      exact HTD.out
    · obtain rfl : E = D := by simpa using hE
      exact HK.out
  case stop =>
    rintro D c pre C T V hD h
    exact h.elim
set_option maxRecDepth 100000 in
set_option maxHeartbeats 800000 in
theorem collectN_any {gf : Nat} {lb : Array Value} (eg : ∀ args w, (callFunc gf args).run Tryz.prog w = .ok (.enter gf args) w) {Z : List (List Int × List (Int × Int))} {need : Blk} {w wq : World} (hseq : SeqM Tryz.prog gf lb encF MemF ownF keyF Z need wq) (hb : Below wq.heap.size wq w) (hneed : ∀ b, need b → b < w.heap.size) (hZ : Z.length ≤ 10000) :
    Calls Tryz.prog 101 #[.func (.func gf) #[] lb] w fun e w' => ∃ ca cc, e = .returned (.slice ca Z.length cc) ∧ FsN w.heap.size w'.heap.size w' ca Z ∧ Below w.heap.size w w' := by
  have HC := Lib.hid (callsIn_wide.1 (appendN_in eg hseq hb hneed hZ))
  clear hseq hb hneed hZ
  go_enter Tryz.func101, Tryz.ntmps101
  go_wp2_with (go_at_call 113; refine HC.out.mono ?_; rintro e w1 ⟨ca, cc, rfl, hms, hb⟩; have HM := Lib.hid hms; have HB := Lib.hid hb; clear hms hb)
  go_ret
  exact ⟨ca, cc, rfl, HM.out, HB.out⟩
set_option maxRecDepth 1000000 in
set_option maxHeartbeats 1600000 in
theorem sfitsN_any (a : Option Addr) (m : List (List Int)) (cap : Nat) (ya : Option Addr) (y : List Int) (yc : Nat) (k : Int) (w : World) (hm : MOk m) (hly : y.length ≤ 1000) (hs : Ms w a m) (hy : Sl w ya y) :
    Calls Tryz.prog 85 #[.slice a m.length cap, .slice ya y.length yc, .int .i64 k] w fun e w' => Below w.heap.size w w' ∧ ∃ a cap, e = .returned (.tuple #[.slice a (fitsKV m y k).1.length cap, .int .i64 (fitsKV m y k).2]) ∧ FsN w.heap.size w'.heap.size w' a (fitsKV m y k).1 := by
  have h := Lib.hid (askUp_any a m cap ya y yc k w hm (by omega) hs hy)
  by_cases hu : upE m y k = 0
  · have hr : readE m y = 0 := by
      unfold upE at hu
      split at hu
      · assumption
      · exact hu
    have hk : 0 ≤ k ∧ k ≤ 10 := by
      unfold upE at hu
      rw [if_pos hr] at hu
      split at hu
      · rename_i h; simpa [rangeB] using h
      · cases hu
    obtain ⟨kk, rfl⟩ := Int.eq_ofNat_of_zero_le hk.1
    rw [fits_ok hr (by omega)]
    have HUP : Hid (Calls Tryz.prog 100 #[.slice a m.length cap, .slice ya y.length yc, .int .i64 kk] w fun e w' => e = .returned (.tuple #[.agg #[.slice a m.length cap, .slice ya y.length yc], .int .i64 0]) ∧ Below w.heap.size w w') := by
      have h := h.out
      rw [if_pos hu, hu] at h
      exact h
    have HV := Lib.hid (readE_ok hr).1
    have HZL : Hid ((fitsTo zB m y (min kk (rankM m) + 1)).length ≤ 10000) := by
      have := allFits_len HV.out y zB (min kk (rankM m) + 1) (by omega)
      show _ ≤ _
      omega
    obtain ⟨Z, hZ⟩ : ∃ Z, fitsTo zB m y (min kk (rankM m) + 1) = Z := ⟨_, rfl⟩
    have HZZ := Lib.hid hZ
    rw [hZ] at HZL ⊢
    have HS := Lib.hid hs
    have HY := Lib.hid hy
    have HLY := Lib.hid hly
    have HKK : Hid (kk ≤ 10) := by show _ ≤ _; omega
    obtain ⟨ml, hml⟩ : ∃ ml, m.length = ml := ⟨_, rfl⟩
    obtain ⟨yl, hyl⟩ : ∃ yl, y.length = yl := ⟨_, rfl⟩
    have HML := Lib.hid hml
    have HYL := Lib.hid hyl
    rw [hml, hyl] at HUP
    rw [hml, hyl]
    clear h hu hr hk hm hs hy hly hZ hml hyl
    go_enter Tryz.func85, Tryz.ntmps85
    go_wp2_with (first
      | (go_at_call 100; refine HUP.out.mono ?_; rintro e w1 ⟨rfl, hb1⟩; have HB1 := Lib.hid hb1; clear hb1)
      | (go_at_call 102; refine (sfits_any _ _ kk 103 #[] _ ⟨_, _, _, rfl⟩ ⟨_, _, _, rfl⟩).mono ?_; rintro e w3 ⟨rfl, rfl⟩
         obtain ⟨k1, k2, k5, k6, k7, k8⟩ := boxes4 w1 (.slice a ml cap) (.slice ya yl yc) kk (.func (.func 103) #[] #[]) 115 115 3 122
         have HK1 := Lib.hid k1; have HK2 := Lib.hid k2; have HK5 := Lib.hid k5; have HK6 := Lib.hid k6; have HK7 := Lib.hid k7; have HK8 := Lib.hid k8; clear k1 k2 k5 k6 k7 k8
         have hcc : ∀ V0, V0 = ((((w1.alloc (.cells #[.slice a ml cap, .slice ya yl yc] 115)).alloc (.cells #[.slice a ml cap, .slice ya yl yc] 115)).alloc (.cells #[.int .i64 kk] 3)).alloc (.cells #[.func (.func 103) #[] #[]] 122)) → Calls Tryz.prog 101 #[.func (.func 114) #[] #[.pointer (some ⟨w1.heap.size + 1, 0, none⟩), .pointer (some ⟨w1.heap.size + 1 + 1, 0, none⟩), .pointer (some ⟨w1.heap.size + 1 + 1 + 1, 0, none⟩)]] V0 (fun e w' => ∃ ca cc, e = .returned (.slice ca Z.length cc) ∧ FsN V0.heap.size w'.heap.size w' ca Z ∧ Below V0.heap.size V0 w') := (by
           intro V0 hV0
           have k1 := HK1.out; have k2 := HK2.out; have k5 := HK5.out; have k6 := HK6.out; have k7 := HK7.out; have k8 := HK8.out
           rw [← hV0] at k1 k2 k5 k6 k7 k8
           have hbs : ∀ p ∈ ([(⟨w1.heap.size + 1, 0, none⟩, .slice a m.length cap), (⟨w1.heap.size + 1, 1, none⟩, .slice ya y.length yc), (⟨w1.heap.size + 1 + 1, 0, none⟩, .int .i64 (kk : Int)), (⟨w1.heap.size + 1 + 1 + 1, 0, none⟩, .func (.func 103) #[] #[])] : List (Addr × Value)), V0.cell? p.1 = some p.2 := fun p hp => by
             simp only [List.mem_cons, List.not_mem_nil, or_false] at hp
             rcases hp with rfl | rfl | rfl | rfl
             · rw [HML.out]; exact k5
             · rw [HYL.out]; exact k6
             · exact k7
             · exact k8
           have hsq := fits1_seq (wr := zB) (w0 := w) (w := V0) (kk := kk) (ma := a) (mc := cap) (ya := ya) (yc := yc) (Q := w1.heap.size + 1) (KB := w1.heap.size + 1 + 1) (WB := w1.heap.size + 1 + 1 + 1) (wg := 103) (wl := #[]) HV.out HLY.out (by have := HKK.out; omega) HS.out HY.out (HB1.out.trans (k2.mono HB1.out.size)) hbs List.mem_cons_self (List.mem_cons_of_mem _ List.mem_cons_self) (List.mem_cons_of_mem _ (List.mem_cons_of_mem _ List.mem_cons_self)) (List.mem_cons_of_mem _ (List.mem_cons_of_mem _ (List.mem_cons_of_mem _ List.mem_cons_self))) (fun W a vs cap _ h1 h2 => zfunc_any W a vs cap h1 h2)
           rw [HZZ.out] at hsq
           refine collectN_any (enters_of Tryz.func114 (by kernel_rfl) rfl) hsq (Below.refl _ _) ?_ HZL.out
           have s1 := HB1.out.size
           rintro b (h | ⟨p, hp, rfl⟩)
           · omega
           · simp only [List.mem_cons, List.not_mem_nil, or_false] at hp
             rcases hp with rfl | rfl | rfl | rfl <;> (dsimp only; omega))
         have HCC := Lib.hid hcc; clear hcc)
      | (go_at_call 101; refine (HCC.out _ rfl).mono ?_; rintro e w4 ⟨ca, cc, rfl, hfs, hb4⟩; have HFS := Lib.hid hfs; have HB4 := Lib.hid hb4; clear hfs hb4))
    go_ret2
    exact ⟨(HB1.out.trans (HK2.out.mono HB1.out.size)).trans (HB4.out.mono (by have := HK2.out.size; have := HB1.out.size; omega)), ca, cc, rfl, fun k p hk => by obtain ⟨b, x, e, ⟨h1, h2⟩, h3, h4, h5, h6, h7⟩ := HFS.out k p hk; have s1 := HB1.out.size; have s2 := HK2.out.size; exact ⟨b, x, e, ⟨by omega, h2⟩, h3, h4, h5, h6, fun c hc => ⟨by have := (h7 c hc).1; omega, (h7 c hc).2⟩⟩⟩
  · rw [fits_no hu]
    obtain ⟨e0, he0⟩ : ∃ e0, upE m y k = e0 := ⟨_, rfl⟩
    have HUP : Hid (Calls Tryz.prog 100 #[.slice a m.length cap, .slice ya y.length yc, .int .i64 k] w fun e w' => e = .returned (.tuple #[.agg #[.slice none 0 0, .slice none 0 0], .int .i64 e0]) ∧ Below w.heap.size w w') := by
      have h := h.out
      rw [if_neg hu, he0] at h
      exact h
    rw [he0] at hu ⊢
    have y1 : (e0 == 0) = false := by simpa using hu
    have y2 : (e0 != 0) = true := by simpa using hu
    clear h he0 hu hm hs hy
    go_enter Tryz.func85, Tryz.ntmps85
    go_wp2_with (go_at_call 100; refine HUP.out.mono ?_; rintro e w1 ⟨rfl, hb1⟩; have HB1 : Hid (Below w.heap.size w w1) := hb1; clear hb1)
    go_ret2
    exact ⟨HB1.out.alloc HB1.out.size _, none, 0, rfl, fun k p hk => by simp at hk⟩
end Go.Proofs.YtgbnfhfkehpfaaaGreat
/- consider of layer 5, out of what normOf answers: a contract. -/
namespace Go.Proofs.YtgbnfhfkehpfaaaGreat
open Go.RowKit Go.Shelf

structure Bx5 (W : World) (b : Nat) (u v : Value) (N D : Int) (c : Value) : Prop where
  lt : b < W.heap.size
  c0 : W.cell? ⟨b, 0, none⟩ = some u
  c1 : W.cell? ⟨b, 1, none⟩ = some v
  c2 : W.cell? ⟨b, 2, none⟩ = some (.int .i64 N)
  c3 : W.cell? ⟨b, 3, none⟩ = some (.int .i64 D)
  c4 : W.cell? ⟨b, 4, none⟩ = some c
  f2 : W.frozen? ⟨b, 2, none⟩ = false
  f3 : W.frozen? ⟨b, 3, none⟩ = false
  f4 : W.frozen? ⟨b, 4, none⟩ = false
theorem Bx5.next {W W' : World} {b : Nat} {u v : Value} {N D : Int} {c : Value} (h : Bx5 W b u v N D c) (hb : Below W.heap.size W W') : Bx5 W' b u v N D c :=
  ⟨Nat.lt_of_lt_of_le h.lt hb.size, (hb.cell (p := ⟨b, 0, none⟩) h.lt).trans h.c0, (hb.cell (p := ⟨b, 1, none⟩) h.lt).trans h.c1, (hb.cell (p := ⟨b, 2, none⟩) h.lt).trans h.c2, (hb.cell (p := ⟨b, 3, none⟩) h.lt).trans h.c3, (hb.cell (p := ⟨b, 4, none⟩) h.lt).trans h.c4, (hb.frozen (p := ⟨b, 2, none⟩) h.lt).trans h.f2, (hb.frozen (p := ⟨b, 3, none⟩) h.lt).trans h.f3, (hb.frozen (p := ⟨b, 4, none⟩) h.lt).trans h.f4⟩
theorem Bx5.same {W W' : World} {b : Nat} {u v : Value} {N D : Int} {c : Value} (h : Bx5 W b u v N D c) (hs : W.heap.size ≤ W'.heap.size) (hb : W'.heap[b]? = W.heap[b]?) : Bx5 W' b u v N D c :=
  ⟨Nat.lt_of_lt_of_le h.lt hs, (cell_of_block hb 0).trans h.c0, (cell_of_block hb 1).trans h.c1, (cell_of_block hb 2).trans h.c2, (cell_of_block hb 3).trans h.c3, (cell_of_block hb 4).trans h.c4, (frozen_of_block' hb 2).trans h.f2, (frozen_of_block' hb 3).trans h.f3, (frozen_of_block' hb 4).trans h.f4⟩
theorem Bx5.norm {W : World} {b : Nat} {u v : Value} {N D : Int} {c : Value} (h : Bx5 W b u v N D c) (N' D' : Int) (c' : Value) : Bx5 (((W.setCell ⟨b, 2, none⟩ (.int .i64 N')).setCell ⟨b, 3, none⟩ (.int .i64 D')).setCell ⟨b, 4, none⟩ c') b u v N' D' c' := by
  have o : ∀ (V : World) (i j : Nat) (z : Value), i ≠ j → (V.setCell ⟨b, i, none⟩ z).cell? ⟨b, j, none⟩ = V.cell? ⟨b, j, none⟩ := fun V i j z hne => World.cell?_setCell_other _ ⟨b, i, none⟩ ⟨b, j, none⟩ _ (by first | (simp; done) | (simp; omega))
  refine ⟨by rw [World.size_setCell, World.size_setCell, World.size_setCell]; exact h.lt, ?_, ?_, ?_, ?_, ?_, ?_, ?_, ?_⟩
  · rw [o _ _ _ _ (by decide), o _ _ _ _ (by decide), o _ _ _ _ (by decide)]; exact h.c0
  · rw [o _ _ _ _ (by decide), o _ _ _ _ (by decide), o _ _ _ _ (by decide)]; exact h.c1
  · rw [o _ _ _ _ (by decide), o _ _ _ _ (by decide)]; exact World.cell?_setCell_same _ _ _ h.c2
  · rw [o _ _ _ _ (by decide)]; exact World.cell?_setCell_same _ _ _ ((o _ _ _ _ (by decide)).trans h.c3)
  · exact World.cell?_setCell_same _ _ _ ((o _ _ _ _ (by decide)).trans ((o _ _ _ _ (by decide)).trans h.c4))
  · rw [World.frozen?_setCell, World.frozen?_setCell, World.frozen?_setCell]; exact h.f2
  · rw [World.frozen?_setCell, World.frozen?_setCell, World.frozen?_setCell]; exact h.f3
  · rw [World.frozen?_setCell, World.frozen?_setCell, World.frozen?_setCell]; exact h.f4
theorem Bx5.last {W : World} {b : Nat} {u v : Value} {N D : Int} {c : Value} (h : Bx5 W b u v N D c) (c' : Value) : Bx5 (W.setCell ⟨b, 4, none⟩ c') b u v N D c' := by
  have o : ∀ (j : Nat), 4 ≠ j → (W.setCell ⟨b, 4, none⟩ c').cell? ⟨b, j, none⟩ = W.cell? ⟨b, j, none⟩ := fun j hne => World.cell?_setCell_other _ ⟨b, 4, none⟩ ⟨b, j, none⟩ _ (by first | (simp; done) | (simp; omega))
  refine ⟨by rw [World.size_setCell]; exact h.lt, (o 0 (by decide)).trans h.c0, (o 1 (by decide)).trans h.c1, (o 2 (by decide)).trans h.c2, (o 3 (by decide)).trans h.c3, World.cell?_setCell_same _ _ _ h.c4, ?_, ?_, ?_⟩
  · rw [World.frozen?_setCell]; exact h.f2
  · rw [World.frozen?_setCell]; exact h.f3
  · rw [World.frozen?_setCell]; exact h.f4
theorem step_pushF {ops : Array Oper} {o : Oper} {a : Act} {K : Act → World → Prop} {Q : Exit → Act → World → Prop} {E : Prop} (hgd : o.guard = none) (s x : Operand)
    (ho : o.op = .call { callee := .builtin .append, args := #[s, x], argTypes := #[78, 78] }) (base : Nat) (v : Value) (xs : List FitV) (y : FitV) (W : World) (A : Nat)
    (hs : a.eval s = v) (hx : a.eval x = .slice (some ⟨A, 0, none⟩) 1 1) (h0 : W.cell? ⟨A, 0, none⟩ = some (.slice y.qa y.px.length y.qc)) (h1 : W.cell? ⟨A, 1, none⟩ = some (.slice y.va y.vs.length y.vc)) (hown : OwnF W base v xs) (hl : xs.length ≤ 100000) (hbase : base ≤ W.heap.size)
    (h : ∀ g cap w', OwnF w' base (.slice (some ⟨g, 0, none⟩) (xs.length + 1) cap) (xs ++ [y]) → W.grownBy w' v.ownBlock → (v.ownBlock = some g ∨ g = W.heap.size) → K (a.put o.dst (.slice (some ⟨g, 0, none⟩) (xs.length + 1) cap)) w') : if Region.wanted o (yielded ops a.tmps) = true then Oper.wp Tryz.prog o a W K Q else E := by
  obtain ⟨i0, hi, hz0, hz1, hz2⟩ := info_parts Tryz.infoFit
  refine step_append_lies W hgd s x 78 ho base 106 i0 (.agg #[.slice none 0 0, .slice none 0 0]) 2 48 Tryz.underlying78 hi hz0 hz1 hz2 rfl (by decide) v xs.length (flatF xs) hs hown ⟨A, 0, none⟩ 1 1 [.slice y.qa y.px.length y.qc, .slice y.va y.vs.length y.vc] hx rfl ?_ ?_ (by decide) (by unfold maxLen; omega) (by omega) hbase W.heap.size rfl ?_
  · intro j u hj
    match j, hj with
    | 0, hj => simp at hj; subst hj; rw [addr_add]; exact h0
    | 1, hj => simp at hj; subst hj; rw [addr_add]; exact h1
    | j + 2, hj => simp at hj
  · intro u hu; simp at hu; rcases hu with rfl | rfl <;> rfl
  · intro g cap w' h1 h2 h3 _
    refine h g cap w' ?_ h2 h3
    show w'.ownsRow _ _ _ _ _ _
    rw [flatF_snoc, List.length_append]; exact h1
def consX (a b N D : Int) (xs : List FitV) (x : FitV) : (Int × Int) × List FitV := if xs = [] ∨ cmpR a b N D < 0 then ((a, b), [x]) else if cmpR a b N D = 0 then ((N, D), xs ++ [x]) else ((N, D), xs)
def ConsP (lb base : Nat) (u v : Value) (r : (Int × Int) × List FitV) (w : World) (e : Ending) (w' : World) : Prop := e = .returned (.tuple #[]) ∧ Turned (fun b => b = lb ∨ base ≤ b) w w' ∧ ∃ c, Bx5 w' lb u v r.1.1 r.1.2 c ∧ OwnF w' base c r.2
theorem below_turned {lb base : Nat} {w w' : World} (h : Below w.heap.size w w') : Turned (fun b => b = lb ∨ base ≤ b) w w' := ⟨h.os, h.tape, h.output, h.size, fun b hb _ => h.block b hb⟩
theorem cons_done {lb base n G cp : Nat} {u v c : Value} {N D : Int} {xs : List FitV} {x : FitV} {w V5 w9 : World} {ob : Obj} (ht : Turned (fun b => b = lb ∨ base ≤ b) w V5) (hn : Bx5 V5 lb u v N D c) (hlb : lb < base) (_hbs : base ≤ V5.heap.size) (_hw : w.heap.size ≤ V5.heap.size) (_hbw : base ≤ w.heap.size) (hc : ∀ b, c.ownBlock = some b → base ≤ b)
    (ho : OwnF w9 base (.slice (some ⟨G, 0, none⟩) (n + 1) cp) (xs ++ [x])) (hg : (V5.alloc ob).drew.grownBy w9 c.ownBlock) : ConsP lb base u v ((N, D), xs ++ [x]) w (.returned (.tuple #[])) (w9.setCell ⟨lb, 4, none⟩ (.slice (some ⟨G, 0, none⟩) (n + 1) cp)) := by
  have t1 : Turned (fun b => b = lb ∨ base ≤ b) V5 (V5.alloc ob).drew := below_turned (((Below.refl _ _).alloc (Nat.le_refl _) ob).drew)
  have t2 : Turned (fun b => b = lb ∨ base ≤ b) (V5.alloc ob).drew w9 := turned_grown hg fun r e => .inr (hc r e)
  have t3 : Turned (fun b => b = lb ∨ base ≤ b) w9 (w9.setCell ⟨lb, 4, none⟩ (.slice (some ⟨G, 0, none⟩) (n + 1) cp)) := turned_set _ _ (.inl rfl)
  have t4 : Turned (fun b => b = lb ∨ base ≤ b) w (w9.setCell ⟨lb, 4, none⟩ (.slice (some ⟨G, 0, none⟩) (n + 1) cp)) := ((ht.trans t1 fun b h => .inl h).trans t2 fun b h => .inl h).trans t3 fun b h => .inl h
  have hlt := hn.lt
  have e1 : (V5.alloc ob).drew.heap[lb]? = V5.heap[lb]? := (((Below.refl V5.heap.size V5).alloc (Nat.le_refl _) ob).drew).block lb hlt
  have e2 : w9.heap[lb]? = (V5.alloc ob).drew.heap[lb]? := hg.block lb (by simp; omega) fun e => by have := hc lb e.symm; omega
  have s9 : V5.heap.size ≤ w9.heap.size := Nat.le_trans t1.size t2.size
  have hG := World.ownsRow.lt ho G rfl
  refine ⟨rfl, t4, _, (hn.same s9 (e2.trans e1)).last _, ho.same fun b e => ?_⟩
  obtain rfl : G = b := by simpa [Value.ownBlock] using e
  exact Below.heap_setCell _ _ _ _ (by simp; omega)
set_option maxRecDepth 1000000 in
set_option maxHeartbeats 6400000 in
theorem consider_any (lb base : Nat) (u v c : Value) (N D a b : Int) (q : Bool) (xs : List FitV) (x : FitV) (w : World) (hb5 : Bx5 w lb u v N D c) (hown : OwnF w base c xs) (hlb : lb < base) (hbase : base ≤ w.heap.size) (hl : xs.length ≤ 10000) (hN : I64' N) (hD : I64' D) (ha : I64' a) (hb : I64' b)
    (hno : ∀ V, Below w.heap.size w V → Calls Tryz.prog 104 #[.slice x.va x.vs.length x.vc] V fun e w' => e = .returned (.tuple #[.agg #[.int .i64 a, .int .i64 b], .bool q]) ∧ Below V.heap.size V w') :
    Calls Tryz.prog 86 #[.pointer (some ⟨lb, 0, none⟩), .agg #[.slice x.qa x.px.length x.qc, .slice x.va x.vs.length x.vc]] w (ConsP lb base u v (consX a b N D xs x) w) := by
  obtain ⟨c', hc'⟩ : ∃ r, cmpR a b N D = r := ⟨_, rfl⟩
  have HCM : Hid (∀ W, Calls Tryz.prog 105 #[.agg #[.int .i64 a, .int .i64 b], .agg #[.int .i64 N, .int .i64 D]] W fun e w' => e = .returned (.int .i64 c') ∧ Below W.heap.size W w') := fun W => by rw [← hc']; exact compare_any a b N D W ha hb hN hD
  have HCX : Hid (consX a b N D xs x = if xs = [] ∨ c' < 0 then ((a, b), [x]) else if c' = 0 then ((N, D), xs ++ [x]) else ((N, D), xs)) := by show _ = _; unfold consX; rw [hc']
  have HB5 := Lib.hid hb5
  have HOWN := Lib.hid hown
  have HNO := Lib.hid hno
  obtain ⟨V1, hV1⟩ : ∃ V1, w.alloc (.cells #[.slice x.qa x.px.length x.qc, .slice x.va x.vs.length x.vc] 106) = V1 := ⟨_, rfl⟩
  have hbv1 : Below w.heap.size w V1 := by rw [← hV1]; exact (Below.refl _ _).alloc (Nat.le_refl _) _
  have HV1 := Lib.hid hbv1
  have HX1 : Hid (Bx V1 w.heap.size (.slice x.qa x.px.length x.qc) (.slice x.va x.vs.length x.vc)) := by show Bx _ _ _ _; rw [← hV1]; exact Bx.new _ _ _ _
  obtain ⟨_, x0, x1, _, _⟩ := HX1.out
  have hcf : ∃ ca cc, c = .slice ca xs.length cc := by
    rcases hown.form with ⟨e, e2⟩ | ⟨g, cap, e⟩
    · exact ⟨none, 0, by rw [e, e2]; rfl⟩
    · exact ⟨_, _, e⟩
  obtain ⟨ca, cc, rfl⟩ := hcf
  obtain ⟨xl, hxl⟩ : ∃ xl, xs.length = xl := ⟨_, rfl⟩
  have HXL := Lib.hid hxl
  rw [hxl] at HB5 HOWN hl
  clear hb5 hown hno hc' hbv1 hN hD ha hb hxl
  go_enter Tryz.func86, Tryz.ntmps86
  go_wp2_with (go_at_call 104; refine (HNO.out _ HV1.out).mono ?_; rintro e w2 ⟨rfl, hb2⟩; have HB2 := Lib.hid hb2; clear hb2)
  obtain ⟨V3, hV3⟩ : ∃ V3, w2.alloc (.cells #[.int .i64 a, .int .i64 b] 38) = V3 := ⟨_, rfl⟩
  have hb3 : Below w2.heap.size w2 V3 := by rw [← hV3]; exact (Below.refl _ _).alloc (Nat.le_refl _) _
  have HX3 : Hid (Bx V3 w2.heap.size (.int .i64 a) (.int .i64 b)) := by show Bx _ _ _ _; rw [← hV3]; exact Bx.new _ _ _ _
  have HB3 : Hid (Below V1.heap.size V1 V3) := HB2.out.trans (hb3.mono HB2.out.size)
  have HBW3 : Hid (Below w.heap.size w V3) := HV1.out.trans (HB3.out.mono HV1.out.size)
  rw [hV3]
  clear x0 x1 hb3
  obtain ⟨_, x0, x1, _, _⟩ := HX3.out
  obtain ⟨_, k0, k1, k2, k3, k4, _, _, _⟩ := HB5.out.next HBW3.out
  have r0 := cell_regrown x0
  have r1 := cell_regrown x1
  have r2 := cell_regrown k2
  have r3 := cell_regrown k3
  have cC : ∀ W d os, Calls Tryz.prog 105 #[.agg #[.int .i64 a, .int .i64 b], .agg #[.int .i64 N, .int .i64 D]] (Sort.grow (redrawn W d) os) fun e w'' => e = .returned (.int .i64 c') ∧ ∃ p : Regrown, w'' = Sort.grow (redrawn W p.d) p.os := fun W d os => Calls.regrown_of (HCM.out _)
  clear k0 k1 k2 k3 k4 x0 x1
  refine wp_region_quiet_below (by kernel_rfl) (by kernel_rfl) ?_
  repeat (go_big_quiet_step (with_reducible exact cC _ _ _))
  refine wpQuiet_nil ?_
  intro w4 hw4
  have HB4 : Hid (Below V3.heap.size V3 w4) := by
    obtain ⟨⟨d6, o6⟩, rfl⟩ := hw4
    exact below_regrown _ _ _
  clear hw4 r0 r1 r2 r3
  have HBW4 : Hid (Below w.heap.size w w4) := HBW3.out.trans (HB4.out.mono HBW3.out.size)
  have hB4 := HB5.out.next HBW4.out
  obtain ⟨l4, _, _, k2, k3, k4, f2, f3, f4⟩ := hB4
  have x4 := HX3.out.next HB4.out
  obtain ⟨_, n0, n1, _, _⟩ := x4
  have HX4 := Lib.hid (HX1.out.next (HB3.out.trans (HB4.out.mono HB3.out.size)))
  have HSZ : Hid (w.heap.size < w4.heap.size ∧ lb ≠ w.heap.size) := by
    have h1 := HX4.out.lt
    exact ⟨h1, by omega⟩
  by_cases hA : xs = [] ∨ c' < 0
  · have HR : Hid (consX a b N D xs x = ((a, b), [x])) := by show _ = _; rw [HCX.out, if_pos hA]
    obtain ⟨V5, hV5⟩ : ∃ V5, ((w4.setCell ⟨lb, 2, none⟩ (.int .i64 a)).setCell ⟨lb, 3, none⟩ (.int .i64 b)).setCell ⟨lb, 4, none⟩ (.slice none 0 0) = V5 := ⟨_, rfl⟩
    have HN5 : Hid (Bx5 V5 lb u v a b (.slice none 0 0)) := by show Bx5 _ _ _ _ _ _ _; rw [← hV5]; exact (HB5.out.next HBW4.out).norm _ _ _
    have HS5 : Hid (V5.heap.size = w4.heap.size) := by show _ = _; rw [← hV5, World.size_setCell, World.size_setCell, World.size_setCell]
    have HX5 : Hid (Bx V5 w.heap.size (.slice x.qa x.px.length x.qc) (.slice x.va x.vs.length x.vc)) := by
      obtain ⟨a1, a2, a3, a4, a5⟩ := HX4.out
      have hne := HSZ.out.2
      show Bx _ _ _ _
      rw [← hV5]
      exact ⟨by rw [World.size_setCell, World.size_setCell, World.size_setCell]; exact a1, (cell_other _ _ _ _ (Ne.symm hne)).trans ((cell_other _ _ _ _ (Ne.symm hne)).trans ((cell_other _ _ _ _ (Ne.symm hne)).trans a2)), (cell_other _ _ _ _ (Ne.symm hne)).trans ((cell_other _ _ _ _ (Ne.symm hne)).trans ((cell_other _ _ _ _ (Ne.symm hne)).trans a3)), by rw [World.frozen?_setCell, World.frozen?_setCell, World.frozen?_setCell]; exact a4, by rw [World.frozen?_setCell, World.frozen?_setCell, World.frozen?_setCell]; exact a5⟩
    have HT5 : Hid (Turned (fun b => b = lb ∨ base ≤ b) w V5) := by
      show Turned _ _ _
      rw [← hV5]
      have t0 : Turned (fun b => b = lb ∨ base ≤ b) w w4 := below_turned HBW4.out
      exact ((t0.trans (turned_set _ _ (.inl rfl)) fun b h => .inl h).trans (turned_set _ _ (.inl rfl)) fun b h => .inl h).trans (turned_set _ _ (.inl rfl)) fun b h => .inl h
    have HO5 : Hid (OwnF V5 base (.slice none 0 0) []) := OwnF.nil _ _
    have HL6 : Hid (([] : List FitV).length ≤ 100000) := by show _ ≤ _; simp
    have HC6 : Hid (∀ b, (Value.slice none 0 0).ownBlock = some b → base ≤ b) := fun b e => by cases e
    clear HCX HB5 HOWN HBW4
    by_cases h0 : xl = 0
    · have y0 : ((xl : Int) == 0) = true := by simp; omega
      have y1 : (xl == 0) = true := by simp; omega
      clear hA h0
      go_wp2
      obtain ⟨l5, _, _, m2, m3, m4, g2, g3, g4⟩ := HN5.out
      obtain ⟨lx5, z0, z1, _, _⟩ := HX5.out
      have q4 : ∀ ob, (V5.alloc ob).cell? ⟨lb, 4, none⟩ = some (.slice none 0 0) := fun ob => (alloc_old _ _ _ _ l5).trans m4
      have q0 : ∀ ob, (V5.alloc ob).cell? ⟨w.heap.size, 0, none⟩ = some (.slice x.qa x.px.length x.qc) := fun ob => (alloc_old _ _ _ _ lx5).trans z0
      have q1 : ∀ ob, (V5.alloc ob).cell? ⟨w.heap.size, 1, none⟩ = some (.slice x.va x.vs.length x.vc) := fun ob => (alloc_old _ _ _ _ lx5).trans z1
      have p0 : (V5.alloc (.cells #[.slice x.qa x.px.length x.qc, .slice x.va x.vs.length x.vc] 106)).cell? ⟨V5.heap.size, 0, none⟩ = some (.slice x.qa x.px.length x.qc) := alloc_cell _ _ _ _ _ rfl
      have p1 : (V5.alloc (.cells #[.slice x.qa x.px.length x.qc, .slice x.va x.vs.length x.vc] 106)).cell? ⟨V5.heap.size, 1, none⟩ = some (.slice x.va x.vs.length x.vc) := alloc_cell _ _ _ _ _ rfl
      have hbs5 : base ≤ V5.heap.size := by have := HS5.out; have := HSZ.out.1; omega
      go_region_law (refine step_pushF rfl (.tmp 42) (.tmp 44) rfl base _ [] x _ V5.heap.size (by rfl) (by rfl) (by go_simp) (by go_simp) (HO5.out.below (((Below.refl V5.heap.size V5).alloc (Nat.le_refl _) _).drew)) HL6.out (by simp; omega) ?_; intro G cp w9 ho' hg' hat; have e2 := (hg'.block lb (by simp; omega) (fun e => by have := HC6.out lb e.symm; omega)).trans ((((Below.refl V5.heap.size V5).alloc (Nat.le_refl _) (.cells #[.slice x.qa x.px.length x.qc, .slice x.va x.vs.length x.vc] 106)).drew).block lb l5); have c49 := (cell_of_block e2 4).trans m4; have f49 := (frozen_of_block' e2 4).trans g4)
      all_goals
        rw [HR.out]
        go_end0
        exact cons_done HT5.out HN5.out hlb hbs5 (by have := HS5.out; have := HSZ.out.1; omega) hbase HC6.out ho' hg'
    · have y0 : ((xl : Int) == 0) = false := by simp; omega
      have y1 : (xl == 0) = false := by simp; omega
      have hc : c' < 0 := hA.elim (fun e => absurd (HXL.out.symm.trans (by rw [e]; rfl)) h0) id
      have y2 : decide (c' < 0) = true := by simp [hc]
      clear hA h0
      go_wp2
      obtain ⟨l5, _, _, m2, m3, m4, g2, g3, g4⟩ := HN5.out
      obtain ⟨lx5, z0, z1, _, _⟩ := HX5.out
      have q4 : ∀ ob, (V5.alloc ob).cell? ⟨lb, 4, none⟩ = some (.slice none 0 0) := fun ob => (alloc_old _ _ _ _ l5).trans m4
      have q0 : ∀ ob, (V5.alloc ob).cell? ⟨w.heap.size, 0, none⟩ = some (.slice x.qa x.px.length x.qc) := fun ob => (alloc_old _ _ _ _ lx5).trans z0
      have q1 : ∀ ob, (V5.alloc ob).cell? ⟨w.heap.size, 1, none⟩ = some (.slice x.va x.vs.length x.vc) := fun ob => (alloc_old _ _ _ _ lx5).trans z1
      have p0 : (V5.alloc (.cells #[.slice x.qa x.px.length x.qc, .slice x.va x.vs.length x.vc] 106)).cell? ⟨V5.heap.size, 0, none⟩ = some (.slice x.qa x.px.length x.qc) := alloc_cell _ _ _ _ _ rfl
      have p1 : (V5.alloc (.cells #[.slice x.qa x.px.length x.qc, .slice x.va x.vs.length x.vc] 106)).cell? ⟨V5.heap.size, 1, none⟩ = some (.slice x.va x.vs.length x.vc) := alloc_cell _ _ _ _ _ rfl
      have hbs5 : base ≤ V5.heap.size := by have := HS5.out; have := HSZ.out.1; omega
      go_region_law (refine step_pushF rfl (.tmp 42) (.tmp 44) rfl base _ [] x _ V5.heap.size (by rfl) (by rfl) (by go_simp) (by go_simp) (HO5.out.below (((Below.refl V5.heap.size V5).alloc (Nat.le_refl _) _).drew)) HL6.out (by simp; omega) ?_; intro G cp w9 ho' hg' hat; have e2 := (hg'.block lb (by simp; omega) (fun e => by have := HC6.out lb e.symm; omega)).trans ((((Below.refl V5.heap.size V5).alloc (Nat.le_refl _) (.cells #[.slice x.qa x.px.length x.qc, .slice x.va x.vs.length x.vc] 106)).drew).block lb l5); have c49 := (cell_of_block e2 4).trans m4; have f49 := (frozen_of_block' e2 4).trans g4)
      all_goals
        rw [HR.out]
        go_end0
        exact cons_done HT5.out HN5.out hlb hbs5 (by have := HS5.out; have := HSZ.out.1; omega) hbase HC6.out ho' hg'
  · have hne : xs ≠ [] := fun e => hA (.inl e)
    have hx0 : xl ≠ 0 := fun e => hne (List.length_eq_zero_iff.1 (HXL.out.trans e))
    have y0 : ((xl : Int) == 0) = false := by simp; omega
    have y1 : (xl == 0) = false := by simp; omega
    have hc0 : ¬ c' < 0 := fun e => hA (.inr e)
    have y2 : decide (c' < 0) = false := by simp; omega
    by_cases hc1 : c' = 0
    · have HR : Hid (consX a b N D xs x = ((N, D), xs ++ [x])) := by show _ = _; rw [HCX.out, if_neg hA, if_pos hc1]
      have y3 : (c' == 0) = true := by simp [hc1]
      have HN5 := Lib.hid (HB5.out.next HBW4.out)
      have HX5 := HX4
      have HT5 : Hid (Turned (fun b => b = lb ∨ base ≤ b) w w4) := below_turned HBW4.out
      have HO5 : Hid (OwnF w4 base (.slice ca xl cc) xs) := HOWN.out.below HBW4.out
      have HL6 : Hid (xs.length ≤ 100000) := by show _ ≤ _; rw [HXL.out]; omega
      have HC6 : Hid (∀ b, (Value.slice ca xl cc).ownBlock = some b → base ≤ b) := fun b e => (World.ownsRow.lt HO5.out b e).1
      clear HCX HB5 HOWN HBW4 hA hc0 hc1 hne hx0
      go_wp2
      obtain ⟨l5, _, _, m2, m3, m4, g2, g3, g4⟩ := HN5.out
      obtain ⟨lx5, z0, z1, _, _⟩ := HX5.out
      have q4 : ∀ ob, (w4.alloc ob).cell? ⟨lb, 4, none⟩ = some (.slice ca xl cc) := fun ob => (alloc_old _ _ _ _ l5).trans m4
      have q0 : ∀ ob, (w4.alloc ob).cell? ⟨w.heap.size, 0, none⟩ = some (.slice x.qa x.px.length x.qc) := fun ob => (alloc_old _ _ _ _ lx5).trans z0
      have q1 : ∀ ob, (w4.alloc ob).cell? ⟨w.heap.size, 1, none⟩ = some (.slice x.va x.vs.length x.vc) := fun ob => (alloc_old _ _ _ _ lx5).trans z1
      have p0 : (w4.alloc (.cells #[.slice x.qa x.px.length x.qc, .slice x.va x.vs.length x.vc] 106)).cell? ⟨w4.heap.size, 0, none⟩ = some (.slice x.qa x.px.length x.qc) := alloc_cell _ _ _ _ _ rfl
      have p1 : (w4.alloc (.cells #[.slice x.qa x.px.length x.qc, .slice x.va x.vs.length x.vc] 106)).cell? ⟨w4.heap.size, 1, none⟩ = some (.slice x.va x.vs.length x.vc) := alloc_cell _ _ _ _ _ rfl
      have hbs5 : base ≤ w4.heap.size := by have := HSZ.out.1; have := HSZ.out.1; omega
      go_region_law (refine step_pushF rfl (.tmp 42) (.tmp 44) rfl base _ xs x _ w4.heap.size (by rfl) (by rfl) (by go_simp) (by go_simp) (HO5.out.below (((Below.refl w4.heap.size w4).alloc (Nat.le_refl _) _).drew)) HL6.out (by simp; omega) ?_; intro G cp w9 ho' hg' hat; have e2 := (hg'.block lb (by simp; omega) (fun e => by have := HC6.out lb e.symm; omega)).trans ((((Below.refl w4.heap.size w4).alloc (Nat.le_refl _) (.cells #[.slice x.qa x.px.length x.qc, .slice x.va x.vs.length x.vc] 106)).drew).block lb l5); have c49 := (cell_of_block e2 4).trans m4; have f49 := (frozen_of_block' e2 4).trans g4)
      all_goals
        rw [HR.out]
        go_end0
        exact cons_done HT5.out HN5.out hlb hbs5 (by have := HSZ.out.1; omega) hbase HC6.out (by first | exact ho' | (rw [← HXL.out]; exact ho')) hg'
    · have HR : Hid (consX a b N D xs x = ((N, D), xs)) := by show _ = _; rw [HCX.out, if_neg hA, if_neg hc1]
      have y3 : (c' == 0) = false := by simp [hc1]
      clear HCX hA hc0 hc1 hne hx0
      go_wp2
      rw [HR.out]
      go_end0
      exact ⟨rfl, below_turned HBW4.out, _, HB5.out.next HBW4.out, HOWN.out.below HBW4.out⟩
end Go.Proofs.YtgbnfhfkehpfaaaGreat
/- slices.SortFunc of a single fit: a contract. -/
namespace Go.Proofs.YtgbnfhfkehpfaaaGreat
open Go.RowKit

set_option maxRecDepth 1000000 in
theorem len64_1 (w : World) : Calls Tryz.prog 133 #[.int .u64 1] w fun e w' => e = .returned (.int .i64 1) ∧ w = w' := by
  go_enter Tryz.func133, Tryz.ntmps133
  go_wp2
  go_ret
  refine ⟨ret_i64 ?_, rfl⟩
  decide +kernel
theorem len_1 (w : World) : Calls Tryz.prog 107 #[.int .u64 1] w fun e w' => e = .returned (.int .i64 1) ∧ w = w' := by
  go_enter Tryz.func107, Tryz.ntmps107
  go_wp2_with (go_at_call 133; refine (len64_1 _).mono ?_; rintro e w' ⟨rfl, rfl⟩)
  go_ret
  exact ⟨rfl, rfl⟩
set_option maxRecDepth 1000000 in
theorem insert1_any (a : Option Addr) (cap : Nat) (f : Value) (w : World) : Calls Tryz.prog 124 #[.slice a 1 cap, .int .i64 0, .int .i64 1, f] w fun e w' => e = .returned (.tuple #[]) ∧ w = w' := by
  go_enter Tryz.func124, Tryz.ntmps124
  go_wp2
  go_loopw [8] (fun i wr => i = .int .i64 1 ∧ wr = w) (fun _ _ => 1)
  case atStart => exact ⟨rfl, rfl⟩
  case round =>
    obtain ⟨rfl, hw⟩ := hrel
    obtain rfl := hw.symm
    clear hw
    go_wp2
    go_end0
    exact ⟨rfl, rfl⟩
set_option maxRecDepth 1000000 in
theorem pdq1_any (a : Option Addr) (cap : Nat) (l : Int) (f : Value) (w : World) : Calls Tryz.prog 106 #[.slice a 1 cap, .int .i64 0, .int .i64 1, .int .i64 l, f] w fun e w' => e = .returned (.tuple #[]) ∧ w = w' := by
  go_enter Tryz.func106, Tryz.ntmps106
  go_wp2
  go_loopw [1, 2] (fun i j wr => i = .int .i64 0 ∧ j = .int .i64 1 ∧ wr = w) (fun _ _ _ => 1)
  case atStart => exact ⟨rfl, rfl, rfl⟩
  case round =>
    obtain ⟨rfl, rfl, hw⟩ := hrel
    obtain rfl := hw.symm
    clear hw
    go_wp2_with (go_at_call 124; refine (insert1_any _ _ _ _).mono ?_; rintro e w' ⟨rfl, rfl⟩)
    refine bodyPost_ret (v := .tuple #[]) ?_ rfl ⟨rfl, rfl⟩
    simp [results, Tryz.results106, go_sem]
theorem sort1_any (a : Option Addr) (cap : Nat) (f : Value) (w : World) : Calls Tryz.prog 87 #[.slice a 1 cap, f] w fun e w' => e = .returned (.tuple #[]) ∧ w = w' := by
  go_enter Tryz.func87, Tryz.ntmps87
  go_wp2_with (first | (go_at_call 107; refine (len_1 _).mono ?_; rintro e w' ⟨rfl, rfl⟩) | (go_at_call 106; refine (pdq1_any _ _ _ _ _).mono ?_; rintro e w' ⟨rfl, rfl⟩))
  go_end0
  exact ⟨rfl, rfl⟩
end Go.Proofs.YtgbnfhfkehpfaaaGreat
/- ask of layer 5: contracts. -/
namespace Go.Proofs.YtgbnfhfkehpfaaaGreat
open Go.RowKit

theorem dask_ok (ma : Option Addr) (m : List (List Int)) (mc : Nat) (ya : Option Addr) (y : List Int) (yc : Nat) (w : World) (hr : readE m y = 0) (hm : MOk m) (hly : y.length ≤ 9223372036854775807) (hs : Ms w ma m) (hy : Sl w ya y) :
    Calls Tryz.prog 84 #[.slice ma m.length mc, .slice ya y.length yc] w fun e w' => e = .returned (.tuple #[.agg #[.slice ma m.length mc, .slice ya y.length yc], .int .i64 0]) ∧ Below w.heap.size w w' := by
  obtain ⟨V, hV⟩ : ∃ V, w.alloc (.cells #[.slice none 0 0, .slice none 0 0] 77) = V := ⟨_, rfl⟩
  have HBV : Hid (Below w.heap.size w V) := by rw [← hV]; exact (Below.refl _ _).alloc (Nat.le_refl _) _
  have HVW := Lib.hid (box2 hV)
  obtain ⟨t0, t1, t2, t3⟩ := HVW.out V (Below.refl _ _)
  have HPO : Hid (Calls Tryz.prog 14 #[.slice ma m.length mc, .slice ya y.length yc] V fun e w' => ∃ b, e = .returned (.tuple #[.bool b, .int .i64 0]) ∧ Below V.heap.size V w') := by
    refine (lpossible_any ma m mc ya y yc V hm hly (hs.below HBV.out) (hy.below HBV.out)).mono ?_
    rintro e w' ⟨h1, h2⟩
    rw [poss_e, hr] at h1
    exact ⟨_, h1, h2⟩
  clear hr hm hs hy
  go_enter Tryz.func84, Tryz.ntmps84
  go_wp2_with (go_at_call 14; refine HPO.out.mono ?_; rintro e w2 ⟨b, rfl, hb⟩; obtain ⟨u0, u1, u2, u3⟩ := HVW.out w2 hb; have HBW2 : Hid (Below w.heap.size w w2) := HBV.out.trans (hb.mono HBV.out.size); clear hb)
  refine bodyPost_ret (v := .tuple #[.agg #[.slice ma m.length mc, .slice ya y.length yc], .int .i64 0]) ?_ rfl ⟨rfl, (HBW2.out.setCell (p := ⟨w.heap.size, 0, none⟩) (Nat.le_refl _) _).setCell (p := ⟨w.heap.size, 1, none⟩) (Nat.le_refl _) _⟩
  rw [results_cell_tmp rfl]; go_simp
end Go.Proofs.YtgbnfhfkehpfaaaGreat
/- leastOf of layer 5, out of what normOf answers of the fits, where one corner is left: a contract. -/
namespace Go.Proofs.YtgbnfhfkehpfaaaGreat
open Go.RowKit Go.Shelf

def consK (nf : List (Int × Int) → Int × Int) (s : (Int × Int) × List (List Int × List (Int × Int))) (p : List Int × List (Int × Int)) : (Int × Int) × List (List Int × List (Int × Int)) :=
  if s.2 = [] ∨ cmpR (nf p.2).1 (nf p.2).2 s.1.1 s.1.2 < 0 then (nf p.2, [p]) else if cmpR (nf p.2).1 (nf p.2).2 s.1.1 s.1.2 = 0 then (s.1, s.2 ++ [p]) else s
def leastTo (nf : List (Int × Int) → Int × Int) (Z : List (List Int × List (Int × Int))) (k : Nat) : (Int × Int) × List (List Int × List (Int × Int)) := (Z.take k).foldl (consK nf) ((0, 0), [])
theorem leastTo_succ {nf : List (Int × Int) → Int × Int} {Z : List (List Int × List (Int × Int))} {k : Nat} {p : List Int × List (Int × Int)} (h : Z[k]? = some p) : leastTo nf Z (k + 1) = consK nf (leastTo nf Z k) p := by
  unfold leastTo
  rw [List.take_add_one, h, List.foldl_append]; rfl
theorem consX_key {nf : List (Int × Int) → Int × Int} {N D : Int} {xs : List FitV} {x : FitV} : ((consX (nf x.vs).1 (nf x.vs).2 N D xs x).1, (consX (nf x.vs).1 (nf x.vs).2 N D xs x).2.map keyF) = consK nf ((N, D), xs.map keyF) (keyF x) := by
  by_cases h1 : xs = [] ∨ cmpR (nf x.vs).1 (nf x.vs).2 N D < 0
  · have h1' : xs.map keyF = [] ∨ cmpR (nf x.vs).1 (nf x.vs).2 N D < 0 := by simpa using h1
    have e3 : consX (nf x.vs).1 (nf x.vs).2 N D xs x = (((nf x.vs).1, (nf x.vs).2), [x]) := by unfold consX; rw [if_pos h1]
    rw [e3]; unfold consK; dsimp only; exact (if_pos h1').symm
  · have h1' : ¬ (xs.map keyF = [] ∨ cmpR (nf x.vs).1 (nf x.vs).2 N D < 0) := by simpa using h1
    by_cases h2 : cmpR (nf x.vs).1 (nf x.vs).2 N D = 0
    · have e3 : consX (nf x.vs).1 (nf x.vs).2 N D xs x = ((N, D), xs ++ [x]) := by unfold consX; rw [if_neg h1, if_pos h2]
      rw [e3]; unfold consK; dsimp only; refine Eq.trans ?_ ((if_neg h1').trans (if_pos h2)).symm; simp
    · have e3 : consX (nf x.vs).1 (nf x.vs).2 N D xs x = ((N, D), xs) := by unfold consX; rw [if_neg h1, if_neg h2]
      rw [e3]; unfold consK; dsimp only; exact ((if_neg h1').trans (if_neg h2)).symm
theorem leastTo_len (nf : List (Int × Int) → Int × Int) (Z : List (List Int × List (Int × Int))) : ∀ k, k ≤ Z.length → (leastTo nf Z k).2.length ≤ k
  | 0, _ => by simp [leastTo]
  | k + 1, h => by
    have ih := leastTo_len nf Z k (by omega)
    rw [leastTo_succ (p := Z[k]) (by simp)]
    unfold consK
    split
    · simp
    · split
      · simp; omega
      · omega
theorem leastTo_norm {nf : List (Int × Int) → Int × Int} {Z : List (List Int × List (Int × Int))} (hz : ∀ p ∈ Z, I64' (nf p.2).1 ∧ I64' (nf p.2).2) : ∀ k, k ≤ Z.length → I64' (leastTo nf Z k).1.1 ∧ I64' (leastTo nf Z k).1.2
  | 0, _ => by simp [leastTo, I64']
  | k + 1, h => by
    have ih := leastTo_norm hz k (by omega)
    rw [leastTo_succ (p := Z[k]) (by simp)]
    unfold consK
    split
    · exact hz _ (List.getElem_mem _)
    · split
      · exact ih
      · exact ih
theorem Bx5.new (W : World) (u v : Value) (N D : Int) (c : Value) (t : TypeId) : Bx5 (W.alloc (.cells #[u, v, .int .i64 N, .int .i64 D, c] t)) W.heap.size u v N D c := ⟨by rw [World.size_alloc]; omega, alloc_cell _ _ _ _ _ rfl, alloc_cell _ _ _ _ _ rfl, alloc_cell _ _ _ _ _ rfl, alloc_cell _ _ _ _ _ rfl, alloc_cell _ _ _ _ _ rfl, by simp, by simp, by simp⟩
theorem FsN.turned {lo hi : Nat} {T : Blk} {W W' : World} {a : Option Addr} {l : List (List Int × List (Int × Int))} (h : FsN lo hi W a l) (ht : Turned T W W') (hT : ∀ b, lo ≤ b → b < hi → ¬ T b) : FsN lo hi W' a l := fun k p hk => by
  obtain ⟨b, x, e, h1, c1, c2, hm, hk2, ho⟩ := h k p hk
  have hb := hT b h1.1 h1.2
  exact ⟨b, x, e, h1, ht.cell c1 hb, ht.cell c2 hb, memF_turned hm ht fun c hc => hT c (ho c hc).1 (ho c hc).2, hk2, ho⟩
structure LI (lb base lo : Nat) (u v : Value) (nf : List (Int × Int) → Int × Int) (Z : List (List Int × List (Int × Int))) (fa : Option Addr) (w3 : World) (k : Nat) (W : World) : Prop where
  ex : ∃ c xs, Bx5 W lb u v (leastTo nf Z k).1.1 (leastTo nf Z k).1.2 c ∧ OwnF W base c xs ∧ xs.map keyF = (leastTo nf Z k).2 ∧ ∀ z ∈ xs, MemF z W ∧ ∀ b, ownF z b → lo ≤ b ∧ b < base
  fs : FsN lo base W fa Z
  tu : Turned (fun b => b = lb ∨ base ≤ b) w3 W
theorem LI.next {lb base lo : Nat} {u v : Value} {nf : List (Int × Int) → Int × Int} {Z : List (List Int × List (Int × Int))} {fa : Option Addr} {w3 : World} {k : Nat} {W W1 W' : World} {xs : List FitV} {x : FitV} {e : Ending}
    (hlo : lb < lo) (hfs : FsN lo base W fa Z) (htu : Turned (fun b => b = lb ∨ base ≤ b) w3 W) (hk : xs.map keyF = (leastTo nf Z k).2) (hm : ∀ z ∈ xs, MemF z W ∧ ∀ b, ownF z b → lo ≤ b ∧ b < base) (hxm : MemF x W) (hxo : ∀ b, ownF x b → lo ≤ b ∧ b < base) (hp : Z[k]? = some (keyF x))
    (hb : Below W.heap.size W W1) (hc : ConsP lb base u v (consX (nf x.vs).1 (nf x.vs).2 (leastTo nf Z k).1.1 (leastTo nf Z k).1.2 xs x) W1 e W') : LI lb base lo u v nf Z fa w3 (k + 1) W' := by
  obtain ⟨_, ht, c', h5, ho⟩ := hc
  have h0 := consX_key (nf := nf) (N := (leastTo nf Z k).1.1) (D := (leastTo nf Z k).1.2) (xs := xs) (x := x)
  rw [hk, show (((leastTo nf Z k).1.1, (leastTo nf Z k).1.2), (leastTo nf Z k).2) = leastTo nf Z k from rfl, ← leastTo_succ hp] at h0
  have t1 : Turned (fun b => b = lb ∨ base ≤ b) W W' := (below_turned (lb := lb) (base := base) hb).trans ht fun b h => .inl h
  have hT : ∀ b, lo ≤ b → b < base → ¬ (b = lb ∨ base ≤ b) := fun b h1 h2 h3 => by omega
  refine ⟨⟨c', _, ?_, ho, by rw [← h0], fun z hz => ?_⟩, hfs.turned t1 hT, htu.trans t1 fun b h => .inl h⟩
  · rw [← h0]; exact h5
  · have hz2 : z ∈ xs ∨ z = x := by
      unfold consX at hz
      split at hz
      · exact .inr (by simpa using hz)
      · split at hz
        · rcases List.mem_append.1 hz with h | h
          · exact .inl h
          · exact .inr (by simpa using h)
        · exact .inl hz
    have hz3 : MemF z W ∧ ∀ b, ownF z b → lo ≤ b ∧ b < base := hz2.elim (hm z) fun e => by rw [e]; exact ⟨hxm, hxo⟩
    exact ⟨memF_turned hz3.1 t1 fun b hb => hT b (hz3.2 b hb).1 (hz3.2 b hb).2, hz3.2⟩
set_option maxRecDepth 1000000 in
set_option maxHeartbeats 6400000 in
theorem leastOf1_any (nf : List (Int × Int) → Int × Int) (a : Option Addr) (m : List (List Int)) (mc : Nat) (ya : Option Addr) (y : List Int) (yc : Nat) (w : World) (hm : MOk m) (hly : y.length ≤ 1000) (hs : Ms w a m) (hy : Sl w ya y) (hr : readE m y = 0)
    (hzl : (fitsKV m y 10).1.length ≤ 10000) (hnf : ∀ p ∈ (fitsKV m y 10).1, I64' (nf p.2).1 ∧ I64' (nf p.2).2) (h1 : (leastTo nf (fitsKV m y 10).1 (fitsKV m y 10).1.length).2.length = 1)
    (hno : ∀ p ∈ (fitsKV m y 10).1, ∀ W va vc, Rl W va p.2 → Calls Tryz.prog 104 #[.slice va p.2.length vc] W fun e w' => e = .returned (.tuple #[.agg #[.int .i64 (nf p.2).1, .int .i64 (nf p.2).2], .bool true]) ∧ Below W.heap.size W w') :
    Calls Tryz.prog 55 #[.slice a m.length mc, .slice ya y.length yc] w fun e w' => Below w.heap.size w w' ∧ ∃ ca cc, e = .returned (.tuple #[.agg #[.slice a m.length mc, .slice ya y.length yc, .int .i64 (leastTo nf (fitsKV m y 10).1 (fitsKV m y 10).1.length).1.1, .int .i64 (leastTo nf (fitsKV m y 10).1 (fitsKV m y 10).1.length).1.2, .slice ca 1 cc], .int .i64 0]) := by
  have HAS : Hid (∀ W, Below w.heap.size w W → Calls Tryz.prog 84 #[.slice a m.length mc, .slice ya y.length yc] W fun e w' => e = .returned (.tuple #[.agg #[.slice a m.length mc, .slice ya y.length yc], .int .i64 0]) ∧ Below W.heap.size W w') := fun W hb => dask_ok a m mc ya y yc W hr hm (by omega) (hs.below hb) (hy.below hb)
  have HFI : Hid (∀ W, Below w.heap.size w W → Calls Tryz.prog 85 #[.slice a m.length mc, .slice ya y.length yc, .int .i64 10] W fun e w' => Below W.heap.size W w' ∧ ∃ ca cc, e = .returned (.tuple #[.slice ca (fitsKV m y 10).1.length cc, .int .i64 (fitsKV m y 10).2]) ∧ FsN W.heap.size w'.heap.size w' ca (fitsKV m y 10).1) := fun W hb => sfitsN_any a m mc ya y yc 10 W hm hly (hs.below hb) (hy.below hb)
  obtain ⟨⟨Z, ze⟩, hZ⟩ : ∃ r, fitsKV m y 10 = r := ⟨_, rfl⟩
  rw [hZ] at HFI hzl hnf h1 hno
  rw [hZ]
  dsimp only at HFI hzl hnf h1 hno ⊢
  have HNF := Lib.hid hnf
  have HNO := Lib.hid hno
  have H1 := Lib.hid h1
  obtain ⟨ml, hml⟩ : ∃ ml, m.length = ml := ⟨_, rfl⟩
  obtain ⟨yl, hyl⟩ : ∃ yl, y.length = yl := ⟨_, rfl⟩
  obtain ⟨zl, hzl2⟩ : ∃ zl, Z.length = zl := ⟨_, rfl⟩
  have HZL := Lib.hid hzl2
  rw [hml, hyl] at HAS HFI ⊢
  rw [hzl2] at HFI hzl H1 ⊢
  obtain ⟨NN, hNN⟩ : ∃ r, (leastTo nf Z zl).1.1 = r := ⟨_, rfl⟩
  obtain ⟨DD, hDD⟩ : ∃ r, (leastTo nf Z zl).1.2 = r := ⟨_, rfl⟩
  rw [hNN, hDD]
  have HNN := Lib.hid hNN
  have HDD := Lib.hid hDD
  clear hm hs hy hly hr hZ hnf hno h1 hml hyl hzl2 hNN hDD
  obtain ⟨V0, hV0⟩ : ∃ V0, w.alloc (.cells #[.slice none 0 0, .slice none 0 0, .int .i64 0, .int .i64 0, .slice none 0 0] 80) = V0 := ⟨_, rfl⟩
  have hb0 : Below w.heap.size w V0 := by rw [← hV0]; exact (Below.refl _ _).alloc (Nat.le_refl _) _
  have HB0 := Lib.hid hb0
  have H0 : Hid (Bx5 V0 w.heap.size (.slice none 0 0) (.slice none 0 0) 0 0 (.slice none 0 0)) := by show Bx5 _ _ _ _ _ _ _; rw [← hV0]; exact Bx5.new _ _ _ _ _ _ _
  have HF0 : Hid (V0.frozen? ⟨w.heap.size, 0, none⟩ = false ∧ V0.frozen? ⟨w.heap.size, 1, none⟩ = false) := by show _ ∧ _; rw [← hV0]; exact ⟨by simp, by simp⟩
  have HR0 : Hid (V0.heap.size = w.heap.size + 1) := by show _ = _; rw [← hV0]; exact World.size_alloc _ _
  go_enter Tryz.func55, Tryz.ntmps55
  go_wp2_with (first
    | (go_at_call 84; refine (HAS.out _ hb0).mono ?_; rintro e w1 ⟨rfl, hb1⟩; have HB1 := Lib.hid hb1; clear hb1)
    | (go_at_call 85
       have s1 : (w1.alloc (.cells #[.slice a ml mc, .slice ya yl yc] 77)).heap.size = w1.heap.size + 1 := World.size_alloc _ _
       obtain ⟨V2, hV2⟩ : ∃ V2, (w1.alloc (.cells #[.slice a ml mc, .slice ya yl yc] 77)).alloc (.cells #[.slice a ml mc, .slice ya yl yc, .int .i64 0, .int .i64 0, .slice none 0 0] 80) = V2 := ⟨_, rfl⟩
       have hb2 : Below w1.heap.size w1 V2 := by rw [← hV2]; exact ((Below.refl _ _).alloc (Nat.le_refl _) _).alloc (by omega) _
       have hs2 : V2.heap.size = w1.heap.size + 1 + 1 := by rw [← hV2, World.size_alloc, s1]
       have h5 : Bx5 V2 (w1.heap.size + 1) (.slice a ml mc) (.slice ya yl yc) 0 0 (.slice none 0 0) := by rw [← hV2, ← s1]; exact Bx5.new _ _ _ _ _ _ _
       have hbw2 : Below w.heap.size w V2 := (HB0.out.trans (HB1.out.mono HB0.out.size)).trans (hb2.mono (HB0.out.trans (HB1.out.mono HB0.out.size)).size)
       rw [hV2]
       refine (HFI.out V2 hbw2).mono ?_
       rintro e w3 ⟨hb3, fa, fc, rfl, hfs⟩
       have HB2 := Lib.hid hb2
       have HS2 := Lib.hid hs2
       have HFS := Lib.hid hfs
       have HB3 := Lib.hid hb3
       have HBW3 : Hid (Below w.heap.size w w3) := hbw2.trans (hb3.mono hbw2.size)
       have H5 := Lib.hid (h5.next hb3)
       have hb02 : Below V0.heap.size V0 V2 := HB1.out.trans (hb2.mono HB1.out.size)
       have HRES := Lib.hid ((H0.out.next hb02).next hb3)
       have HFR : Hid (w3.frozen? ⟨w.heap.size, 0, none⟩ = false ∧ w3.frozen? ⟨w.heap.size, 1, none⟩ = false) := by
         have hl := H0.out.lt
         have hb03 : Below V0.heap.size V0 w3 := hb02.trans (hb3.mono hb02.size)
         exact ⟨(hb03.frozen (p := ⟨w.heap.size, 0, none⟩) hl).trans HF0.out.1, (hb03.frozen (p := ⟨w.heap.size, 1, none⟩) hl).trans HF0.out.2⟩
       clear hb2 hs2 hfs hb3 hbw2 h5 s1 hV2 hb02))
  have HS0 : Hid (w.heap.size + 1 ≤ w1.heap.size) := by have := HR0.out; have := HB1.out.size; show _ ≤ _; omega
  generalize hlb : w1.heap.size + 1 = lb at *
  generalize hlo : V2.heap.size = lo at *
  generalize hbs : w3.heap.size = base at *
  have I0 : LI lb base lo (.slice a ml mc) (.slice ya yl yc) nf Z fa w3 0 w3 := ⟨⟨_, [], H5.out, OwnF.nil _ _, rfl, fun z hz => by cases hz⟩, HFS.out, ⟨rfl, rfl, rfl, Nat.le_refl _, fun _ _ _ => rfl⟩⟩
  have HI0 := Lib.hid I0
  have HLL : Hid (lb < lo ∧ w.heap.size + 1 < lb ∧ lo ≤ base) := by have := HS2.out; have := HS0.out; have := HB3.out.size; show _ ∧ _; omega
  clear I0
  go_loopw [33] (fun i wr => ∃ k : Nat, k ≤ zl ∧ i = .int .i64 k ∧ LI lb base lo (.slice a ml mc) (.slice ya yl yc) nf Z fa w3 k wr) (fun i _ => zl - (intOf i).toNat)
  case atStart => exact ⟨0, Nat.zero_le _, rfl, HI0.out⟩
  case round =>
    clear HI0
    obtain ⟨k, hk, rfl, hI⟩ := hrel
    have HI := Lib.hid hI; clear hI
    by_cases hlt : k < zl
    · obtain ⟨p, hp⟩ : ∃ p, Z[k]? = some p := ⟨Z[k]'(by rw [HZL.out]; exact hlt), by simp [HZL.out, hlt]⟩
      obtain ⟨⟨c, xs, h5, hox, hkx, hmx⟩, hfs, htu⟩ := HI.out
      obtain ⟨fb, x, rfl, hfb, x0, x1, hxm, hxk, hxo⟩ := hfs k p hp
      subst hxk
      obtain ⟨V6, hV6⟩ : ∃ V6, wr.alloc (.cells #[.slice x.qa x.px.length x.qc, .slice x.va x.vs.length x.vc] 106) = V6 := ⟨_, rfl⟩
      have hb6 : Below wr.heap.size wr V6 := by rw [← hV6]; exact (Below.refl _ _).alloc (Nat.le_refl _) _
      have y6 : Bx V6 wr.heap.size (.slice x.qa x.px.length x.qc) (.slice x.va x.vs.length x.vc) := by rw [← hV6]; exact Bx.new _ _ _ _
      have hpz : keyF x ∈ Z := List.mem_of_getElem? hp
      have hxl : xs.length ≤ 10000 := by
        have h1 := leastTo_len nf Z k (by rw [HZL.out]; omega)
        have h2 := congrArg List.length hkx
        rw [List.length_map] at h2
        omega
      have hbase : base ≤ V6.heap.size := by have h1 := htu.size; have h2 := hb6.size; omega
      have hnn := leastTo_norm HNF.out k (by rw [HZL.out]; omega)
      have HCO : Hid (Calls Tryz.prog 86 #[.pointer (some ⟨lb, 0, none⟩), .agg #[.slice x.qa x.px.length x.qc, .slice x.va x.vs.length x.vc]] V6 (ConsP lb base (.slice a ml mc) (.slice ya yl yc) (consX (nf x.vs).1 (nf x.vs).2 (leastTo nf Z k).1.1 (leastTo nf Z k).1.2 xs x) V6)) :=
        consider_any lb base _ _ c _ _ (nf x.vs).1 (nf x.vs).2 true xs x V6 (h5.next hb6) (hox.below hb6) (by have := HLL.out; omega) hbase hxl hnn.1 hnn.2 (HNF.out _ hpz).1 (HNF.out _ hpz).2 fun W hW => HNO.out _ hpz W x.va x.vc ((hxm.rl.below hb6).below hW)
      have HNX : Hid (∀ W' e, ConsP lb base (.slice a ml mc) (.slice ya yl yc) (consX (nf x.vs).1 (nf x.vs).2 (leastTo nf Z k).1.1 (leastTo nf Z k).1.2 xs x) V6 e W' → LI lb base lo (.slice a ml mc) (.slice ya yl yc) nf Z (some ⟨fb, 0, none⟩) w3 (k + 1) W') := fun W' e hc => LI.next HLL.out.1 hfs htu hkx hmx hxm hxo hp hb6 hc
      obtain ⟨_, z0, z1, _, _⟩ := y6
      have hk0 : (k : Int) < (zl : Int) := by omega
      clear h5 hox hkx hmx hfs htu hxm hxo hp hpz hxl hbase hnn hb6 hfb
      go_wp2_with (go_at_call 86; refine HCO.out.mono ?_; rintro e w7 hc7; have hn7 := HNX.out _ _ hc7; obtain ⟨rfl, _⟩ := hc7; have HN7 := Lib.hid hn7; clear hn7)
      go_roundw
      case rel => exact ⟨k + 1, by omega, by go_num, HN7.out⟩
      case measure => simp [intOf]; omega
    · obtain rfl : k = zl := by omega
      obtain ⟨⟨c, xs, h5, hox, hkx, hmx⟩, hfs, htu⟩ := HI.out
      have hx1 : xs.length = 1 := by
        have h2 := congrArg List.length hkx
        rw [List.length_map, H1.out] at h2
        exact h2
      have hcf : ∃ ca cc, c = .slice ca 1 cc := by
        rcases hox.form with ⟨e, e2⟩ | ⟨g, cap, e⟩
        · rw [e2] at hx1; cases hx1
        · exact ⟨_, _, by rw [e, hx1]⟩
      obtain ⟨ca, cc, rfl⟩ := hcf
      have hwr : Below w.heap.size w wr := HBW3.out.trans (htu.below HBW3.out.size fun b hb h => by have := HLL.out; have := HBW3.out.size; omega)
      have HWR := Lib.hid hwr
      have hres : Bx5 wr w.heap.size (.slice none 0 0) (.slice none 0 0) 0 0 (.slice none 0 0) := HRES.out.same htu.size (htu.same _ HRES.out.lt fun h => by have := HLL.out; omega)
      obtain ⟨_, k0, k1, k2, k3, k4, _, _, _⟩ := h5
      obtain ⟨g0, g1, g2, g3, g4⟩ : wr.frozen? ⟨w.heap.size, 0, none⟩ = false ∧ wr.frozen? ⟨w.heap.size, 1, none⟩ = false ∧ wr.frozen? ⟨w.heap.size, 2, none⟩ = false ∧ wr.frozen? ⟨w.heap.size, 3, none⟩ = false ∧ wr.frozen? ⟨w.heap.size, 4, none⟩ = false := by
        have hb := htu.same _ HRES.out.lt fun h => by have := HLL.out; omega
        exact ⟨(frozen_of_block' hb 0).trans HFR.out.1, (frozen_of_block' hb 1).trans HFR.out.2, hres.f2, hres.f3, hres.f4⟩
      obtain ⟨_, q0, q1, q2, q3, q4, _, _, _⟩ := hres
      rw [HNN.out] at k2
      rw [HDD.out] at k3
      clear hox hkx hmx hfs htu hx1 hwr HI
      go_wp2_with (go_at_call 87; refine (sort1_any _ _ _ _).mono ?_; rintro e w8 ⟨rfl, hw8⟩; obtain rfl := hw8.symm; clear hw8)
      refine bodyPost_ret (v := .tuple #[.agg #[.slice a ml mc, .slice ya yl yc, .int .i64 NN, .int .i64 DD, .slice ca 1 cc], .int .i64 0]) ?_ rfl ⟨((((HWR.out.setCell (p := ⟨w.heap.size, 0, none⟩) (Nat.le_refl _) _).setCell (p := ⟨w.heap.size, 1, none⟩) (Nat.le_refl _) _).setCell (p := ⟨w.heap.size, 2, none⟩) (Nat.le_refl _) _).setCell (p := ⟨w.heap.size, 3, none⟩) (Nat.le_refl _) _).setCell (p := ⟨w.heap.size, 4, none⟩) (Nat.le_refl _) _, _, _, rfl⟩
      rw [results_cell_tmp rfl]
      go_simp
end Go.Proofs.YtgbnfhfkehpfaaaGreat
/- Value of layer 5, out of what normOf answers of the fits, where one corner is left: a contract. -/
namespace Go.Proofs.YtgbnfhfkehpfaaaGreat
open Go.RowKit Go.Shelf

set_option maxRecDepth 1000000 in
set_option maxHeartbeats 3200000 in
theorem dvalue1_any (nf : List (Int × Int) → Int × Int) (a : Option Addr) (m : List (List Int)) (mc : Nat) (ya : Option Addr) (y : List Int) (yc : Nat) (w : World) (hm : MOk m) (hly : y.length ≤ 1000) (hs : Ms w a m) (hy : Sl w ya y) (hr : readE m y = 0)
    (hzl : (fitsKV m y 10).1.length ≤ 10000) (hnf : ∀ p ∈ (fitsKV m y 10).1, I64' (nf p.2).1 ∧ I64' (nf p.2).2) (h1 : (leastTo nf (fitsKV m y 10).1 (fitsKV m y 10).1.length).2.length = 1)
    (hno : ∀ p ∈ (fitsKV m y 10).1, ∀ W va vc, Rl W va p.2 → Calls Tryz.prog 104 #[.slice va p.2.length vc] W fun e w' => e = .returned (.tuple #[.agg #[.int .i64 (nf p.2).1, .int .i64 (nf p.2).2], .bool true]) ∧ Below W.heap.size W w') :
    Calls Tryz.prog 26 #[.slice a m.length mc, .slice ya y.length yc] w fun e w' => Below w.heap.size w w' ∧ e = .returned (.tuple #[.agg #[.int .i64 (leastTo nf (fitsKV m y 10).1 (fitsKV m y 10).1.length).1.1, .int .i64 (leastTo nf (fitsKV m y 10).1 (fitsKV m y 10).1.length).1.2], .int .i64 0]) := by
  obtain ⟨V, hV⟩ : ∃ V, w.alloc (.cells #[.int .i64 0, .int .i64 0] 38) = V := ⟨_, rfl⟩
  have hb0 : Below w.heap.size w V := by rw [← hV]; exact (Below.refl _ _).alloc (Nat.le_refl _) _
  have HR : Hid (Bx V w.heap.size (.int .i64 0) (.int .i64 0)) := by show Bx _ _ _ _; rw [← hV]; exact Bx.new _ _ _ _
  have HB0 := Lib.hid hb0
  have HL : Hid (Calls Tryz.prog 55 #[.slice a m.length mc, .slice ya y.length yc] V fun e w' => Below V.heap.size V w' ∧ ∃ ca cc, e = .returned (.tuple #[.agg #[.slice a m.length mc, .slice ya y.length yc, .int .i64 (leastTo nf (fitsKV m y 10).1 (fitsKV m y 10).1.length).1.1, .int .i64 (leastTo nf (fitsKV m y 10).1 (fitsKV m y 10).1.length).1.2, .slice ca 1 cc], .int .i64 0])) := leastOf1_any nf a m mc ya y yc V hm hly (hs.below hb0) (hy.below hb0) hr hzl hnf h1 hno
  obtain ⟨NN, hNN⟩ : ∃ r, (leastTo nf (fitsKV m y 10).1 (fitsKV m y 10).1.length).1.1 = r := ⟨_, rfl⟩
  obtain ⟨DD, hDD⟩ : ∃ r, (leastTo nf (fitsKV m y 10).1 (fitsKV m y 10).1.length).1.2 = r := ⟨_, rfl⟩
  rw [hNN, hDD] at HL ⊢
  obtain ⟨ml, hml⟩ : ∃ ml, m.length = ml := ⟨_, rfl⟩
  obtain ⟨yl, hyl⟩ : ∃ yl, y.length = yl := ⟨_, rfl⟩
  rw [hml, hyl] at HL ⊢
  clear hm hs hy hly hr hzl hnf h1 hno hNN hDD hml hyl hb0
  go_enter Tryz.func26, Tryz.ntmps26
  go_wp2_with (go_at_call 55; refine HL.out.mono ?_; rintro e w1 ⟨hb1, ca, cc, rfl⟩
               have hb2 : Below V.heap.size V (w1.alloc (.cells #[.slice a ml mc, .slice ya yl yc, .int .i64 NN, .int .i64 DD, .slice ca 1 cc] 80)) := hb1.alloc hb1.size _
               obtain ⟨_, g0, g1, g2, g3⟩ := HR.out.next hb2
               have HB2 := Lib.hid hb2
               clear hb1 hb2)
  refine bodyPost_ret (v := .tuple #[.agg #[.int .i64 NN, .int .i64 DD], .int .i64 0]) ?_ rfl ⟨((HB0.out.trans (HB2.out.mono HB0.out.size)).setCell (p := ⟨w.heap.size, 0, none⟩) (Nat.le_refl _) _).setCell (p := ⟨w.heap.size, 1, none⟩) (Nat.le_refl _) _, rfl⟩
  rw [results_cell_tmp rfl]
  go_simp
end Go.Proofs.YtgbnfhfkehpfaaaGreat
/- Known of the answers: a contract. -/
namespace Go.Proofs.YtgbnfhfkehpfaaaGreat
open Go.RowKit

def knTo (m : List (List Int)) : Nat → List Int
  | 0 => []
  | j + 1 => if rknownB m j = true then knTo m j ++ [(j : Int)] else knTo m j
theorem knTo_len (m : List (List Int)) : ∀ j, (knTo m j).length ≤ j
  | 0 => Nat.le_refl _
  | j + 1 => by
    have := knTo_len m j
    unfold knTo; split
    · rw [List.length_append, List.length_singleton]; omega
    · omega
def knownLV (m : List (List Int)) : List Int × Int := if validM m = true then (knTo m (colsM m), 0) else ([], 1)
end Go.Proofs.YtgbnfhfkehpfaaaGreat
/- Known of the program: a contract. -/
namespace Go.Proofs.YtgbnfhfkehpfaaaGreat
open Go.RowKit

set_option maxRecDepth 1000000 in
set_option maxHeartbeats 1600000 in
theorem lknowns_any (ma : Option Addr) (m : List (List Int)) (mc : Nat) (w : World) (hm : MOk m) (hs : Ms w ma m) :
    Calls Tryz.prog 17 #[.slice ma m.length mc] w (LPost (knownLV m) w) := by
  have HVA : Hid (Calls Tryz.prog 32 #[.slice ma m.length mc] w fun e w' => e = .returned (.bool (validM m)) ∧ Below w.heap.size w w') := mvalid_any ma m mc w hm hs
  cases hv : validM m
  case false =>
    rw [hv] at HVA
    have HK : Hid (knownLV m = ([], 1)) := by show _ = _; simp [knownLV, hv]
    clear hv hs hm
    rw [HK.out]
    go_enter Tryz.func17, Tryz.ntmps17
    go_wp2_with (go_at_call 32; refine HVA.out.mono ?_; rintro e w1 ⟨rfl, hb⟩; have HB := Lib.hid hb; clear hb)
    go_ret2
    exact LPost.err 1 rfl HB.out
  case true =>
    rw [hv] at HVA
    obtain ⟨hm1, hm6, hc1, hc10, hrows⟩ := validM_of hv
    have h64 : Hid (All64 m) := fun q hq x hx => by
      obtain ⟨c, hc, rfl⟩ := mem_gt.1 hx
      have := gt_in (hrows q hq).2 hc
      unfold In64; omega
    have HRA : Hid (∀ w1 : World, Below w.heap.size w w1 → Calls Tryz.prog 39 #[.slice ma m.length mc, .func (.func 45) #[] #[]] w1 (RdPost (redN m (upTo (colsM m))) w1)) := fun w1 hb => reduceAll_any (Lib.hid hm6) (Lib.hid hm1) (Lib.hid ⟨hc1, hc10⟩) (Lib.hid fun r hr => (hrows r hr).1) h64 (Lib.hid (hs.below hb))
    have HF := Lib.hid (basis_fin hv)
    have HKS : Hid (∀ j, j < colsM m → decide (0 ≤ knownV (redN m (upTo (colsM m))).rows (redN m (upTo (colsM m))).piv (colsM m) (j : Int)) = rknownB m j) := fun j hj => known_same hv hj
    have hco : (redN m (upTo (colsM m))).cols = colsM m := by rw [redN_cols, upTo_len]
    obtain ⟨rd, hrd⟩ : ∃ rd, redN m (upTo (colsM m)) = rd := ⟨_, rfl⟩
    rw [hrd] at HF HRA HKS hco
    obtain ⟨cols, rows, piv, dv⟩ := rd
    dsimp only at HKS hco
    subst hco
    have hlen := HF.out.len
    have hrow := HF.out.row
    have hplr := HF.out.pl
    dsimp only at hlen hrow hplr
    have HKV : Hid (∀ (g cp : Nat) (ads : List (Nat × Nat)) (pa : Option Addr) (pc base : Nat) (j : Nat) (W : World), SI W base g ads rows → Sl W pa piv → Calls Tryz.prog 43 #[.agg #[.int .i64 (colsM m : Int), .slice (some ⟨g, 0, none⟩) rows.length cp, .slice pa piv.length pc, .int .i64 dv], .int .i64 (j : Int)] W fun e w' => e = .returned (.int .i64 (knownV rows piv (colsM m) (j : Int))) ∧ Below W.heap.size W w') := fun g cp ads pa pc base j W h h2 => known_any (colsM m) g cp (colsM m) ads rows pa piv pc dv (j : Int) base W (by omega) (by omega) hrow (Nat.le_refl _) (by omega) h h2
    obtain ⟨bm, om, ai, ci, rfl, hcell, _⟩ := hs 0 hm1
    obtain ⟨c, hc⟩ : ∃ c, colsM m = c := ⟨_, rfl⟩
    have hl0 : (m[0]?.getD []).length = c := by rw [← hc]; rfl
    rw [hl0, Nat.add_zero] at hcell
    have HM0 : Hid (∀ W, Below w.heap.size w W → W.cell? ⟨bm, om, none⟩ = some (.slice ai c ci)) := fun W hW => (hW.cell (p := ⟨bm, om, none⟩) (cell_lt hcell)).trans hcell
    have HK : Hid (knownLV m = (knTo m c, 0)) := by show _ = _; simp [knownLV, hv, hc]
    rw [hc] at hc10 HKV HKS HRA
    rw [HK.out]
    obtain ⟨n, hn⟩ : ∃ n, m.length = n := ⟨_, rfl⟩
    rw [hn] at hm1 HVA HRA ⊢
    have hn0 : (0 : Int) < (n : Int) := by omega
    clear hs hl0 hrows hn hc hc1 hv hm HF hcell hlen hrow hplr hrd h64 hm6
    go_enter Tryz.func17, Tryz.ntmps17
    go_wp2_with (first | (go_at_call 32; refine HVA.out.mono ?_; rintro e w1 ⟨rfl, hb⟩; have HB := Lib.hid hb; clear hb) | (go_at_call 39; refine (HRA.out w1 HB.out).mono ?_; rintro e w3 ⟨hb3, g, cp, ads, pa2, pc2, rfl, hgg, si, pi⟩; unfold rdV; dsimp only at si pi ⊢; obtain ⟨W4, hW4⟩ : ∃ W4, w3.alloc (.cells #[.int .i64 (c : Int), .slice (some ⟨g, 0, none⟩) rows.length cp, .slice pa2 piv.length pc2, .int .i64 dv] 61) = W4 := ⟨_, rfl⟩; have HCW : Hid (∀ W, Below W4.heap.size W4 W → W.cell? ⟨w3.heap.size, 0, none⟩ = some (.int .i64 (c : Int)) ∧ W.cell? ⟨w3.heap.size, 1, none⟩ = some (.slice (some ⟨g, 0, none⟩) rows.length cp) ∧ W.cell? ⟨w3.heap.size, 2, none⟩ = some (.slice pa2 piv.length pc2) ∧ W.cell? ⟨w3.heap.size, 3, none⟩ = some (.int .i64 dv)) := box_cells hW4; have HB4 : Hid (Below w3.heap.size w3 W4) := hW4 ▸ (Below.refl _ _).alloc (Nat.le_refl _) _; have HSI4 := Lib.hid (si.below HB4.out); have HPI4 := Lib.hid ((OwnI.sl pi).below HB4.out); have HBW4 : Hid (Below w.heap.size w W4) := HB.out.trans ((hb3.mono HB.out.size).trans (HB4.out.mono (Nat.le_trans HB.out.size hb3.size))); have km := HM0.out W4 HBW4.out; clear si pi hgg hb3))
    clear hW4 km
    go_loopw [5, 16] (fun v i wr => ∃ j : Nat, j ≤ c ∧ i = .int .i64 j ∧ OwnI wr W4.heap.size v (knTo m j) ∧ Below W4.heap.size W4 wr) (fun _ i _ => c - (intOf i).toNat)
    case atStart => exact ⟨0, Nat.zero_le _, rfl, OwnI.nil _ _, Below.refl _ _⟩
    case round =>
      obtain ⟨j, hj, rfl, hO, hB⟩ := hrel
      have HO := Lib.hid hO; clear hO
      have HBB := Lib.hid hB; clear hB
      by_cases hlt : j < c
      · have HSU : Hid (knTo m (j + 1) = if rknownB m j = true then knTo m j ++ [(j : Int)] else knTo m j) := rfl
        have hks := HKS.out j hlt
        have HKJ := Lib.hid (HKV.out g cp ads pa2 pc2 _ j wr (HSI4.out.below HBB.out) (HPI4.out.below HBB.out))
        have hlk := knTo_len m j
        obtain ⟨k0, k1, k2, k3⟩ := HCW.out wr HBB.out
        obtain ⟨q, hq⟩ : ∃ q, rknownB m j = q := ⟨_, rfl⟩
        rw [hq] at HSU hks
        obtain ⟨T, hT⟩ : ∃ T, knTo m j = T := ⟨_, rfl⟩
        rw [hT] at HO HSU hlk
        obtain ⟨kv, hkv⟩ : ∃ kv, knownV rows piv c (j : Int) = kv := ⟨_, rfl⟩
        rw [hkv] at HKJ hks
        clear hT hq hkv
        cases q with
        | false =>
          have hkn : ¬ (0 : Int) ≤ kv := of_decide_eq_false hks
          go_wp2_with (go_at_call 43; refine HKJ.out.mono ?_; rintro e w5 ⟨rfl, hb5⟩)
          go_roundw
          case rel => exact ⟨j + 1, by omega, by go_num, by rw [HSU.out]; exact OwnI.below HO.out hb5, HBB.out.trans (hb5.mono HBB.out.size)⟩
          case measure => simp [intOf]; omega
        | true =>
          have hkn : (0 : Int) ≤ kv := of_decide_eq_true hks
          go_wp2_with (first | (go_at_call 43; refine HKJ.out.mono ?_; rintro e w5 ⟨rfl, hb5⟩; have HO5 := Lib.hid (OwnI.below HO.out hb5); have HB5 : Hid (Below W4.heap.size W4 w5) := HBB.out.trans (hb5.mono HBB.out.size); clear hb5) | (at_builtin; refine wpList_push rfl (.tmp 23) (.tmp 25) rfl W4.heap.size _ T _ _ _ _ rfl rfl rfl HO5.out (by omega) HB5.out.size ?_; intro v' w9 ho' hb'))
          go_roundw
          case rel => exact ⟨j + 1, by omega, by go_num, by rw [HSU.out]; exact ho', HB5.out.trans hb'⟩
          case measure => simp [intOf]; omega
      · obtain rfl : j = c := by omega
        obtain ⟨pa, pc, rfl, hps⟩ := HO.out.any
        have HPS := Lib.hid hps; clear hps
        go_wp2
        go_ret2
        exact ⟨HBW4.out.trans (HBB.out.mono HBW4.out.size), _, _, rfl, HPS.out⟩
end Go.Proofs.YtgbnfhfkehpfaaaGreat
/- Masks in new memory: slices of rows that the call made itself. -/
namespace Go.Proofs.YtgbnfhfkehpfaaaGreat
open Go.RowKit

abbrev RH := Option Addr × List Int × Nat
def hdv (h : RH) : Value := .slice h.1 h.2.1.length h.2.2
def rowsOf (hs : List RH) : List (List Int) := hs.map fun h => h.2.1
theorem rowsOf_length (hs : List RH) : (rowsOf hs).length = hs.length := by simp [rowsOf]
theorem rowsOf_get {hs : List RH} {i : Nat} {h : RH} (e : hs[i]? = some h) : (rowsOf hs)[i]? = some h.2.1 := by simp [rowsOf, e]
theorem Tryz.infoRow : (Tryz.prog.info? 22).map (fun i => (i.zero, i.size, i.bytes)) = some (some (.slice none 0 0), 1, 24) := by kernel_rfl
structure OwnM (w : World) (base : Nat) (v : Value) (hs : List RH) (sk : Nat) : Prop where
  own : w.ownsRow base 22 1 v hs.length (hs.map hdv)
  rows : ∀ i h, hs[i]? = some h → i ≠ sk → Sl w h.1 h.2.1
  apart : ∀ i h, hs[i]? = some h → i ≠ sk → ∀ ad, h.1 = some ad → ad.block < w.heap.size ∧ v.ownBlock ≠ some ad.block
def RowsLow (hs : List RH) (sk B : Nat) : Prop := ∀ i h, hs[i]? = some h → i ≠ sk → ∀ ad, h.1 = some ad → ad.block < B

theorem OwnM.nil (w : World) (base sk : Nat) : OwnM w base (.slice none 0 0) [] sk := ⟨World.ownsRow_nil _ _ _ _, fun i h e => by simp at e, fun i h e => by simp at e⟩
theorem rows_are (n : Nat) : (madeCells (Value.slice none 0 0).cells (n * 1)).toList = (List.replicate n ((none, [], 0) : RH)).map hdv := by
  rw [Nat.mul_one]
  show (madeCells #[Value.slice none 0 0] n).toList = _
  rw [toList_madeCells_one]; simp [hdv]
theorem OwnM.made {w : World} {base g n : Nat} (sk : Nat) (h : w.ownsRow base 22 1 (.slice (some ⟨g, 0, none⟩) n n) n (madeCells (Value.slice none 0 0).cells (n * 1)).toList) : OwnM w base (.slice (some ⟨g, 0, none⟩) n n) (List.replicate n (none, [], 0)) sk := by
  refine ⟨?_, fun i h' e _ => ?_, fun i h' e _ ad ha => ?_⟩
  · rw [rows_are] at h; rw [List.length_replicate]; exact h
  · obtain rfl := (List.mem_replicate.1 (List.mem_of_getElem? e)).2
    exact fun k hk => absurd hk (by simp)
  · obtain rfl := (List.mem_replicate.1 (List.mem_of_getElem? e)).2
    cases ha
theorem ownsRow_below' {w w' : World} {base : Nat} {e : TypeId} {size : Nat} {v : Value} {n : Nat} {xs : List Value} (h : w.ownsRow base e size v n xs) (hb : Below w.heap.size w w') : w'.ownsRow base e size v n xs := by
  obtain ⟨h0, h1 | ⟨g, cap, cur, e, hg, hh, rest⟩⟩ := h
  · exact ⟨h0, .inl h1⟩
  · exact ⟨h0, .inr ⟨g, cap, cur, e, hg, (hb.block g (Array.getElem?_eq_some_iff.1 hh).1).trans hh, rest⟩⟩
theorem OwnM.below {w w' : World} {base : Nat} {v : Value} {hs : List RH} {sk : Nat} (h : OwnM w base v hs sk) (hb : Below w.heap.size w w') : OwnM w' base v hs sk :=
  ⟨ownsRow_below' h.own hb, fun i x e n => (h.rows i x e n).below hb, fun i x e n ad ha => ⟨Nat.lt_of_lt_of_le (h.apart i x e n ad ha).1 hb.size, (h.apart i x e n ad ha).2⟩⟩
theorem OwnM.skip {w : World} {base : Nat} {v : Value} {hs : List RH} {sk : Nat} (h : OwnM w base v hs sk) (hk : hs.length ≤ sk) (sk' : Nat) : OwnM w base v hs sk' := by
  have hi : ∀ i x, hs[i]? = some x → i ≠ sk := fun i x e => by have := (List.getElem?_eq_some_iff.1 e).1; omega
  exact ⟨h.own, fun i x e _ => h.rows i x e (hi i x e), fun i x e _ => h.apart i x e (hi i x e)⟩
theorem OwnM.low {w : World} {base : Nat} {v : Value} {hs : List RH} {sk : Nat} (h : OwnM w base v hs sk) : RowsLow hs sk w.heap.size := fun i x e n ad ha => (h.apart i x e n ad ha).1
theorem RowsLow.set {hs : List RH} {sk B : Nat} (h : RowsLow hs sk B) (x : RH) : RowsLow (hs.set sk x) sk B := by
  intro i y e n ad ha
  rw [List.getElem?_set_ne (Ne.symm n)] at e
  exact h i y e n ad ha
theorem OwnM.sl_of {w : World} {base : Nat} {a : Option Addr} {n cap : Nat} {hs : List RH} {sk : Nat} (h : OwnM w base (.slice a n cap) hs sk) : n = hs.length := by
  obtain ⟨_, ⟨e, h0⟩ | ⟨g, c, cur, e, _⟩⟩ := h.own
  · have : n = 0 := by simpa using congrArg (fun v => match v with | .slice _ n _ => n | _ => 0) e
    omega
  · simpa using congrArg (fun v => match v with | .slice _ n _ => n | _ => 0) e
theorem OwnM.cell {w : World} {base g n cap : Nat} {hs : List RH} {sk : Nat} (h : OwnM w base (.slice (some ⟨g, 0, none⟩) n cap) hs sk) {i : Nat} {x : RH} (e : hs[i]? = some x) :
    w.cell? ⟨g, i, none⟩ = some (.slice x.1 x.2.1.length x.2.2) ∧ w.frozen? ⟨g, i, none⟩ = false := by
  obtain rfl := h.sl_of
  have hi := (List.getElem?_eq_some_iff.1 e).1
  refine ⟨?_, World.ownsRow.frozenAt h.own i⟩
  rw [World.ownsRow.cellAt h.own i (by omega)]
  simp [e, hdv]
theorem OwnM.lt {w : World} {base g n cap : Nat} {hs : List RH} {sk : Nat} (h : OwnM w base (.slice (some ⟨g, 0, none⟩) n cap) hs sk) : g < w.heap.size ∧ base ≤ g := by
  have := World.ownsRow.lt h.own g rfl
  omega
theorem OwnM.ms {w : World} {base : Nat} {a : Option Addr} {n cap : Nat} {hs : List RH} {sk : Nat} (h : OwnM w base (.slice a n cap) hs sk) (hk : hs.length ≤ sk) : Ms w a (rowsOf hs) := by
  have hn := h.sl_of
  intro i hi
  rw [rowsOf_length] at hi
  obtain ⟨x, e⟩ : ∃ x, hs[i]? = some x := ⟨hs[i], by simp [hi]⟩
  obtain ⟨_, ⟨_, h0⟩ | ⟨g, c, cur, ev, _⟩⟩ := h.own
  · omega
  · obtain ⟨rfl, _, _⟩ : a = some ⟨g, 0, none⟩ ∧ n = hs.length ∧ cap = c := by simpa using ev
    refine ⟨g, 0, x.1, x.2.2, rfl, ?_, ?_⟩
    · rw [Nat.zero_add, rowsOf_get e]; exact (h.cell e).1
    · rw [rowsOf_get e]; exact h.rows i x e (by omega)
theorem OwnM.grow {w w' : World} {base g n cap B : Nat} {hs : List RH} {sk : Nat} (h : OwnM w base (.slice (some ⟨g, 0, none⟩) n cap) hs sk) (hb : Below B w w') (hg : g < B) (hl : RowsLow hs sk B) : OwnM w' base (.slice (some ⟨g, 0, none⟩) n cap) hs sk := by
  refine ⟨?_, fun i x e hi k hk => ?_, fun i x e hi ad ha => ⟨Nat.lt_of_lt_of_le (h.apart i x e hi ad ha).1 hb.size, (h.apart i x e hi ad ha).2⟩⟩
  · obtain ⟨h0, ⟨e, _⟩ | ⟨g', cap', cur, e, hge, hh, rest⟩⟩ := h.own
    · cases e
    · obtain rfl : g = g' := by simpa using congrArg (fun v => match v with | .slice (some a) _ _ => a.block | _ => 0) e
      exact ⟨h0, .inr ⟨g, cap', cur, e, hge, (hb.block g hg).trans hh, rest⟩⟩
  · obtain ⟨b, off, ha, hc⟩ := h.rows i x e hi k hk
    exact ⟨b, off, ha, (hb.cell (p := ⟨b, off + k, none⟩) (show b < B from hl i x e hi ⟨b, off, none⟩ ha)).trans hc⟩
theorem OwnM.put {w : World} {base g n cap : Nat} {hs : List RH} {k : Nat} (h : OwnM w base (.slice (some ⟨g, 0, none⟩) n cap) hs k) (sk : Nat) {a : Option Addr} {r : List Int} (c : Nat) (hs' : Sl w a r) (ha : ∀ ad, a = some ad → ad.block < w.heap.size ∧ ad.block ≠ g) :
    OwnM (w.setCell ⟨g, k, none⟩ (.slice a r.length c)) base (.slice (some ⟨g, 0, none⟩) n cap) (hs.set k (a, r, c)) sk := by
  obtain rfl := h.sl_of
  have keep : ∀ b o, b ≠ g → (w.setCell ⟨g, k, none⟩ (.slice a r.length c)).cell? ⟨b, o, none⟩ = w.cell? ⟨b, o, none⟩ := fun b o hb => cell_other w ⟨g, k, none⟩ _ o hb
  have hsz : (w.setCell ⟨g, k, none⟩ (.slice a r.length c)).heap.size = w.heap.size := by simp
  refine ⟨?_, fun i x e _ j hj => ?_, fun i x e _ ad had => ?_⟩
  · rw [List.length_set, List.map_set]
    exact (World.ownsRow.stored h.own k _).1
  · by_cases hik : i = k
    · subst hik
      have hlt : i < hs.length := by have := (List.getElem?_eq_some_iff.1 e).1; simpa using this
      rw [List.getElem?_set_self hlt] at e
      obtain rfl : (a, r, c) = x := by simpa using e
      obtain ⟨b, off, hb, hc⟩ := hs' j hj
      exact ⟨b, off, hb, (keep b _ (ha _ hb).2).trans hc⟩
    · rw [List.getElem?_set_ne (Ne.symm hik)] at e
      obtain ⟨b, off, hb, hc⟩ := h.rows i x e hik j hj
      have hne : b ≠ g := fun he => (h.apart i x e hik _ hb).2 (by simp [Value.ownBlock, he])
      exact ⟨b, off, hb, (keep b _ hne).trans hc⟩
  · rw [hsz]
    by_cases hik : i = k
    · subst hik
      have hlt : i < hs.length := by have := (List.getElem?_eq_some_iff.1 e).1; simpa using this
      rw [List.getElem?_set_self hlt] at e
      obtain rfl : (a, r, c) = x := by simpa using e
      refine ⟨(ha ad had).1, ?_⟩
      have := (ha ad had).2
      simp only [Value.ownBlock, Option.some.injEq, ne_eq]
      exact fun he => this he.symm
    · rw [List.getElem?_set_ne (Ne.symm hik)] at e
      exact h.apart i x e hik ad had
theorem OwnI.row {w : World} {base : Nat} {v : Value} {xs : List Int} (h : OwnI w base v xs) : ∃ a c, v = .slice a xs.length c ∧ Sl w a xs ∧ ∀ ad, a = some ad → ad.block < w.heap.size ∧ base ≤ ad.block := by
  have h' := h
  obtain ⟨hx, ⟨rfl, h0⟩ | ⟨g, cap, cur, rfl, _⟩⟩ := h
  · have : xs = [] := List.eq_nil_of_length_eq_zero h0
    subst this
    exact ⟨none, 0, rfl, Sl.none _, fun ad e => by cases e⟩
  · refine ⟨some ⟨g, 0, none⟩, cap, rfl, h'.sl, fun ad e => ?_⟩
    cases e
    exact h'.lt
def MPost (r : List (List Int) × Int) (w : World) (e : Ending) (w' : World) : Prop := Below w.heap.size w w' ∧ ∃ a cap, r.1.length ≤ cap ∧ e = .returned (.tuple #[.slice a r.1.length cap, .int .i64 r.2]) ∧ Ms w' a r.1
theorem Ms.take {w : World} {a : Option Addr} {m : List (List Int)} (h : Ms w a m) (n : Nat) : Ms w a (m.take n) := by
  intro i hi
  have h1 : i < m.length := by rw [List.length_take] at hi; omega
  have h2 : i < n := by rw [List.length_take] at hi; omega
  obtain ⟨b, off, ai, ci, e1, e2, e3⟩ := h i h1
  have e : (m.take n)[i]? = m[i]? := by rw [List.getElem?_take]; simp [h2]
  rw [e]
  exact ⟨b, off, ai, ci, e1, e2, e3⟩
theorem Ms.none (w : World) : Ms w none [] := fun k h => absurd h (by simp)
theorem MPost.err {w w' : World} (n : Int) {r : List (List Int) × Int} (hr : r = ([], n)) (hb : Below w.heap.size w w') : MPost r w (.returned (.tuple #[.slice none 0 0, .int .i64 n])) w' := by
  subst hr; exact ⟨hb, none, 0, Nat.le_refl _, rfl, Ms.none _⟩
theorem MPost.own {w w' : World} {base : Nat} {v : Value} {hs : List RH} {sk : Nat} {r : List (List Int) × Int} (hr : r = (rowsOf hs, 0)) (hb : Below w.heap.size w w') (ho : OwnM w' base v hs sk) (hk : hs.length ≤ sk) : MPost r w (.returned (.tuple #[v, .int .i64 0])) w' := by
  subst hr
  have h' := ho.own
  obtain ⟨hx, ⟨rfl, h0⟩ | ⟨g, cap, cur, rfl, _, _, hcap, _⟩⟩ := h'
  · have : hs = [] := List.eq_nil_of_length_eq_zero h0
    subst this
    exact ⟨hb, none, 0, Nat.le_refl _, rfl, Ms.none _⟩
  · exact ⟨hb, _, cap, by rw [rowsOf_length]; exact hcap, by rw [rowsOf_length], ho.ms hk⟩
end Go.Proofs.YtgbnfhfkehpfaaaGreat
/- Slices of rows that are filled row by row: plain words. -/
namespace Go.Proofs.YtgbnfhfkehpfaaaGreat
open Go.RowKit

structure FillM (F : Nat → List Int) (n k : Nat) (hs : List RH) : Prop where
  len : hs.length = n
  done : ∀ i, i < k → ∃ h, hs[i]? = some h ∧ h.2.1 = F i
  todo : ∀ i, k ≤ i → i < n → hs[i]? = some (none, [], 0)
theorem FillM.start (F : Nat → List Int) (n : Nat) : FillM F n 0 (List.replicate n (none, [], 0)) :=
  ⟨by simp, fun i hi => absurd hi (by omega), fun i _ hi => by simp [hi]⟩
theorem FillM.next {F : Nat → List Int} {n k : Nat} {hs : List RH} (h : FillM F n k hs) (hk : k < n) {a : Option Addr} {r : List Int} {c : Nat} (hr : r = F k) : FillM F n (k + 1) (hs.set k (a, r, c)) := by
  have hl := h.len
  refine ⟨by rw [List.length_set]; exact hl, fun i hi => ?_, fun i hi hn => ?_⟩
  · by_cases e : i = k
    · subst e
      exact ⟨_, List.getElem?_set_self (by omega), hr⟩
    · rw [List.getElem?_set_ne (Ne.symm e)]
      exact h.done i (by omega)
  · rw [List.getElem?_set_ne (by omega)]
    exact h.todo i (by omega) hn
theorem FillM.all {F : Nat → List Int} {n : Nat} {hs : List RH} (h : FillM F n n hs) : rowsOf hs = (List.range n).map F := by
  refine List.ext_getElem (by rw [rowsOf_length, h.len]; simp) fun i h1 h2 => ?_
  rw [rowsOf_length, h.len] at h1
  obtain ⟨x, e, hx⟩ := h.done i h1
  have e2 := rowsOf_get e
  obtain ⟨hi, e3⟩ := List.getElem?_eq_some_iff.1 e2
  rw [e3, hx]; simp
theorem OwnM.fill {w : World} {base : Nat} {v : Value} {hs : List RH} {k : Nat} (h : OwnM w base v hs k) (sk : Nat) {x : RH} (e : hs[k]? = some x) (hs' : Sl w x.1 x.2.1) (ha : ∀ ad, x.1 = some ad → ad.block < w.heap.size ∧ v.ownBlock ≠ some ad.block) : OwnM w base v hs sk := by
  refine ⟨h.own, fun i y ey _ => ?_, fun i y ey _ => ?_⟩
  · by_cases hi : i = k
    · subst hi; rw [e] at ey; obtain rfl : x = y := by simpa using ey
      exact hs'
    · exact h.rows i y ey hi
  · by_cases hi : i = k
    · subst hi; rw [e] at ey; obtain rfl : x = y := by simpa using ey
      exact ha
    · exact h.apart i y ey hi
theorem take_range_succ' (f : Nat → Int) {n k : Nat} (hk : k < n) : ((List.range n).map f).take (k + 1) = ((List.range n).map f).take k ++ [f k] := by
  rw [List.take_succ_eq_append_getElem (by simpa using hk)]
  congr 2
  simp
end Go.Proofs.YtgbnfhfkehpfaaaGreat
/- Ones of a number, and the numbers that two have in common: contracts of the library, plain facts. -/
namespace Go.Proofs.YtgbnfhfkehpfaaaGreat
open Go.RowKit

theorem i64_and (a b : Nat) (ha : a < 4294967296) (hb : b < 4294967296) : bits .and .i64 (a : Int) (b : Int) = ((a &&& b : Nat) : Int) := by
  have hx : a &&& b < 2 ^ 32 := Nat.and_lt_two_pow _ (by omega)
  show IntKind.i64.wrap ((BitVec.ofInt 64 (a : Int) &&& BitVec.ofInt 64 (b : Int)).toNat : Int) = _
  rw [BitVec.toNat_and, ofInt_u64 a (by omega), ofInt_u64 b (by omega), IntWalk.i64_in _ (by omega)]
def popc (n : Nat) : Int := (((List.range 9).filter (fun k => n.testBit k)).length : Nat)
theorem ones64_any (n : Nat) (hn : n < 257) (w : World) : Calls Tryz.prog 60 #[.int .u64 n] w fun e w' => e = .returned (.int .i64 (popc n)) ∧ w = w' := by
  go_enter Tryz.func60, Tryz.ntmps60
  go_wp2
  go_ret
  refine ⟨ret_i64 ?_, rfl⟩
  revert n
  decide +kernel
theorem ones_any (n : Nat) (hn : n < 257) (w : World) : Calls Tryz.prog 29 #[.int .u64 n] w fun e w' => e = .returned (.int .i64 (popc n)) ∧ w = w' := by
  go_enter Tryz.func29, Tryz.ntmps29
  go_wp2_with (go_at_call 60; refine (ones64_any _ hn _).mono ?_; rintro e w' ⟨rfl, rfl⟩)
  go_ret
  exact ⟨rfl, rfl⟩

end Go.Proofs.YtgbnfhfkehpfaaaGreat
/- Walsh of layer 2 and of its answers: contracts. -/
namespace Go.Proofs.YtgbnfhfkehpfaaaGreat
open Go.RowKit

def longB (p : Int) : Bool := decide (p = 1) || (decide (p = 2) || (decide (p = 4) || decide (p = 8)))
def wsign (i j : Nat) : Int := 1 - 2 * (popc (i &&& j) % 2)
def walshRow (n i : Nat) : List Int := (List.range n).map (wsign i)
def walshM (n : Nat) (rows : List Int) : List (List Int) := (List.range rows.length).map fun k => walshRow n (gt rows k).toNat
def wrowsB (p : Int) (rows : List Int) : Bool := rangeB rows.length 1 6 && (allR 0 (p - 1) rows && ascB (-1) rows)
def walshV (p : Int) (rows : List Int) : List (List Int) × Int := if (longB p && wrowsB p rows) = true then (walshM p.toNat rows, 0) else ([], 7)
theorem walshV_no {p : Int} {rows : List Int} (h : (longB p && wrowsB p rows) = false) : walshV p rows = ([], 7) := by unfold walshV; rw [h]; rfl
theorem walshV_ok {p : Int} {rows : List Int} (h : (longB p && wrowsB p rows) = true) : walshV p rows = (walshM p.toNat rows, 0) := by unfold walshV; rw [h]; rfl
theorem longB_of {p : Int} (h : longB p = true) : p = 1 ∨ p = 2 ∨ p = 4 ∨ p = 8 := by
  simp [longB] at h; omega
theorem longB_no {p : Int} (h : longB p = false) : p ≠ 1 ∧ p ≠ 2 ∧ p ≠ 4 ∧ p ≠ 8 := by
  simp [longB] at h; omega
theorem allR_get {lo hi : Int} {xs : List Int} (h : allR lo hi xs = true) {k : Nat} (hk : k < xs.length) : lo ≤ gt xs k ∧ gt xs k ≤ hi := by
  unfold allR at h; rw [List.all_eq_true] at h
  have e : xs[k]? = some (xs[k]) := by simp
  have := h _ (List.mem_of_getElem? e)
  unfold gt; rw [e]
  simp [rangeB] at this; simpa using this
theorem popc_bd (n : Nat) : 0 ≤ popc n ∧ popc n ≤ 9 := by
  unfold popc
  have := List.length_filter_le (fun k => n.testBit k) (List.range 9)
  simp at this ⊢; omega
theorem wsign_some (i j : Nat) : ∃ c : Int, popc (i &&& j) = c ∧ 0 ≤ c ∧ c ≤ 9 ∧ wsign i j = 1 - 2 * (c % 2) := ⟨_, rfl, (popc_bd _).1, (popc_bd _).2, rfl⟩

theorem walshLong_any (p : Int) (w : World) : Calls Tryz.prog 27 #[.int .i64 p] w fun e w' => e = .returned (.bool (longB p)) ∧ w = w' := by
  cases h : longB p
  · obtain ⟨h1, h2, h4, h8⟩ := longB_no h
    have e1 : (p == 1) = false := by simpa using h1
    have e2 : (p == 2) = false := by simpa using h2
    have e4 : (p == 4) = false := by simpa using h4
    have e8 : (p == 8) = false := by simpa using h8
    clear h1 h2 h4 h8 h
    go_enter Tryz.func27, Tryz.ntmps27
    go_wp2
    go_ret
    exact ⟨rfl, rfl⟩
  · obtain rfl | rfl | rfl | rfl := longB_of h
    all_goals
      clear h
      go_enter Tryz.func27, Tryz.ntmps27
      go_wp2
      go_ret
      exact ⟨rfl, rfl⟩
theorem walshRows_any (p : Int) (hp : 1 ≤ p) (hp8 : p ≤ 8) (a : Option Addr) (xs : List Int) (cap : Nat) (w : World) (hl : xs.length ≤ 9223372036854775807) (hs : Sl w a xs) :
    Calls Tryz.prog 28 #[.int .i64 p, .slice a xs.length cap] w fun e w' => e = .returned (.bool (wrowsB p xs)) ∧ Below w.heap.size w w' := by
  have HS := Lib.hid hs; clear hs
  by_cases h1 : 1 ≤ xs.length
  · by_cases h6 : xs.length ≤ 6
    · have HX : Hid (wrowsB p xs = (allR 0 (p - 1) xs && ascB (-1) xs)) := by
        show wrowsB p xs = _
        have : rangeB xs.length 1 6 = true := by simp [rangeB]; omega
        unfold wrowsB; rw [this, Bool.true_and]
      go_enter Tryz.func28, Tryz.ntmps28
      go_wp2_with fail
      refine (between_any 0 (p - 1) _).mono ?_
      rintro e w1 ⟨rfl, c1, c2, hb⟩
      have HB := Lib.hid hb; clear hb
      go_wp2_with fail
      refine (allbtw_any 0 (p - 1) _ _ _ _ _ _ hl c1 c2 (HS.out.below HB.out)).mono ?_
      rintro e w2 ⟨rfl, rfl⟩
      clear c1 c2
      cases hA : allR 0 (p - 1) xs
      · rw [hA, Bool.false_and] at HX
        clear hA
        go_wp2
        go_ret
        exact ⟨ret_bool HX.out.symm, HB.out⟩
      · rw [hA, Bool.true_and] at HX
        clear hA
        go_wp2_with fail
        refine (asc_any _ _ _ _ hl (HS.out.below HB.out)).mono ?_
        rintro e w3 ⟨rfl, hb3⟩
        go_wp2
        go_ret
        exact ⟨ret_bool HX.out.symm, HB.out.trans (hb3.mono HB.out.size)⟩
    · have HX : Hid (wrowsB p xs = false) := by
        show wrowsB p xs = false
        have : rangeB xs.length 1 6 = false := by simp [rangeB]; omega
        unfold wrowsB; rw [this, Bool.false_and]
      have h6' : 6 < xs.length := by omega
      clear h6
      go_enter Tryz.func28, Tryz.ntmps28
      go_wp2
      go_ret
      exact ⟨ret_bool HX.out.symm, Below.refl _ _⟩
  · have HX : Hid (wrowsB p xs = false) := by
      show wrowsB p xs = false
      have : rangeB xs.length 1 6 = false := by simp [rangeB]; omega
      unfold wrowsB; rw [this, Bool.false_and]
    have h1' : xs.length < 1 := by omega
    clear h1
    go_enter Tryz.func28, Tryz.ntmps28
    go_wp2
    go_ret
    exact ⟨ret_bool HX.out.symm, Below.refl _ _⟩
end Go.Proofs.YtgbnfhfkehpfaaaGreat
/- Walsh of layer 2: a contract. -/
namespace Go.Proofs.YtgbnfhfkehpfaaaGreat
open Go.RowKit

set_option maxRecDepth 100000 in
set_option maxHeartbeats 800000 in
theorem mWalsh_any (p : Int) (a : Option Addr) (rows : List Int) (cap : Nat) (w : World) (hl : rows.length ≤ 9223372036854775807) (hs : Sl w a rows) :
    Calls Tryz.prog 9 #[.int .i64 p, .slice a rows.length cap] w (MPost (walshV p rows) w) := by
  have HS := Lib.hid hs; clear hs
  obtain ⟨i0, hi, hz0, hz1, hz2⟩ := info_parts Tryz.infoRow
  go_enter Tryz.func9, Tryz.ntmps9
  go_wp2_with fail
  refine (walshLong_any _ _).mono ?_
  rintro e w1 ⟨rfl, rfl⟩
  cases hlong : longB p
  · have HV : Hid (walshV p rows = ([], 7)) := walshV_no (by rw [hlong]; rfl)
    clear hlong
    go_wp2
    go_ret2
    exact MPost.err 7 HV.out (Below.refl _ _)
  · have hp : 1 ≤ p ∧ p ≤ 8 := by have := longB_of hlong; omega
    obtain ⟨hp1, hp8⟩ := hp
    have HLG := Lib.hid hlong; clear hlong
    go_wp2_with fail
    refine (walshRows_any p hp1 hp8 _ _ _ _ hl HS.out).mono ?_
    rintro e w1 ⟨rfl, hb1⟩
    have HB1 := Lib.hid hb1; clear hb1
    cases hr : wrowsB p rows
    · have HV : Hid (walshV p rows = ([], 7)) := walshV_no (by rw [hr, Bool.and_false])
      clear hr
      go_wp2
      go_ret2
      exact MPost.err 7 HV.out HB1.out
    · have HV : Hid (walshV p rows = (walshM p.toNat rows, 0)) := walshV_ok (by rw [hr, HLG.out]; rfl)
      have hparts : rangeB rows.length 1 6 = true ∧ allR 0 (p - 1) rows = true := by
        unfold wrowsB at hr; simp only [Bool.and_eq_true] at hr; exact ⟨hr.1, hr.2.1⟩
      have h6 : rows.length ≤ 6 := by have := hparts.1; simp [rangeB] at this; omega
      have HR := Lib.hid hparts.2
      clear hparts hr
      obtain ⟨n, rfl⟩ : ∃ n : Nat, p = (n : Int) := ⟨p.toNat, by omega⟩
      rw [Int.toNat_natCast] at HV
      have hn8 : n ≤ 8 := by omega
      clear hp1 hp8
      go_wp2_with (with_reducible refine wpList_make_full _ rfl (.tmp 20) (.tmp 20) 26 rfl w1.heap.size 22 i0 (.slice none 0 0) 1 Tryz.underlying26 hi hz0 hz1 .i64 .i64 (rows.length : Int) (rows.length : Int) rows.length rfl rfl rfl rfl (by rw [hz2]; omega) (by unfold maxLen; omega) (Nat.le_refl _) ?_)
      rotate_left
      intro w4 hown hgrow
      have HO4 : Hid (OwnM w4 w1.heap.size (.slice (some ⟨w1.heap.size, 0, none⟩) rows.length rows.length) (List.replicate rows.length (none, [], 0)) (List.replicate rows.length ((none, [], 0) : RH)).length) := OwnM.made _ (by rw [Nat.mul_one]; exact hown)
      have HB4 : Hid (Below w.heap.size w w4) := Below.next HB1.out ((Below.refl _ _).grown hgrow (Nat.le_refl _) (fun k e => by cases e)) (Nat.le_refl _)
      obtain ⟨g, hg⟩ : ∃ g, w1.heap.size = g := ⟨_, rfl⟩
      rw [hg] at HO4 ⊢
      have HG : Hid (w.heap.size ≤ g) := by show _ ≤ g; rw [← hg]; exact HB1.out.size
      clear hown hgrow hg
      go_wp2
      go_loopw [24] (fun i wr => ∃ (k : Nat) (hs : List RH), k ≤ rows.length ∧ i = .int .i64 k ∧ OwnM wr g (.slice (some ⟨g, 0, none⟩) rows.length rows.length) hs hs.length ∧ FillM (fun k => walshRow n (gt rows k).toNat) rows.length k hs ∧ Below w.heap.size w wr) (fun i _ => rows.length - (intOf i).toNat)
      case atStart => exact ⟨0, _, Nat.zero_le _, rfl, HO4.out, FillM.start _ _, HB4.out⟩
      case round =>
        obtain ⟨k, hs, hk, rfl, hO, hF, hB⟩ := hrel
        have HO := Lib.hid hO; clear hO
        have HF := Lib.hid hF; clear hF
        have HB := Lib.hid hB; clear hB
        by_cases hlt : k < rows.length
        · obtain ⟨b, off, x, rfl, hcell, HX⟩ := (HS.out.below HB.out).at hlt
          have hx0 := allR_get HR.out hlt
          rw [gt_some' HX.out] at hx0
          obtain ⟨m, rfl⟩ : ∃ m : Nat, x = (m : Int) := ⟨x.toNat, by omega⟩
          have hm8 : m < 8 := by omega
          clear hx0
          obtain ⟨wo, rfl⟩ : ∃ wo : World, wo = wr := ⟨_, rfl⟩
          have hgo := HO.out.lt.1
          have HBo := Lib.hid HB.out
          have HLOW : Hid (RowsLow hs k wo.heap.size) := (HO.out.skip (Nat.le_refl _) k).low
          have HOk : Hid (OwnM wo g (.slice (some ⟨g, 0, none⟩) rows.length rows.length) (hs.set k (none, [], 0)) k) := by
            show OwnM _ _ _ _ _
            have e : hs.set k (none, [], 0) = hs := by
              have e1 := HF.out.todo k (Nat.le_refl _) hlt
              have hkl : k < hs.length := (List.getElem?_eq_some_iff.1 e1).1
              have e2 := (List.getElem?_eq_some_iff.1 e1).2
              rw [← e2]; exact List.set_getElem_self hkl
            rw [e]; exact HO.out.skip (Nat.le_refl _) k
          have HGO := Lib.hid hgo; clear hgo
          go_wp2
          clear hcell
          go_loopw [30] (fun i wr => ∃ (j : Nat) (ar : Option Addr) (cr : Nat), j ≤ n ∧ i = .int .i64 j ∧ OwnM wr g (.slice (some ⟨g, 0, none⟩) rows.length rows.length) (hs.set k (ar, (walshRow n m).take j, cr)) k ∧ OwnI wr wo.heap.size (.slice ar ((walshRow n m).take j).length cr) ((walshRow n m).take j) ∧ Below w.heap.size w wr ∧ wo.heap.size ≤ wr.heap.size) (fun i _ => n - (intOf i).toNat)
          case atStart => exact ⟨0, none, 0, Nat.zero_le _, rfl, HOk.out, OwnI.nil _ _, HB.out, Nat.le_refl _⟩
          case round =>
            obtain ⟨j, ar, cr, hj, rfl, hOM, hOI, hBj, hsz⟩ := hrel
            have HOM := Lib.hid hOM; clear hOM
            have HOI := Lib.hid hOI; clear hOI
            have HBj := Lib.hid hBj; clear hBj
            have HSZ := Lib.hid hsz; clear hsz
            have hkl : k < hs.length := by rw [HF.out.len]; exact hlt
            by_cases hjt : j < n
            · obtain ⟨hcz, hfz⟩ := HOM.out.cell (List.getElem?_set_self hkl)
              dsimp only at hcz
              obtain ⟨c, hc, hc0, hc9, hws⟩ := wsign_some m j
              have HC := Lib.hid hc; clear hc
              have HWS : Hid ((walshRow n m).take (j + 1) = (walshRow n m).take j ++ [1 - 2 * (c % 2)]) := by
                show _ = _
                rw [← hws]; exact take_range_succ' (wsign m) hjt
              have hlen : ((walshRow n m).take j).length = j := by simp [walshRow]; omega
              rw [hlen] at hcz
              clear hws
              have HLEN := Lib.hid hlen; clear hlen
              have hband := i64_and m j (by omega) (by omega)
              have hmn : m &&& j < 257 := Nat.lt_of_le_of_lt Nat.and_le_left (by omega)
              obtain ⟨q, hq⟩ : ∃ q, m &&& j = q := ⟨_, rfl⟩
              rw [hq] at hband hmn HC
              have hmq : (0 : Int) ≤ (q : Int) := by omega
              clear hq
              obtain ⟨d, hd⟩ : ∃ d : Int, c % 2 = d := ⟨_, rfl⟩
              have hd0 : 0 ≤ d := by omega
              have hd1 : d ≤ 1 := by omega
              have t1 : c.tmod 2 = d := by rw [Int.tmod_eq_emod_of_nonneg hc0]; exact hd
              rw [hd] at HWS
              have m0 : IntKind.i64.wrap d = d := IntWalk.i64_in _ (by omega)
              have m1 : IntKind.i64.wrap (2 * d) = 2 * d := IntWalk.i64_in _ (by omega)
              have m2 : IntKind.i64.wrap (1 - 2 * d) = 1 - 2 * d := IntWalk.i64_in _ (by omega)
              have m3 : IntKind.u64.wrap (q : Int) = (q : Int) := by
                show ((q : Int)) % 18446744073709551616 = _
                omega
              clear hd
              obtain ⟨L, hL⟩ : ∃ L, (walshRow n m).take (j + 1) = L := ⟨_, rfl⟩
              have HWL : Hid ((walshRow n m).take j ++ [1 - 2 * d] = L) := by show _ = _; rw [← HWS.out, hL]
              have HLD := Lib.hid hL; clear hL
              have hg2 := HGO.out
              have HG2 := Lib.hid hg2; clear hg2
              have hgs : g < wr.heap.size := Nat.lt_of_lt_of_le HG2.out HSZ.out
              have hgn : g ≠ wr.heap.size := by omega
              have hfa : ∀ o, (wr.alloc o).drew.frozen? ⟨g, k, none⟩ = false := fun o => ((((Below.refl wr.heap.size wr).alloc (Nat.le_refl _) o).drew).frozen (p := ⟨g, k, none⟩) hgs).trans hfz
              go_wp2
              go_region_law (first | (go_simp; go_at_call 29; refine (ones_any q hmn _).mono ?_; rintro e w' ⟨rfl, rfl⟩; rw [HC.out]) | (refine step_push rfl (.tmp 38) (.tmp 47) rfl wo.heap.size _ ((walshRow n m).take j) _ _ wr.heap.size (by rw [HLEN.out]; rfl) (by rfl) (alloc_cell wr _ _ _ _ rfl) ((HOI.out.below ((Below.refl _ _).alloc (Nat.le_refl _) _)).drew) (by rw [HLEN.out]; omega) (by simp; have := HSZ.out; omega) ?_; intro v' w9 ho' hb'; rw [HWL.out] at ho'; obtain ⟨ar', cr', rfl, sr', ltr'⟩ := ho'.row; have hc9 := (hb'.cell (p := ⟨g, k, none⟩) HG2.out).trans (((((Below.refl wr.heap.size wr).alloc (Nat.le_refl _) _).drew).cell (p := ⟨g, k, none⟩) hgs).trans hcz); have hf9 := (hb'.frozen (p := ⟨g, k, none⟩) HG2.out).trans (hfa _)))
              all_goals
                have HO9 := Lib.hid ho'; clear ho'
                have HB9 : Hid (Below wo.heap.size wr w9) := (((Below.refl _ _).alloc HSZ.out _).drew).trans hb'
                have HS9 := Lib.hid sr'; clear sr'
                have HL9 := Lib.hid ltr'; clear ltr'
                have HM9 := Lib.hid (HOM.out.grow HB9.out HGO.out (HLOW.out.set _))
                clear hfa hb'
                go_wp2
                go_roundw
                case rel =>
                  have hgne : ∀ ad, ar' = some ad → ad.block < w9.heap.size ∧ ad.block ≠ g := fun ad ha => ⟨(HL9.out ad ha).1, by have := (HL9.out ad ha).2; have := HGO.out; omega⟩
                  have hput := HM9.out.put k cr' HS9.out hgne
                  rw [List.set_set] at hput
                  refine ⟨j + 1, ar', cr', by omega, by go_num, ?_, ?_, ?_, ?_⟩
                  · rw [HLD.out]; exact hput
                  · rw [HLD.out]; exact HO9.out.setBelow HGO.out _
                  · exact (HBj.out.trans (HB9.out.mono HBo.out.size)).setCell HG.out _
                  · simp; exact Nat.le_trans HSZ.out HB9.out.size
                case measure => simp [intOf]; omega
            · obtain rfl : j = n := by omega
              have hrow : (walshRow j m).take j = walshRow j m := List.take_of_length_le (by simp [walshRow])
              rw [hrow] at HOM HOI
              have hkl : k < hs.length := by rw [HF.out.len]; exact hlt
              have hap : ∀ ad, ar = some ad → ad.block < wr.heap.size ∧ ad.block ≠ g := by
                intro ad ha
                obtain ⟨a1, c1, e1, _, h1⟩ := HOI.out.row
                obtain ⟨rfl, _⟩ : ar = a1 ∧ cr = c1 := by simpa using e1
                have := h1 ad ha
                have := HGO.out
                exact ⟨by omega, by omega⟩
              have HFULL : Hid (OwnM wr g (.slice (some ⟨g, 0, none⟩) rows.length rows.length) (hs.set k (ar, walshRow j m, cr)) (hs.set k (ar, walshRow j m, cr)).length) :=
                HOM.out.fill _ (List.getElem?_set_self hkl) HOI.out.sl (fun ad ha => ⟨(hap ad ha).1, by have := (hap ad ha).2; simp only [Value.ownBlock, Option.some.injEq, ne_eq]; exact fun e => this e.symm⟩)
              have HFN := Lib.hid (HF.out.next hlt (a := ar) (r := walshRow j m) (c := cr) (by rw [gt_some' HX.out, Int.toNat_natCast]))
              clear hap hkl hrow
              go_wp2
              go_roundw
              case rel => exact ⟨k + 1, _, by omega, by go_num, HFULL.out, HFN.out, HBj.out⟩
              case measure => simp [intOf]; omega
        · obtain rfl : k = rows.length := by omega
          have HZ := Lib.hid HF.out.all
          go_wp2
          go_ret2
          exact MPost.own (by rw [HV.out, HZ.out]; rfl) HB.out HO.out (Nat.le_refl _)
end Go.Proofs.YtgbnfhfkehpfaaaGreat
/- The sanity check of the statements of the whole: a contract. -/
namespace Go.Proofs.YtgbnfhfkehpfaaaGreat
open Go.RowKit Go.Shelf

def wM : List (List Int) := [[1, 1], [1, -1]]
theorem wM_walsh : walshV 2 [0, 1] = (wM, 0) := by decide +kernel
theorem wM_valid : validM wM = true := by decide
theorem wM_known : knownLV wM = ([0, 1], 0) := by decide +kernel
theorem wM_read : readE wM [3, 1] = 0 := by decide
theorem wM_fits : fitsKV wM [3, 1] 10 = ([([0, 1], [(2, 1), (1, 1)])], 0) := by decide +kernel
theorem wM_value (a : Option Addr) (mc : Nat) (ya : Option Addr) (yc : Nat) (w : World) (hs : Ms w a wM) (hy : Sl w ya [3, 1]) :
    Calls Tryz.prog 26 #[.slice a 2 mc, .slice ya 2 yc] w fun e w' => Below w.heap.size w w' ∧ e = .returned (.tuple #[.agg #[.int .i64 3, .int .i64 1], .int .i64 0]) := by
  have h := dvalue1_any (fun _ => (3, 1)) a wM mc ya [3, 1] yc w (mok_of wM_valid) (by decide) hs hy wM_read (by rw [wM_fits]; decide) (by rw [wM_fits]; intro p hp; unfold I64'; dsimp only; omega) (by rw [wM_fits]; decide +kernel) (by
    rw [wM_fits]
    intro p hp W va vc hr
    obtain rfl : p = ([0, 1], [(2, 1), (1, 1)]) := by simpa using hp
    refine dnorm_any va [(2, 1), (1, 1)] vc 3 1 true W (by decide) hr.rr (fun k p hk => ?_) (fun V => dlowest1_any 3 V (by omega))
    match k, hk with
    | 0, hk => simp at hk; subst hk; unfold I64'; dsimp only; omega
    | 1, hk => simp at hk; subst hk; unfold I64'; dsimp only; omega
    | k + 2, hk => simp at hk)
  rw [wM_fits] at h
  exact h
set_option maxRecDepth 1000000 in
set_option maxHeartbeats 3200000 in
theorem awake5_any (w : World) : Calls Tryz.prog 8 #[] w fun e w' => e = .returned (.bool true) ∧ Below w.heap.size w w' := by
  have HW : Hid (∀ W : World, Calls Tryz.prog 9 #[.int .i64 2, .slice (some ⟨W.heap.size, 0, none⟩) 2 2] (W.alloc (.cells #[.int .i64 0, .int .i64 1] 3)) (MPost (wM, 0) (W.alloc (.cells #[.int .i64 0, .int .i64 1] 3)))) := fun W => by
    have h := mWalsh_any 2 (some ⟨W.heap.size, 0, none⟩) [0, 1] 2 (W.alloc (.cells #[.int .i64 0, .int .i64 1] 3)) (by decide) (sl_new W [0, 1] _)
    rw [wM_walsh] at h
    exact h
  have HK : Hid (∀ (W : World) a c, Ms W a wM → Calls Tryz.prog 17 #[.slice a 2 c] W (LPost ([0, 1], 0) W)) := fun W a c hs => by
    have h := lknowns_any a wM c W (mok_of wM_valid) hs
    rw [wM_known] at h
    exact h
  have HV : Hid (∀ (W : World) a c, Ms W a wM → Calls Tryz.prog 26 #[.slice a 2 c, .slice (some ⟨W.heap.size, 0, none⟩) 2 2] (W.alloc (.cells #[.int .i64 3, .int .i64 1] 3)) fun e w' => Below (W.alloc (.cells #[.int .i64 3, .int .i64 1] 3)).heap.size (W.alloc (.cells #[.int .i64 3, .int .i64 1] 3)) w' ∧ e = .returned (.tuple #[.agg #[.int .i64 3, .int .i64 1], .int .i64 0])) := fun W a c hs =>
    wM_value a c _ 2 _ (hs.below ((Below.refl _ _).alloc (Nat.le_refl _) _)) (sl_new W [3, 1] _)
  have HSI : Hid (∀ (W : World) a c, Sl W a [0, 1] → Calls Tryz.prog 18 #[.slice a 2 c, .slice (some ⟨W.heap.size, 0, none⟩) 2 2] (W.alloc (.cells #[.int .i64 0, .int .i64 1] 3)) fun e w' => e = .returned (.bool true) ∧ Below W.heap.size W w') := fun W a c hs =>
    (sameInts_any a [0, 1] c _ [0, 1] 2 _ (by decide) (by decide) (hs.below ((Below.refl _ _).alloc (Nat.le_refl _) _)) (sl_new W [0, 1] _)).mono fun e w' ⟨h1, n, h2⟩ => ⟨h1, by rw [h2]; exact below_drewN ((Below.refl _ _).alloc (Nat.le_refl _) _) n⟩
  go_enter Tryz.func8, Tryz.ntmps8
  go_wp2_with (first
    | (go_at_call 9; refine (HW.out _).mono ?_; rintro e w1 ⟨hb1, ma, mc, _, rfl, hm1⟩
       have HB1 : Hid (Below w.heap.size w w1) := ((Below.refl _ _).alloc (Nat.le_refl _) _).trans (hb1.mono (by rw [World.size_alloc]; omega))
       have HM1 : Hid (Ms w1 ma wM) := hm1
       clear hb1 hm1)
    | (go_at_call 17; refine (HK.out _ _ _ HM1.out).mono ?_; rintro e w2 ⟨hb2, la, lc, rfl, hl2⟩
       have HB2 : Hid (Below w.heap.size w w2) := HB1.out.trans (hb2.mono HB1.out.size)
       have HM2 : Hid (Ms w2 ma wM) := HM1.out.below hb2
       have HL2 : Hid (Sl w2 la [0, 1]) := hl2
       clear hb2 hl2)
    | (go_at_call 26; refine (HV.out _ _ _ HM2.out).mono ?_; rintro e w3 ⟨hb3, rfl⟩
       have hb23 : Below w2.heap.size w2 w3 := ((Below.refl _ _).alloc (Nat.le_refl _) _).trans (hb3.mono (by rw [World.size_alloc]; omega))
       have HB3 : Hid (Below w.heap.size w w3) := HB2.out.trans (hb23.mono HB2.out.size)
       have HL3 : Hid (Sl w3 la [0, 1]) := HL2.out.below hb23
       clear hb3 hb23)
    | (go_at_call 18
       obtain ⟨V3, hV3⟩ : ∃ V3, w3.alloc (.cells #[.int .i64 3, .int .i64 1] 38) = V3 := ⟨_, rfl⟩
       have s3 : V3.heap.size = w3.heap.size + 1 := by rw [← hV3]; exact World.size_alloc _ _
       have b3 : Below w3.heap.size w3 V3 := by rw [← hV3]; exact (Below.refl _ _).alloc (Nat.le_refl _) _
       have x3 : Bx V3 w3.heap.size (.int .i64 3) (.int .i64 1) := by rw [← hV3]; exact Bx.new _ _ _ _
       have h3 := HSI.out V3 la lc (HL3.out.below b3)
       rw [s3] at h3
       rw [hV3]
       refine h3.mono ?_
       rintro e w4 ⟨rfl, hb4⟩
       obtain ⟨_, c0, c1, _, _⟩ := x3.next (s3.symm ▸ hb4)
       have HB4 : Hid (Below w.heap.size w w4) := HB3.out.trans ((b3.trans ((s3.symm ▸ hb4).mono (by omega))).mono HB3.out.size)
       clear hb4 h3 b3 s3 x3))
  go_ret
  exact ⟨rfl, HB4.out⟩
end Go.Proofs.YtgbnfhfkehpfaaaGreat
/- lit and some (how many pixels are not 0), slices.Equal of any two lists of numbers: contracts. Written by mk_split.py. -/
namespace Go.Proofs.YtgbnfhfkehpfaaaGreat
open Go.RowKit

set_option maxRecDepth 100000 in
theorem lit_any (a : Option Addr) (h : List Int) (cap : Nat) (w : World) (hl : h.length ≤ 1000) (hs : Sl w a h) :
    Calls Tryz.prog 48 #[.slice a h.length cap] w fun e w' => e = .returned (.int .i64 (nzTo h h.length)) ∧ w = w' := by
  have HS := Lib.hid hs; clear hs
  go_enter Tryz.func48, Tryz.ntmps48
  go_wp2
  go_loopw [3, 8] (fun v i wr => ∃ k : Nat, k ≤ h.length ∧ i = .int .i64 k ∧ v = .int .i64 (nzTo h k) ∧ wr = w) (fun _ i _ => h.length - (intOf i).toNat)
  case atStart => exact ⟨0, Nat.zero_le _, rfl, rfl, rfl⟩
  case round =>
    obtain ⟨k, hk, rfl, rfl, rfl⟩ := hrel
    by_cases hlt : k < h.length
    · obtain ⟨b, o, x, rfl, hc, hx⟩ := HS.out.at hlt
      have hgx := gt_some' hx.out
      have hin := nzTo_in h k
      by_cases h0 : x = 0
      · subst h0
        have HT : Hid (nzTo h (k + 1) = nzTo h k) := by show _ = _; rw [nzTo, if_pos hgx]
        clear hgx
        go_wp2
        go_roundw
        case rel => exact ⟨k + 1, by omega, by go_num, by rw [HT.out], by first | trivial | rfl⟩
        case measure => simp [intOf]; omega
      · have HT : Hid (nzTo h (k + 1) = nzTo h k + 1) := by show _ = _; rw [nzTo, if_neg (by rw [hgx]; exact h0)]
        clear hgx
        have hne : (x != 0) = true := by simpa using h0
        obtain ⟨n, hn⟩ : ∃ n, nzTo h k = n := ⟨_, rfl⟩
        rw [hn] at hin HT ⊢
        clear hn
        go_wp2
        go_roundw
        case rel => exact ⟨k + 1, by omega, by go_num, by rw [HT.out], by first | trivial | rfl⟩
        case measure => simp [intOf]; omega
    · obtain rfl : k = h.length := by omega
      go_wp2
      go_ret
      exact ⟨rfl, rfl⟩
theorem slEq_any (a : Option Addr) (xs : List Int) (ca : Nat) (b : Option Addr) (ys : List Int) (cb : Nat) (w : World) (hx : xs.length ≤ 140737488351232) (hy : ys.length ≤ 140737488351232) (ha : Sl w a xs) (hb : Sl w b ys) :
    Calls Tryz.prog 52 #[.slice a xs.length ca, .slice b ys.length cb] w fun e w' => e = .returned (.bool (decide (xs = ys))) ∧ ∃ n, w' = w.drewN n := by
  have HA := Lib.hid ha; clear ha
  have HB := Lib.hid hb; clear hb
  by_cases hl : xs.length = ys.length
  · have hb : ((xs.length : Int) == (ys.length : Int)) = true := by simp [hl]
    have hb' : ((xs.length : Int) != (ys.length : Int)) = false := by simp [hl]
    have HL := Lib.hid hl; clear hl
    go_enter Tryz.func52, Tryz.ntmps52
    go_wp2
    go_loopw [13] (fun i wr => ∃ k nd : Nat, k ≤ xs.length ∧ i = .int .i64 k ∧ wr = w.drewN nd ∧ ∀ j, j < k → xs[j]?.getD 0 = ys[j]?.getD 0) (fun i _ => xs.length - (intOf i).toNat)
    case atStart => exact ⟨0, 0, Nat.zero_le _, rfl, rfl, fun j h => by omega⟩
    case round =>
      obtain ⟨k, nd, hk, rfl, rfl, hno⟩ := hrel
      have HN := Lib.hid hno; clear hno
      by_cases hlt : k < xs.length
      · have hly : k < ys.length := by rw [← HL.out]; exact hlt
        obtain ⟨b1, o1, x, rfl, hc1, HX⟩ := HA.out.at hlt
        obtain ⟨b2, o2, y, rfl, hc2, HY⟩ := HB.out.at hly
        by_cases he : x = y
        · subst he
          go_wp2
          go_quiet (fail)
          go_wp2
          go_roundw
          case rel => exact ⟨k + 1, _, by omega, by go_num, rfl, fun j hj => by
              by_cases hj' : j = k
              · subst hj'; rw [HX.out, HY.out]
              · exact HN.out j (by omega)⟩
          case measure => simp [intOf]; omega
        · have hne : (x == y) = false := by simpa using he
          have hne' : (x != y) = true := by simpa using he
          have HE : Hid (decide (xs = ys) = false) := by
            show decide (xs = ys) = false
            rw [decide_eq_false_iff_not]
            rintro rfl
            have h1 := HX.out
            have h2 := HY.out
            rw [h1] at h2
            exact he (by simpa using h2)
          clear he
          go_wp2
          go_quiet (fail)
          go_wp2
          go_ret
          exact ⟨ret_bool HE.out.symm, _, World.drewN_drewN _ _ _⟩
      · have HE : Hid (decide (xs = ys) = true) := by
          show decide (xs = ys) = true
          rw [decide_eq_true_iff]
          refine List.ext_getElem HL.out (fun j h1 h2 => ?_)
          have := HN.out j (by omega)
          simpa [h1, h2] using this
        go_wp2
        go_ret
        exact ⟨ret_bool HE.out.symm, _, rfl⟩
  · have hb : ((xs.length : Int) == (ys.length : Int)) = false := by simp; omega
    have hb' : ((xs.length : Int) != (ys.length : Int)) = true := by simp; omega
    have HX : Hid (decide (xs = ys) = false) := by
      show decide (xs = ys) = false
      rw [decide_eq_false_iff_not]; rintro rfl; exact hl rfl
    clear hl
    go_enter Tryz.func52, Tryz.ntmps52
    go_wp2
    go_ret
    exact ⟨ret_bool HX.out.symm, 0, rfl⟩

end Go.Proofs.YtgbnfhfkehpfaaaGreat
/- Determinants of order six with the entries -1, 0 and 1 are at most 320: by the minors of three rows. Plain words. Speaks of no program. -/
namespace Go.Proofs.YtgbnfhfkehpfaaaGreat
open Go.RowKit

def d3 (u v w : Nat → Int) : Int := u 0 * (v 1 * w 2 - v 2 * w 1) - v 0 * (u 1 * w 2 - u 2 * w 1) + w 0 * (u 1 * v 2 - u 2 * v 1)
def d4 (u v w x : Nat → Int) : Int := x 3 * d3 u v w - (u 3 * d3 x v w + v 3 * d3 u x w + w 3 * d3 u v x)
def d5 (u v w x y : Nat → Int) : Int := y 4 * d4 u v w x - (u 4 * d4 y v w x + v 4 * d4 u y w x + w 4 * d4 u v y x + x 4 * d4 u v w y)
def d6 (u v w x y z : Nat → Int) : Int := z 5 * d5 u v w x y - (u 5 * d5 z v w x y + v 5 * d5 u z w x y + w 5 * d5 u v z x y + x 5 * d5 u v w z y + y 5 * d5 u v w x z)
def e3 (u v w : Nat → Int) : Int := d3 (fun i => u (i + 3)) (fun i => v (i + 3)) (fun i => w (i + 3))
theorem d3_of (b : Nat → Nat → Int) : detC 3 b = d3 (b 0) (b 1) (b 2) := by
  simp only [detC, sumTo, updC, d3]
  simp
  grind
theorem d4_of (b : Nat → Nat → Int) : detC 4 b = d4 (b 0) (b 1) (b 2) (b 3) := by
  unfold detC
  simp only [sumTo, d3_of, updC, d4]
  simp
theorem d5_of (b : Nat → Nat → Int) : detC 5 b = d5 (b 0) (b 1) (b 2) (b 3) (b 4) := by
  unfold detC
  simp only [sumTo, d4_of, updC, d5]
  simp
theorem d6_of (b : Nat → Nat → Int) : detC 6 b = d6 (b 0) (b 1) (b 2) (b 3) (b 4) (b 5) := by
  unfold detC
  simp only [sumTo, d5_of, updC, d6]
  simp
theorem d3_12 (u v w : Nat → Int) : d3 v u w = -d3 u v w := by unfold d3; grind
theorem d3_23 (u v w : Nat → Int) : d3 u w v = -d3 u v w := by unfold d3; grind
theorem d3_13 (u v w : Nat → Int) : d3 w v u = -d3 u v w := by unfold d3; grind
theorem d3_312 (u v w : Nat → Int) : d3 w u v = d3 u v w := by unfold d3; grind
theorem d3_231 (u v w : Nat → Int) : d3 v w u = d3 u v w := by unfold d3; grind
theorem d6_lap (u0 u1 u2 u3 u4 u5 : Nat → Int) : d6 u0 u1 u2 u3 u4 u5 = d3 u0 u1 u2 * e3 u3 u4 u5 + -(d3 u0 u1 u3) * e3 u2 u4 u5 + d3 u0 u1 u4 * e3 u2 u3 u5 + -(d3 u0 u1 u5) * e3 u2 u3 u4 + d3 u0 u2 u3 * e3 u1 u4 u5 + -(d3 u0 u2 u4) * e3 u1 u3 u5 + d3 u0 u2 u5 * e3 u1 u3 u4 + d3 u0 u3 u4 * e3 u1 u2 u5 + -(d3 u0 u3 u5) * e3 u1 u2 u4 + d3 u0 u4 u5 * e3 u1 u2 u3 + -(d3 u1 u2 u3) * e3 u0 u4 u5 + d3 u1 u2 u4 * e3 u0 u3 u5 + -(d3 u1 u2 u5) * e3 u0 u3 u4 + -(d3 u1 u3 u4) * e3 u0 u2 u5 + d3 u1 u3 u5 * e3 u0 u2 u4 + -(d3 u1 u4 u5) * e3 u0 u2 u3 + d3 u2 u3 u4 * e3 u0 u1 u5 + -(d3 u2 u3 u5) * e3 u0 u1 u4 + d3 u2 u4 u5 * e3 u0 u1 u3 + -(d3 u3 u4 u5) * e3 u0 u1 u2 := by
  unfold d6 d5 d4
  rw [d3_23 u0 u2 u3, d3_23 u0 u2 u4, d3_23 u0 u3 u4, d3_23 u0 u2 u5, d3_23 u0 u3 u5, d3_23 u0 u4 u5, d3_312 u1 u2 u3, d3_12 u1 u3 u4, d3_12 u1 u3 u5, d3_231 u2 u3 u4, d3_231 u2 u3 u5, d3_23 u3 u4 u5, d3_312 u1 u2 u4, d3_312 u1 u3 u4, d3_12 u1 u4 u5, d3_13 u2 u3 u4, d3_12 u3 u4 u5, d3_231 u2 u4 u5, d3_231 u3 u4 u5, d3_312 u1 u2 u5, d3_312 u1 u3 u5, d3_312 u1 u4 u5, d3_13 u2 u3 u5, d3_312 u3 u4 u5, d3_13 u2 u4 u5, d3_13 u3 u4 u5]
  generalize d3 u0 u1 u2 = m0
  generalize d3 u0 u1 u3 = m1
  generalize d3 u0 u1 u4 = m2
  generalize d3 u0 u1 u5 = m3
  generalize d3 u0 u2 u3 = m4
  generalize d3 u0 u2 u4 = m5
  generalize d3 u0 u2 u5 = m6
  generalize d3 u0 u3 u4 = m7
  generalize d3 u0 u3 u5 = m8
  generalize d3 u0 u4 u5 = m9
  generalize d3 u1 u2 u3 = m10
  generalize d3 u1 u2 u4 = m11
  generalize d3 u1 u2 u5 = m12
  generalize d3 u1 u3 u4 = m13
  generalize d3 u1 u3 u5 = m14
  generalize d3 u1 u4 u5 = m15
  generalize d3 u2 u3 u4 = m16
  generalize d3 u2 u3 u5 = m17
  generalize d3 u2 u4 u5 = m18
  generalize d3 u3 u4 u5 = m19
  unfold e3 d3
  simp only [Nat.reduceAdd, Nat.zero_add]
  generalize u0 3 = a03
  generalize u0 4 = a04
  generalize u0 5 = a05
  generalize u1 3 = a13
  generalize u1 4 = a14
  generalize u1 5 = a15
  generalize u2 3 = a23
  generalize u2 4 = a24
  generalize u2 5 = a25
  generalize u3 3 = a33
  generalize u3 4 = a34
  generalize u3 5 = a35
  generalize u4 3 = a43
  generalize u4 4 = a44
  generalize u4 5 = a45
  generalize u5 3 = a53
  generalize u5 4 = a54
  generalize u5 5 = a55
  grind
end Go.Proofs.YtgbnfhfkehpfaaaGreat
/- Determinants of order 3 of numbers from -1 to 1. Plain mathematics. Speaks of no program. -/
namespace Go.Proofs.YtgbnfhfkehpfaaaGreat
open Go.RowKit

def ones3 : List Int := [-1, 0, 1]
theorem in_ones {x : Int} (h : -1 ≤ x ∧ x ≤ 1) : x ∈ ones3 := by
  have : x = -1 ∨ x = 0 ∨ x = 1 := by omega
  unfold ones3
  rcases this with e | e | e <;> simp [e]
theorem cross_all : (ones3.all fun a => ones3.all fun b => ones3.all fun c => ones3.all fun d => ones3.all fun e => ones3.all fun f => decide ((b * f - c * e).natAbs + (a * f - c * d).natAbs + (a * e - b * d).natAbs ≤ 4)) = true := by decide +kernel
theorem cross_bd {a b c d e f : Int} (ha : -1 ≤ a ∧ a ≤ 1) (hb : -1 ≤ b ∧ b ≤ 1) (hc : -1 ≤ c ∧ c ≤ 1) (hd : -1 ≤ d ∧ d ≤ 1) (he : -1 ≤ e ∧ e ≤ 1) (hf : -1 ≤ f ∧ f ≤ 1) : (b * f - c * e).natAbs + (a * f - c * d).natAbs + (a * e - b * d).natAbs ≤ 4 := by
  have h := cross_all
  simp only [List.all_eq_true] at h
  exact of_decide_eq_true (h a (in_ones ha) b (in_ones hb) c (in_ones hc) d (in_ones hd) e (in_ones he) f (in_ones hf))
theorem one_mul_bd {x X : Int} (h : -1 ≤ x ∧ x ≤ 1) : -(X.natAbs : Int) ≤ x * X ∧ x * X ≤ (X.natAbs : Int) := by
  have : x = -1 ∨ x = 0 ∨ x = 1 := by omega
  rcases this with e | e | e <;> subst e <;> omega
theorem d3_bd {u v w : Nat → Int} (hu : ∀ i, i < 3 → -1 ≤ u i ∧ u i ≤ 1) (hv : ∀ i, i < 3 → -1 ≤ v i ∧ v i ≤ 1) (hw : ∀ i, i < 3 → -1 ≤ w i ∧ w i ≤ 1) : -4 ≤ d3 u v w ∧ d3 u v w ≤ 4 := by
  have h := cross_bd (hu 1 (by decide)) (hv 1 (by decide)) (hw 1 (by decide)) (hu 2 (by decide)) (hv 2 (by decide)) (hw 2 (by decide))
  have e1 := one_mul_bd (X := v 1 * w 2 - v 2 * w 1) (hu 0 (by decide))
  have e2 := one_mul_bd (X := u 1 * w 2 - u 2 * w 1) (hv 0 (by decide))
  have e3 := one_mul_bd (X := u 1 * v 2 - u 2 * v 1) (hw 0 (by decide))
  unfold d3
  rw [Int.mul_comm (w 1) (v 2), Int.mul_comm (w 1) (u 2), Int.mul_comm (v 1) (u 2)] at h
  omega
theorem prod_bd {a b : Int} (ha : -4 ≤ a ∧ a ≤ 4) (hb : -4 ≤ b ∧ b ≤ 4) : -16 ≤ a * b ∧ a * b ≤ 16 := by
  have := mul_le ha hb
  omega
end Go.Proofs.YtgbnfhfkehpfaaaGreat
/- A determinant of order 6 whose numbers are from -1 to 1 is at most 160. Plain mathematics. Speaks of no program. Written by mk_det160.py. -/
namespace Go.Proofs.YtgbnfhfkehpfaaaGreat
open Go.RowKit

def dl (i : Nat) : Nat → Int := fun j => if j = i then 1 else 0
theorem d3_lin1 (u v w : Nat → Int) : d3 u v w = u 0 * d3 (dl 0) v w + u 1 * d3 (dl 1) v w + u 2 * d3 (dl 2) v w := by unfold d3 dl; simp; grind
theorem e3_lin1 (u v w : Nat → Int) : e3 u v w = u 3 * e3 (dl 3) v w + u 4 * e3 (dl 4) v w + u 5 * e3 (dl 5) v w := by unfold e3 d3 dl; simp; grind
theorem d3_z13 (v w : Nat → Int) : d3 (dl 3) v w = 0 := by unfold d3 dl; simp
theorem d3_z14 (v w : Nat → Int) : d3 (dl 4) v w = 0 := by unfold d3 dl; simp
theorem d3_z15 (v w : Nat → Int) : d3 (dl 5) v w = 0 := by unfold d3 dl; simp
theorem e3_z10 (v w : Nat → Int) : e3 (dl 0) v w = 0 := by unfold e3 d3 dl; simp
theorem e3_z11 (v w : Nat → Int) : e3 (dl 1) v w = 0 := by unfold e3 d3 dl; simp
theorem e3_z12 (v w : Nat → Int) : e3 (dl 2) v w = 0 := by unfold e3 d3 dl; simp
theorem d3_lin2 (u v w : Nat → Int) : d3 v u w = u 0 * d3 v (dl 0) w + u 1 * d3 v (dl 1) w + u 2 * d3 v (dl 2) w := by unfold d3 dl; simp; grind
theorem e3_lin2 (u v w : Nat → Int) : e3 v u w = u 3 * e3 v (dl 3) w + u 4 * e3 v (dl 4) w + u 5 * e3 v (dl 5) w := by unfold e3 d3 dl; simp; grind
theorem d3_z23 (v w : Nat → Int) : d3 v (dl 3) w = 0 := by unfold d3 dl; simp
theorem d3_z24 (v w : Nat → Int) : d3 v (dl 4) w = 0 := by unfold d3 dl; simp
theorem d3_z25 (v w : Nat → Int) : d3 v (dl 5) w = 0 := by unfold d3 dl; simp
theorem e3_z20 (v w : Nat → Int) : e3 v (dl 0) w = 0 := by unfold e3 d3 dl; simp
theorem e3_z21 (v w : Nat → Int) : e3 v (dl 1) w = 0 := by unfold e3 d3 dl; simp
theorem e3_z22 (v w : Nat → Int) : e3 v (dl 2) w = 0 := by unfold e3 d3 dl; simp
theorem d3_lin3 (u v w : Nat → Int) : d3 v w u = u 0 * d3 v w (dl 0) + u 1 * d3 v w (dl 1) + u 2 * d3 v w (dl 2) := by unfold d3 dl; simp; grind
theorem e3_lin3 (u v w : Nat → Int) : e3 v w u = u 3 * e3 v w (dl 3) + u 4 * e3 v w (dl 4) + u 5 * e3 v w (dl 5) := by unfold e3 d3 dl; simp; grind
theorem d3_z33 (v w : Nat → Int) : d3 v w (dl 3) = 0 := by unfold d3 dl; simp
theorem d3_z34 (v w : Nat → Int) : d3 v w (dl 4) = 0 := by unfold d3 dl; simp
theorem d3_z35 (v w : Nat → Int) : d3 v w (dl 5) = 0 := by unfold d3 dl; simp
theorem e3_z30 (v w : Nat → Int) : e3 v w (dl 0) = 0 := by unfold e3 d3 dl; simp
theorem e3_z31 (v w : Nat → Int) : e3 v w (dl 1) = 0 := by unfold e3 d3 dl; simp
theorem e3_z32 (v w : Nat → Int) : e3 v w (dl 2) = 0 := by unfold e3 d3 dl; simp
theorem d6_lin0 (u u1 u2 u3 u4 u5 : Nat → Int) : d6 u u1 u2 u3 u4 u5 = u 0 * d6 (dl 0) u1 u2 u3 u4 u5 + u 1 * d6 (dl 1) u1 u2 u3 u4 u5 + u 2 * d6 (dl 2) u1 u2 u3 u4 u5 + u 3 * d6 (dl 3) u1 u2 u3 u4 u5 + u 4 * d6 (dl 4) u1 u2 u3 u4 u5 + u 5 * d6 (dl 5) u1 u2 u3 u4 u5 := by
  rw [d6_lap u u1 u2 u3 u4 u5, d6_lap (dl 0) u1 u2 u3 u4 u5, d6_lap (dl 1) u1 u2 u3 u4 u5, d6_lap (dl 2) u1 u2 u3 u4 u5, d6_lap (dl 3) u1 u2 u3 u4 u5, d6_lap (dl 4) u1 u2 u3 u4 u5, d6_lap (dl 5) u1 u2 u3 u4 u5]
  rw [d3_lin1 u u1 u2, d3_lin1 u u1 u3, d3_lin1 u u1 u4, d3_lin1 u u1 u5, d3_lin1 u u2 u3, d3_lin1 u u2 u4, d3_lin1 u u2 u5, d3_lin1 u u3 u4, d3_lin1 u u3 u5, d3_lin1 u u4 u5, e3_lin1 u u4 u5, e3_lin1 u u3 u5, e3_lin1 u u3 u4, e3_lin1 u u2 u5, e3_lin1 u u2 u4, e3_lin1 u u2 u3, e3_lin1 u u1 u5, e3_lin1 u u1 u4, e3_lin1 u u1 u3, e3_lin1 u u1 u2]
  simp only [d3_z13, d3_z14, d3_z15, e3_z10, e3_z11, e3_z12]
  grind
theorem d6_lin1 (u u0 u2 u3 u4 u5 : Nat → Int) : d6 u0 u u2 u3 u4 u5 = u 0 * d6 u0 (dl 0) u2 u3 u4 u5 + u 1 * d6 u0 (dl 1) u2 u3 u4 u5 + u 2 * d6 u0 (dl 2) u2 u3 u4 u5 + u 3 * d6 u0 (dl 3) u2 u3 u4 u5 + u 4 * d6 u0 (dl 4) u2 u3 u4 u5 + u 5 * d6 u0 (dl 5) u2 u3 u4 u5 := by
  rw [d6_lap u0 u u2 u3 u4 u5, d6_lap u0 (dl 0) u2 u3 u4 u5, d6_lap u0 (dl 1) u2 u3 u4 u5, d6_lap u0 (dl 2) u2 u3 u4 u5, d6_lap u0 (dl 3) u2 u3 u4 u5, d6_lap u0 (dl 4) u2 u3 u4 u5, d6_lap u0 (dl 5) u2 u3 u4 u5]
  rw [d3_lin2 u u0 u2, d3_lin2 u u0 u3, d3_lin2 u u0 u4, d3_lin2 u u0 u5, e3_lin1 u u4 u5, e3_lin1 u u3 u5, e3_lin1 u u3 u4, e3_lin1 u u2 u5, e3_lin1 u u2 u4, e3_lin1 u u2 u3, d3_lin1 u u2 u3, d3_lin1 u u2 u4, d3_lin1 u u2 u5, d3_lin1 u u3 u4, d3_lin1 u u3 u5, d3_lin1 u u4 u5, e3_lin2 u u0 u5, e3_lin2 u u0 u4, e3_lin2 u u0 u3, e3_lin2 u u0 u2]
  simp only [d3_z13, d3_z14, d3_z15, d3_z23, d3_z24, d3_z25, e3_z10, e3_z11, e3_z12, e3_z20, e3_z21, e3_z22]
  grind
theorem d6_lin2 (u u0 u1 u3 u4 u5 : Nat → Int) : d6 u0 u1 u u3 u4 u5 = u 0 * d6 u0 u1 (dl 0) u3 u4 u5 + u 1 * d6 u0 u1 (dl 1) u3 u4 u5 + u 2 * d6 u0 u1 (dl 2) u3 u4 u5 + u 3 * d6 u0 u1 (dl 3) u3 u4 u5 + u 4 * d6 u0 u1 (dl 4) u3 u4 u5 + u 5 * d6 u0 u1 (dl 5) u3 u4 u5 := by
  rw [d6_lap u0 u1 u u3 u4 u5, d6_lap u0 u1 (dl 0) u3 u4 u5, d6_lap u0 u1 (dl 1) u3 u4 u5, d6_lap u0 u1 (dl 2) u3 u4 u5, d6_lap u0 u1 (dl 3) u3 u4 u5, d6_lap u0 u1 (dl 4) u3 u4 u5, d6_lap u0 u1 (dl 5) u3 u4 u5]
  rw [d3_lin3 u u0 u1, e3_lin1 u u4 u5, e3_lin1 u u3 u5, e3_lin1 u u3 u4, d3_lin2 u u0 u3, d3_lin2 u u0 u4, d3_lin2 u u0 u5, e3_lin2 u u1 u5, e3_lin2 u u1 u4, e3_lin2 u u1 u3, d3_lin2 u u1 u3, d3_lin2 u u1 u4, d3_lin2 u u1 u5, e3_lin2 u u0 u5, e3_lin2 u u0 u4, e3_lin2 u u0 u3, d3_lin1 u u3 u4, d3_lin1 u u3 u5, d3_lin1 u u4 u5, e3_lin3 u u0 u1]
  simp only [d3_z13, d3_z14, d3_z15, d3_z23, d3_z24, d3_z25, d3_z33, d3_z34, d3_z35, e3_z10, e3_z11, e3_z12, e3_z20, e3_z21, e3_z22, e3_z30, e3_z31, e3_z32]
  grind
theorem d6_lin3 (u u0 u1 u2 u4 u5 : Nat → Int) : d6 u0 u1 u2 u u4 u5 = u 0 * d6 u0 u1 u2 (dl 0) u4 u5 + u 1 * d6 u0 u1 u2 (dl 1) u4 u5 + u 2 * d6 u0 u1 u2 (dl 2) u4 u5 + u 3 * d6 u0 u1 u2 (dl 3) u4 u5 + u 4 * d6 u0 u1 u2 (dl 4) u4 u5 + u 5 * d6 u0 u1 u2 (dl 5) u4 u5 := by
  rw [d6_lap u0 u1 u2 u u4 u5, d6_lap u0 u1 u2 (dl 0) u4 u5, d6_lap u0 u1 u2 (dl 1) u4 u5, d6_lap u0 u1 u2 (dl 2) u4 u5, d6_lap u0 u1 u2 (dl 3) u4 u5, d6_lap u0 u1 u2 (dl 4) u4 u5, d6_lap u0 u1 u2 (dl 5) u4 u5]
  rw [e3_lin1 u u4 u5, d3_lin3 u u0 u1, e3_lin2 u u2 u5, e3_lin2 u u2 u4, d3_lin3 u u0 u2, e3_lin2 u u1 u5, e3_lin2 u u1 u4, d3_lin2 u u0 u4, d3_lin2 u u0 u5, e3_lin3 u u1 u2, d3_lin3 u u1 u2, e3_lin2 u u0 u5, e3_lin2 u u0 u4, d3_lin2 u u1 u4, d3_lin2 u u1 u5, e3_lin3 u u0 u2, d3_lin2 u u2 u4, d3_lin2 u u2 u5, e3_lin3 u u0 u1, d3_lin1 u u4 u5]
  simp only [d3_z13, d3_z14, d3_z15, d3_z23, d3_z24, d3_z25, d3_z33, d3_z34, d3_z35, e3_z10, e3_z11, e3_z12, e3_z20, e3_z21, e3_z22, e3_z30, e3_z31, e3_z32]
  grind
theorem d6_lin4 (u u0 u1 u2 u3 u5 : Nat → Int) : d6 u0 u1 u2 u3 u u5 = u 0 * d6 u0 u1 u2 u3 (dl 0) u5 + u 1 * d6 u0 u1 u2 u3 (dl 1) u5 + u 2 * d6 u0 u1 u2 u3 (dl 2) u5 + u 3 * d6 u0 u1 u2 u3 (dl 3) u5 + u 4 * d6 u0 u1 u2 u3 (dl 4) u5 + u 5 * d6 u0 u1 u2 u3 (dl 5) u5 := by
  rw [d6_lap u0 u1 u2 u3 u u5, d6_lap u0 u1 u2 u3 (dl 0) u5, d6_lap u0 u1 u2 u3 (dl 1) u5, d6_lap u0 u1 u2 u3 (dl 2) u5, d6_lap u0 u1 u2 u3 (dl 3) u5, d6_lap u0 u1 u2 u3 (dl 4) u5, d6_lap u0 u1 u2 u3 (dl 5) u5]
  rw [e3_lin2 u u3 u5, e3_lin2 u u2 u5, d3_lin3 u u0 u1, e3_lin3 u u2 u3, e3_lin2 u u1 u5, d3_lin3 u u0 u2, e3_lin3 u u1 u3, d3_lin3 u u0 u3, e3_lin3 u u1 u2, d3_lin2 u u0 u5, e3_lin2 u u0 u5, d3_lin3 u u1 u2, e3_lin3 u u0 u3, d3_lin3 u u1 u3, e3_lin3 u u0 u2, d3_lin2 u u1 u5, d3_lin3 u u2 u3, e3_lin3 u u0 u1, d3_lin2 u u2 u5, d3_lin2 u u3 u5]
  simp only [d3_z23, d3_z24, d3_z25, d3_z33, d3_z34, d3_z35, e3_z20, e3_z21, e3_z22, e3_z30, e3_z31, e3_z32]
  grind
theorem d6_lin5 (u u0 u1 u2 u3 u4 : Nat → Int) : d6 u0 u1 u2 u3 u4 u = u 0 * d6 u0 u1 u2 u3 u4 (dl 0) + u 1 * d6 u0 u1 u2 u3 u4 (dl 1) + u 2 * d6 u0 u1 u2 u3 u4 (dl 2) + u 3 * d6 u0 u1 u2 u3 u4 (dl 3) + u 4 * d6 u0 u1 u2 u3 u4 (dl 4) + u 5 * d6 u0 u1 u2 u3 u4 (dl 5) := by
  rw [d6_lap u0 u1 u2 u3 u4 u, d6_lap u0 u1 u2 u3 u4 (dl 0), d6_lap u0 u1 u2 u3 u4 (dl 1), d6_lap u0 u1 u2 u3 u4 (dl 2), d6_lap u0 u1 u2 u3 u4 (dl 3), d6_lap u0 u1 u2 u3 u4 (dl 4), d6_lap u0 u1 u2 u3 u4 (dl 5)]
  rw [e3_lin3 u u3 u4, e3_lin3 u u2 u4, e3_lin3 u u2 u3, d3_lin3 u u0 u1, e3_lin3 u u1 u4, e3_lin3 u u1 u3, d3_lin3 u u0 u2, e3_lin3 u u1 u2, d3_lin3 u u0 u3, d3_lin3 u u0 u4, e3_lin3 u u0 u4, e3_lin3 u u0 u3, d3_lin3 u u1 u2, e3_lin3 u u0 u2, d3_lin3 u u1 u3, d3_lin3 u u1 u4, e3_lin3 u u0 u1, d3_lin3 u u2 u3, d3_lin3 u u2 u4, d3_lin3 u u3 u4]
  simp only [d3_z33, d3_z34, d3_z35, e3_z30, e3_z31, e3_z32]
  grind
def sg (K : Nat → Int) : Nat → Int := fun i => if 0 ≤ K i then 1 else -1
theorem sg_pm (K : Nat → Int) (i : Nat) : sg K i = 1 ∨ sg K i = -1 := by unfold sg; split <;> simp
theorem sg_one {x X s : Int} (hx : -1 ≤ x ∧ x ≤ 1) (hs : s = if 0 ≤ X then 1 else -1) : x * X ≤ s * X ∧ -(x * X) ≤ s * X := by
  have : x = -1 ∨ x = 0 ∨ x = 1 := by omega
  subst hs
  rcases this with rfl | rfl | rfl <;> split <;> omega
theorem sg_six {u K : Nat → Int} (hu : ∀ i, i < 6 → -1 ≤ u i ∧ u i ≤ 1) : -(sg K 0 * K 0 + sg K 1 * K 1 + sg K 2 * K 2 + sg K 3 * K 3 + sg K 4 * K 4 + sg K 5 * K 5) ≤ u 0 * K 0 + u 1 * K 1 + u 2 * K 2 + u 3 * K 3 + u 4 * K 4 + u 5 * K 5 ∧ u 0 * K 0 + u 1 * K 1 + u 2 * K 2 + u 3 * K 3 + u 4 * K 4 + u 5 * K 5 ≤ sg K 0 * K 0 + sg K 1 * K 1 + sg K 2 * K 2 + sg K 3 * K 3 + sg K 4 * K 4 + sg K 5 * K 5 := by
  have h0 := sg_one (X := K 0) (s := sg K 0) (hu 0 (by decide)) rfl
  have h1 := sg_one (X := K 1) (s := sg K 1) (hu 1 (by decide)) rfl
  have h2 := sg_one (X := K 2) (s := sg K 2) (hu 2 (by decide)) rfl
  have h3 := sg_one (X := K 3) (s := sg K 3) (hu 3 (by decide)) rfl
  have h4 := sg_one (X := K 4) (s := sg K 4) (hu 4 (by decide)) rfl
  have h5 := sg_one (X := K 5) (s := sg K 5) (hu 5 (by decide)) rfl
  generalize u 0 * K 0 = p0 at *
  generalize sg K 0 * K 0 = q0 at *
  generalize u 1 * K 1 = p1 at *
  generalize sg K 1 * K 1 = q1 at *
  generalize u 2 * K 2 = p2 at *
  generalize sg K 2 * K 2 = q2 at *
  generalize u 3 * K 3 = p3 at *
  generalize sg K 3 * K 3 = q3 at *
  generalize u 4 * K 4 = p4 at *
  generalize sg K 4 * K 4 = q4 at *
  generalize u 5 * K 5 = p5 at *
  generalize sg K 5 * K 5 = q5 at *
  omega
def PM (u : Nat → Int) : Prop := ∀ i, i < 6 → u i = 1 ∨ u i = -1
def TR (u : Nat → Int) : Prop := ∀ i, i < 6 → -1 ≤ u i ∧ u i ≤ 1
theorem d6_pm0 (u u1 u2 u3 u4 u5 : Nat → Int) (hu : TR u) : ∃ s, PM s ∧ -(d6 s u1 u2 u3 u4 u5) ≤ d6 u u1 u2 u3 u4 u5 ∧ d6 u u1 u2 u3 u4 u5 ≤ d6 s u1 u2 u3 u4 u5 := by
  have h := sg_six (K := fun i => d6 (dl i) u1 u2 u3 u4 u5) hu
  refine ⟨sg fun i => d6 (dl i) u1 u2 u3 u4 u5, fun i _ => sg_pm _ i, ?_⟩
  rw [d6_lin0 u u1 u2 u3 u4 u5, d6_lin0 (sg fun i => d6 (dl i) u1 u2 u3 u4 u5) u1 u2 u3 u4 u5]
  exact h
theorem d6_pm1 (u u0 u2 u3 u4 u5 : Nat → Int) (hu : TR u) : ∃ s, PM s ∧ -(d6 u0 s u2 u3 u4 u5) ≤ d6 u0 u u2 u3 u4 u5 ∧ d6 u0 u u2 u3 u4 u5 ≤ d6 u0 s u2 u3 u4 u5 := by
  have h := sg_six (K := fun i => d6 u0 (dl i) u2 u3 u4 u5) hu
  refine ⟨sg fun i => d6 u0 (dl i) u2 u3 u4 u5, fun i _ => sg_pm _ i, ?_⟩
  rw [d6_lin1 u u0 u2 u3 u4 u5, d6_lin1 (sg fun i => d6 u0 (dl i) u2 u3 u4 u5) u0 u2 u3 u4 u5]
  exact h
theorem d6_pm2 (u u0 u1 u3 u4 u5 : Nat → Int) (hu : TR u) : ∃ s, PM s ∧ -(d6 u0 u1 s u3 u4 u5) ≤ d6 u0 u1 u u3 u4 u5 ∧ d6 u0 u1 u u3 u4 u5 ≤ d6 u0 u1 s u3 u4 u5 := by
  have h := sg_six (K := fun i => d6 u0 u1 (dl i) u3 u4 u5) hu
  refine ⟨sg fun i => d6 u0 u1 (dl i) u3 u4 u5, fun i _ => sg_pm _ i, ?_⟩
  rw [d6_lin2 u u0 u1 u3 u4 u5, d6_lin2 (sg fun i => d6 u0 u1 (dl i) u3 u4 u5) u0 u1 u3 u4 u5]
  exact h
theorem d6_pm3 (u u0 u1 u2 u4 u5 : Nat → Int) (hu : TR u) : ∃ s, PM s ∧ -(d6 u0 u1 u2 s u4 u5) ≤ d6 u0 u1 u2 u u4 u5 ∧ d6 u0 u1 u2 u u4 u5 ≤ d6 u0 u1 u2 s u4 u5 := by
  have h := sg_six (K := fun i => d6 u0 u1 u2 (dl i) u4 u5) hu
  refine ⟨sg fun i => d6 u0 u1 u2 (dl i) u4 u5, fun i _ => sg_pm _ i, ?_⟩
  rw [d6_lin3 u u0 u1 u2 u4 u5, d6_lin3 (sg fun i => d6 u0 u1 u2 (dl i) u4 u5) u0 u1 u2 u4 u5]
  exact h
theorem d6_pm4 (u u0 u1 u2 u3 u5 : Nat → Int) (hu : TR u) : ∃ s, PM s ∧ -(d6 u0 u1 u2 u3 s u5) ≤ d6 u0 u1 u2 u3 u u5 ∧ d6 u0 u1 u2 u3 u u5 ≤ d6 u0 u1 u2 u3 s u5 := by
  have h := sg_six (K := fun i => d6 u0 u1 u2 u3 (dl i) u5) hu
  refine ⟨sg fun i => d6 u0 u1 u2 u3 (dl i) u5, fun i _ => sg_pm _ i, ?_⟩
  rw [d6_lin4 u u0 u1 u2 u3 u5, d6_lin4 (sg fun i => d6 u0 u1 u2 u3 (dl i) u5) u0 u1 u2 u3 u5]
  exact h
theorem d6_pm5 (u u0 u1 u2 u3 u4 : Nat → Int) (hu : TR u) : ∃ s, PM s ∧ -(d6 u0 u1 u2 u3 u4 s) ≤ d6 u0 u1 u2 u3 u4 u ∧ d6 u0 u1 u2 u3 u4 u ≤ d6 u0 u1 u2 u3 u4 s := by
  have h := sg_six (K := fun i => d6 u0 u1 u2 u3 u4 (dl i)) hu
  refine ⟨sg fun i => d6 u0 u1 u2 u3 u4 (dl i), fun i _ => sg_pm _ i, ?_⟩
  rw [d6_lin5 u u0 u1 u2 u3 u4, d6_lin5 (sg fun i => d6 u0 u1 u2 u3 u4 (dl i)) u0 u1 u2 u3 u4]
  exact h
def cls (u : Nat → Int) (o : Nat) : Nat := (if u o = u (o + 1) then 0 else 1) + (if u o = u (o + 2) then 0 else 2)
theorem cls_lt (u : Nat → Int) (o : Nat) : cls u o < 4 := by unfold cls; split <;> split <;> decide
theorem cls_par {u v w : Nat → Int} (hu : PM u) (hv : PM v) (h : cls u 0 = cls v 0) : d3 u v w = 0 := by
  have a0 := hu 0 (by decide); have a1 := hu 1 (by decide); have a2 := hu 2 (by decide)
  have b0 := hv 0 (by decide); have b1 := hv 1 (by decide); have b2 := hv 2 (by decide)
  unfold cls at h
  unfold d3
  simp only [Nat.zero_add] at h
  generalize u 0 = x0 at *
  generalize u 1 = x1 at *
  generalize u 2 = x2 at *
  generalize v 0 = y0 at *
  generalize v 1 = y1 at *
  generalize v 2 = y2 at *
  rcases a0 with rfl | rfl <;> rcases a1 with rfl | rfl <;> rcases a2 with rfl | rfl <;> rcases b0 with rfl | rfl <;> rcases b1 with rfl | rfl <;> rcases b2 with rfl | rfl <;> first | omega | (exfalso; revert h; decide)
def fours : List Nat := [0, 1, 2, 3]
theorem four_in {a : Nat} (h : a < 4) : a ∈ fours := by
  have : a = 0 ∨ a = 1 ∨ a = 2 ∨ a = 3 := by omega
  rcases this with rfl | rfl | rfl | rfl <;> decide
def ap3 (x y z : Nat) : Nat := if (Nat.beq x y || Nat.beq x z || Nat.beq y z) = true then 0 else 1
def sumN : List Nat → Nat
  | [] => 0
  | a :: x => a + sumN x
def dotN : List Nat → List Nat → Nat
  | a :: x, b :: y => a * b + dotN x y
  | _, _ => 0
def pT (a b c d e f : Nat) : List Nat := [ap3 a b c, ap3 a b d, ap3 a b e, ap3 a b f, ap3 a c d, ap3 a c e, ap3 a c f, ap3 a d e, ap3 a d f, ap3 a e f, ap3 b c d, ap3 b c e, ap3 b c f, ap3 b d e, ap3 b d f, ap3 b e f, ap3 c d e, ap3 c d f, ap3 c e f, ap3 d e f]
def pC (a b c d e f : Nat) : List Nat := [ap3 d e f, ap3 c e f, ap3 c d f, ap3 c d e, ap3 b e f, ap3 b d f, ap3 b d e, ap3 b c f, ap3 b c e, ap3 b c d, ap3 a e f, ap3 a d f, ap3 a d e, ap3 a c f, ap3 a c e, ap3 a c d, ap3 a b f, ap3 a b e, ap3 a b d, ap3 a b c]
def L45T : List (List Nat) := [[0, 0, 0, 0, 0, 1, 1, 1, 1, 1, 0, 1, 1, 1, 1, 1, 0, 0, 1, 1],
  [0, 0, 0, 0, 1, 0, 1, 1, 1, 1, 1, 0, 1, 1, 1, 1, 0, 1, 0, 1],
  [0, 0, 0, 0, 1, 1, 0, 1, 1, 1, 1, 1, 0, 1, 1, 1, 1, 0, 0, 1],
  [0, 0, 0, 0, 1, 1, 1, 0, 1, 1, 1, 1, 1, 0, 1, 1, 0, 1, 1, 0],
  [0, 0, 0, 0, 1, 1, 1, 1, 0, 1, 1, 1, 1, 1, 0, 1, 1, 0, 1, 0],
  [0, 0, 0, 0, 1, 1, 1, 1, 1, 0, 1, 1, 1, 1, 1, 0, 1, 1, 0, 0],
  [0, 0, 1, 1, 0, 0, 0, 1, 1, 1, 0, 1, 1, 0, 0, 1, 1, 1, 1, 1],
  [0, 0, 1, 1, 0, 1, 1, 0, 0, 1, 0, 0, 0, 1, 1, 1, 1, 1, 1, 1],
  [0, 1, 0, 1, 0, 0, 0, 1, 1, 1, 1, 0, 1, 0, 1, 0, 1, 1, 1, 1],
  [0, 1, 0, 1, 1, 0, 1, 0, 1, 0, 0, 0, 0, 1, 1, 1, 1, 1, 1, 1],
  [0, 1, 1, 0, 0, 0, 0, 1, 1, 1, 1, 1, 0, 1, 0, 0, 1, 1, 1, 1],
  [0, 1, 1, 0, 1, 1, 0, 1, 0, 0, 0, 0, 0, 1, 1, 1, 1, 1, 1, 1],
  [0, 1, 1, 1, 0, 0, 0, 0, 1, 1, 1, 1, 1, 0, 1, 1, 0, 1, 1, 0],
  [0, 1, 1, 1, 0, 0, 0, 1, 0, 1, 1, 1, 1, 1, 0, 1, 1, 0, 1, 0],
  [0, 1, 1, 1, 0, 0, 0, 1, 1, 0, 1, 1, 1, 1, 1, 0, 1, 1, 0, 0],
  [0, 1, 1, 1, 1, 1, 1, 0, 1, 1, 0, 0, 0, 0, 1, 1, 0, 1, 1, 0],
  [0, 1, 1, 1, 1, 1, 1, 1, 0, 1, 0, 0, 0, 1, 0, 1, 1, 0, 1, 0],
  [0, 1, 1, 1, 1, 1, 1, 1, 1, 0, 0, 0, 0, 1, 1, 0, 1, 1, 0, 0],
  [1, 0, 0, 1, 0, 1, 1, 0, 0, 1, 1, 0, 1, 0, 1, 0, 1, 1, 1, 1],
  [1, 0, 0, 1, 1, 0, 1, 0, 1, 0, 0, 1, 1, 0, 0, 1, 1, 1, 1, 1],
  [1, 0, 1, 0, 0, 1, 1, 0, 0, 1, 1, 1, 0, 1, 0, 0, 1, 1, 1, 1],
  [1, 0, 1, 0, 1, 1, 0, 1, 0, 0, 0, 1, 1, 0, 0, 1, 1, 1, 1, 1],
  [1, 0, 1, 1, 0, 0, 1, 0, 0, 1, 1, 0, 1, 1, 1, 1, 0, 1, 0, 1],
  [1, 0, 1, 1, 0, 1, 0, 0, 0, 1, 1, 1, 0, 1, 1, 1, 1, 0, 0, 1],
  [1, 0, 1, 1, 0, 1, 1, 0, 0, 0, 1, 1, 1, 1, 1, 0, 1, 1, 0, 0],
  [1, 0, 1, 1, 1, 0, 1, 1, 1, 1, 0, 0, 1, 0, 0, 1, 0, 1, 0, 1],
  [1, 0, 1, 1, 1, 1, 0, 1, 1, 1, 0, 1, 0, 0, 0, 1, 1, 0, 0, 1],
  [1, 0, 1, 1, 1, 1, 1, 1, 1, 0, 0, 1, 1, 0, 0, 0, 1, 1, 0, 0],
  [1, 1, 0, 0, 1, 0, 1, 0, 1, 0, 1, 1, 0, 1, 0, 0, 1, 1, 1, 1],
  [1, 1, 0, 0, 1, 1, 0, 1, 0, 0, 1, 0, 1, 0, 1, 0, 1, 1, 1, 1],
  [1, 1, 0, 1, 0, 0, 1, 0, 1, 0, 0, 1, 1, 1, 1, 1, 0, 0, 1, 1],
  [1, 1, 0, 1, 0, 1, 1, 1, 1, 1, 0, 0, 1, 0, 1, 0, 0, 0, 1, 1],
  [1, 1, 0, 1, 1, 0, 0, 0, 1, 0, 1, 1, 0, 1, 1, 1, 1, 0, 0, 1],
  [1, 1, 0, 1, 1, 0, 1, 0, 0, 0, 1, 1, 1, 1, 0, 1, 1, 0, 1, 0],
  [1, 1, 0, 1, 1, 1, 0, 1, 1, 1, 1, 0, 0, 0, 1, 0, 1, 0, 0, 1],
  [1, 1, 0, 1, 1, 1, 1, 1, 0, 1, 1, 0, 1, 0, 0, 0, 1, 0, 1, 0],
  [1, 1, 1, 0, 0, 1, 0, 1, 0, 0, 0, 1, 1, 1, 1, 1, 0, 0, 1, 1],
  [1, 1, 1, 0, 0, 1, 1, 1, 1, 1, 0, 1, 0, 1, 0, 0, 0, 0, 1, 1],
  [1, 1, 1, 0, 1, 0, 0, 1, 0, 0, 1, 0, 1, 1, 1, 1, 0, 1, 0, 1],
  [1, 1, 1, 0, 1, 0, 1, 1, 1, 1, 1, 0, 0, 1, 0, 0, 0, 1, 0, 1],
  [1, 1, 1, 0, 1, 1, 0, 0, 0, 0, 1, 1, 1, 0, 1, 1, 0, 1, 1, 0],
  [1, 1, 1, 0, 1, 1, 1, 0, 1, 1, 1, 1, 0, 0, 0, 0, 0, 1, 1, 0],
  [1, 1, 1, 1, 0, 1, 1, 1, 1, 0, 0, 1, 1, 1, 1, 0, 0, 0, 0, 0],
  [1, 1, 1, 1, 1, 0, 1, 1, 0, 1, 1, 0, 1, 1, 0, 1, 0, 0, 0, 0],
  [1, 1, 1, 1, 1, 1, 0, 0, 1, 1, 1, 1, 0, 0, 1, 1, 0, 0, 0, 0]]
def L45C : List (List Nat) := [[0, 0, 0, 0, 0, 1, 1, 1, 1, 0, 0, 1, 1, 1, 1, 0, 1, 1, 1, 1],
  [0, 0, 0, 0, 1, 0, 1, 1, 0, 1, 1, 0, 1, 1, 0, 1, 1, 1, 1, 1],
  [0, 0, 0, 0, 1, 1, 0, 0, 1, 1, 1, 1, 0, 0, 1, 1, 1, 1, 1, 1],
  [0, 0, 1, 1, 0, 0, 0, 1, 1, 0, 0, 1, 1, 1, 1, 1, 1, 1, 0, 1],
  [0, 0, 1, 1, 0, 1, 1, 0, 0, 0, 0, 1, 1, 1, 1, 1, 1, 1, 1, 0],
  [0, 0, 1, 1, 0, 1, 1, 1, 1, 1, 0, 0, 0, 1, 1, 0, 1, 1, 0, 1],
  [0, 0, 1, 1, 0, 1, 1, 1, 1, 1, 0, 1, 1, 0, 0, 0, 1, 1, 1, 0],
  [0, 0, 1, 1, 0, 1, 1, 1, 1, 1, 0, 1, 1, 1, 1, 1, 0, 0, 0, 0],
  [0, 1, 0, 1, 0, 0, 0, 1, 0, 1, 1, 0, 1, 1, 1, 1, 1, 0, 1, 1],
  [0, 1, 0, 1, 1, 0, 1, 0, 0, 0, 1, 0, 1, 1, 1, 1, 1, 1, 1, 0],
  [0, 1, 0, 1, 1, 0, 1, 1, 1, 1, 0, 0, 0, 1, 0, 1, 1, 0, 1, 1],
  [0, 1, 0, 1, 1, 0, 1, 1, 1, 1, 1, 0, 1, 0, 0, 0, 1, 1, 1, 0],
  [0, 1, 0, 1, 1, 0, 1, 1, 1, 1, 1, 0, 1, 1, 1, 1, 0, 0, 0, 0],
  [0, 1, 1, 0, 0, 0, 0, 0, 1, 1, 1, 1, 0, 1, 1, 1, 0, 1, 1, 1],
  [0, 1, 1, 0, 1, 1, 0, 0, 0, 0, 1, 1, 0, 1, 1, 1, 1, 1, 1, 0],
  [0, 1, 1, 0, 1, 1, 0, 1, 1, 1, 0, 0, 0, 0, 1, 1, 0, 1, 1, 1],
  [0, 1, 1, 0, 1, 1, 0, 1, 1, 1, 1, 1, 0, 0, 0, 0, 1, 1, 1, 0],
  [0, 1, 1, 0, 1, 1, 0, 1, 1, 1, 1, 1, 0, 1, 1, 1, 0, 0, 0, 0],
  [1, 0, 0, 1, 0, 1, 0, 0, 0, 1, 1, 1, 1, 0, 1, 1, 1, 0, 1, 1],
  [1, 0, 0, 1, 1, 0, 0, 0, 1, 0, 1, 1, 1, 0, 1, 1, 1, 1, 0, 1],
  [1, 0, 0, 1, 1, 1, 1, 0, 1, 1, 0, 1, 0, 0, 0, 1, 1, 0, 1, 1],
  [1, 0, 0, 1, 1, 1, 1, 0, 1, 1, 1, 0, 0, 0, 1, 0, 1, 1, 0, 1],
  [1, 0, 0, 1, 1, 1, 1, 0, 1, 1, 1, 1, 1, 0, 1, 1, 0, 0, 0, 0],
  [1, 0, 1, 0, 0, 0, 1, 0, 0, 1, 1, 1, 1, 1, 0, 1, 0, 1, 1, 1],
  [1, 0, 1, 0, 1, 0, 0, 1, 0, 0, 1, 1, 1, 1, 0, 1, 1, 1, 0, 1],
  [1, 0, 1, 0, 1, 1, 1, 1, 0, 1, 0, 0, 1, 0, 0, 1, 0, 1, 1, 1],
  [1, 0, 1, 0, 1, 1, 1, 1, 0, 1, 1, 0, 0, 1, 0, 0, 1, 1, 0, 1],
  [1, 0, 1, 0, 1, 1, 1, 1, 0, 1, 1, 1, 1, 1, 0, 1, 0, 0, 0, 0],
  [1, 1, 0, 0, 0, 0, 1, 0, 1, 0, 1, 1, 1, 1, 1, 0, 0, 1, 1, 1],
  [1, 1, 0, 0, 0, 1, 0, 1, 0, 0, 1, 1, 1, 1, 1, 0, 1, 0, 1, 1],
  [1, 1, 0, 0, 1, 1, 1, 1, 1, 0, 0, 0, 1, 0, 1, 0, 0, 1, 1, 1],
  [1, 1, 0, 0, 1, 1, 1, 1, 1, 0, 0, 1, 0, 1, 0, 0, 1, 0, 1, 1],
  [1, 1, 0, 0, 1, 1, 1, 1, 1, 0, 1, 1, 1, 1, 1, 0, 0, 0, 0, 0],
  [1, 1, 1, 1, 0, 0, 1, 0, 1, 1, 0, 1, 0, 1, 0, 1, 0, 0, 1, 1],
  [1, 1, 1, 1, 0, 0, 1, 0, 1, 1, 1, 0, 0, 1, 1, 0, 0, 1, 0, 1],
  [1, 1, 1, 1, 0, 0, 1, 0, 1, 1, 1, 1, 1, 0, 0, 0, 0, 1, 1, 0],
  [1, 1, 1, 1, 0, 1, 0, 1, 0, 1, 0, 0, 1, 0, 1, 1, 0, 0, 1, 1],
  [1, 1, 1, 1, 0, 1, 0, 1, 0, 1, 1, 0, 0, 1, 1, 0, 1, 0, 0, 1],
  [1, 1, 1, 1, 0, 1, 0, 1, 0, 1, 1, 1, 1, 0, 0, 0, 1, 0, 1, 0],
  [1, 1, 1, 1, 1, 0, 0, 1, 1, 0, 0, 0, 1, 0, 1, 1, 0, 1, 0, 1],
  [1, 1, 1, 1, 1, 0, 0, 1, 1, 0, 0, 1, 0, 1, 0, 1, 1, 0, 0, 1],
  [1, 1, 1, 1, 1, 0, 0, 1, 1, 0, 1, 1, 1, 0, 0, 0, 1, 1, 0, 0],
  [1, 1, 1, 1, 1, 1, 1, 0, 0, 0, 0, 0, 1, 0, 1, 1, 0, 1, 1, 0],
  [1, 1, 1, 1, 1, 1, 1, 0, 0, 0, 0, 1, 0, 1, 0, 1, 1, 0, 1, 0],
  [1, 1, 1, 1, 1, 1, 1, 0, 0, 0, 1, 0, 0, 1, 1, 0, 1, 1, 0, 0]]
theorem chk45 : (L45T.all fun x => L45C.all fun y => Nat.ble (dotN x y) 10) = true := by decide +kernel
theorem chkT00 : (fours.all fun c => fours.all fun d => fours.all fun e => fours.all fun f => Nat.ble (sumN (pT 0 0 c d e f)) 10 || L45T.contains (pT 0 0 c d e f)) = true := by decide +kernel
theorem chkT01 : (fours.all fun c => fours.all fun d => fours.all fun e => fours.all fun f => Nat.ble (sumN (pT 0 1 c d e f)) 10 || L45T.contains (pT 0 1 c d e f)) = true := by decide +kernel
theorem chkT02 : (fours.all fun c => fours.all fun d => fours.all fun e => fours.all fun f => Nat.ble (sumN (pT 0 2 c d e f)) 10 || L45T.contains (pT 0 2 c d e f)) = true := by decide +kernel
theorem chkT03 : (fours.all fun c => fours.all fun d => fours.all fun e => fours.all fun f => Nat.ble (sumN (pT 0 3 c d e f)) 10 || L45T.contains (pT 0 3 c d e f)) = true := by decide +kernel
theorem chkT10 : (fours.all fun c => fours.all fun d => fours.all fun e => fours.all fun f => Nat.ble (sumN (pT 1 0 c d e f)) 10 || L45T.contains (pT 1 0 c d e f)) = true := by decide +kernel
theorem chkT11 : (fours.all fun c => fours.all fun d => fours.all fun e => fours.all fun f => Nat.ble (sumN (pT 1 1 c d e f)) 10 || L45T.contains (pT 1 1 c d e f)) = true := by decide +kernel
theorem chkT12 : (fours.all fun c => fours.all fun d => fours.all fun e => fours.all fun f => Nat.ble (sumN (pT 1 2 c d e f)) 10 || L45T.contains (pT 1 2 c d e f)) = true := by decide +kernel
theorem chkT13 : (fours.all fun c => fours.all fun d => fours.all fun e => fours.all fun f => Nat.ble (sumN (pT 1 3 c d e f)) 10 || L45T.contains (pT 1 3 c d e f)) = true := by decide +kernel
theorem chkT20 : (fours.all fun c => fours.all fun d => fours.all fun e => fours.all fun f => Nat.ble (sumN (pT 2 0 c d e f)) 10 || L45T.contains (pT 2 0 c d e f)) = true := by decide +kernel
theorem chkT21 : (fours.all fun c => fours.all fun d => fours.all fun e => fours.all fun f => Nat.ble (sumN (pT 2 1 c d e f)) 10 || L45T.contains (pT 2 1 c d e f)) = true := by decide +kernel
theorem chkT22 : (fours.all fun c => fours.all fun d => fours.all fun e => fours.all fun f => Nat.ble (sumN (pT 2 2 c d e f)) 10 || L45T.contains (pT 2 2 c d e f)) = true := by decide +kernel
theorem chkT23 : (fours.all fun c => fours.all fun d => fours.all fun e => fours.all fun f => Nat.ble (sumN (pT 2 3 c d e f)) 10 || L45T.contains (pT 2 3 c d e f)) = true := by decide +kernel
theorem chkT30 : (fours.all fun c => fours.all fun d => fours.all fun e => fours.all fun f => Nat.ble (sumN (pT 3 0 c d e f)) 10 || L45T.contains (pT 3 0 c d e f)) = true := by decide +kernel
theorem chkT31 : (fours.all fun c => fours.all fun d => fours.all fun e => fours.all fun f => Nat.ble (sumN (pT 3 1 c d e f)) 10 || L45T.contains (pT 3 1 c d e f)) = true := by decide +kernel
theorem chkT32 : (fours.all fun c => fours.all fun d => fours.all fun e => fours.all fun f => Nat.ble (sumN (pT 3 2 c d e f)) 10 || L45T.contains (pT 3 2 c d e f)) = true := by decide +kernel
theorem chkT33 : (fours.all fun c => fours.all fun d => fours.all fun e => fours.all fun f => Nat.ble (sumN (pT 3 3 c d e f)) 10 || L45T.contains (pT 3 3 c d e f)) = true := by decide +kernel
theorem chkT {a b c d e f : Nat} (ha : a < 4) (hb : b < 4) (hc : c < 4) (hd : d < 4) (he : e < 4) (hf : f < 4) : sumN (pT a b c d e f) ≤ 10 ∨ pT a b c d e f ∈ L45T := by
  have key : ∀ {q : Nat → Nat → Nat → Nat → List Nat}, (fours.all fun c => fours.all fun d => fours.all fun e => fours.all fun f => Nat.ble (sumN (q c d e f)) 10 || L45T.contains (q c d e f)) = true → sumN (q c d e f) ≤ 10 ∨ q c d e f ∈ L45T := fun {q} h => by
    simp only [List.all_eq_true] at h
    have h := h c (four_in hc) d (four_in hd) e (four_in he) f (four_in hf)
    rw [Bool.or_eq_true] at h
    rcases h with h | h
    · exact .inl (Nat.le_of_ble_eq_true h)
    · exact .inr (List.contains_iff_mem.1 h)
  have ea : a = 0 ∨ a = 1 ∨ a = 2 ∨ a = 3 := by omega
  have eb : b = 0 ∨ b = 1 ∨ b = 2 ∨ b = 3 := by omega
  rcases ea with rfl | rfl | rfl | rfl <;> rcases eb with rfl | rfl | rfl | rfl
  · exact key (q := pT 0 0) chkT00
  · exact key (q := pT 0 1) chkT01
  · exact key (q := pT 0 2) chkT02
  · exact key (q := pT 0 3) chkT03
  · exact key (q := pT 1 0) chkT10
  · exact key (q := pT 1 1) chkT11
  · exact key (q := pT 1 2) chkT12
  · exact key (q := pT 1 3) chkT13
  · exact key (q := pT 2 0) chkT20
  · exact key (q := pT 2 1) chkT21
  · exact key (q := pT 2 2) chkT22
  · exact key (q := pT 2 3) chkT23
  · exact key (q := pT 3 0) chkT30
  · exact key (q := pT 3 1) chkT31
  · exact key (q := pT 3 2) chkT32
  · exact key (q := pT 3 3) chkT33
theorem chkC00 : (fours.all fun c => fours.all fun d => fours.all fun e => fours.all fun f => Nat.ble (sumN (pC 0 0 c d e f)) 10 || L45C.contains (pC 0 0 c d e f)) = true := by decide +kernel
theorem chkC01 : (fours.all fun c => fours.all fun d => fours.all fun e => fours.all fun f => Nat.ble (sumN (pC 0 1 c d e f)) 10 || L45C.contains (pC 0 1 c d e f)) = true := by decide +kernel
theorem chkC02 : (fours.all fun c => fours.all fun d => fours.all fun e => fours.all fun f => Nat.ble (sumN (pC 0 2 c d e f)) 10 || L45C.contains (pC 0 2 c d e f)) = true := by decide +kernel
theorem chkC03 : (fours.all fun c => fours.all fun d => fours.all fun e => fours.all fun f => Nat.ble (sumN (pC 0 3 c d e f)) 10 || L45C.contains (pC 0 3 c d e f)) = true := by decide +kernel
theorem chkC10 : (fours.all fun c => fours.all fun d => fours.all fun e => fours.all fun f => Nat.ble (sumN (pC 1 0 c d e f)) 10 || L45C.contains (pC 1 0 c d e f)) = true := by decide +kernel
theorem chkC11 : (fours.all fun c => fours.all fun d => fours.all fun e => fours.all fun f => Nat.ble (sumN (pC 1 1 c d e f)) 10 || L45C.contains (pC 1 1 c d e f)) = true := by decide +kernel
theorem chkC12 : (fours.all fun c => fours.all fun d => fours.all fun e => fours.all fun f => Nat.ble (sumN (pC 1 2 c d e f)) 10 || L45C.contains (pC 1 2 c d e f)) = true := by decide +kernel
theorem chkC13 : (fours.all fun c => fours.all fun d => fours.all fun e => fours.all fun f => Nat.ble (sumN (pC 1 3 c d e f)) 10 || L45C.contains (pC 1 3 c d e f)) = true := by decide +kernel
theorem chkC20 : (fours.all fun c => fours.all fun d => fours.all fun e => fours.all fun f => Nat.ble (sumN (pC 2 0 c d e f)) 10 || L45C.contains (pC 2 0 c d e f)) = true := by decide +kernel
theorem chkC21 : (fours.all fun c => fours.all fun d => fours.all fun e => fours.all fun f => Nat.ble (sumN (pC 2 1 c d e f)) 10 || L45C.contains (pC 2 1 c d e f)) = true := by decide +kernel
theorem chkC22 : (fours.all fun c => fours.all fun d => fours.all fun e => fours.all fun f => Nat.ble (sumN (pC 2 2 c d e f)) 10 || L45C.contains (pC 2 2 c d e f)) = true := by decide +kernel
theorem chkC23 : (fours.all fun c => fours.all fun d => fours.all fun e => fours.all fun f => Nat.ble (sumN (pC 2 3 c d e f)) 10 || L45C.contains (pC 2 3 c d e f)) = true := by decide +kernel
theorem chkC30 : (fours.all fun c => fours.all fun d => fours.all fun e => fours.all fun f => Nat.ble (sumN (pC 3 0 c d e f)) 10 || L45C.contains (pC 3 0 c d e f)) = true := by decide +kernel
theorem chkC31 : (fours.all fun c => fours.all fun d => fours.all fun e => fours.all fun f => Nat.ble (sumN (pC 3 1 c d e f)) 10 || L45C.contains (pC 3 1 c d e f)) = true := by decide +kernel
theorem chkC32 : (fours.all fun c => fours.all fun d => fours.all fun e => fours.all fun f => Nat.ble (sumN (pC 3 2 c d e f)) 10 || L45C.contains (pC 3 2 c d e f)) = true := by decide +kernel
theorem chkC33 : (fours.all fun c => fours.all fun d => fours.all fun e => fours.all fun f => Nat.ble (sumN (pC 3 3 c d e f)) 10 || L45C.contains (pC 3 3 c d e f)) = true := by decide +kernel
theorem chkC {a b c d e f : Nat} (ha : a < 4) (hb : b < 4) (hc : c < 4) (hd : d < 4) (he : e < 4) (hf : f < 4) : sumN (pC a b c d e f) ≤ 10 ∨ pC a b c d e f ∈ L45C := by
  have key : ∀ {q : Nat → Nat → Nat → Nat → List Nat}, (fours.all fun c => fours.all fun d => fours.all fun e => fours.all fun f => Nat.ble (sumN (q c d e f)) 10 || L45C.contains (q c d e f)) = true → sumN (q c d e f) ≤ 10 ∨ q c d e f ∈ L45C := fun {q} h => by
    simp only [List.all_eq_true] at h
    have h := h c (four_in hc) d (four_in hd) e (four_in he) f (four_in hf)
    rw [Bool.or_eq_true] at h
    rcases h with h | h
    · exact .inl (Nat.le_of_ble_eq_true h)
    · exact .inr (List.contains_iff_mem.1 h)
  have ea : a = 0 ∨ a = 1 ∨ a = 2 ∨ a = 3 := by omega
  have eb : b = 0 ∨ b = 1 ∨ b = 2 ∨ b = 3 := by omega
  rcases ea with rfl | rfl | rfl | rfl <;> rcases eb with rfl | rfl | rfl | rfl
  · exact key (q := pC 0 0) chkC00
  · exact key (q := pC 0 1) chkC01
  · exact key (q := pC 0 2) chkC02
  · exact key (q := pC 0 3) chkC03
  · exact key (q := pC 1 0) chkC10
  · exact key (q := pC 1 1) chkC11
  · exact key (q := pC 1 2) chkC12
  · exact key (q := pC 1 3) chkC13
  · exact key (q := pC 2 0) chkC20
  · exact key (q := pC 2 1) chkC21
  · exact key (q := pC 2 2) chkC22
  · exact key (q := pC 2 3) chkC23
  · exact key (q := pC 3 0) chkC30
  · exact key (q := pC 3 1) chkC31
  · exact key (q := pC 3 2) chkC32
  · exact key (q := pC 3 3) chkC33
theorem ap3_le (x y z : Nat) : ap3 x y z ≤ 1 := by unfold ap3; split <;> decide
theorem dotN_le : ∀ X Y : List Nat, (∀ y ∈ Y, y ≤ 1) → dotN X Y ≤ sumN X
  | [], _, _ => by simp [dotN, sumN]
  | a :: X, [], _ => by simp [dotN]
  | a :: X, b :: Y, h => by
    have ih := dotN_le X Y fun y hy => h y (List.mem_cons_of_mem _ hy)
    have hb := h b List.mem_cons_self
    have : a * b ≤ a * 1 := Nat.mul_le_mul_left a hb
    show a * b + dotN X Y ≤ a + sumN X
    omega
theorem dotN_le2 : ∀ X Y : List Nat, (∀ y ∈ X, y ≤ 1) → dotN X Y ≤ sumN Y
  | [], _, _ => by simp [dotN]
  | a :: X, [], _ => by simp [dotN, sumN]
  | a :: X, b :: Y, h => by
    have ih := dotN_le2 X Y fun y hy => h y (List.mem_cons_of_mem _ hy)
    have hb := h a List.mem_cons_self
    have : a * b ≤ 1 * b := Nat.mul_le_mul_right b hb
    show a * b + dotN X Y ≤ b + sumN Y
    omega
theorem pT_one (a b c d e f : Nat) : ∀ y ∈ pT a b c d e f, y ≤ 1 := fun y hy => by
  unfold pT at hy
  simp only [List.mem_cons, List.not_mem_nil, or_false] at hy
  rcases hy with rfl | rfl | rfl | rfl | rfl | rfl | rfl | rfl | rfl | rfl | rfl | rfl | rfl | rfl | rfl | rfl | rfl | rfl | rfl | rfl <;> exact ap3_le _ _ _
theorem pC_one (a b c d e f : Nat) : ∀ y ∈ pC a b c d e f, y ≤ 1 := fun y hy => by
  unfold pC at hy
  simp only [List.mem_cons, List.not_mem_nil, or_false] at hy
  rcases hy with rfl | rfl | rfl | rfl | rfl | rfl | rfl | rfl | rfl | rfl | rfl | rfl | rfl | rfl | rfl | rfl | rfl | rfl | rfl | rfl <;> exact ap3_le _ _ _
theorem cnt_le {a b c d e f a' b' c' d' e' f' : Nat} (ha : a < 4) (hb : b < 4) (hc : c < 4) (hd : d < 4) (he : e < 4) (hf : f < 4) (ha' : a' < 4) (hb' : b' < 4) (hc' : c' < 4) (hd' : d' < 4) (he' : e' < 4) (hf' : f' < 4) : dotN (pT a b c d e f) (pC a' b' c' d' e' f') ≤ 10 := by
  rcases chkT ha hb hc hd he hf with h | h
  · exact Nat.le_trans (dotN_le _ _ (pC_one _ _ _ _ _ _)) h
  · rcases chkC ha' hb' hc' hd' he' hf' with h' | h'
    · exact Nat.le_trans (dotN_le2 _ _ (pT_one _ _ _ _ _ _)) h'
    · have k := chk45
      simp only [List.all_eq_true] at k
      exact Nat.le_of_ble_eq_true (k _ h _ h')
theorem d3_ap {u v w : Nat → Int} (hu : PM u) (hv : PM v) (hw : PM w) : -4 ≤ d3 u v w ∧ d3 u v w ≤ 4 ∧ (ap3 (cls u 0) (cls v 0) (cls w 0) = 0 → d3 u v w = 0) := by
  have tr : ∀ {z : Nat → Int}, PM z → ∀ i, i < 3 → -1 ≤ z i ∧ z i ≤ 1 := fun hz i hi => by have := hz i (by omega); omega
  obtain ⟨h1, h2⟩ := d3_bd (tr hu) (tr hv) (tr hw)
  refine ⟨h1, h2, fun h => ?_⟩
  unfold ap3 at h
  split at h
  · rename_i hc
    simp only [Bool.or_eq_true] at hc
    rcases hc with (hc | hc) | hc
    · exact cls_par hu hv (Nat.eq_of_beq_eq_true hc)
    · have := cls_par (w := v) hu hw (Nat.eq_of_beq_eq_true hc)
      rw [d3_23] at this
      omega
    · have := cls_par (w := u) hv hw (Nat.eq_of_beq_eq_true hc)
      rw [d3_231] at this
      exact this
  · cases h
def lw (u : Nat → Int) : Nat → Int := fun i => if i < 3 then u (i + 3) else 1
theorem lw_pm {u : Nat → Int} (h : PM u) : PM (lw u) := fun i hi => by
  unfold lw
  split
  · exact h _ (by omega)
  · exact .inl rfl
theorem e3_lw (u v w : Nat → Int) : e3 u v w = d3 (lw u) (lw v) (lw w) := by unfold e3 d3 lw; simp
theorem term_bd {m n : Int} {a b : Nat} (hm : -4 ≤ m ∧ m ≤ 4 ∧ (a = 0 → m = 0)) (hn : -4 ≤ n ∧ n ≤ 4 ∧ (b = 0 → n = 0)) (ha : a ≤ 1) (hb : b ≤ 1) : -(16 * ((a * b : Nat) : Int)) ≤ m * n ∧ m * n ≤ 16 * ((a * b : Nat) : Int) := by
  obtain ⟨p1, p2⟩ := prod_bd ⟨hm.1, hm.2.1⟩ ⟨hn.1, hn.2.1⟩
  have ea : a = 0 ∨ a = 1 := by omega
  have eb : b = 0 ∨ b = 1 := by omega
  rcases ea with rfl | rfl
  · rw [hm.2.2 rfl, Int.zero_mul, Nat.zero_mul]; decide
  · rcases eb with rfl | rfl
    · rw [hn.2.2 rfl, Int.mul_zero, Nat.mul_zero]; decide
    · show -(16 * (1 : Int)) ≤ m * n ∧ m * n ≤ 16 * (1 : Int)
      omega
theorem d6_signs {u0 u1 u2 u3 u4 u5 : Nat → Int} (h0 : PM u0) (h1 : PM u1) (h2 : PM u2) (h3 : PM u3) (h4 : PM u4) (h5 : PM u5) : -160 ≤ d6 u0 u1 u2 u3 u4 u5 ∧ d6 u0 u1 u2 u3 u4 u5 ≤ 160 := by
  have hc := cnt_le (cls_lt u0 0) (cls_lt u1 0) (cls_lt u2 0) (cls_lt u3 0) (cls_lt u4 0) (cls_lt u5 0) (cls_lt (lw u0) 0) (cls_lt (lw u1) 0) (cls_lt (lw u2) 0) (cls_lt (lw u3) 0) (cls_lt (lw u4) 0) (cls_lt (lw u5) 0)
  simp only [pT, pC, dotN] at hc
  rw [d6_lap]
  simp only [e3_lw]
  have t0 := term_bd (d3_ap h0 h1 h2) (d3_ap (lw_pm h3) (lw_pm h4) (lw_pm h5)) (ap3_le _ _ _) (ap3_le _ _ _)
  have t1 := term_bd (d3_ap h0 h1 h3) (d3_ap (lw_pm h2) (lw_pm h4) (lw_pm h5)) (ap3_le _ _ _) (ap3_le _ _ _)
  have t2 := term_bd (d3_ap h0 h1 h4) (d3_ap (lw_pm h2) (lw_pm h3) (lw_pm h5)) (ap3_le _ _ _) (ap3_le _ _ _)
  have t3 := term_bd (d3_ap h0 h1 h5) (d3_ap (lw_pm h2) (lw_pm h3) (lw_pm h4)) (ap3_le _ _ _) (ap3_le _ _ _)
  have t4 := term_bd (d3_ap h0 h2 h3) (d3_ap (lw_pm h1) (lw_pm h4) (lw_pm h5)) (ap3_le _ _ _) (ap3_le _ _ _)
  have t5 := term_bd (d3_ap h0 h2 h4) (d3_ap (lw_pm h1) (lw_pm h3) (lw_pm h5)) (ap3_le _ _ _) (ap3_le _ _ _)
  have t6 := term_bd (d3_ap h0 h2 h5) (d3_ap (lw_pm h1) (lw_pm h3) (lw_pm h4)) (ap3_le _ _ _) (ap3_le _ _ _)
  have t7 := term_bd (d3_ap h0 h3 h4) (d3_ap (lw_pm h1) (lw_pm h2) (lw_pm h5)) (ap3_le _ _ _) (ap3_le _ _ _)
  have t8 := term_bd (d3_ap h0 h3 h5) (d3_ap (lw_pm h1) (lw_pm h2) (lw_pm h4)) (ap3_le _ _ _) (ap3_le _ _ _)
  have t9 := term_bd (d3_ap h0 h4 h5) (d3_ap (lw_pm h1) (lw_pm h2) (lw_pm h3)) (ap3_le _ _ _) (ap3_le _ _ _)
  have t10 := term_bd (d3_ap h1 h2 h3) (d3_ap (lw_pm h0) (lw_pm h4) (lw_pm h5)) (ap3_le _ _ _) (ap3_le _ _ _)
  have t11 := term_bd (d3_ap h1 h2 h4) (d3_ap (lw_pm h0) (lw_pm h3) (lw_pm h5)) (ap3_le _ _ _) (ap3_le _ _ _)
  have t12 := term_bd (d3_ap h1 h2 h5) (d3_ap (lw_pm h0) (lw_pm h3) (lw_pm h4)) (ap3_le _ _ _) (ap3_le _ _ _)
  have t13 := term_bd (d3_ap h1 h3 h4) (d3_ap (lw_pm h0) (lw_pm h2) (lw_pm h5)) (ap3_le _ _ _) (ap3_le _ _ _)
  have t14 := term_bd (d3_ap h1 h3 h5) (d3_ap (lw_pm h0) (lw_pm h2) (lw_pm h4)) (ap3_le _ _ _) (ap3_le _ _ _)
  have t15 := term_bd (d3_ap h1 h4 h5) (d3_ap (lw_pm h0) (lw_pm h2) (lw_pm h3)) (ap3_le _ _ _) (ap3_le _ _ _)
  have t16 := term_bd (d3_ap h2 h3 h4) (d3_ap (lw_pm h0) (lw_pm h1) (lw_pm h5)) (ap3_le _ _ _) (ap3_le _ _ _)
  have t17 := term_bd (d3_ap h2 h3 h5) (d3_ap (lw_pm h0) (lw_pm h1) (lw_pm h4)) (ap3_le _ _ _) (ap3_le _ _ _)
  have t18 := term_bd (d3_ap h2 h4 h5) (d3_ap (lw_pm h0) (lw_pm h1) (lw_pm h3)) (ap3_le _ _ _) (ap3_le _ _ _)
  have t19 := term_bd (d3_ap h3 h4 h5) (d3_ap (lw_pm h0) (lw_pm h1) (lw_pm h2)) (ap3_le _ _ _) (ap3_le _ _ _)
  generalize ap3 (cls u0 0) (cls u1 0) (cls u2 0) * ap3 (cls (lw u3) 0) (cls (lw u4) 0) (cls (lw u5) 0) = c0 at *
  generalize ap3 (cls u0 0) (cls u1 0) (cls u3 0) * ap3 (cls (lw u2) 0) (cls (lw u4) 0) (cls (lw u5) 0) = c1 at *
  generalize ap3 (cls u0 0) (cls u1 0) (cls u4 0) * ap3 (cls (lw u2) 0) (cls (lw u3) 0) (cls (lw u5) 0) = c2 at *
  generalize ap3 (cls u0 0) (cls u1 0) (cls u5 0) * ap3 (cls (lw u2) 0) (cls (lw u3) 0) (cls (lw u4) 0) = c3 at *
  generalize ap3 (cls u0 0) (cls u2 0) (cls u3 0) * ap3 (cls (lw u1) 0) (cls (lw u4) 0) (cls (lw u5) 0) = c4 at *
  generalize ap3 (cls u0 0) (cls u2 0) (cls u4 0) * ap3 (cls (lw u1) 0) (cls (lw u3) 0) (cls (lw u5) 0) = c5 at *
  generalize ap3 (cls u0 0) (cls u2 0) (cls u5 0) * ap3 (cls (lw u1) 0) (cls (lw u3) 0) (cls (lw u4) 0) = c6 at *
  generalize ap3 (cls u0 0) (cls u3 0) (cls u4 0) * ap3 (cls (lw u1) 0) (cls (lw u2) 0) (cls (lw u5) 0) = c7 at *
  generalize ap3 (cls u0 0) (cls u3 0) (cls u5 0) * ap3 (cls (lw u1) 0) (cls (lw u2) 0) (cls (lw u4) 0) = c8 at *
  generalize ap3 (cls u0 0) (cls u4 0) (cls u5 0) * ap3 (cls (lw u1) 0) (cls (lw u2) 0) (cls (lw u3) 0) = c9 at *
  generalize ap3 (cls u1 0) (cls u2 0) (cls u3 0) * ap3 (cls (lw u0) 0) (cls (lw u4) 0) (cls (lw u5) 0) = c10 at *
  generalize ap3 (cls u1 0) (cls u2 0) (cls u4 0) * ap3 (cls (lw u0) 0) (cls (lw u3) 0) (cls (lw u5) 0) = c11 at *
  generalize ap3 (cls u1 0) (cls u2 0) (cls u5 0) * ap3 (cls (lw u0) 0) (cls (lw u3) 0) (cls (lw u4) 0) = c12 at *
  generalize ap3 (cls u1 0) (cls u3 0) (cls u4 0) * ap3 (cls (lw u0) 0) (cls (lw u2) 0) (cls (lw u5) 0) = c13 at *
  generalize ap3 (cls u1 0) (cls u3 0) (cls u5 0) * ap3 (cls (lw u0) 0) (cls (lw u2) 0) (cls (lw u4) 0) = c14 at *
  generalize ap3 (cls u1 0) (cls u4 0) (cls u5 0) * ap3 (cls (lw u0) 0) (cls (lw u2) 0) (cls (lw u3) 0) = c15 at *
  generalize ap3 (cls u2 0) (cls u3 0) (cls u4 0) * ap3 (cls (lw u0) 0) (cls (lw u1) 0) (cls (lw u5) 0) = c16 at *
  generalize ap3 (cls u2 0) (cls u3 0) (cls u5 0) * ap3 (cls (lw u0) 0) (cls (lw u1) 0) (cls (lw u4) 0) = c17 at *
  generalize ap3 (cls u2 0) (cls u4 0) (cls u5 0) * ap3 (cls (lw u0) 0) (cls (lw u1) 0) (cls (lw u3) 0) = c18 at *
  generalize ap3 (cls u3 0) (cls u4 0) (cls u5 0) * ap3 (cls (lw u0) 0) (cls (lw u1) 0) (cls (lw u2) 0) = c19 at *
  simp only [Int.neg_mul]
  generalize d3 u0 u1 u2 * d3 (lw u3) (lw u4) (lw u5) = p0 at *
  generalize d3 u0 u1 u3 * d3 (lw u2) (lw u4) (lw u5) = p1 at *
  generalize d3 u0 u1 u4 * d3 (lw u2) (lw u3) (lw u5) = p2 at *
  generalize d3 u0 u1 u5 * d3 (lw u2) (lw u3) (lw u4) = p3 at *
  generalize d3 u0 u2 u3 * d3 (lw u1) (lw u4) (lw u5) = p4 at *
  generalize d3 u0 u2 u4 * d3 (lw u1) (lw u3) (lw u5) = p5 at *
  generalize d3 u0 u2 u5 * d3 (lw u1) (lw u3) (lw u4) = p6 at *
  generalize d3 u0 u3 u4 * d3 (lw u1) (lw u2) (lw u5) = p7 at *
  generalize d3 u0 u3 u5 * d3 (lw u1) (lw u2) (lw u4) = p8 at *
  generalize d3 u0 u4 u5 * d3 (lw u1) (lw u2) (lw u3) = p9 at *
  generalize d3 u1 u2 u3 * d3 (lw u0) (lw u4) (lw u5) = p10 at *
  generalize d3 u1 u2 u4 * d3 (lw u0) (lw u3) (lw u5) = p11 at *
  generalize d3 u1 u2 u5 * d3 (lw u0) (lw u3) (lw u4) = p12 at *
  generalize d3 u1 u3 u4 * d3 (lw u0) (lw u2) (lw u5) = p13 at *
  generalize d3 u1 u3 u5 * d3 (lw u0) (lw u2) (lw u4) = p14 at *
  generalize d3 u1 u4 u5 * d3 (lw u0) (lw u2) (lw u3) = p15 at *
  generalize d3 u2 u3 u4 * d3 (lw u0) (lw u1) (lw u5) = p16 at *
  generalize d3 u2 u3 u5 * d3 (lw u0) (lw u1) (lw u4) = p17 at *
  generalize d3 u2 u4 u5 * d3 (lw u0) (lw u1) (lw u3) = p18 at *
  generalize d3 u3 u4 u5 * d3 (lw u0) (lw u1) (lw u2) = p19 at *
  omega
theorem d6_160 {u0 u1 u2 u3 u4 u5 : Nat → Int} (h0 : TR u0) (h1 : TR u1) (h2 : TR u2) (h3 : TR u3) (h4 : TR u4) (h5 : TR u5) : -160 ≤ d6 u0 u1 u2 u3 u4 u5 ∧ d6 u0 u1 u2 u3 u4 u5 ≤ 160 := by
  obtain ⟨s0, k0, a0, b0⟩ := d6_pm0 u0 u1 u2 u3 u4 u5 h0
  obtain ⟨s1, k1, a1, b1⟩ := d6_pm1 u1 s0 u2 u3 u4 u5 h1
  obtain ⟨s2, k2, a2, b2⟩ := d6_pm2 u2 s0 s1 u3 u4 u5 h2
  obtain ⟨s3, k3, a3, b3⟩ := d6_pm3 u3 s0 s1 s2 u4 u5 h3
  obtain ⟨s4, k4, a4, b4⟩ := d6_pm4 u4 s0 s1 s2 s3 u5 h4
  obtain ⟨s5, k5, a5, b5⟩ := d6_pm5 u5 s0 s1 s2 s3 s4 h5
  obtain ⟨z1, z2⟩ := d6_signs k0 k1 k2 k3 k4 k5
  omega
end Go.Proofs.YtgbnfhfkehpfaaaGreat
/- The numbers of a circuit are at most 160. Plain mathematics. Speaks of no program. -/
namespace Go.Proofs.YtgbnfhfkehpfaaaGreat
open Go.RowKit

theorem det_160 {k : Nat} (hk : k ≤ 6) {b : Nat → Nat → Int} (hb : ∀ s, s < k → ∀ i, i < k → -1 ≤ b s i ∧ b s i ≤ 1) : -160 ≤ detC k b ∧ detC k b ≤ 160 := by
  by_cases h6 : k = 6
  · subst h6
    rw [d6_of]
    exact d6_160 (hb 0 (by decide)) (hb 1 (by decide)) (hb 2 (by decide)) (hb 3 (by decide)) (hb 4 (by decide)) (hb 5 (by decide))
  · have one : ∀ k, pr (fun _ => 1) k = 1 := fun k => by
      induction k with
      | zero => rfl
      | succ k ih => simp only [pr]; rw [ih]; rfl
    have hd := detC_bd k b (fun _ => 1) (fun _ _ => Int.one_nonneg) hb
    rw [one, Int.mul_one] at hd
    have h5 : fc k ≤ fc 5 := fc_mono (by omega)
    have : fc 5 ≤ 160 := by decide
    omega
theorem clear_160 {R N cols : Nat} {M : List (List Int)} (h1 : M.length = R) (h2 : ∀ q ∈ M, q.length = N) (hR : R ≤ 6) (hN : cols ≤ N) (hb1 : ∀ i, i < R → ∀ c, c < cols → -1 ≤ a0 M i c ∧ a0 M i c ≤ 1) (hb2 : ∀ i, i < R → ∀ c, c < N → -1000000 ≤ a0 M i c ∧ a0 M i c ≤ 1000000) :
    (clearN { cols := cols, rows := M, piv := [], dv := 1 } cols).dv ≤ 160 ∧ ∀ t, t < (clearN { cols := cols, rows := M, piv := [], dv := 1 } cols).piv.length → ∀ c, c < cols → -160 ≤ gt (rowL (clearN { cols := cols, rows := M, piv := [], dv := 1 } cols).rows t) c ∧ gt (rowL (clearN { cols := cols, rows := M, piv := [], dv := 1 } cols).rows t) c ≤ 160 := by
  obtain ⟨A, h⟩ := bar_all h1 h2 hR hN hb1 hb2 cols (Nat.le_refl _)
  obtain ⟨r, hr⟩ : ∃ r, clearN { cols := cols, rows := M, piv := [], dv := 1 } cols = r := ⟨_, rfl⟩
  rw [hr] at h ⊢
  have hpt : ∀ t, t < r.piv.length → pivN r t < cols := fun t ht => by have := h.pz t ht; unfold pivN; omega
  have hA1 : ∀ x, x < R → ∀ c, c < cols → -1 ≤ A x c ∧ A x c ≤ 1 := fun x hx c hc => arr_bd h.arr (fun i hi => hb1 i hi c hc) x hx
  have hpl := h.pl
  refine ⟨?_, fun t ht c hc => ?_⟩
  · rw [h.dv]
    unfold dt
    exact (det_160 (by omega) fun s hs i hi => hA1 i (by omega) _ (hpt s hs)).2
  · rw [h.val t (by omega) c (by omega)]
    unfold mk
    rw [if_pos ht]
    refine det_160 (by omega) fun s hs i hi => ?_
    by_cases e : s = t
    · subst e; rw [updC_at]; exact hA1 i (by omega) c hc
    · rw [updC_ne _ _ e]; exact hA1 i (by omega) _ (hpt s hs)
theorem redN_160 {m : List (List Int)} (hv : validM m = true) {px : List Int} (hpx : pxOk m px) : (redN m px).dv ≤ 160 ∧ ∀ t, t < (redN m px).piv.length → ∀ c, c < px.length → -160 ≤ gt (rowL (redN m px).rows t) c ∧ gt (rowL (redN m px).rows t) c ≤ 160 := by
  obtain ⟨hm1, hm6, hc1, hc10, hrows⟩ := validM_of hv
  have hb : ∀ i, i < m.length → ∀ c, c < px.length → -1 ≤ a0 (pixM px m) i c ∧ a0 (pixM px m) i c ≤ 1 := by
    intro i hi c hc
    unfold a0
    rw [rowL_pixM hi, gt_pixR hc]
    have hr := hrows _ (rowL_mem hi)
    have hj : gt px c ∈ px := by unfold gt; simp [hc]
    have := hpx _ hj
    exact gt_in hr.2 (by rw [hr.1]; omega)
  refine clear_160 (M := pixM px m) (R := m.length) (N := px.length) (by simp [pixM]) ?_ hm6 (Nat.le_refl _) hb (fun i hi c hc => by have := hb i hi c hc; omega)
  intro q hq
  obtain ⟨r, _, rfl⟩ := List.mem_map.1 hq
  exact pixR_len _ _
theorem circ_160 {m : List (List Int)} {px : List Int} (hv : validM m = true) (hp : SetP m px) (hc : circB m px = true) : ∀ j, j < colsM m → -160 ≤ gt (circH m px) j ∧ gt (circH m px) j ≤ 160 := by
  have hm6 := (validM_of hv).2.1
  have h := redN_fin hv hp.ok
  have h160 := redN_160 hv hp.ok
  unfold circB at hc
  simp only [Bool.and_eq_true, decide_eq_true_eq, Bool.not_eq_true', decide_eq_false_iff_not] at hc
  obtain ⟨hc1, hc2⟩ := hc
  unfold circH
  unfold partC at hc2 ⊢
  obtain ⟨r, hr⟩ : ∃ r, redN m px = r := ⟨_, rfl⟩
  rw [hr] at h h160 hc1 hc2 ⊢
  obtain ⟨x, hx⟩ := List.length_eq_one_iff.1 hc1
  rw [hx] at hc2 ⊢
  obtain ⟨f, hf, rfl, hn⟩ := (freeTo_mem r.piv px.length x).1 (by rw [hx]; simp)
  have hg0 : gt [(f : Int)] 0 = f := rfl
  rw [hg0, Int.toNat_natCast] at hc2 ⊢
  have hg := h.kvec_gcd hm6 (Nat.le_refl _) hf hn
  have hkl := kvec_len r px.length f
  have hp0 := h.pos
  have hkb : ∀ u, u < px.length → -160 ≤ gt (kvec r px.length f) u ∧ gt (kvec r px.length f) u ≤ 160 := fun u hu => by
    by_cases e : u = f
    · subst e; rw [h.kvec_free hm6 (Nat.le_refl _) hf hn]; have := h160.1; omega
    · by_cases e2 : (u : Int) ∈ r.piv
      · obtain ⟨t, ht, rfl⟩ := h.mem.1 e2
        rw [h.kvec_piv hm6 (Nat.le_refl _) hf hn ht]
        have := h160.2 t ht f hf
        omega
      · rw [h.kvec_else hm6 (Nat.le_refl _) hf hn hu e e2]; omega
  obtain ⟨kv, hkv⟩ : ∃ kv, kvec r px.length f = kv := ⟨_, rfl⟩
  rw [hkv] at hg hc2 hkl hkb ⊢
  have hgs : ∀ u, u < px.length → gt kv u = ((gcdL kv : Nat) : Int) * gt (shortL kv) u := fun u hu => gt_short (by rw [hkl]; exact hu)
  have hpb : ∀ u, u < (shortL kv).length → -160 ≤ gt (shortL kv) u ∧ gt (shortL kv) u ≤ 160 := fun u hu => by
    rw [short_len, hkl] at hu
    have h2 := hkb u hu
    rw [hgs u hu] at h2
    exact mul_small (by omega) h2
  obtain ⟨s, hs1, hs2, _⟩ := sign_at (xs := shortL kv) fun u hu => by have := hpb u hu; omega
  intro j hj
  by_cases e : (j : Int) ∈ px
  · obtain ⟨u, hu, rfl⟩ := hp.mem.1 e
    rw [hp.put_at _ (Nat.le_refl _) u hu, hs2]
    have := hpb u (by rw [short_len, hkl]; exact hu)
    rcases hs1 with rfl | rfl <;> omega
  · rw [hp.put_no e _ (Nat.le_refl _)]; omega
theorem circuit_160 {m : List (List Int)} (h0 : (circuitV m).2 = 0) : ∀ j, -160 ≤ gt (circuitV m).1 j ∧ gt (circuitV m).1 j ≤ 160 := by
  intro j
  unfold circuitV at h0 ⊢
  split at h0
  · rename_i hv
    rw [if_pos hv]
    split at h0
    · cases h0
    · rename_i c t e
      obtain ⟨S, hS, _, hB, rfl⟩ := (circsAll_mem hv).1 (show c ∈ circsAll m by rw [e]; simp)
      by_cases hj : j < colsM m
      · exact circ_160 hv hS hB j hj
      · have : gt (circH m S) j = 0 := by unfold gt; simp [show (circH m S).length ≤ j by rw [circH_len]; omega]
        show -160 ≤ gt (circH m S) j ∧ gt (circH m S) j ≤ 160
        omega
  · cases h0
end Go.Proofs.YtgbnfhfkehpfaaaGreat
/- Twins of layer 4: a contract. -/
namespace Go.Proofs.YtgbnfhfkehpfaaaGreat
open Go.RowKit

theorem belt {w V V' : World} (hb : Below w.heap.size w V) (h : Below V.heap.size V V') : Below w.heap.size w V' := hb.trans (h.mono hb.size)
def twA (h : List Int) (k : Int) (i : Nat) : List Int := (List.range h.length).map fun j => if j < i then (if nzTo h j < k then gt h j else 0) else 0
def twB (h : List Int) (k : Int) (i : Nat) : List Int := (List.range h.length).map fun j => if j < i then (if nzTo h j < k then 0 else -gt h j) else 0
theorem twA_len (h : List Int) (k : Int) (i : Nat) : (twA h k i).length = h.length := by simp [twA]
theorem twB_len (h : List Int) (k : Int) (i : Nat) : (twB h k i).length = h.length := by simp [twB]
theorem gt_twA {h : List Int} {k : Int} {i j : Nat} (hj : j < h.length) : gt (twA h k i) j = if j < i then (if nzTo h j < k then gt h j else 0) else 0 := by
  unfold twA; conv => lhs; unfold gt
  rw [List.getElem?_map, List.getElem?_range hj]; rfl
theorem gt_twB {h : List Int} {k : Int} {i j : Nat} (hj : j < h.length) : gt (twB h k i) j = if j < i then (if nzTo h j < k then 0 else -gt h j) else 0 := by
  unfold twB; conv => lhs; unfold gt
  rw [List.getElem?_map, List.getElem?_range hj]; rfl
theorem tw_zero (h : List Int) (k : Int) : twA h k 0 = List.replicate h.length 0 ∧ twB h k 0 = List.replicate h.length 0 := by
  unfold twA twB
  constructor <;> (refine List.ext_getElem (by simp) fun j h1 h2 => ?_; simp)
theorem ext_gt {a b : List Int} (hl : a.length = b.length) (h : ∀ j, j < a.length → gt a j = gt b j) : a = b := by
  refine List.ext_getElem hl fun j h1 h2 => ?_
  have := h j h1
  unfold gt at this
  simpa [h1, h2] using this
theorem tw_lit {h : List Int} {k : Int} {i : Nat} (hi : i < h.length) (hk : nzTo h i < k) : (twA h k i).set i (gt h i) = twA h k (i + 1) ∧ twB h k i = twB h k (i + 1) := by
  constructor
  · refine ext_gt (by rw [List.length_set, twA_len, twA_len]) fun j hj => ?_
    rw [List.length_set, twA_len] at hj
    rw [gt_set (by rw [twA_len]; exact hi), gt_twA hj, gt_twA hj]
    by_cases e : j = i
    · subst e; rw [if_pos rfl, if_pos (by omega), if_pos hk]
    · rw [if_neg e]
      by_cases e2 : j < i
      · rw [if_pos e2, if_pos (by omega : j < i + 1)]
      · rw [if_neg e2, if_neg (by omega : ¬ j < i + 1)]
  · refine ext_gt (by rw [twB_len, twB_len]) fun j hj => ?_
    rw [twB_len] at hj
    rw [gt_twB hj, gt_twB hj]
    by_cases e : j = i
    · subst e; rw [if_neg (by omega), if_pos (by omega), if_pos hk]
    · by_cases e2 : j < i
      · rw [if_pos e2, if_pos (by omega : j < i + 1)]
      · rw [if_neg e2, if_neg (by omega : ¬ j < i + 1)]
theorem tw_not {h : List Int} {k : Int} {i : Nat} (hi : i < h.length) (hk : ¬ nzTo h i < k) : (twB h k i).set i (-gt h i) = twB h k (i + 1) ∧ twA h k i = twA h k (i + 1) := by
  constructor
  · refine ext_gt (by rw [List.length_set, twB_len, twB_len]) fun j hj => ?_
    rw [List.length_set, twB_len] at hj
    rw [gt_set (by rw [twB_len]; exact hi), gt_twB hj, gt_twB hj]
    by_cases e : j = i
    · subst e; rw [if_pos rfl, if_pos (by omega), if_neg hk]
    · rw [if_neg e]
      by_cases e2 : j < i
      · rw [if_pos e2, if_pos (by omega : j < i + 1)]
      · rw [if_neg e2, if_neg (by omega : ¬ j < i + 1)]
  · refine ext_gt (by rw [twA_len, twA_len]) fun j hj => ?_
    rw [twA_len] at hj
    rw [gt_twA hj, gt_twA hj]
    by_cases e : j = i
    · subst e; rw [if_neg (by omega), if_pos (by omega), if_neg hk]
    · by_cases e2 : j < i
      · rw [if_pos e2, if_pos (by omega : j < i + 1)]
      · rw [if_neg e2, if_neg (by omega : ¬ j < i + 1)]
def twinsV (m : List (List Int)) (k : Int) : (List Int × List Int) × Int :=
  if validM m = true then (if rangeB k 1 10 = true then (if (circuitV m).2 = 0 then (if 2 * k < nzTo (circuitV m).1 (circuitV m).1.length then (([], []), 8) else ((twA (circuitV m).1 k (circuitV m).1.length, twB (circuitV m).1 k (circuitV m).1.length), 0)) else (([], []), (circuitV m).2)) else (([], []), 7)) else (([], []), 1)
def TWPost (r : (List Int × List Int) × Int) (w : World) (e : Ending) (w' : World) : Prop :=
  Below w.heap.size w w' ∧ ∃ a ca b cb, e = .returned (.tuple #[.slice a r.1.1.length ca, .slice b r.1.2.length cb, .int .i64 r.2]) ∧ Sl w' a r.1.1 ∧ Sl w' b r.1.2
theorem TWPost.err {w w' : World} (n : Int) (hb : Below w.heap.size w w') : TWPost (([], []), n) w (.returned (.tuple #[.slice none 0 0, .slice none 0 0, .int .i64 n])) w' := ⟨hb, none, 0, none, 0, rfl, Sl.none _, Sl.none _⟩
theorem tw_take (h : List Int) {i : Nat} (hi : i ≤ h.length) : ∀ n, n ≤ i → nzTo (h.take i) n = nzTo h n
  | 0, _ => rfl
  | n + 1, hn => by
    have e : gt (h.take i) n = gt h n := by unfold gt; rw [List.getElem?_take]; simp [show n < i by omega]
    unfold nzTo
    rw [e, tw_take h hi n (by omega)]
theorem sl_take {w : World} {a : Option Addr} {xs : List Int} (h : Sl w a xs) (i : Nat) : Sl w a (xs.take i) := fun k hk => by
  have hk2 : k < xs.length := by rw [List.length_take] at hk; omega
  obtain ⟨b, o, e, hc⟩ := h k hk2
  refine ⟨b, o, e, ?_⟩
  rw [hc, List.getElem?_take, if_pos (by rw [List.length_take] at hk; omega)]
set_option maxRecDepth 1000000 in
set_option maxHeartbeats 4000000 in
theorem stwinsX_any (a : Option Addr) (m : List (List Int)) (cap : Nat) (k : Int) (w : World) (hm : MOk m) (hs : Ms w a m) :
    Calls Tryz.prog 20 #[.slice a m.length cap, .int .i64 k] w (TWPost (twinsV m k) w) := by
  have HVA : Hid (Calls Tryz.prog 32 #[.slice a m.length cap] w fun e w' => e = .returned (.bool (validM m)) ∧ Below w.heap.size w w') := mvalid_any a m cap w hm hs
  have HCI : Hid (∀ V, Below w.heap.size w V → Calls Tryz.prog 22 #[.slice a m.length cap] V (CCPost (circuitV m) V)) := fun V hb => circuit_cap a m cap V hm (hs.below hb)
  clear hm hs
  have hcl := circuitV_len (m := m)
  have hbd0 := circuit_160 (m := m)
  obtain ⟨⟨h, e0⟩, hr⟩ : ∃ r, circuitV m = r := ⟨_, rfl⟩
  obtain ⟨v, hv⟩ : ∃ v, validM m = v := ⟨_, rfl⟩
  have HTV : Hid (twinsV m k = if v = true then (if rangeB k 1 10 = true then (if e0 = 0 then (if 2 * k < nzTo h h.length then (([], []), 8) else ((twA h k h.length, twB h k h.length), 0)) else (([], []), e0)) else (([], []), 7)) else (([], []), 1)) := by show _ = _; unfold twinsV; rw [hr, hv]
  rw [hr] at HCI hcl hbd0
  rw [hv] at HVA
  dsimp only at hcl hbd0
  clear hr hv
  obtain ⟨n, hn⟩ : ∃ n, h.length = n := ⟨_, rfl⟩
  have HN := Lib.hid hn
  have HCI : Hid (∀ V, Below w.heap.size w V → Calls Tryz.prog 22 #[.slice a m.length cap] V fun e w' => ∃ ah, e = .returned (.tuple #[.slice ah n n, .int .i64 e0]) ∧ Below V.heap.size V w' ∧ Sl w' ah h) := fun V hb => by
    refine (HCI.out V hb).mono ?_
    rintro e w' ⟨h1, ah, h2, h3⟩
    rw [show (h, e0).1.length = n from hn] at h2
    exact ⟨ah, h2, h1, h3⟩
  rw [hn] at hcl HTV
  obtain ⟨t, ht⟩ : ∃ t, nzTo h n = t := ⟨_, rfl⟩
  have HT := Lib.hid ht
  rw [ht] at HTV
  have ht0 : 0 ≤ t ∧ t ≤ n := by rw [← ht]; exact nzTo_in h n
  have HLT : Hid (∀ V ah c j, j ≤ n → Sl V ah h → Calls Tryz.prog 48 #[.slice ah (j : Nat) c] V fun e w' => e = .returned (.int .i64 (nzTo h j)) ∧ V = w') := fun V ah c j hj hs => by
    have hl : (h.take j).length = j := by rw [List.length_take, hn]; omega
    have z := lit_any ah (h.take j) c V (by omega) (sl_take hs j)
    rw [hl, tw_take h (by omega) j (Nat.le_refl _)] at z
    exact z
  clear hn ht
  cases v
  case false =>
    have HE : Hid (twinsV m k = (([], []), 1)) := HTV.out
    rw [HE.out]
    clear HTV
    go_enter Tryz.func20, Tryz.ntmps20
    go_wp2_with (go_at_call 32; refine HVA.out.mono ?_; rintro e w1 ⟨rfl, hb⟩; have HB1 := Lib.hid hb; clear hb)
    go_ret3
    exact TWPost.err 1 HB1.out
  case true =>
  rw [if_pos rfl] at HTV
  by_cases h1 : k < 1
  · have hr0 : rangeB k 1 10 = false := by simp [rangeB]; omega
    have HE : Hid (twinsV m k = (([], []), 7)) := by show _ = _; rw [HTV.out, hr0]; rfl
    rw [HE.out]
    clear HTV hr0
    go_enter Tryz.func20, Tryz.ntmps20
    go_wp2_with (go_at_call 32; refine HVA.out.mono ?_; rintro e w1 ⟨rfl, hb⟩; have HB1 := Lib.hid hb; clear hb)
    go_ret3
    exact TWPost.err 7 HB1.out
  by_cases h2 : 10 < k
  · have hr0 : rangeB k 1 10 = false := by simp [rangeB]; omega
    have HE : Hid (twinsV m k = (([], []), 7)) := by show _ = _; rw [HTV.out, hr0]; rfl
    rw [HE.out]
    clear HTV hr0
    go_enter Tryz.func20, Tryz.ntmps20
    go_wp2_with (go_at_call 32; refine HVA.out.mono ?_; rintro e w1 ⟨rfl, hb⟩; have HB1 := Lib.hid hb; clear hb)
    go_ret3
    exact TWPost.err 7 HB1.out
  have hr0 : rangeB k 1 10 = true := by simp [rangeB]; omega
  rw [if_pos hr0] at HTV
  clear hr0
  by_cases he : e0 = 0
  case neg =>
    have HE : Hid (twinsV m k = (([], []), e0)) := by show _ = _; rw [HTV.out, if_neg he]
    rw [HE.out]
    have y2 : (e0 != 0) = true := by simpa using he
    clear HTV he
    go_enter Tryz.func20, Tryz.ntmps20
    go_wp2_with (first
      | (go_at_call 32; refine HVA.out.mono ?_; rintro e w1 ⟨rfl, hb⟩; have HB1 := Lib.hid hb; clear hb)
      | (go_at_call 22; refine (HCI.out _ HB1.out).mono ?_; rintro e w2 ⟨ah, rfl, hb, hsl⟩; have HB2 := Lib.hid (belt HB1.out hb); clear hb hsl))
    go_ret3
    exact TWPost.err e0 HB2.out
  subst he
  have HBD := Lib.hid (hbd0 rfl)
  rw [if_pos rfl] at HTV
  clear hbd0
  have w2k : IntKind.i64.wrap (2 * k) = 2 * k := IntWalk.i64_in _ (by omega)
  by_cases h3 : 2 * k < t
  · have HE : Hid (twinsV m k = (([], []), 8)) := by show _ = _; rw [HTV.out, if_pos h3]
    rw [HE.out]
    clear HTV
    go_enter Tryz.func20, Tryz.ntmps20
    go_wp2_with (first
      | (go_at_call 32; refine HVA.out.mono ?_; rintro e w1 ⟨rfl, hb⟩; have HB1 := Lib.hid hb; clear hb)
      | (go_at_call 22; refine (HCI.out _ HB1.out).mono ?_; rintro e w2 ⟨ah, rfl, hb, hsl⟩; have HB2 := Lib.hid (belt HB1.out hb); have HS := Lib.hid hsl; clear hb hsl)
      | (go_at_call 48; refine (HLT.out _ _ _ n (Nat.le_refl _) HS.out).mono ?_; rintro e w3 ⟨rfl, rfl⟩; rw [HT.out]))
    go_ret3
    exact TWPost.err 8 HB2.out
  have HE : Hid (twinsV m k = ((twA h k n, twB h k n), 0)) := by show _ = _; rw [HTV.out, if_neg h3]
  rw [HE.out]
  clear HTV HE
  obtain ⟨i0, hi, hz0, hz1, hz2⟩ := info_parts Tryz.infoInt
  obtain ⟨Z, hZ⟩ : ∃ Z, madeCells (Value.int .i64 0).cells (n * 1) = Z := ⟨_, rfl⟩
  have hmk : ∀ W : World, (Instr.makeSlice 22 (.int .i64 (n : Int)) (.int .i64 (n : Int))).run Tryz.prog W = .ok (.slice (some ⟨W.heap.size, 0, none⟩) n n) (W.alloc (.cells Z 3)) := fun W => by
    have z := run_make (P := Tryz.prog) W 22 3 i0 (.int .i64 0) Tryz.underlying22 hi hz0 .i64 .i64 (n : Int) (n : Int) (by omega) (Int.le_refl _) (by rw [hz2]; omega) (by omega)
    rw [hz1, Int.toNat_natCast, hZ] at z
    exact z
  have HZ := Lib.hid hZ
  clear hi hz0 hz1 hz2 hZ
  go_enter Tryz.func20, Tryz.ntmps20
  go_wp2_with (first
    | (go_at_call 32; refine HVA.out.mono ?_; rintro e w1 ⟨rfl, hb⟩; have HB1 := Lib.hid hb; clear hb)
    | (go_at_call 22; refine (HCI.out _ HB1.out).mono ?_; rintro e w2 ⟨ah, rfl, hb, hsl⟩; have HB2 := Lib.hid (belt HB1.out hb); have HS := Lib.hid hsl; clear hb hsl)
    | (go_at_call 48; refine (HLT.out _ _ _ n (Nat.le_refl _) HS.out).mono ?_; rintro e w3 ⟨rfl, rfl⟩; rw [HT.out]))
  -- REGION
  obtain ⟨V1, hV1⟩ : ∃ V1, ((w2.alloc (Obj.cells Z 3)).alloc (Obj.cells Z 3)).drew = V1 := ⟨_, rfl⟩
  have hzs : Z.size = n * 1 := by rw [← HZ.out]; exact size_madeCells _ _
  have hzl : Z.toList = (List.replicate n (0 : Int)).map (Value.int .i64) := by rw [← HZ.out]; exact zeros_are n
  have hsz1 : (w2.alloc (Obj.cells Z 3)).heap.size = w2.heap.size + 1 := World.size_alloc _ _
  have HO0 : Hid (OwnI V1 w.heap.size (.slice (some ⟨w2.heap.size, 0, none⟩) n n) (List.replicate n 0)) := by
    have z : OwnI (w2.alloc (Obj.cells Z 3)) w2.heap.size (.slice (some ⟨w2.heap.size, 0, none⟩) n n) (List.replicate n 0) := by
      have y := World.ownsRow_lit (base := w2.heap.size) (e := 3) (size := 1) w2 Z n (Nat.le_refl _) (by unfold maxLen; omega) hzs
      rw [hzl] at y
      show World.ownsRow _ _ _ _ _ _ _
      rw [List.length_replicate]
      exact y
    have z2 : OwnI V1 w2.heap.size (.slice (some ⟨w2.heap.size, 0, none⟩) n n) (List.replicate n 0) := by
      rw [← hV1]
      exact ((z.below ((Below.refl _ _).alloc (Nat.le_refl _) _))).drew
    exact OwnI.mono z2 HB2.out.size
  have HO1 : Hid (OwnI V1 w.heap.size (.slice (some ⟨w2.heap.size + 1, 0, none⟩) n n) (List.replicate n 0)) := by
    have z : OwnI ((w2.alloc (Obj.cells Z 3)).alloc (Obj.cells Z 3)) w2.heap.size (.slice (some ⟨w2.heap.size + 1, 0, none⟩) n n) (List.replicate n 0) := by
      have y := World.ownsRow_lit (base := w2.heap.size) (e := 3) (size := 1) (w2.alloc (Obj.cells Z 3)) Z n (by omega) (by unfold maxLen; omega) hzs
      rw [hzl, hsz1] at y
      show World.ownsRow _ _ _ _ _ _ _
      rw [List.length_replicate]
      exact y
    have z2 : OwnI V1 w2.heap.size (.slice (some ⟨w2.heap.size + 1, 0, none⟩) n n) (List.replicate n 0) := by
      rw [← hV1]
      exact z.drew
    exact OwnI.mono z2 HB2.out.size
  have HBV : Hid (Below w2.heap.size w2 V1) := by
    rw [← hV1]
    exact (((Below.refl _ _).alloc (Nat.le_refl _) _).alloc (by omega) _).drew
  obtain ⟨G1, hG1⟩ : ∃ g, w2.heap.size + 1 = g := ⟨_, rfl⟩
  obtain ⟨G0, hG0⟩ : ∃ g, w2.heap.size = g := ⟨_, rfl⟩
  have HG0 := Lib.hid hG0
  have HG1 := Lib.hid hG1
  have HNE : Hid (G0 ≠ G1 ∧ w2.heap.size ≤ G0 ∧ w2.heap.size ≤ G1) := by show _ ∧ _; omega
  have HK1 : Hid (1 ≤ k ∧ k ≤ 10) := by show _ ∧ _; omega
  rw [hG0] at HO0
  rw [hG1] at HO1
  clear hzs hzl hsz1 hG0 hG1 ht0
  go_region_law (fail)
  · clear hmk
    simp only [Act.put, List.getElem_toArray, List.getElem_cons_zero, List.getElem_cons_succ, List.setIfInBounds_toArray, List.set_cons_zero, List.set_cons_succ]
    rw [HG1.out, HG0.out]
    clear hV1
    go_wp2
    go_loopw [40] (fun i wr => ∃ j : Nat, j ≤ n ∧ i = .int .i64 j ∧ OwnI wr w.heap.size (.slice (some ⟨G0, 0, none⟩) n n) (twA h k j) ∧ OwnI wr w.heap.size (.slice (some ⟨G1, 0, none⟩) n n) (twB h k j) ∧ Below w2.heap.size w2 wr) (fun i _ => n - (intOf i).toNat)
    case atStart => exact ⟨0, Nat.zero_le _, rfl, by rw [(tw_zero h k).1, HN.out]; exact HO0.out, by rw [(tw_zero h k).2, HN.out]; exact HO1.out, HBV.out⟩
    case round =>
      obtain ⟨j, hj, rfl, hoa, hob, hb⟩ := hrel
      have HA := Lib.hid hoa
      have HB := Lib.hid hob
      have HBB := Lib.hid hb
      have HSW := Lib.hid (HS.out.below hb)
      clear hoa hob hb
      by_cases hlt : j < n
      · have hjh : j < h.length := by rw [HN.out]; exact hlt
        obtain ⟨b, o, x, hae, hc, hx⟩ := HSW.out.at hjh
        have hgx := gt_some' hx.out
        have hxb := HBD.out j
        rw [hgx] at hxb
        have HGX := Lib.hid hgx
        have HJH := Lib.hid hjh
        obtain ⟨q, hq⟩ : ∃ q, nzTo h j = q := ⟨_, rfl⟩
        have HQ := Lib.hid hq
        have HLJ : Hid (∀ c, Calls Tryz.prog 48 #[.slice ah (j : Nat) c] wr fun e w' => e = .returned (.int .i64 q) ∧ wr = w') := fun c => by rw [← hq]; exact HLT.out _ _ _ j hj HSW.out
        obtain rfl := hae
        have wneg : IntKind.i64.wrap (-x) = -x := IntWalk.i64_in _ (by omega)
        obtain ⟨ca, fa⟩ := HA.out.cell (j := j) (by rw [twA_len]; exact hjh)
        obtain ⟨cb, fb⟩ := HB.out.cell (j := j) (by rw [twB_len]; exact hjh)
        have hjn : (j : Int) ≤ n := by omega
        clear hgx hjh hq hxb
        by_cases hqk : q < k
        · have HT2 := Lib.hid (tw_lit HJH.out (by rw [HQ.out]; exact hqk))
          rw [HGX.out] at HT2
          clear cb fb wneg
          go_wp2_with (go_at_call 48; refine (HLJ.out _).mono ?_; rintro e w4 ⟨rfl, rfl⟩)
          go_roundw
          case rel => exact ⟨j + 1, by omega, by go_num, by rw [← HT2.out.1]; exact HA.out.stored j x, by rw [← HT2.out.2]; exact OwnI.sameBlock HB.out (Below.heap_setCell _ _ _ _ (Ne.symm HNE.out.1)), HBB.out.setCell (p := ⟨G0, j, none⟩) HNE.out.2.1 _⟩
          case measure => simp [intOf]; omega
        · have HT2 := Lib.hid (tw_not HJH.out (by rw [HQ.out]; exact hqk))
          rw [HGX.out] at HT2
          clear ca fa
          go_wp2_with (go_at_call 48; refine (HLJ.out _).mono ?_; rintro e w4 ⟨rfl, rfl⟩)
          go_roundw
          case rel => exact ⟨j + 1, by omega, by go_num, by rw [← HT2.out.2]; exact OwnI.sameBlock HA.out (Below.heap_setCell _ _ _ _ HNE.out.1), by rw [← HT2.out.1]; exact HB.out.stored j (-x), HBB.out.setCell (p := ⟨G1, j, none⟩) HNE.out.2.2 _⟩
          case measure => simp [intOf]; omega
      · obtain rfl : j = n := by omega
        go_wp2
        go_ret3
        exact ⟨belt HB2.out HBB.out, some ⟨G0, 0, none⟩, j, some ⟨G1, 0, none⟩, j, by dsimp only; rw [twA_len, twB_len, HN.out]; rfl, HA.out.sl, HB.out.sl⟩
  · clear hmk
    simp only [Act.put, List.getElem_toArray, List.getElem_cons_zero, List.getElem_cons_succ, List.setIfInBounds_toArray, List.set_cons_zero, List.set_cons_succ]
    rw [HG1.out, HG0.out]
    clear hV1
    go_wp2
    go_loopw [40] (fun i wr => ∃ j : Nat, j ≤ n ∧ i = .int .i64 j ∧ OwnI wr w.heap.size (.slice (some ⟨G1, 0, none⟩) n n) (twA h k j) ∧ OwnI wr w.heap.size (.slice (some ⟨G0, 0, none⟩) n n) (twB h k j) ∧ Below w2.heap.size w2 wr) (fun i _ => n - (intOf i).toNat)
    case atStart => exact ⟨0, Nat.zero_le _, rfl, by rw [(tw_zero h k).1, HN.out]; exact HO1.out, by rw [(tw_zero h k).2, HN.out]; exact HO0.out, HBV.out⟩
    case round =>
      obtain ⟨j, hj, rfl, hoa, hob, hb⟩ := hrel
      have HA := Lib.hid hoa
      have HB := Lib.hid hob
      have HBB := Lib.hid hb
      have HSW := Lib.hid (HS.out.below hb)
      clear hoa hob hb
      by_cases hlt : j < n
      · have hjh : j < h.length := by rw [HN.out]; exact hlt
        obtain ⟨b, o, x, hae, hc, hx⟩ := HSW.out.at hjh
        have hgx := gt_some' hx.out
        have hxb := HBD.out j
        rw [hgx] at hxb
        have HGX := Lib.hid hgx
        have HJH := Lib.hid hjh
        obtain ⟨q, hq⟩ : ∃ q, nzTo h j = q := ⟨_, rfl⟩
        have HQ := Lib.hid hq
        have HLJ : Hid (∀ c, Calls Tryz.prog 48 #[.slice ah (j : Nat) c] wr fun e w' => e = .returned (.int .i64 q) ∧ wr = w') := fun c => by rw [← hq]; exact HLT.out _ _ _ j hj HSW.out
        obtain rfl := hae
        have wneg : IntKind.i64.wrap (-x) = -x := IntWalk.i64_in _ (by omega)
        obtain ⟨ca, fa⟩ := HA.out.cell (j := j) (by rw [twA_len]; exact hjh)
        obtain ⟨cb, fb⟩ := HB.out.cell (j := j) (by rw [twB_len]; exact hjh)
        have hjn : (j : Int) ≤ n := by omega
        clear hgx hjh hq hxb
        by_cases hqk : q < k
        · have HT2 := Lib.hid (tw_lit HJH.out (by rw [HQ.out]; exact hqk))
          rw [HGX.out] at HT2
          clear cb fb wneg
          go_wp2_with (go_at_call 48; refine (HLJ.out _).mono ?_; rintro e w4 ⟨rfl, rfl⟩)
          go_roundw
          case rel => exact ⟨j + 1, by omega, by go_num, by rw [← HT2.out.1]; exact HA.out.stored j x, by rw [← HT2.out.2]; exact OwnI.sameBlock HB.out (Below.heap_setCell _ _ _ _ HNE.out.1), HBB.out.setCell (p := ⟨G1, j, none⟩) HNE.out.2.2 _⟩
          case measure => simp [intOf]; omega
        · have HT2 := Lib.hid (tw_not HJH.out (by rw [HQ.out]; exact hqk))
          rw [HGX.out] at HT2
          clear ca fa
          go_wp2_with (go_at_call 48; refine (HLJ.out _).mono ?_; rintro e w4 ⟨rfl, rfl⟩)
          go_roundw
          case rel => exact ⟨j + 1, by omega, by go_num, by rw [← HT2.out.2]; exact OwnI.sameBlock HA.out (Below.heap_setCell _ _ _ _ (Ne.symm HNE.out.1)), by rw [← HT2.out.1]; exact HB.out.stored j (-x), HBB.out.setCell (p := ⟨G0, j, none⟩) HNE.out.2.1 _⟩
          case measure => simp [intOf]; omega
      · obtain rfl : j = n := by omega
        go_wp2
        go_ret3
        exact ⟨belt HB2.out HBB.out, some ⟨G1, 0, none⟩, j, some ⟨G0, 0, none⟩, j, by dsimp only; rw [twA_len, twB_len, HN.out]; rfl, HA.out.sl, HB.out.sl⟩
end Go.Proofs.YtgbnfhfkehpfaaaGreat
/- Read and Back of the answers of layer 2: contracts (as in the text of layer 2's statements, on their own). -/
namespace Go.Proofs.YtgbnfhfkehpfaaaGreat
open Go.RowKit

end Go.Proofs.YtgbnfhfkehpfaaaGreat
/- IsTwins of layer 4, both sides: contracts. Written by mk_sptwinb.py. -/
namespace Go.Proofs.YtgbnfhfkehpfaaaGreat
open Go.RowKit

def twinB (m : List (List Int)) (k : Int) (x y : List Int) : Bool := rangeB k 1 10 && decide (nzTo x x.length ≤ k) && decide (nzTo y y.length ≤ k) && decide ((readV m x).2 = 0) && decide ((readV m y).2 = 0) && decide ((readV m x).1 = (readV m y).1) && !decide (x = y)
theorem readV_short (m : List (List Int)) (x : List Int) : (readV m x).1.length ≤ 6 := by
  unfold readV
  split
  · rename_i hv
    split
    · show (readL m x).length ≤ 6
      unfold readL
      rw [List.length_map]
      exact (validM_of hv).2.1
    · exact Nat.zero_le _
  · exact Nat.zero_le _
theorem shown_read (m : List (List Int)) (x : List Int) : shownM m x = decide ((readV m x).2 = 0) := by
  unfold shownM readV
  cases hv : validM m
  · simp
  · by_cases h : fitsV x (colsM m) 1000000 = 0 <;> simp [h]
theorem belw {w V V' : World} (hb : Below w.heap.size w V) (h : Below V.heap.size V V') : Below w.heap.size w V' := hb.trans (h.mono hb.size)
set_option maxRecDepth 100000 in
set_option maxHeartbeats 4000000 in
theorem stwins_any (a : Option Addr) (m : List (List Int)) (cap : Nat) (b : Option Addr) (xs : List Int) (cb : Nat) (c : Option Addr) (ys : List Int) (cc : Nat) (k : Int) (w : World) (hm : MOk m) (hl1 : xs.length ≤ 1000) (hl2 : ys.length ≤ 1000) (hs : Ms w a m) (hx : Sl w b xs) (hy : Sl w c ys) :
    Calls Tryz.prog 23 #[.slice a m.length cap, .int .i64 k, .slice b xs.length cb, .slice c ys.length cc] w fun e w' => e = .returned (.bool (twinB m k xs ys)) ∧ Below w.heap.size w w' := by
  have HTB : Hid (twinB m k xs ys = (rangeB k 1 10 && decide (nzTo xs xs.length ≤ k) && decide (nzTo ys ys.length ≤ k) && decide ((readV m xs).2 = 0) && decide ((readV m ys).2 = 0) && decide ((readV m xs).1 = (readV m ys).1) && !decide (xs = ys))) := rfl
  have HXL := Lib.hid (readV_short m xs)
  have HYL := Lib.hid (readV_short m ys)
  obtain ⟨⟨X, e0⟩, hX⟩ : ∃ r, readV m xs = r := ⟨_, rfl⟩
  obtain ⟨⟨Y, f0⟩, hY⟩ : ∃ r, readV m ys = r := ⟨_, rfl⟩
  rw [hX, hY] at HTB
  rw [hX] at HXL
  rw [hY] at HYL
  dsimp only at HTB HXL HYL
  have HSX : Hid (shownM m xs = decide (e0 = 0)) := by show _ = _; rw [shown_read, hX]
  have HSY : Hid (shownM m ys = decide (f0 = 0)) := by show _ = _; rw [shown_read, hY]
  have HXE := Lib.hid hX; have HYE := Lib.hid hY; clear hX hY
  obtain ⟨n1, hn1⟩ : ∃ n, nzTo xs xs.length = n := ⟨_, rfl⟩
  obtain ⟨n2, hn2⟩ : ∃ n, nzTo ys ys.length = n := ⟨_, rfl⟩
  obtain ⟨q1, hq1⟩ : ∃ q, decide (X = Y) = q := ⟨_, rfl⟩
  obtain ⟨q2, hq2⟩ : ∃ q, decide (xs = ys) = q := ⟨_, rfl⟩
  obtain ⟨q0, hq0⟩ : ∃ q, rangeB k 1 10 = q := ⟨_, rfl⟩
  rw [hn1, hn2, hq1, hq2, hq0] at HTB
  have HN1 := Lib.hid hn1; have HN2 := Lib.hid hn2; have HQ1 := Lib.hid hq1; have HQ2 := Lib.hid hq2; have HQ0 := Lib.hid hq0
  clear hn1 hn2 hq1 hq2 hq0
  have HM := Lib.hid hm; have HS := Lib.hid hs; have HX := Lib.hid hx; have HY := Lib.hid hy; have L1 := Lib.hid hl1; have L2 := Lib.hid hl2
  clear hm hs hx hy hl1 hl2

  by_cases h1 : k < 1
  · have hr0 : q0 = false := by rw [← HQ0.out]; simp [rangeB]; omega
    subst hr0
    have HR : Hid (twinB m k xs ys = false) := by show _ = _; rw [HTB.out]; simp
    rw [HR.out]
    clear HTB
    go_enter Tryz.func23, Tryz.ntmps23
    go_wp2_with (first
        | (go_at_call 48; refine (lit_any _ _ _ _ (by first | exact L1.out | exact L2.out) (by first | exact HX.out | exact HY.out)).mono ?_; rintro e wn ⟨rfl, rfl⟩; first | rw [HN1.out] | rw [HN2.out])
        | (go_at_call 11; refine (mread_any _ _ _ _ _ _ _ HM.out (by first | exact Nat.le_trans L1.out (by decide) | exact Nat.le_trans L2.out (by decide)) (by first | exact HS.out | exact HS.out.below HB1.out) (by first | exact HX.out | exact HY.out.below HB1.out)).mono ?_; rintro e wn hp; first
        | (rw [HXE.out] at hp; obtain ⟨hb, ax, cx, rfl, hsx⟩ := hp; dsimp only at hsx ⊢; have HB1 := Lib.hid hb; have HRX := Lib.hid hsx; clear hb hsx)
        | (rw [HYE.out] at hp; obtain ⟨hb, ay, cy, rfl, hsy⟩ := hp; dsimp only at hsy ⊢; have HB2 := Lib.hid (belw HB1.out hb); have HRY := Lib.hid hsy; have HRX2 := Lib.hid (HRX.out.below hb); clear hb hsy))
        | (go_at_call 52; refine (slEq_any _ _ _ _ _ _ _ (by first | exact Nat.le_trans L1.out (by decide) | exact Nat.le_trans HXL.out (by decide)) (by first | exact Nat.le_trans L2.out (by decide) | exact Nat.le_trans HYL.out (by decide)) (by first | exact HRX2.out | exact (HX.out.below HB2.out).below (below_drewN (Below.refl _ _) _)) (by first | exact HRY.out | exact (HY.out.below HB2.out).below (below_drewN (Below.refl _ _) _))).mono ?_; rintro e wn ⟨rfl, nd, rfl⟩; first | rw [HQ1.out] | rw [HQ2.out]))
    all_goals go_ret
    all_goals (first | exact ⟨rfl, Below.refl _ _⟩ | exact ⟨rfl, HB2.out⟩ | exact ⟨rfl, HD0.out⟩ | exact ⟨rfl, below_drewN HB2.out _⟩ | exact ⟨rfl, below_drewN (below_drewN HB2.out _) _⟩)
  by_cases h2 : 10 < k
  · have hr0 : q0 = false := by rw [← HQ0.out]; simp [rangeB]; omega
    subst hr0
    have HR : Hid (twinB m k xs ys = false) := by show _ = _; rw [HTB.out]; simp
    rw [HR.out]
    clear HTB
    go_enter Tryz.func23, Tryz.ntmps23
    go_wp2_with (first
        | (go_at_call 48; refine (lit_any _ _ _ _ (by first | exact L1.out | exact L2.out) (by first | exact HX.out | exact HY.out)).mono ?_; rintro e wn ⟨rfl, rfl⟩; first | rw [HN1.out] | rw [HN2.out])
        | (go_at_call 11; refine (mread_any _ _ _ _ _ _ _ HM.out (by first | exact Nat.le_trans L1.out (by decide) | exact Nat.le_trans L2.out (by decide)) (by first | exact HS.out | exact HS.out.below HB1.out) (by first | exact HX.out | exact HY.out.below HB1.out)).mono ?_; rintro e wn hp; first
        | (rw [HXE.out] at hp; obtain ⟨hb, ax, cx, rfl, hsx⟩ := hp; dsimp only at hsx ⊢; have HB1 := Lib.hid hb; have HRX := Lib.hid hsx; clear hb hsx)
        | (rw [HYE.out] at hp; obtain ⟨hb, ay, cy, rfl, hsy⟩ := hp; dsimp only at hsy ⊢; have HB2 := Lib.hid (belw HB1.out hb); have HRY := Lib.hid hsy; have HRX2 := Lib.hid (HRX.out.below hb); clear hb hsy))
        | (go_at_call 52; refine (slEq_any _ _ _ _ _ _ _ (by first | exact Nat.le_trans L1.out (by decide) | exact Nat.le_trans HXL.out (by decide)) (by first | exact Nat.le_trans L2.out (by decide) | exact Nat.le_trans HYL.out (by decide)) (by first | exact HRX2.out | exact (HX.out.below HB2.out).below (below_drewN (Below.refl _ _) _)) (by first | exact HRY.out | exact (HY.out.below HB2.out).below (below_drewN (Below.refl _ _) _))).mono ?_; rintro e wn ⟨rfl, nd, rfl⟩; first | rw [HQ1.out] | rw [HQ2.out]))
    all_goals go_ret
    all_goals (first | exact ⟨rfl, Below.refl _ _⟩ | exact ⟨rfl, HB2.out⟩ | exact ⟨rfl, HD0.out⟩ | exact ⟨rfl, below_drewN HB2.out _⟩ | exact ⟨rfl, below_drewN (below_drewN HB2.out _) _⟩)
  have hr0 : q0 = true := by rw [← HQ0.out]; simp [rangeB]; omega
  subst hr0
  by_cases h3 : k < n1
  · have hd : decide (n1 ≤ k) = false := by simp; omega
    have HR : Hid (twinB m k xs ys = false) := by show _ = _; rw [HTB.out]; rw [hd]; simp
    clear hd
    rw [HR.out]
    clear HTB
    go_enter Tryz.func23, Tryz.ntmps23
    go_wp2_with (first
        | (go_at_call 48; refine (lit_any _ _ _ _ (by first | exact L1.out | exact L2.out) (by first | exact HX.out | exact HY.out)).mono ?_; rintro e wn ⟨rfl, rfl⟩; first | rw [HN1.out] | rw [HN2.out])
        | (go_at_call 11; refine (mread_any _ _ _ _ _ _ _ HM.out (by first | exact Nat.le_trans L1.out (by decide) | exact Nat.le_trans L2.out (by decide)) (by first | exact HS.out | exact HS.out.below HB1.out) (by first | exact HX.out | exact HY.out.below HB1.out)).mono ?_; rintro e wn hp; first
        | (rw [HXE.out] at hp; obtain ⟨hb, ax, cx, rfl, hsx⟩ := hp; dsimp only at hsx ⊢; have HB1 := Lib.hid hb; have HRX := Lib.hid hsx; clear hb hsx)
        | (rw [HYE.out] at hp; obtain ⟨hb, ay, cy, rfl, hsy⟩ := hp; dsimp only at hsy ⊢; have HB2 := Lib.hid (belw HB1.out hb); have HRY := Lib.hid hsy; have HRX2 := Lib.hid (HRX.out.below hb); clear hb hsy))
        | (go_at_call 52; refine (slEq_any _ _ _ _ _ _ _ (by first | exact Nat.le_trans L1.out (by decide) | exact Nat.le_trans HXL.out (by decide)) (by first | exact Nat.le_trans L2.out (by decide) | exact Nat.le_trans HYL.out (by decide)) (by first | exact HRX2.out | exact (HX.out.below HB2.out).below (below_drewN (Below.refl _ _) _)) (by first | exact HRY.out | exact (HY.out.below HB2.out).below (below_drewN (Below.refl _ _) _))).mono ?_; rintro e wn ⟨rfl, nd, rfl⟩; first | rw [HQ1.out] | rw [HQ2.out]))
    all_goals go_ret
    all_goals (first | exact ⟨rfl, Below.refl _ _⟩ | exact ⟨rfl, HB2.out⟩ | exact ⟨rfl, HD0.out⟩ | exact ⟨rfl, below_drewN HB2.out _⟩ | exact ⟨rfl, below_drewN (below_drewN HB2.out _) _⟩)
  by_cases h4 : k < n2
  · have hd : decide (n2 ≤ k) = false := by simp; omega
    have HR : Hid (twinB m k xs ys = false) := by show _ = _; rw [HTB.out]; rw [hd]; simp
    clear hd
    rw [HR.out]
    clear HTB
    go_enter Tryz.func23, Tryz.ntmps23
    go_wp2_with (first
        | (go_at_call 48; refine (lit_any _ _ _ _ (by first | exact L1.out | exact L2.out) (by first | exact HX.out | exact HY.out)).mono ?_; rintro e wn ⟨rfl, rfl⟩; first | rw [HN1.out] | rw [HN2.out])
        | (go_at_call 11; refine (mread_any _ _ _ _ _ _ _ HM.out (by first | exact Nat.le_trans L1.out (by decide) | exact Nat.le_trans L2.out (by decide)) (by first | exact HS.out | exact HS.out.below HB1.out) (by first | exact HX.out | exact HY.out.below HB1.out)).mono ?_; rintro e wn hp; first
        | (rw [HXE.out] at hp; obtain ⟨hb, ax, cx, rfl, hsx⟩ := hp; dsimp only at hsx ⊢; have HB1 := Lib.hid hb; have HRX := Lib.hid hsx; clear hb hsx)
        | (rw [HYE.out] at hp; obtain ⟨hb, ay, cy, rfl, hsy⟩ := hp; dsimp only at hsy ⊢; have HB2 := Lib.hid (belw HB1.out hb); have HRY := Lib.hid hsy; have HRX2 := Lib.hid (HRX.out.below hb); clear hb hsy))
        | (go_at_call 52; refine (slEq_any _ _ _ _ _ _ _ (by first | exact Nat.le_trans L1.out (by decide) | exact Nat.le_trans HXL.out (by decide)) (by first | exact Nat.le_trans L2.out (by decide) | exact Nat.le_trans HYL.out (by decide)) (by first | exact HRX2.out | exact (HX.out.below HB2.out).below (below_drewN (Below.refl _ _) _)) (by first | exact HRY.out | exact (HY.out.below HB2.out).below (below_drewN (Below.refl _ _) _))).mono ?_; rintro e wn ⟨rfl, nd, rfl⟩; first | rw [HQ1.out] | rw [HQ2.out]))
    all_goals go_ret
    all_goals (first | exact ⟨rfl, Below.refl _ _⟩ | exact ⟨rfl, HB2.out⟩ | exact ⟨rfl, HD0.out⟩ | exact ⟨rfl, below_drewN HB2.out _⟩ | exact ⟨rfl, below_drewN (below_drewN HB2.out _) _⟩)
  have hd1 : decide (n1 ≤ k) = true := by simp; omega
  have hd2 : decide (n2 ≤ k) = true := by simp; omega
  rw [hd1, hd2] at HTB
  clear hd1 hd2
  by_cases he : e0 = 0
  case neg =>
    have ye : (e0 == 0) = false := by simpa using he
    have HR : Hid (twinB m k xs ys = false) := by show _ = _; rw [HTB.out]; simp [he]
    clear he
    rw [HR.out]
    clear HTB
    go_enter Tryz.func23, Tryz.ntmps23
    go_wp2_with (first
        | (go_at_call 48; refine (lit_any _ _ _ _ (by first | exact L1.out | exact L2.out) (by first | exact HX.out | exact HY.out)).mono ?_; rintro e wn ⟨rfl, rfl⟩; first | rw [HN1.out] | rw [HN2.out])
        | (go_at_call 11; refine (mread_any _ _ _ _ _ _ _ HM.out (by first | exact Nat.le_trans L1.out (by decide) | exact Nat.le_trans L2.out (by decide)) (by first | exact HS.out | exact HS.out.below HB1.out) (by first | exact HX.out | exact HY.out.below HB1.out)).mono ?_; rintro e wn hp; first
        | (rw [HXE.out] at hp; obtain ⟨hb, ax, cx, rfl, hsx⟩ := hp; dsimp only at hsx ⊢; have HB1 := Lib.hid hb; have HRX := Lib.hid hsx; clear hb hsx)
        | (rw [HYE.out] at hp; obtain ⟨hb, ay, cy, rfl, hsy⟩ := hp; dsimp only at hsy ⊢; have HB2 := Lib.hid (belw HB1.out hb); have HRY := Lib.hid hsy; have HRX2 := Lib.hid (HRX.out.below hb); clear hb hsy))
        | (go_at_call 52; refine (slEq_any _ _ _ _ _ _ _ (by first | exact Nat.le_trans L1.out (by decide) | exact Nat.le_trans HXL.out (by decide)) (by first | exact Nat.le_trans L2.out (by decide) | exact Nat.le_trans HYL.out (by decide)) (by first | exact HRX2.out | exact (HX.out.below HB2.out).below (below_drewN (Below.refl _ _) _)) (by first | exact HRY.out | exact (HY.out.below HB2.out).below (below_drewN (Below.refl _ _) _))).mono ?_; rintro e wn ⟨rfl, nd, rfl⟩; first | rw [HQ1.out] | rw [HQ2.out]))
    all_goals go_ret
    all_goals (first | exact ⟨rfl, Below.refl _ _⟩ | exact ⟨rfl, HB2.out⟩ | exact ⟨rfl, HD0.out⟩ | exact ⟨rfl, below_drewN HB2.out _⟩ | exact ⟨rfl, below_drewN (below_drewN HB2.out _) _⟩)
  subst he
  by_cases hf : f0 = 0
  case neg =>
    have yf : (f0 == 0) = false := by simpa using hf
    have HR : Hid (twinB m k xs ys = false) := by show _ = _; rw [HTB.out]; simp [hf]
    clear hf
    rw [HR.out]
    clear HTB
    go_enter Tryz.func23, Tryz.ntmps23
    go_wp2_with (first
        | (go_at_call 48; refine (lit_any _ _ _ _ (by first | exact L1.out | exact L2.out) (by first | exact HX.out | exact HY.out)).mono ?_; rintro e wn ⟨rfl, rfl⟩; first | rw [HN1.out] | rw [HN2.out])
        | (go_at_call 11; refine (mread_any _ _ _ _ _ _ _ HM.out (by first | exact Nat.le_trans L1.out (by decide) | exact Nat.le_trans L2.out (by decide)) (by first | exact HS.out | exact HS.out.below HB1.out) (by first | exact HX.out | exact HY.out.below HB1.out)).mono ?_; rintro e wn hp; first
        | (rw [HXE.out] at hp; obtain ⟨hb, ax, cx, rfl, hsx⟩ := hp; dsimp only at hsx ⊢; have HB1 := Lib.hid hb; have HRX := Lib.hid hsx; clear hb hsx)
        | (rw [HYE.out] at hp; obtain ⟨hb, ay, cy, rfl, hsy⟩ := hp; dsimp only at hsy ⊢; have HB2 := Lib.hid (belw HB1.out hb); have HRY := Lib.hid hsy; have HRX2 := Lib.hid (HRX.out.below hb); clear hb hsy))
        | (go_at_call 52; refine (slEq_any _ _ _ _ _ _ _ (by first | exact Nat.le_trans L1.out (by decide) | exact Nat.le_trans HXL.out (by decide)) (by first | exact Nat.le_trans L2.out (by decide) | exact Nat.le_trans HYL.out (by decide)) (by first | exact HRX2.out | exact (HX.out.below HB2.out).below (below_drewN (Below.refl _ _) _)) (by first | exact HRY.out | exact (HY.out.below HB2.out).below (below_drewN (Below.refl _ _) _))).mono ?_; rintro e wn ⟨rfl, nd, rfl⟩; first | rw [HQ1.out] | rw [HQ2.out]))
    all_goals go_ret
    all_goals (first | exact ⟨rfl, Below.refl _ _⟩ | exact ⟨rfl, HB2.out⟩ | exact ⟨rfl, HD0.out⟩ | exact ⟨rfl, below_drewN HB2.out _⟩ | exact ⟨rfl, below_drewN (below_drewN HB2.out _) _⟩)
  subst hf
  cases q1
  · skip
    have HR : Hid (twinB m k xs ys = false) := by show _ = _; rw [HTB.out]; simp
    rw [HR.out]
    clear HTB
    go_enter Tryz.func23, Tryz.ntmps23
    go_wp2_with (first
        | (go_at_call 48; refine (lit_any _ _ _ _ (by first | exact L1.out | exact L2.out) (by first | exact HX.out | exact HY.out)).mono ?_; rintro e wn ⟨rfl, rfl⟩; first | rw [HN1.out] | rw [HN2.out])
        | (go_at_call 11; refine (mread_any _ _ _ _ _ _ _ HM.out (by first | exact Nat.le_trans L1.out (by decide) | exact Nat.le_trans L2.out (by decide)) (by first | exact HS.out | exact HS.out.below HB1.out) (by first | exact HX.out | exact HY.out.below HB1.out)).mono ?_; rintro e wn hp; first
        | (rw [HXE.out] at hp; obtain ⟨hb, ax, cx, rfl, hsx⟩ := hp; dsimp only at hsx ⊢; have HB1 := Lib.hid hb; have HRX := Lib.hid hsx; clear hb hsx)
        | (rw [HYE.out] at hp; obtain ⟨hb, ay, cy, rfl, hsy⟩ := hp; dsimp only at hsy ⊢; have HB2 := Lib.hid (belw HB1.out hb); have HRY := Lib.hid hsy; have HRX2 := Lib.hid (HRX.out.below hb); clear hb hsy))
        | (go_at_call 52; refine (slEq_any _ _ _ _ _ _ _ (by first | exact Nat.le_trans L1.out (by decide) | exact Nat.le_trans HXL.out (by decide)) (by first | exact Nat.le_trans L2.out (by decide) | exact Nat.le_trans HYL.out (by decide)) (by first | exact HRX2.out | exact (HX.out.below HB2.out).below (below_drewN (Below.refl _ _) _)) (by first | exact HRY.out | exact (HY.out.below HB2.out).below (below_drewN (Below.refl _ _) _))).mono ?_; rintro e wn ⟨rfl, nd, rfl⟩; first | rw [HQ1.out] | rw [HQ2.out]))
    all_goals go_ret
    all_goals (first | exact ⟨rfl, Below.refl _ _⟩ | exact ⟨rfl, HB2.out⟩ | exact ⟨rfl, HD0.out⟩ | exact ⟨rfl, below_drewN HB2.out _⟩ | exact ⟨rfl, below_drewN (below_drewN HB2.out _) _⟩)
  cases q2
  · skip
    have HR : Hid (twinB m k xs ys = true) := by show _ = _; rw [HTB.out]; simp
    rw [HR.out]
    clear HTB
    go_enter Tryz.func23, Tryz.ntmps23
    go_wp2_with (first
        | (go_at_call 48; refine (lit_any _ _ _ _ (by first | exact L1.out | exact L2.out) (by first | exact HX.out | exact HY.out)).mono ?_; rintro e wn ⟨rfl, rfl⟩; first | rw [HN1.out] | rw [HN2.out])
        | (go_at_call 11; refine (mread_any _ _ _ _ _ _ _ HM.out (by first | exact Nat.le_trans L1.out (by decide) | exact Nat.le_trans L2.out (by decide)) (by first | exact HS.out | exact HS.out.below HB1.out) (by first | exact HX.out | exact HY.out.below HB1.out)).mono ?_; rintro e wn hp; first
        | (rw [HXE.out] at hp; obtain ⟨hb, ax, cx, rfl, hsx⟩ := hp; dsimp only at hsx ⊢; have HB1 := Lib.hid hb; have HRX := Lib.hid hsx; clear hb hsx)
        | (rw [HYE.out] at hp; obtain ⟨hb, ay, cy, rfl, hsy⟩ := hp; dsimp only at hsy ⊢; have HB2 := Lib.hid (belw HB1.out hb); have HRY := Lib.hid hsy; have HRX2 := Lib.hid (HRX.out.below hb); clear hb hsy))
        | (go_at_call 52; refine (slEq_any _ _ _ _ _ _ _ (by first | exact Nat.le_trans L1.out (by decide) | exact Nat.le_trans HXL.out (by decide)) (by first | exact Nat.le_trans L2.out (by decide) | exact Nat.le_trans HYL.out (by decide)) (by first | exact HRX2.out | exact (HX.out.below HB2.out).below (below_drewN (Below.refl _ _) _)) (by first | exact HRY.out | exact (HY.out.below HB2.out).below (below_drewN (Below.refl _ _) _))).mono ?_; rintro e wn ⟨rfl, nd, rfl⟩; first | rw [HQ1.out] | rw [HQ2.out]))
    all_goals go_ret
    all_goals (first | exact ⟨rfl, Below.refl _ _⟩ | exact ⟨rfl, HB2.out⟩ | exact ⟨rfl, HD0.out⟩ | exact ⟨rfl, below_drewN HB2.out _⟩ | exact ⟨rfl, below_drewN (below_drewN HB2.out _) _⟩)
  · skip
    have HR : Hid (twinB m k xs ys = false) := by show _ = _; rw [HTB.out]; simp
    rw [HR.out]
    clear HTB
    go_enter Tryz.func23, Tryz.ntmps23
    go_wp2_with (first
        | (go_at_call 48; refine (lit_any _ _ _ _ (by first | exact L1.out | exact L2.out) (by first | exact HX.out | exact HY.out)).mono ?_; rintro e wn ⟨rfl, rfl⟩; first | rw [HN1.out] | rw [HN2.out])
        | (go_at_call 11; refine (mread_any _ _ _ _ _ _ _ HM.out (by first | exact Nat.le_trans L1.out (by decide) | exact Nat.le_trans L2.out (by decide)) (by first | exact HS.out | exact HS.out.below HB1.out) (by first | exact HX.out | exact HY.out.below HB1.out)).mono ?_; rintro e wn hp; first
        | (rw [HXE.out] at hp; obtain ⟨hb, ax, cx, rfl, hsx⟩ := hp; dsimp only at hsx ⊢; have HB1 := Lib.hid hb; have HRX := Lib.hid hsx; clear hb hsx)
        | (rw [HYE.out] at hp; obtain ⟨hb, ay, cy, rfl, hsy⟩ := hp; dsimp only at hsy ⊢; have HB2 := Lib.hid (belw HB1.out hb); have HRY := Lib.hid hsy; have HRX2 := Lib.hid (HRX.out.below hb); clear hb hsy))
        | (go_at_call 52; refine (slEq_any _ _ _ _ _ _ _ (by first | exact Nat.le_trans L1.out (by decide) | exact Nat.le_trans HXL.out (by decide)) (by first | exact Nat.le_trans L2.out (by decide) | exact Nat.le_trans HYL.out (by decide)) (by first | exact HRX2.out | exact (HX.out.below HB2.out).below (below_drewN (Below.refl _ _) _)) (by first | exact HRY.out | exact (HY.out.below HB2.out).below (below_drewN (Below.refl _ _) _))).mono ?_; rintro e wn ⟨rfl, nd, rfl⟩; first | rw [HQ1.out] | rw [HQ2.out]))
    all_goals go_ret
    all_goals (first | exact ⟨rfl, Below.refl _ _⟩ | exact ⟨rfl, HB2.out⟩ | exact ⟨rfl, HD0.out⟩ | exact ⟨rfl, below_drewN HB2.out _⟩ | exact ⟨rfl, below_drewN (below_drewN HB2.out _) _⟩)
end Go.Proofs.YtgbnfhfkehpfaaaGreat
/- Circuit and Spark of the answers: contracts. -/
namespace Go.Proofs.YtgbnfhfkehpfaaaGreat
open Go.RowKit

end Go.Proofs.YtgbnfhfkehpfaaaGreat
/- Fractions in lowest terms, and the likeness of two columns of layer 2: contracts. -/
namespace Go.Proofs.YtgbnfhfkehpfaaaGreat
open Go.RowKit

end Go.Proofs.YtgbnfhfkehpfaaaGreat
/- Likeness of layer 2: words and a contract. -/
namespace Go.Proofs.YtgbnfhfkehpfaaaGreat
open Go.RowKit

structure RC (B : Nat) (w : World) : Prop where
  c0 : w.cell? ⟨B, 0, none⟩ = some (.int .i64 0)
  c1 : w.cell? ⟨B, 1, none⟩ = some (.int .i64 0)
  f0 : w.frozen? ⟨B, 0, none⟩ = false
  f1 : w.frozen? ⟨B, 1, none⟩ = false
  lt : B < w.heap.size
theorem RC.next {B : Nat} {w w' : World} (h : RC B w) (hb : Below w.heap.size w w') : RC B w' :=
  ⟨(hb.cell (p := ⟨B, 0, none⟩) h.lt).trans h.c0, (hb.cell (p := ⟨B, 1, none⟩) h.lt).trans h.c1, (hb.frozen (p := ⟨B, 0, none⟩) h.lt).trans h.f0, (hb.frozen (p := ⟨B, 1, none⟩) h.lt).trans h.f1, Nat.lt_of_lt_of_le h.lt hb.size⟩
end Go.Proofs.YtgbnfhfkehpfaaaGreat
/- Pixels of layer 2: a contract (of MRead2). -/
namespace Go.Proofs.YtgbnfhfkehpfaaaGreat
open Go.RowKit

end Go.Proofs.YtgbnfhfkehpfaaaGreat
/- Sure of layer 4: a contract (a part of SpSure, on its own: never import both). -/
namespace Go.Proofs.YtgbnfhfkehpfaaaGreat
open Go.RowKit Go.Shelf

end Go.Proofs.YtgbnfhfkehpfaaaGreat
/- Twins: what the two parts of a circuit are, and how small twins are. Plain mathematics. Speaks of no program. -/
namespace Go.Proofs.YtgbnfhfkehpfaaaGreat
open Go.RowKit

theorem read_row {m : List (List Int)} (hv : validM m = true) (x : List Int) {i : Nat} (hi : i < m.length) : gt (readL m x) i = sumTo (fun c => a0 m i c * gt x c) (colsM m) := by
  have e : gt (readL m x) i = dot (rowL m i) x := by unfold readL gt rowL; simp [hi]
  rw [e]
  unfold dot
  rw [((validM_of hv).2.2.2.2 _ (rowL_mem hi)).1]
  rfl
theorem sum_sub (f g : Nat → Int) : ∀ n, sumTo (fun c => f c - g c) n = sumTo f n - sumTo g n
  | 0 => rfl
  | n + 1 => by
    show sumTo (fun c => f c - g c) n + (f n - g n) = sumTo f n + f n - (sumTo g n + g n)
    rw [sum_sub f g n]; omega
theorem read_same {m : List (List Int)} (hv : validM m = true) (x y : List Int) : readL m x = readL m y ↔ KerF m fun j => gt x j - gt y j := by
  have hs : ∀ i, i < m.length → sumTo (fun c => a0 m i c * (gt x c - gt y c)) (colsM m) = gt (readL m x) i - gt (readL m y) i := fun i hi => by
    rw [read_row hv x hi, read_row hv y hi, ← sum_sub]
    exact sumTo_congr _ fun c _ => by rw [Int.mul_sub]
  constructor
  · intro e i hi
    rw [hs i hi, e]; omega
  · intro h
    refine ext_gt (by simp [readL]) fun i hi => ?_
    have hi : i < m.length := by simpa [readL] using hi
    have := h i hi
    rw [hs i hi] at this
    omega
theorem nz_ge1 {h : List Int} {k : Nat} (hk : gt h k ≠ 0) : ∀ n, k < n → 1 ≤ nzTo h n
  | 0, hn => by omega
  | n + 1, hn => by
    have hb := nzTo_in h n
    show 1 ≤ (if gt h n = 0 then nzTo h n else nzTo h n + 1)
    by_cases e : n = k
    · subst e; rw [if_neg hk]; omega
    · have := nz_ge1 hk n (by omega)
      split <;> omega
theorem tw_nz {h : List Int} {k : Int} (hk : 0 ≤ k) : ∀ i, i ≤ h.length → nzTo (twA h k h.length) i = (if nzTo h i ≤ k then nzTo h i else k) ∧ nzTo (twB h k h.length) i = (if nzTo h i ≤ k then 0 else nzTo h i - k)
  | 0, _ => by simp [nzTo, hk]
  | i + 1, hi => by
    obtain ⟨h1, h2⟩ := tw_nz (h := h) hk i (by omega)
    have g1 := gt_twA (h := h) (k := k) (i := h.length) (j := i) (by omega)
    have g2 := gt_twB (h := h) (k := k) (i := h.length) (j := i) (by omega)
    rw [if_pos (show i < h.length by omega)] at g1 g2
    conv => lhs; lhs; unfold nzTo
    conv => rhs; lhs; unfold nzTo
    rw [g1, g2, h1, h2, show nzTo h (i + 1) = if gt h i = 0 then nzTo h i else nzTo h i + 1 from rfl]
    by_cases e : gt h i = 0
    · rw [if_pos e]
      constructor
      · rw [e]; simp
      · rw [e]; simp
    · rw [if_neg e]
      by_cases q : nzTo h i < k
      · rw [if_pos q, if_pos q, if_neg e, if_pos (by omega : nzTo h i ≤ k), if_pos (by omega : nzTo h i + 1 ≤ k)]
        exact ⟨rfl, by simp; omega⟩
      · rw [if_neg q, if_neg q, if_neg (by omega : ¬ -gt h i = 0)]
        by_cases q2 : nzTo h i ≤ k
        · rw [if_pos q2, if_neg (by omega : ¬ nzTo h i + 1 ≤ k)]
          exact ⟨by simp; omega, by omega⟩
        · rw [if_neg q2, if_neg (by omega : ¬ nzTo h i + 1 ≤ k)]
          exact ⟨by simp, by omega⟩
theorem circ_least {m : List (List Int)} (h0 : (circuitV m).2 = 0) : validM m = true ∧ ∃ S, SetP m S ∧ 1 ≤ S.length ∧ CircP m S (circuitV m).1 := by
  unfold circuitV at h0 ⊢
  split at h0
  · rename_i hv
    refine ⟨hv, ?_⟩
    rw [if_pos hv]
    split at h0
    · cases h0
    · rename_i c t e
      obtain ⟨S, hS, h1, hB, rfl⟩ := (circsAll_mem hv).1 (show c ∈ circsAll m by rw [e]; simp)
      exact ⟨S, hS, h1, circP hv hS h1 hB⟩
  · cases h0
theorem spark_is {m : List (List Int)} (h0 : (circuitV m).2 = 0) : sparkV m = (nzTo (circuitV m).1 (circuitV m).1.length, 0) := by unfold sparkV; rw [if_pos h0]
theorem fits_0 {x : List Int} {n : Nat} (hl : x.length = n) (hb : ∀ j, j < n → -1000000 ≤ gt x j ∧ gt x j ≤ 1000000) : fitsV x n 1000000 = 0 := by
  unfold fitsV
  rw [if_pos (by omega), if_pos (allB_all fun j hj => hb j (by omega))]
theorem twins_ok {m : List (List Int)} {k : Int} (h : (twinsV m k).2 = 0) : twinB m k (twinsV m k).1.1 (twinsV m k).1.2 = true ∧ ((twinsV m k).1.1.length ≤ 10 ∧ (twinsV m k).1.2.length ≤ 10) ∧ (∀ x ∈ (twinsV m k).1.1, -160 ≤ x ∧ x ≤ 160) ∧ ∀ x ∈ (twinsV m k).1.2, -160 ≤ x ∧ x ≤ 160 := by
  unfold twinsV at h ⊢
  split at h
  · rename_i hv
    rw [if_pos hv]
    split at h
    · rename_i hr
      rw [if_pos hr]
      split at h
      · rename_i hc
        rw [if_pos hc]
        split at h
        · cases h
        · rename_i hn
          rw [if_neg hn]
          obtain ⟨_, S, hS, h1, hcp⟩ := circ_least hc
          have h160 := circuit_160 hc
          have hlen := circuitV_len (m := m)
          obtain ⟨c, hcc⟩ : ∃ c, (circuitV m).1 = c := ⟨_, rfl⟩
          rw [hcc] at hn hcp h160 hlen ⊢
          dsimp only
          have hk : 1 ≤ k ∧ k ≤ 10 := by simpa [rangeB] using hr
          obtain ⟨z1, z2⟩ := tw_nz (h := c) (k := k) (by omega) c.length (Nat.le_refl _)
          have hA : ∀ j, j < c.length → gt (twA c k c.length) j = if nzTo c j < k then gt c j else 0 := fun j hj => by rw [gt_twA hj, if_pos hj]
          have hB : ∀ j, j < c.length → gt (twB c k c.length) j = if nzTo c j < k then 0 else -gt c j := fun j hj => by rw [gt_twB hj, if_pos hj]
          have bA : ∀ j, j < c.length → -160 ≤ gt (twA c k c.length) j ∧ gt (twA c k c.length) j ≤ 160 := fun j hj => by rw [hA j hj]; have := h160 j; split <;> omega
          have bB : ∀ j, j < c.length → -160 ≤ gt (twB c k c.length) j ∧ gt (twB c k c.length) j ≤ 160 := fun j hj => by rw [hB j hj]; have := h160 j; split <;> omega
          have lA := twA_len c k c.length
          have lB := twB_len c k c.length
          obtain ⟨A, hAe⟩ : ∃ A, twA c k c.length = A := ⟨_, rfl⟩
          obtain ⟨B, hBe⟩ : ∃ B, twB c k c.length = B := ⟨_, rfl⟩
          rw [hAe] at z1 hA bA lA ⊢
          rw [hBe] at z2 hB bB lB ⊢
          refine ⟨?_, ⟨by omega, by omega⟩, fun x hx => ?_, fun x hx => ?_⟩
          · have f1 : fitsV A (colsM m) 1000000 = 0 := fits_0 (by rw [lA, hcp.len]) fun j hj => by have := bA j (by rw [hcp.len]; exact hj); omega
            have f2 : fitsV B (colsM m) 1000000 = 0 := fits_0 (by rw [lB, hcp.len]) fun j hj => by have := bB j (by rw [hcp.len]; exact hj); omega
            unfold twinB
            rw [readV_ok hv f1, readV_ok hv f2, hr, lA, lB, z1, z2]
            have hd : ∀ j, j < c.length → gt A j - gt B j = gt c j := fun j hj => by rw [hA j hj, hB j hj]; split <;> omega
            have hread : readL m A = readL m B := (read_same hv A B).2 fun i hi => by
              rw [← hcp.ker i hi]
              exact sumTo_congr _ fun j hj => by show a0 m i j * (gt A j - gt B j) = _; rw [hd j (by rw [hcp.len]; exact hj)]
            have hne : ¬ A = B := fun e => by
              have h2 := hcp.first
              have h3 := hd (pos S 0) (by rw [hcp.len]; exact hS.lt (by omega))
              rw [e] at h3
              omega
            dsimp only
            rw [hread]
            have d1 : (if nzTo c c.length ≤ k then nzTo c c.length else k) ≤ k := by split <;> omega
            have d2 : (if nzTo c c.length ≤ k then 0 else nzTo c c.length - k) ≤ k := by split <;> omega
            rw [decide_eq_true d1, decide_eq_true d2, decide_eq_false hne]
            simp
          · obtain ⟨j, hj, rfl⟩ := mem_gt.1 hx
            exact bA j (by omega)
          · obtain ⟨j, hj, rfl⟩ := mem_gt.1 hx
            exact bB j (by omega)
      · rename_i hc; exact absurd h hc
    · cases h
  · cases h
theorem twins_err (m : List (List Int)) (k : Int) : (twinsV m k).2 = if validM m = true then (if rangeB k 1 10 = true then (if (sparkV m).2 ≠ 0 ∨ 2 * k < (sparkV m).1 then 8 else 0) else 7) else 1 := by
  unfold twinsV
  by_cases hv : validM m = true
  · rw [if_pos hv, if_pos hv]
    by_cases hr : rangeB k 1 10 = true
    · rw [if_pos hr, if_pos hr]
      by_cases hc : (circuitV m).2 = 0
      · rw [if_pos hc, spark_is hc]
        by_cases h3 : 2 * k < nzTo (circuitV m).1 (circuitV m).1.length
        · rw [if_pos h3, if_pos (.inr h3)]
        · rw [if_neg h3, if_neg]
          rintro (e | e)
          · exact e rfl
          · exact h3 e
      · have hs : sparkV m = (0, (circuitV m).2) := by unfold sparkV; rw [if_neg hc]
        rw [if_neg hc, hs, if_pos (.inl hc)]
        unfold circuitV at hc ⊢
        rw [if_pos hv] at hc ⊢
        split at hc
        · rfl
        · exact absurd rfl hc
    · rw [if_neg hr, if_neg hr]
  · rw [if_neg hv, if_neg hv]
end Go.Proofs.YtgbnfhfkehpfaaaGreat
/- Twins differ by a kernel vector; a circuit cut into two makes twins: plain facts. -/
namespace Go.Proofs.YtgbnfhfkehpfaaaGreat
open Go.RowKit

def difTo (a b : List Int) (k : Nat) : List Int := (List.range k).map fun j => gt a j - gt b j
theorem difTo_succ (a b : List Int) (k : Nat) : difTo a b (k + 1) = difTo a b k ++ [gt a k - gt b k] := by simp [difTo, List.range_succ]
theorem difTo_len (a b : List Int) (k : Nat) : (difTo a b k).length = k := by simp [difTo]
theorem gt_difTo {a b : List Int} {k j : Nat} (hj : j < k) : gt (difTo a b k) j = gt a j - gt b j := by unfold difTo; rw [gt_map_range _ hj]
theorem readV_fits {m : List (List Int)} {x : List Int} (h : (readV m x).2 = 0) : validM m = true ∧ x.length = colsM m ∧ allB 1000000 x = true ∧ readV m x = (readL m x, 0) := by
  by_cases hv : validM m = true
  · by_cases hf : fitsV x (colsM m) 1000000 = 0
    · obtain ⟨h1, h2⟩ := fitsV_0 hf
      exact ⟨hv, by omega, h2, readV_ok hv hf⟩
    · rw [readV_err hv rfl hf] at h; exact absurd h hf
  · rw [readV_no (by simpa using hv)] at h; cases h
theorem twinB_of {m : List (List Int)} {k : Int} {a b : List Int} (h : twinB m k a b = true) : (validM m = true ∧ a.length = colsM m ∧ b.length = colsM m) ∧ readL m a = readL m b ∧ a ≠ b := by
  unfold twinB at h
  simp only [Bool.and_eq_true, decide_eq_true_eq] at h
  obtain ⟨⟨⟨⟨_, h1⟩, h2⟩, h3⟩, h4⟩ := h
  obtain ⟨v, la, _, ra⟩ := readV_fits h1
  obtain ⟨_, lb, _, rb⟩ := readV_fits h2
  rw [ra, rb] at h3
  exact ⟨⟨v, la, lb⟩, h3, by simpa using h4⟩
theorem twins_ker {m : List (List Int)} {k : Int} (h : (twinsV m k).2 = 0) : (twinsV m k).1.1.length = (twinsV m k).1.2.length ∧ (twinsV m k).1.1.length ≤ 10 ∧ kerB m (difTo (twinsV m k).1.1 (twinsV m k).1.2 (twinsV m k).1.1.length) = true ∧ (∀ x ∈ (twinsV m k).1.1, -160 ≤ x ∧ x ≤ 160) ∧ ∀ x ∈ (twinsV m k).1.2, -160 ≤ x ∧ x ≤ 160 := by
  obtain ⟨ht, ⟨hl, _⟩, b1, b2⟩ := twins_ok h
  obtain ⟨⟨a, b⟩, hab⟩ : ∃ r, (twinsV m k).1 = r := ⟨_, rfl⟩
  rw [hab] at ht hl b1 b2 ⊢
  dsimp only at ht hl b1 b2 ⊢
  obtain ⟨⟨hv, la, lb⟩, hr, hne⟩ := twinB_of ht
  refine ⟨by omega, hl, (kerB_iff hv).2 ⟨⟨by rw [difTo_len]; exact la, ?_⟩, ?_, ?_⟩, b1, b2⟩
  · unfold allB; rw [List.all_eq_true]
    intro x hx
    obtain ⟨j, hj, rfl⟩ := mem_gt.1 hx
    rw [difTo_len] at hj
    rw [gt_difTo hj]
    have h1 := b1 _ (mem_gt.2 ⟨j, hj, rfl⟩)
    have h2 := b2 _ (mem_gt.2 ⟨j, by omega, rfl⟩)
    simp [outB]; omega
  · by_cases hz : allZ (difTo a b a.length) = true
    · refine absurd (ext_gt (by omega) fun j hj => ?_) hne
      unfold allZ at hz
      rw [List.all_eq_true] at hz
      have := hz _ (mem_gt.2 ⟨j, by rw [difTo_len]; exact hj, rfl⟩)
      rw [gt_difTo hj] at this
      have : gt a j - gt b j = 0 := by simpa using this
      omega
    · simpa using hz
  · intro i hi
    rw [← (read_same hv a b).1 hr i hi]
    refine sumTo_congr _ fun c hc => ?_
    rw [gt_difTo (by omega)]
theorem circuit_none {m : List (List Int)} (k : Int) (h : (circuitV m).2 ≠ 0) : (twinsV m k).2 ≠ 0 := by
  rw [twins_err]
  have hs : (sparkV m).2 ≠ 0 := by unfold sparkV; rw [if_neg h]; exact h
  split
  · split
    · rw [if_pos (.inl hs)]; decide
    · decide
  · decide
def cutA (h : List Int) (t : Int) (i : Nat) : List Int := (List.range h.length).map fun j => if j < i then (if (j : Int) < t then gt h j else 0) else 0
def cutB (h : List Int) (t : Int) (i : Nat) : List Int := (List.range h.length).map fun j => if j < i then (if (j : Int) < t then 0 else -gt h j) else 0
theorem cutA_len (h : List Int) (t : Int) (i : Nat) : (cutA h t i).length = h.length := by simp [cutA]
theorem cutB_len (h : List Int) (t : Int) (i : Nat) : (cutB h t i).length = h.length := by simp [cutB]
theorem gt_cutA {h : List Int} {t : Int} {i j : Nat} (hj : j < h.length) : gt (cutA h t i) j = if j < i then (if (j : Int) < t then gt h j else 0) else 0 := by unfold cutA; rw [gt_map_range _ hj]
theorem gt_cutB {h : List Int} {t : Int} {i j : Nat} (hj : j < h.length) : gt (cutB h t i) j = if j < i then (if (j : Int) < t then 0 else -gt h j) else 0 := by unfold cutB; rw [gt_map_range _ hj]
theorem cut_zero (h : List Int) (t : Int) : cutA h t 0 = List.replicate h.length 0 ∧ cutB h t 0 = List.replicate h.length 0 := by
  constructor <;> refine ext_gt (by simp [cutA_len, cutB_len]) fun j hj => ?_
  · rw [cutA_len] at hj
    rw [gt_cutA hj]; simp [gt, hj]
  · rw [cutB_len] at hj
    rw [gt_cutB hj]; simp [gt, hj]
theorem gt_setP {xs : List Int} {i j : Nat} {v : Int} (hi : i < xs.length) : gt (xs.set i v) j = if j = i then v else gt xs j := by
  unfold gt
  by_cases e : j = i
  · subst e; rw [if_pos rfl, List.getElem?_set_self hi]; rfl
  · rw [if_neg e, List.getElem?_set_ne (Ne.symm e)]
theorem cut_left {h : List Int} {t : Int} {i : Nat} (hi : i < h.length) (ht : (i : Int) < t) : (cutA h t i).set i (gt h i) = cutA h t (i + 1) ∧ cutB h t i = cutB h t (i + 1) := by
  constructor
  · refine ext_gt (by simp [cutA_len]) fun j hj => ?_
    rw [List.length_set, cutA_len] at hj
    rw [gt_setP (by rw [cutA_len]; exact hi), gt_cutA hj, gt_cutA hj]
    by_cases e : j = i
    · subst e; rw [if_pos rfl, if_pos (by omega), if_pos ht]
    · rw [if_neg e]
      by_cases e2 : j < i
      · have e3 : j < i + 1 := by omega
        simp [e2, e3]
      · have e3 : ¬ j < i + 1 := by omega
        simp [e2, e3]
  · refine ext_gt (by simp [cutB_len]) fun j hj => ?_
    rw [cutB_len] at hj
    rw [gt_cutB hj, gt_cutB hj]
    by_cases e : j = i
    · subst e; rw [if_neg (by omega), if_pos (by omega), if_pos ht]
    · by_cases e2 : j < i
      · have e3 : j < i + 1 := by omega
        simp [e2, e3]
      · have e3 : ¬ j < i + 1 := by omega
        simp [e2, e3]
theorem cut_right {h : List Int} {t : Int} {i : Nat} (hi : i < h.length) (ht : ¬ (i : Int) < t) : (cutB h t i).set i (-gt h i) = cutB h t (i + 1) ∧ cutA h t i = cutA h t (i + 1) := by
  constructor
  · refine ext_gt (by simp [cutB_len]) fun j hj => ?_
    rw [List.length_set, cutB_len] at hj
    rw [gt_setP (by rw [cutB_len]; exact hi), gt_cutB hj, gt_cutB hj]
    by_cases e : j = i
    · subst e; rw [if_pos rfl, if_pos (by omega), if_neg ht]
    · rw [if_neg e]
      by_cases e2 : j < i
      · have e3 : j < i + 1 := by omega
        simp [e2, e3]
      · have e3 : ¬ j < i + 1 := by omega
        simp [e2, e3]
  · refine ext_gt (by simp [cutA_len]) fun j hj => ?_
    rw [cutA_len] at hj
    rw [gt_cutA hj, gt_cutA hj]
    by_cases e : j = i
    · subst e; rw [if_neg (by omega), if_pos (by omega), if_neg ht]
    · by_cases e2 : j < i
      · have e3 : j < i + 1 := by omega
        simp [e2, e3]
      · have e3 : ¬ j < i + 1 := by omega
        simp [e2, e3]
theorem cut_count {h : List Int} {t : Int} {i : Nat} (hi : i < h.length) : nzTo (cutA h t h.length) (i + 1) = (if (i : Int) < t then (if gt h i = 0 then nzTo (cutA h t h.length) i else nzTo (cutA h t h.length) i + 1) else nzTo (cutA h t h.length) i) ∧
    nzTo (cutB h t h.length) (i + 1) = (if (i : Int) < t then nzTo (cutB h t h.length) i else (if gt h i = 0 then nzTo (cutB h t h.length) i else nzTo (cutB h t h.length) i + 1)) := by
  constructor
  · show (if gt (cutA h t h.length) i = 0 then _ else _) = _
    rw [gt_cutA hi, if_pos hi]
    by_cases ht : (i : Int) < t
    · rw [if_pos ht, if_pos ht]
    · rw [if_neg ht, if_neg ht, if_pos rfl]
  · show (if gt (cutB h t h.length) i = 0 then _ else _) = _
    rw [gt_cutB hi, if_pos hi]
    by_cases ht : (i : Int) < t
    · rw [if_pos ht, if_pos ht, if_pos rfl]
    · rw [if_neg ht, if_neg ht]
      by_cases e : gt h i = 0
      · rw [if_pos e, if_pos (by omega)]
      · rw [if_neg e, if_neg (by omega)]
theorem cut_sum (h : List Int) (t : Int) : ∀ i, i ≤ h.length → nzTo (cutA h t h.length) i + nzTo (cutB h t h.length) i = nzTo h i
  | 0, _ => by simp [nzTo]
  | i + 1, hi => by
    have ih := cut_sum h t i (by omega)
    obtain ⟨h1, h2⟩ := cut_count (h := h) (t := t) (i := i) (by omega)
    rw [h1, h2]
    show _ = if gt h i = 0 then nzTo h i else nzTo h i + 1
    by_cases ht : (i : Int) < t
    · rw [if_pos ht, if_pos ht]; split <;> omega
    · rw [if_neg ht, if_neg ht]; split <;> omega
theorem cut_twins {m : List (List Int)} (t : Int) (h0 : (circuitV m).2 = 0) {n p : Int} (hn : nzTo (cutA (circuitV m).1 t (circuitV m).1.length) (circuitV m).1.length = n) (hp : nzTo (cutB (circuitV m).1 t (circuitV m).1.length) (circuitV m).1.length = p) :
    twinB m (if n < p then p else n) (cutA (circuitV m).1 t (circuitV m).1.length) (cutB (circuitV m).1 t (circuitV m).1.length) = true := by
  obtain ⟨hv, S, hS, h1, hcp⟩ := circ_least h0
  have h160 := circuit_160 h0
  have hlen := circuitV_len (m := m)
  obtain ⟨c, hcc⟩ : ∃ c, (circuitV m).1 = c := ⟨_, rfl⟩
  rw [hcc] at hcp h160 hlen hn hp ⊢
  have hsum := cut_sum c t c.length (Nat.le_refl _)
  have hA : ∀ j, j < c.length → gt (cutA c t c.length) j = if (j : Int) < t then gt c j else 0 := fun j hj => by rw [gt_cutA hj, if_pos hj]
  have hB : ∀ j, j < c.length → gt (cutB c t c.length) j = if (j : Int) < t then 0 else -gt c j := fun j hj => by rw [gt_cutB hj, if_pos hj]
  have bA : ∀ j, j < c.length → -160 ≤ gt (cutA c t c.length) j ∧ gt (cutA c t c.length) j ≤ 160 := fun j hj => by rw [hA j hj]; have := h160 j; split <;> omega
  have bB : ∀ j, j < c.length → -160 ≤ gt (cutB c t c.length) j ∧ gt (cutB c t c.length) j ≤ 160 := fun j hj => by rw [hB j hj]; have := h160 j; split <;> omega
  have lA := cutA_len c t c.length
  have lB := cutB_len c t c.length
  have nA := nzTo_in (cutA c t c.length) c.length
  have nB := nzTo_in (cutB c t c.length) c.length
  rw [hn, hp] at hsum
  rw [hn] at nA
  rw [hp] at nB
  have hpos : 1 ≤ nzTo c c.length := by
    have hlt : pos S 0 < c.length := by rw [hcp.len]; exact hS.lt (by omega)
    have hne : gt c (pos S 0) ≠ 0 := by have := hcp.first; omega
    exact nz_ge1 hne c.length hlt
  obtain ⟨A, hAe⟩ : ∃ A, cutA c t c.length = A := ⟨_, rfl⟩
  obtain ⟨B, hBe⟩ : ∃ B, cutB c t c.length = B := ⟨_, rfl⟩
  rw [hAe] at hn hA bA lA ⊢
  rw [hBe] at hp hB bB lB ⊢
  have f1 : fitsV A (colsM m) 1000000 = 0 := fits_0 (by rw [lA, hcp.len]) fun j hj => by have := bA j (by rw [hcp.len]; exact hj); omega
  have f2 : fitsV B (colsM m) 1000000 = 0 := fits_0 (by rw [lB, hcp.len]) fun j hj => by have := bB j (by rw [hcp.len]; exact hj); omega
  have hr : rangeB (if n < p then p else n) 1 10 = true := by simp [rangeB]; split <;> omega
  unfold twinB
  rw [readV_ok hv f1, readV_ok hv f2, hr, lA, lB, hn, hp]
  have hd : ∀ j, j < c.length → gt A j - gt B j = gt c j := fun j hj => by rw [hA j hj, hB j hj]; split <;> omega
  have hread : readL m A = readL m B := (read_same hv A B).2 fun i hi => by
    rw [← hcp.ker i hi]
    exact sumTo_congr _ fun j hj => by show a0 m i j * (gt A j - gt B j) = _; rw [hd j (by rw [hcp.len]; exact hj)]
  have hne : ¬ A = B := fun e => by
    have h2 := hcp.first
    have h3 := hd (pos S 0) (by rw [hcp.len]; exact hS.lt (by omega))
    rw [e] at h3
    omega
  dsimp only
  rw [hread]
  have d1 : n ≤ (if n < p then p else n) := by split <;> omega
  have d2 : p ≤ (if n < p then p else n) := by split <;> omega
  rw [decide_eq_true d1, decide_eq_true d2, decide_eq_false hne]
  simp
end Go.Proofs.YtgbnfhfkehpfaaaGreat
