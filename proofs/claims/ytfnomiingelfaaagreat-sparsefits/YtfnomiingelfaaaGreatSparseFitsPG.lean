/- Parts of the proof of SparseFits: plain words, walks and contracts, each under its own heading. -/
import Derived.Test.YtfnomiingelfaaaGreatSparseFitsPF
import Derived.Test.YtfnomiingelfaaaGreatSparseFitsPE
import Derived.Test.YtfnomiingelfaaaGreatSparseFitsPD
import Derived.Test.YtfnomiingelfaaaGreatSparseFitsPA
import Derived.Deep.Fields
import Derived.ChangeSame
/- The whole fits of both sides are one list. -/
namespace Go.Proofs.YtfnomiingelfaaaGreat
open Go.RowKit Go.Shelf

/-- A fit as a picture. -/
def picF (n : Nat) (q : List Int × List (Int × Int)) : List Int := putTo n q.1 (q.2.map Prod.fst) q.1.length
/-- Is a fit whole, and within a million? -/
def goodF (m : List (List Int)) (q : List Int × List (Int × Int)) : Bool := (q.2.all fun p => p.2 == 1) && shownM m (picF (colsM m) q)
theorem low_den {n d : Int} (hd : 0 < d) : 0 < (lowR n d).2 := by
  obtain ⟨k, rfl⟩ : ∃ k : Nat, d = (k : Int) := ⟨d.natAbs, by omega⟩
  have hk : 0 < k := by omega
  show 0 < ((k : Int)).tdiv ((Nat.gcd n.natAbs (k : Int).natAbs : Nat) : Int)
  rw [Int.natAbs_natCast, ← Int.ofNat_tdiv]
  have h1 : 0 < Nat.gcd n.natAbs k := Nat.gcd_pos_of_pos_right _ hk
  have h2 := Nat.div_pos (Nat.le_of_dvd hk (Nat.gcd_dvd_right n.natAbs k)) h1
  omega
theorem solL_den {n : Nat} {M : List (List Int)} {pz : List Int} {dv : Int} (hd : 0 < dv) : ∀ t, ∀ p ∈ solL n M pz dv t, 0 < p.2
  | 0, p, h => by
    obtain ⟨_, rfl⟩ := List.mem_replicate.1 h
    decide
  | t + 1, p, h => by
    unfold solL at h
    rcases List.mem_or_eq_of_mem_set h with h | rfl
    · exact solL_den hd t p h
    · exact low_den hd
theorem fit_den {wr : Int × Int → Bool} {m : List (List Int)} {y px : List Int} {vs : List (Int × Int)} (hr : readE m y = 0) (hpx : pxOk m px) (h : fitO wr m y px = some vs) : vs.length = px.length ∧ ∀ p ∈ vs, 0 < p.2 := by
  obtain ⟨hv, hy, hb⟩ := readE_ok hr
  have hp := (redB_fin hv hpx hy hb).pos.1
  unfold fitO at h
  split at h
  · rename_i h0
    split at h
    · cases h
    · obtain rfl := Option.some.inj h
      unfold solveV at h0 ⊢
      rw [if_pos hr] at h0 ⊢
      split at h0
      · rename_i h1
        rw [if_pos h1]
        split at h0
        · rename_i h2
          rw [if_pos h2]
          split at h0
          · cases h0
          · rename_i h3
            rw [if_neg h3]
            exact ⟨solL_len _ _ _ _ _, solL_den hp _⟩
        · cases h0
      · rename_i h1
        exact absurd h0 h1
  · cases h
theorem out_iff {n : Int} : outB 1000000 n = true ↔ n < -1000000 ∨ 1000000 < n := by
  simp [outB]
theorem pic_good {m : List (List Int)} (hv : validM m = true) {px : List Int} {vs : List (Int × Int)} (hs : SetP m px) (hl : vs.length = px.length) (hd : ∀ p ∈ vs, 0 < p.2) (hz : vs.any zB = false) : goodF m (px, vs) = !vs.any whB := by
  have hn : fitsV (picF (colsM m) (px, vs)) (colsM m) 1000000 = 0 ↔ ∀ p ∈ vs, outB 1000000 p.1 = false := by
    have hlen : (picF (colsM m) (px, vs)).length = colsM m := putTo_len _ _ _ _
    unfold fitsV
    rw [if_pos (by rw [hlen])]
    constructor
    · intro h p hp
      have hb : allB 1000000 (picF (colsM m) (px, vs)) = true := by
        split at h
        · assumption
        · cases h
      obtain ⟨u, hu, e⟩ := List.getElem_of_mem hp
      have hup : u < px.length := by omega
      have h1 := hs.put_at (part := vs.map Prod.fst) px.length (Nat.le_refl _) u hup
      have h2 : gt (vs.map Prod.fst) u = p.1 := by unfold gt; simp [hu, e]
      have h3 : pos px u < colsM m := by
        have := hs.ok _ (mem_gt.2 ⟨u, hup, rfl⟩)
        unfold pos; omega
      have h4 : (picF (colsM m) (px, vs))[pos px u]? = some p.1 := by
        rw [← h2, ← h1]
        rw [← hlen] at h3
        unfold gt
        simp only [picF] at h3 ⊢
        simp [h3]
      have h5 := allB_get hb h4
      cases ho : outB 1000000 p.1 with
      | false => rfl
      | true => rcases out_iff.1 ho with k | k <;> omega
    · intro h
      rw [if_pos]
      refine allB_all fun k hk => ?_
      by_cases hj : (k : Int) ∈ px
      · obtain ⟨u, hu, e⟩ := mem_gt.1 hj
        have h1 := hs.put_at (part := vs.map Prod.fst) px.length (Nat.le_refl _) u hu
        have hpu : pos px u = k := by unfold pos; rw [e]; omega
        rw [hpu] at h1
        have h2 : gt (vs.map Prod.fst) u = (vs[u]'(by omega)).1 := by unfold gt; simp [show u < vs.length by omega]
        have h3 := h _ (List.getElem_mem (show u < vs.length by omega))
        have h4 : ¬ outB 1000000 (vs[u]'(by omega)).1 = true := by rw [h3]; decide
        rw [out_iff] at h4
        show -1000000 ≤ gt (putTo (colsM m) px (vs.map Prod.fst) px.length) k ∧ _
        rw [show gt (picF (colsM m) (px, vs)) k = gt (putTo (colsM m) px (vs.map Prod.fst) px.length) k from rfl, h1, h2]
        omega
      · have := hs.put_no (n := colsM m) (part := vs.map Prod.fst) hj px.length (Nat.le_refl _)
        show -1000000 ≤ gt (putTo (colsM m) px (vs.map Prod.fst) px.length) k ∧ gt (putTo (colsM m) px (vs.map Prod.fst) px.length) k ≤ 1000000
        rw [this]; omega
  have hz' : ∀ p ∈ vs, p.1 ≠ 0 := fun p hp e => by
    have := List.any_eq_false.1 hz p hp
    exact this (by unfold zB; simp [e])
  rw [Bool.eq_iff_iff]
  unfold goodF shownM
  rw [hv]
  simp only [Bool.true_and, Bool.and_eq_true, decide_eq_true_eq, List.all_eq_true, beq_iff_eq, Bool.not_eq_true']
  rw [hn, List.any_eq_false]
  constructor
  · rintro ⟨k1, k2⟩ p hp
    have e1 := k1 p hp
    have e2 : ¬ outB 1000000 p.1 = true := by rw [k2 p hp]; decide
    rw [out_iff] at e2
    have e3 := hz' p hp
    unfold whB
    simp [e3, e1]
    omega
  · intro k
    have key : ∀ p ∈ vs, ¬ (1 < p.2) ∧ ¬ (p.1 < -1000000) ∧ ¬ (1000000 < p.1) := fun p hp => by
      have := k p hp
      unfold whB at this
      simp at this
      omega
    exact ⟨fun p hp => by have := key p hp; have := hd p hp; omega, fun p hp => by
      cases ho : outB 1000000 p.1 with
      | false => rfl
      | true => have := key p hp; rcases out_iff.1 ho with k | k <;> omega⟩
theorem fitO_split {wr : Int × Int → Bool} {m : List (List Int)} {y px : List Int} : fitO wr m y px = if (solveV m px y).2 = 0 then (if (solveV m px y).1.any wr = true then none else some (solveV m px y).1) else none := rfl
theorem fit_whole {m : List (List Int)} {y px : List Int} (hr : readE m y = 0) (hs : SetP m px) : (((fitO zB m y px).map fun vs => (px, vs)).filter fun q => goodF m q) = (fitO whB m y px).map fun vs => (px, vs) := by
  cases hf : fitO zB m y px with
  | none =>
    have : fitO whB m y px = none := by
      rw [fitO_split] at hf ⊢
      split at hf
      · rename_i h0
        rw [if_pos h0]
        split at hf
        · rename_i h1
          rw [if_pos]
          obtain ⟨p, hp, e⟩ := List.any_eq_true.1 h1
          refine List.any_eq_true.2 ⟨p, hp, ?_⟩
          unfold whB
          unfold zB at e
          simp [e]
        · cases hf
      · rename_i h0
        rw [if_neg h0]
    rw [this]; rfl
  | some vs =>
    obtain ⟨h1, h2⟩ := fit_den hr hs.ok hf
    have h3 : vs.any zB = false ∧ fitO whB m y px = if vs.any whB = true then none else some vs := by
      rw [fitO_split] at hf ⊢
      split at hf
      · rename_i h0
        rw [if_pos h0]
        split at hf
        · cases hf
        · rename_i hn
          obtain rfl := Option.some.inj hf
          exact ⟨by rw [Bool.eq_false_iff]; exact hn, rfl⟩
      · cases hf
    have h4 := pic_good (readE_ok hr).1 hs h1 h2 h3.1
    rw [h3.2]
    show (some (px, vs)).filter _ = _
    cases hw : vs.any whB with
    | true => rw [hw] at h4; simp [Option.filter, h4]
    | false => rw [hw] at h4; simp [Option.filter, h4]
theorem filterMap_same {α β : Type} {f g : α → Option β} : ∀ l : List α, (∀ x ∈ l, f x = g x) → l.filterMap f = l.filterMap g
  | [], _ => rfl
  | x :: l, h => by
    simp only [List.filterMap_cons]
    rw [h x List.mem_cons_self, filterMap_same l fun y hy => h y (List.mem_cons_of_mem _ hy)]
theorem row_whole {m : List (List Int)} {y : List Int} (hr : readE m y = 0) (j : Nat) : (((compl (colsM m) j 0).filterMap fun px => (fitO zB m y px).map fun vs => (px, vs)).filter fun q => goodF m q) = (compl (colsM m) j 0).filterMap fun px => (fitO whB m y px).map fun vs => (px, vs) := by
  rw [List.filter_filterMap]
  refine filterMap_same _ fun px hp => ?_
  exact fit_whole hr (compl_set hp)
theorem shortF_row {m : List (List Int)} {y : List Int} (k j : Nat) : shortF k ((compl (colsM m) j 0).filterMap fun px => (fitO zB m y px).map fun vs => (px, vs)) = if j ≤ k then (compl (colsM m) j 0).filterMap fun px => (fitO zB m y px).map fun vs => (px, vs) else [] := by
  have hlen : ∀ q ∈ ((compl (colsM m) j 0).filterMap fun px => (fitO zB m y px).map fun vs => (px, vs)), q.1.length = j := fun q hq => by
    obtain ⟨px, hpx, e⟩ := List.mem_filterMap.1 hq
    obtain ⟨vs, _, rfl⟩ := Option.map_eq_some_iff.1 e
    exact (compl_mem hpx).1
  unfold shortF
  split
  · exact List.filter_eq_self.2 fun q hq => by have := hlen q hq; simp; omega
  · exact List.filter_eq_nil_iff.2 fun q hq => by have := hlen q hq; simp; omega
theorem whole_to {m : List (List Int)} {y : List Int} (hr : readE m y = 0) (k : Nat) : ∀ j, (shortF k (fitsTo zB m y j)).filter (goodF m) = fitsTo whB m y (min j (k + 1))
  | 0 => by simp [fitsTo, shortF]
  | j + 1 => by
    rw [fitsTo_succ]
    have e : shortF k (fitsTo zB m y j ++ ((compl (colsM m) j 0).filterMap fun px => (fitO zB m y px).map fun vs => (px, vs))) = shortF k (fitsTo zB m y j) ++ shortF k ((compl (colsM m) j 0).filterMap fun px => (fitO zB m y px).map fun vs => (px, vs)) := by unfold shortF; rw [List.filter_append]
    rw [e, List.filter_append, whole_to hr k j, shortF_row]
    by_cases h : j ≤ k
    · rw [if_pos h, row_whole hr j, show min j (k + 1) = j by omega, show min (j + 1) (k + 1) = j + 1 by omega, fitsTo_succ]
    · rw [if_neg h, show min j (k + 1) = k + 1 by omega, show min (j + 1) (k + 1) = k + 1 by omega]; simp
/-- The whole fits of at most k pixels: both sides. -/
theorem whole_eq {m : List (List Int)} {y : List Int} (hr : readE m y = 0) {k : Nat} (hk : k ≤ 10) : (shortF k (allFits m y)).filter (goodF m) = fitsTo whB m y (min k (rankM m) + 1) := by
  unfold allFits
  rw [whole_to hr k]
  congr 1
  omega
end Go.Proofs.YtfnomiingelfaaaGreat
/- slices.Collect over fits; Fits of layer 4: contracts. -/
namespace Go.Proofs.YtfnomiingelfaaaGreat
open Go.RowKit Go.Shelf
attribute [local go_sem] Oper.semAt_some

theorem SpI.went2 {w : World} {FB : Nat} {v : Value} {pre : List FitV} {C T : Blk} {W W2 w' : World} {x : FitV} {g cap : Nat} (h : SpI w FB v pre C T W) (hx : MemF x W) (hown : ∀ b, ownF x b → T b) (hb : Below W.heap.size W W2) (hp : PushedF W2 (FB + 1) v pre x g cap w') :
    Went (fun pre C T W => ∃ v, True ∧ SpI w FB v pre C T W) ownF pre x C T W (w'.setCell ⟨FB, 0, none⟩ (.slice (some ⟨g, 0, none⟩) (pre.length + 1) cap)) := by
  obtain ⟨h1, ⟨_, h2⟩, h3⟩ := h.push hx hown hb hp
  refine ⟨_, _, ⟨_, trivial, h1⟩, fun b hb hl hn => ⟨hb, hn, hl⟩, fun b hb => ?_, h3.mono fun b _ e => .inl ((h.cc b).2 (e.elim .inl fun e => .inr (.inl e)))⟩
  rcases hb with rfl | rfl | ⟨z, hz, e⟩
  · exact .inl ((h.cc _).2 (.inl rfl))
  · rcases h2 with e | e
    · exact .inl ((h.cc _).2 (.inr (.inl e)))
    · exact .inr (.inr e)
  · rcases List.mem_append.1 hz with hz | hz
    · exact .inl ((h.cc _).2 (.inr (.inr ⟨z, hz, e⟩)))
    · obtain rfl := List.mem_singleton.1 hz
      exact .inr (.inl e)
theorem SpI.start (w : World) : SpI w w.heap.size (.slice none 0 0) [] (fun b => b = w.heap.size) (fun _ => False) (w.alloc (.cells #[.slice none 0 0] 34)) :=
  ⟨Nat.le_refl _, alloc_cell _ _ _ _ _ rfl, by simp, OwnF.nil _ _, (Below.refl _ _).alloc (Nat.le_refl _) _, fun _ _ e => e, fun b e => (by cases e), fun b => ⟨.inl, fun e => e.elim id fun e => e.elim (fun e => (by cases e)) fun ⟨x, hx, _⟩ => (by cases hx)⟩, fun x hx => (by cases hx), fun x hx => (by cases hx)⟩
set_option maxRecDepth 1000000 in
set_option maxHeartbeats 4000000 in
theorem appendF_in {gf : Nat} {lb : Array Value} (eg : ∀ args w, (callFunc gf args).run Tryz.prog w = .ok (.enter gf args) w) {Z : List (List Int × List (Int × Int))} {need : Blk} {w wq : World} (hseq : SeqM Tryz.prog gf lb encF MemF ownF keyF Z need wq) (hb : Below wq.heap.size wq w) (hneed : ∀ b, need b → b < w.heap.size) (hZ : Z.length ≤ 10000) :
    CallsIn Fence.wide 50 Tryz.prog 66 #[.slice none 0 0, .func (.func gf) #[] lb] w fun e w' => ∃ ca cc, e = .returned (.slice ca Z.length cc) ∧ Fs w' ca Z ∧ Below w.heap.size w w' := by
  have HI0 := Lib.hid (SpI.start w)
  obtain ⟨FB, hFB⟩ : ∃ FB, w.heap.size = FB := ⟨_, rfl⟩
  obtain ⟨V0, hV0⟩ : ∃ V0, w.alloc (.cells #[.slice none 0 0] 34) = V0 := ⟨_, rfl⟩
  have hVs : V0.heap.size = w.heap.size + 1 := by rw [← hV0]; exact World.size_alloc _ _
  rw [hV0] at HI0
  rw [hFB] at HI0 hVs hneed
  have HFB := Lib.hid hFB
  have HVS := Lib.hid hVs
  have HSEQ := Lib.hid hseq
  have HB := Lib.hid hb
  have HNEED := Lib.hid hneed
  have HZ := Lib.hid hZ
  clear hVs hseq hb hneed hZ
  refine callsIn_of_wp_marks Tryz.func66 rfl trivial ?_ rfl
  simp only [Tryz.ntmps66, List.size_toArray, List.length_cons, List.length_nil, Nat.reduceAdd, Nat.reduceSub, Array.replicate_succ, Array.replicate_zero, List.push_toArray, List.append_toArray, List.nil_append, List.cons_append]
  gi_wp2
  clear hV0 hFB
  refine wpIn_rangeFunc_M2 (by omega) (gf := gf) (lb := lb) rfl eg HSEQ.out (HB.out.trans (HI0.out.bw.mono HB.out.size)) (fun _ => rfl) memF_put
    (fun pre C T W => ∃ v, True ∧ SpI w FB v pre C T W) (fun _ _ _ _ _ => False) (SpI.client (p := fun _ _ => True) (q := fun pre => pre)) (fun _ => ⟨fun h => h.elim, fun h => h.elim⟩) (fun b => b = FB) (fun _ => False) ?need (fun _ e => e.elim) ⟨_, trivial, HI0.out⟩
    (fun x X => { tmps := #[.slice none 0 0, .func (.func gf) #[] lb, .pointer (some ⟨FB, 0, none⟩), undef, .slice none 0 0, .pointer (some ⟨X.heap.size, 0, none⟩), .func (.func gf) #[] lb, fitV x, undef, undef, undef, undef, undef], defers := [] }) (fun x X => X.alloc (.cells #[.slice x.qa x.px.length x.qc, .slice x.va x.vs.length x.vc] 27)) (fun x W => (Below.refl _ _).alloc (Nat.le_refl _) _) (fun x W W' h hb => ⟨h.sl.below hb, h.rl.below hb, fun ad e => ⟨(h.q ad e).1, Nat.lt_of_lt_of_le (h.q ad e).2 hb.size⟩, fun ad e => ⟨(h.v ad e).1, Nat.lt_of_lt_of_le (h.v ad e).2 hb.size⟩⟩) ?assign ?body ?done ?stop
  case need =>
    have h2 := HVS.out
    intro b hb
    have := HNEED.out b hb
    exact ⟨by omega, by omega⟩
  case assign =>
    rintro l2 ⟨qa, qc, px, va, vc, vs⟩ V K hK
    dsimp only
    gi_wp2
    exact hK
  case body =>
    rintro l2 pre x C T X W ⟨v, _, hI⟩ hmem hown ⟨rest, hrest⟩ hcl
    have hb0 := hcl _ _ (alloc_cell X #[.slice x.qa x.px.length x.qc, .slice x.va x.vs.length x.vc] 27 0 (.slice x.qa x.px.length x.qc) rfl)
    have hb1 := hcl _ _ (alloc_cell X #[.slice x.qa x.px.length x.qc, .slice x.va x.vs.length x.vc] 27 1 (.slice x.va x.vs.length x.vc) rfl)
    have HI := Lib.hid hI
    have HMX := Lib.hid hmem
    have HOWN := Lib.hid hown
    have HP : Hid (pre.length ≤ 100000) := by
      show _ ≤ _
      have e := congrArg List.length hrest
      have := HZ.out
      simp at e
      omega
    have hr := hI.r
    have hfr := hI.fr
    have HO2 : Hid (OwnF W (FB + 1) v pre) := hI.own
    have HFW2 : Hid (FB + 1 ≤ W.heap.size) := by have := cell_lt hr; show _ ≤ _; dsimp only at this; omega
    clear hI hmem hown hrest hcl
    try dsimp only
    gi_wp2_with (gi_at_builtin; go_must (refine wpListIn_pushF rfl (.tmp 8) (.tmp 10) rfl (FB + 1) _ pre x W _ _ rfl rfl rfl HO2.out HP.out HFW2.out ?_); intro g gc w' hp; have HPU := Lib.hid hp; obtain ⟨z1, z2⟩ := SpI.pcell HI.out (Below.refl _ _) hp; clear hp)
    exact SpI.went2 HI.out HMX.out HOWN.out (Below.refl _ _) HPU.out
  case done =>
    rintro D xs C T V hD hxs ⟨v, _, hI⟩ hTD hK
    have HI := Lib.hid hI
    have HTD := Lib.hid hTD
    have HK := Lib.hid hK
    have HXS := Lib.hid hxs
    have hr := hI.r
    have hfm := hI.own.form
    clear hI hTD hK hxs hD
    have hv : ∃ ca cc, v = .slice ca xs.length cc := by
      rcases hfm with ⟨e, e2⟩ | ⟨g, cap, e⟩
      · exact ⟨none, 0, by rw [e, e2]; rfl⟩
      · exact ⟨_, _, e⟩
    clear hfm
    obtain ⟨ca, cc, rfl⟩ := hv
    obtain ⟨xl, hxl⟩ : ∃ xl, xs.length = xl := ⟨_, rfl⟩
    have HXL := Lib.hid hxl
    rw [hxl] at hr HI
    clear hxl
    gi_wp2
    refine sp_leaves (ms := [D]) (r := .slice ca xl cc) (by intro W; simp [results, Tryz.results66, go_sem]) HI.out (fun E hE => ?_) (by simp) (fun E hE => ?_) (fun W h => ⟨ca, cc, by rw [← HXS.out, List.length_map, HXL.out], by rw [← HXS.out]; exact (OwnF.fs h.own fun z hz => (h.mem z hz).1).2, h.bw⟩)
    · obtain rfl : E = D := by simpa using hE
      exact HTD.out
    · obtain rfl : E = D := by simpa using hE
      exact HK.out
  case stop =>
    rintro D c pre C T V hD h
    exact h.elim
set_option maxRecDepth 100000 in
set_option maxHeartbeats 800000 in
theorem collectF_any {gf : Nat} {lb : Array Value} (eg : ∀ args w, (callFunc gf args).run Tryz.prog w = .ok (.enter gf args) w) {Z : List (List Int × List (Int × Int))} {need : Blk} {w wq : World} (hseq : SeqM Tryz.prog gf lb encF MemF ownF keyF Z need wq) (hb : Below wq.heap.size wq w) (hneed : ∀ b, need b → b < w.heap.size) (hZ : Z.length ≤ 10000) :
    Calls Tryz.prog 35 #[.func (.func gf) #[] lb] w fun e w' => ∃ ca cc, e = .returned (.slice ca Z.length cc) ∧ Fs w' ca Z ∧ Below w.heap.size w w' := by
  have HC := Lib.hid (callsIn_wide.1 (appendF_in eg hseq hb hneed hZ))
  clear hseq hb hneed hZ
  go_enter Tryz.func35, Tryz.ntmps35
  go_wp2_with (go_at_call 66; refine HC.out.mono ?_; rintro e w1 ⟨ca, cc, rfl, hms, hb⟩; have HM := Lib.hid hms; have HB := Lib.hid hb; clear hms hb)
  go_ret
  exact ⟨ca, cc, rfl, HM.out, HB.out⟩
theorem boxes4 (w1 : World) (u v : Value) (k : Int) (f : Value) (t1 t3 t4 t5 : TypeId) : let V := (((w1.alloc (.cells #[u, v] t1)).alloc (.cells #[u, v] t3)).alloc (.cells #[.int .i64 k] t4)).alloc (.cells #[f] t5)
    V.heap.size = w1.heap.size + 1 + 3 ∧ Below w1.heap.size w1 V ∧ V.cell? ⟨w1.heap.size + 1, 0, none⟩ = some u ∧ V.cell? ⟨w1.heap.size + 1, 1, none⟩ = some v ∧ V.cell? ⟨w1.heap.size + 1 + 1, 0, none⟩ = some (.int .i64 k) ∧ V.cell? ⟨w1.heap.size + 1 + 1 + 1, 0, none⟩ = some f := by
  obtain ⟨A, hA⟩ : ∃ A, w1.alloc (.cells #[u, v] t1) = A := ⟨_, rfl⟩
  obtain ⟨C, hC⟩ : ∃ C, A.alloc (.cells #[u, v] t3) = C := ⟨_, rfl⟩
  obtain ⟨D, hD⟩ : ∃ D, C.alloc (.cells #[.int .i64 k] t4) = D := ⟨_, rfl⟩
  obtain ⟨E, hE⟩ : ∃ E, D.alloc (.cells #[f] t5) = E := ⟨_, rfl⟩
  intro V
  have hV : V = E := by show (((w1.alloc (.cells #[u, v] t1)).alloc _).alloc _).alloc _ = E; rw [hA, hC, hD, hE]
  have sA : A.heap.size = w1.heap.size + 1 := by rw [← hA]; exact World.size_alloc _ _
  have sC : C.heap.size = w1.heap.size + 1 + 1 := by rw [← hC, World.size_alloc, sA]
  have sD : D.heap.size = w1.heap.size + 1 + 1 + 1 := by rw [← hD, World.size_alloc, sC]
  have sE : E.heap.size = w1.heap.size + 1 + 3 := by rw [← hE, World.size_alloc, sD]
  have bA : Below w1.heap.size w1 A := by rw [← hA]; exact (Below.refl _ _).alloc (Nat.le_refl _) _
  have bC : Below A.heap.size A C := by rw [← hC]; exact (Below.refl _ _).alloc (Nat.le_refl _) _
  have bD : Below C.heap.size C D := by rw [← hD]; exact (Below.refl _ _).alloc (Nat.le_refl _) _
  have bE : Below D.heap.size D E := by rw [← hE]; exact (Below.refl _ _).alloc (Nat.le_refl _) _
  have bCE : Below C.heap.size C E := bD.trans (bE.mono bD.size)
  have bAE : Below A.heap.size A E := bC.trans (bCE.mono bC.size)
  rw [hV]
  refine ⟨sE, bA.trans (bAE.mono bA.size), ?_, ?_, ?_, ?_⟩
  · rw [← sA]; exact (bCE.cell (p := ⟨A.heap.size, 0, none⟩) (by show A.heap.size < C.heap.size; omega)).trans (by rw [← hC]; exact alloc_cell _ _ _ _ _ rfl)
  · rw [← sA]; exact (bCE.cell (p := ⟨A.heap.size, 1, none⟩) (by show A.heap.size < C.heap.size; omega)).trans (by rw [← hC]; exact alloc_cell _ _ _ _ _ rfl)
  · rw [← sC]; exact (bE.cell (p := ⟨C.heap.size, 0, none⟩) (by show C.heap.size < D.heap.size; omega)).trans (by rw [← hD]; exact alloc_cell _ _ _ _ _ rfl)
  · rw [← sD, ← hE]; exact alloc_cell _ _ _ _ _ rfl
/-- The fits with at most k pixels are those of the first sizes. -/
theorem short_to {m : List (List Int)} {y : List Int} (k : Nat) : ∀ j, shortF k (fitsTo zB m y j) = fitsTo zB m y (min j (k + 1))
  | 0 => by simp [fitsTo, shortF]
  | j + 1 => by
    have e : shortF k (fitsTo zB m y (j + 1)) = shortF k (fitsTo zB m y j) ++ shortF k ((compl (colsM m) j 0).filterMap fun px => (fitO zB m y px).map fun vs => (px, vs)) := by
      rw [fitsTo_succ]; unfold shortF; rw [List.filter_append]
    rw [e, short_to k j, shortF_row]
    by_cases h : j ≤ k
    · rw [if_pos h, show min j (k + 1) = j by omega, show min (j + 1) (k + 1) = j + 1 by omega, fitsTo_succ]
    · rw [if_neg h, List.append_nil, show min j (k + 1) = k + 1 by omega, show min (j + 1) (k + 1) = k + 1 by omega]
theorem fits_ok {m : List (List Int)} {y : List Int} {kk : Nat} (hr : readE m y = 0) (hk : kk ≤ 10) : fitsKV m y kk = (fitsTo zB m y (min kk (rankM m) + 1), 0) := by
  have hb : rangeB (kk : Int) 0 10 = true := by simp [rangeB]; omega
  unfold fitsKV
  rw [if_pos hr, if_pos hb]
  unfold allFits
  rw [short_to, show min (min 10 (rankM m) + 1) (kk + 1) = min kk (rankM m) + 1 by omega]
theorem fits_no {m : List (List Int)} {y : List Int} {k : Int} (h : upE m y k ≠ 0) : fitsKV m y k = ([], upE m y k) := by
  unfold upE at h ⊢
  unfold fitsKV
  split
  · rename_i h1
    rw [if_pos h1] at h
    split
    · rename_i h2; rw [if_pos h2] at h; exact absurd rfl h
    · rfl
  · rfl
set_option maxRecDepth 1000000 in
set_option maxHeartbeats 1600000 in
theorem sfitsK_any (a : Option Addr) (m : List (List Int)) (cap : Nat) (ya : Option Addr) (y : List Int) (yc : Nat) (k : Int) (w : World) (hm : MOk m) (hly : y.length ≤ 1000) (hs : Ms w a m) (hy : Sl w ya y) :
    Calls Tryz.prog 11 #[.slice a m.length cap, .slice ya y.length yc, .int .i64 k] w (FsPost (fitsKV m y k) w) := by
  have h := Lib.hid (askUp_any a m cap ya y yc k w hm (by omega) hs hy)
  by_cases hu : upE m y k = 0
  · have hr : readE m y = 0 := by
      unfold upE at hu
      split at hu
      · assumption
      · exact hu
    have hk : 0 ≤ k ∧ k ≤ 10 := by
      unfold upE at hu
      rw [if_pos hr] at hu
      split at hu
      · rename_i h; simpa [rangeB] using h
      · cases hu
    obtain ⟨kk, rfl⟩ := Int.eq_ofNat_of_zero_le hk.1
    rw [fits_ok hr (by omega)]
    have HUP : Hid (Calls Tryz.prog 34 #[.slice a m.length cap, .slice ya y.length yc, .int .i64 kk] w fun e w' => e = .returned (.tuple #[.agg #[.slice a m.length cap, .slice ya y.length yc], .int .i64 0]) ∧ Below w.heap.size w w') := by
      have h := h.out
      rw [if_pos hu, hu] at h
      exact h
    have HV := Lib.hid (readE_ok hr).1
    have HZL : Hid ((fitsTo zB m y (min kk (rankM m) + 1)).length ≤ 10000) := by
      have := allFits_len HV.out y zB (min kk (rankM m) + 1) (by omega)
      show _ ≤ _
      omega
    obtain ⟨Z, hZ⟩ : ∃ Z, fitsTo zB m y (min kk (rankM m) + 1) = Z := ⟨_, rfl⟩
    have HZZ := Lib.hid hZ
    rw [hZ] at HZL ⊢
    have HS := Lib.hid hs
    have HY := Lib.hid hy
    have HLY := Lib.hid hly
    have HKK : Hid (kk ≤ 10) := by show _ ≤ _; omega
    obtain ⟨ml, hml⟩ : ∃ ml, m.length = ml := ⟨_, rfl⟩
    obtain ⟨yl, hyl⟩ : ∃ yl, y.length = yl := ⟨_, rfl⟩
    have HML := Lib.hid hml
    have HYL := Lib.hid hyl
    rw [hml, hyl] at HUP
    rw [hml, hyl]
    clear h hu hr hk hm hs hy hly hZ hml hyl
    go_enter Tryz.func11, Tryz.ntmps11
    go_wp2_with (first
      | (go_at_call 34; refine HUP.out.mono ?_; rintro e w1 ⟨rfl, hb1⟩; have HB1 := Lib.hid hb1; clear hb1)
      | (go_at_call 36; refine (sfits_any _ _ kk 30 #[] _ ⟨_, _, _, rfl⟩ ⟨_, _, _, rfl⟩).mono ?_; rintro e w3 ⟨rfl, rfl⟩
         obtain ⟨k1, k2, k5, k6, k7, k8⟩ := boxes4 w1 (.slice a ml cap) (.slice ya yl yc) kk (.func (.func 30) #[] #[]) 54 54 3 59
         have HK1 := Lib.hid k1; have HK2 := Lib.hid k2; have HK5 := Lib.hid k5; have HK6 := Lib.hid k6; have HK7 := Lib.hid k7; have HK8 := Lib.hid k8; clear k1 k2 k5 k6 k7 k8
         have hcc : ∀ V0, V0 = ((((w1.alloc (.cells #[.slice a ml cap, .slice ya yl yc] 54)).alloc (.cells #[.slice a ml cap, .slice ya yl yc] 54)).alloc (.cells #[.int .i64 kk] 3)).alloc (.cells #[.func (.func 30) #[] #[]] 59)) → Calls Tryz.prog 35 #[.func (.func 67) #[] #[.pointer (some ⟨w1.heap.size + 1, 0, none⟩), .pointer (some ⟨w1.heap.size + 1 + 1, 0, none⟩), .pointer (some ⟨w1.heap.size + 1 + 1 + 1, 0, none⟩)]] V0 (fun e w' => ∃ ca cc, e = .returned (.slice ca Z.length cc) ∧ Fs w' ca Z ∧ Below V0.heap.size V0 w') := (by
           intro V0 hV0
           have k1 := HK1.out; have k2 := HK2.out; have k5 := HK5.out; have k6 := HK6.out; have k7 := HK7.out; have k8 := HK8.out
           rw [← hV0] at k1 k2 k5 k6 k7 k8
           have hbs : ∀ p ∈ ([(⟨w1.heap.size + 1, 0, none⟩, .slice a m.length cap), (⟨w1.heap.size + 1, 1, none⟩, .slice ya y.length yc), (⟨w1.heap.size + 1 + 1, 0, none⟩, .int .i64 (kk : Int)), (⟨w1.heap.size + 1 + 1 + 1, 0, none⟩, .func (.func 30) #[] #[])] : List (Addr × Value)), V0.cell? p.1 = some p.2 := fun p hp => by
             simp only [List.mem_cons, List.not_mem_nil, or_false] at hp
             rcases hp with rfl | rfl | rfl | rfl
             · rw [HML.out]; exact k5
             · rw [HYL.out]; exact k6
             · exact k7
             · exact k8
           have hsq := fits1_seq (wr := zB) (w0 := w) (w := V0) (kk := kk) (ma := a) (mc := cap) (ya := ya) (yc := yc) (Q := w1.heap.size + 1) (KB := w1.heap.size + 1 + 1) (WB := w1.heap.size + 1 + 1 + 1) (wg := 30) (wl := #[]) HV.out HLY.out (by have := HKK.out; omega) HS.out HY.out (HB1.out.trans (k2.mono HB1.out.size)) hbs List.mem_cons_self (List.mem_cons_of_mem _ List.mem_cons_self) (List.mem_cons_of_mem _ (List.mem_cons_of_mem _ List.mem_cons_self)) (List.mem_cons_of_mem _ (List.mem_cons_of_mem _ (List.mem_cons_of_mem _ List.mem_cons_self))) (fun W a vs cap _ h1 h2 => zfunc_any W a vs cap h1 h2)
           rw [HZZ.out] at hsq
           refine collectF_any (enters_of Tryz.func67 (by kernel_rfl) rfl) hsq (Below.refl _ _) ?_ HZL.out
           have s1 := HB1.out.size
           rintro b (h | ⟨p, hp, rfl⟩)
           · omega
           · simp only [List.mem_cons, List.not_mem_nil, or_false] at hp
             rcases hp with rfl | rfl | rfl | rfl <;> (dsimp only; omega))
         have HCC := Lib.hid hcc; clear hcc)
      | (go_at_call 35; refine (HCC.out _ rfl).mono ?_; rintro e w4 ⟨ca, cc, rfl, hfs, hb4⟩; have HFS := Lib.hid hfs; have HB4 := Lib.hid hb4; clear hfs hb4))
    go_ret2
    exact ⟨(HB1.out.trans (HK2.out.mono HB1.out.size)).trans (HB4.out.mono (by have := HK2.out.size; have := HB1.out.size; omega)), ca, cc, rfl, HFS.out⟩
  · rw [fits_no hu]
    obtain ⟨e0, he0⟩ : ∃ e0, upE m y k = e0 := ⟨_, rfl⟩
    have HUP : Hid (Calls Tryz.prog 34 #[.slice a m.length cap, .slice ya y.length yc, .int .i64 k] w fun e w' => e = .returned (.tuple #[.agg #[.slice none 0 0, .slice none 0 0], .int .i64 e0]) ∧ Below w.heap.size w w') := by
      have h := h.out
      rw [if_neg hu, he0] at h
      exact h
    rw [he0] at hu ⊢
    have y1 : (e0 == 0) = false := by simpa using hu
    have y2 : (e0 != 0) = true := by simpa using hu
    clear h he0 hu hm hs hy
    go_enter Tryz.func11, Tryz.ntmps11
    go_wp2_with (go_at_call 34; refine HUP.out.mono ?_; rintro e w1 ⟨rfl, hb1⟩; have HB1 : Hid (Below w.heap.size w w1) := hb1; clear hb1)
    go_ret2
    exact ⟨HB1.out.alloc HB1.out.size _, none, 0, rfl, fun k p hk => by simp at hk⟩
end Go.Proofs.YtfnomiingelfaaaGreat
/- Circuit and Spark of the answers: contracts. -/
namespace Go.Proofs.YtfnomiingelfaaaGreat
open Go.RowKit

set_option maxRecDepth 100000 in
set_option maxHeartbeats 800000 in
theorem rcircuits_no (a : Option Addr) (m : List (List Int)) (cap : Nat) (w : World) (hv : validM m = false) (hm : MOk m) (hs : Ms w a m) :
    Calls Tryz.prog 84 #[.slice a m.length cap] w fun e w' => e = .returned (.tuple #[.slice none 0 0, .int .i64 1]) ∧ w = w' := by
  have HVA : Hid (Calls Tryz.prog 48 #[.slice a m.length cap] w fun e w' => e = .returned (.bool false) ∧ w = w') := by rw [← hv]; exact rvalid_any a m cap w hm hs
  clear hv hm hs
  go_enter Tryz.func84, Tryz.ntmps84
  go_wp2_with (go_at_call 48; refine HVA.out.mono ?_; rintro e w1 ⟨rfl, rfl⟩)
  go_ret2
  exact ⟨rfl, rfl⟩
set_option maxRecDepth 100000 in
set_option maxHeartbeats 800000 in
theorem rcircuit_any (a : Option Addr) (m : List (List Int)) (cap : Nat) (w : World) (hm : MOk m) (hs : Ms w a m) : Calls Tryz.prog 52 #[.slice a m.length cap] w (LPost (circuitV m) w) := by
  cases hv : validM m with
  | false =>
    have HC := Lib.hid (rcircuits_no a m cap w hv hm hs)
    have HE : Hid (circuitV m = ([], 1)) := by show _ = _; unfold circuitV; rw [hv]; rfl
    clear hv hm hs
    go_enter Tryz.func52, Tryz.ntmps52
    go_wp2_with (go_at_call 84; refine HC.out.mono ?_; rintro e w1 ⟨rfl, rfl⟩)
    go_ret2
    exact LPost.err 1 HE.out (Below.refl _ _)
  | true =>
    have h0 := rcircuits_any a m cap w hv hm hs
    rw [circs_same hv] at h0
    have HC := Lib.hid h0
    have HE : Hid (circuitV m = match circsAll m with | [] => ([], 8) | h :: _ => (h, 0)) := by show _ = _; unfold circuitV; rw [if_pos hv]; cases circsAll m <;> rfl
    obtain ⟨L, hL⟩ : ∃ L, circsAll m = L := ⟨_, rfl⟩
    rw [hL] at HC HE
    clear hv hm hs h0 hL
    cases L with
    | nil =>
      go_enter Tryz.func52, Tryz.ntmps52
      go_wp2_with (go_at_call 84; refine HC.out.mono ?_; rintro e w1 ⟨ca, cc, rfl, _, hb⟩; have HB := Lib.hid hb; clear hb)
      go_ret2
      exact LPost.err 8 HE.out HB.out
    | cons h t =>
      obtain ⟨n, hn⟩ : ∃ n, (h :: t).length = n := ⟨_, rfl⟩
      have hn1 : (0 : Int) < (n : Int) := by have : n = t.length + 1 := by rw [← hn]; rfl
                                             omega
      have hn2 : ((n : Int) == 0) = false := by simp; omega
      rw [hn] at HC
      have HN := Lib.hid hn
      clear hn
      go_enter Tryz.func52, Tryz.ntmps52
      go_wp2_with fail
      refine HC.out.mono ?_
      rintro e w1 ⟨ca, cc, rfl, hms, hb⟩
      have HB := Lib.hid hb
      obtain ⟨b, o, ah, ch, rfl, hc, hsl⟩ := hms 0 (by rw [HN.out]; omega)
      have hc : w1.cell? ⟨b, o, none⟩ = some (.slice ah h.length ch) := hc
      have hsl : Sl w1 ah h := hsl
      have HSL := Lib.hid hsl
      clear hb hms hsl
      go_wp2
      go_ret2
      exact ⟨HB.out, ah, ch, by rw [HE.out]; rfl, by rw [HE.out]; exact HSL.out⟩
set_option maxRecDepth 100000 in
set_option maxHeartbeats 800000 in
theorem rspark_any (a : Option Addr) (m : List (List Int)) (cap : Nat) (w : World) (hm : MOk m) (hs : Ms w a m) :
    Calls Tryz.prog 23 #[.slice a m.length cap] w fun e w' => e = .returned (.tuple #[.int .i64 (sparkV m).1, .int .i64 (sparkV m).2]) ∧ Below w.heap.size w w' := by
  have HCI : Hid (Calls Tryz.prog 52 #[.slice a m.length cap] w (LPost (circuitV m) w)) := rcircuit_any a m cap w hm hs
  have HL := Lib.hid (circuitV_len (m := m))
  have HSP : Hid (sparkV m = if (circuitV m).2 = 0 then (nzTo (circuitV m).1 (circuitV m).1.length, 0) else (0, (circuitV m).2)) := rfl
  clear hm hs
  obtain ⟨⟨h, e0⟩, hr⟩ : ∃ r, circuitV m = r := ⟨_, rfl⟩
  rw [hr] at HCI HL HSP
  dsimp only at HL HSP
  clear hr
  by_cases he : e0 = 0
  · subst he
    rw [if_pos rfl] at HSP
    rw [HSP.out]
    dsimp only
    clear HSP
    go_enter Tryz.func23, Tryz.ntmps23
    go_wp2_with (go_at_call 52; refine HCI.out.mono ?_; rintro e w1 ⟨hb1, ah, ch, rfl, hsl⟩; dsimp only at hsl ⊢; have HB := Lib.hid hb1; have HS := Lib.hid hsl; clear hb1 hsl)
    go_loopw [6, 19] (fun v i wr => ∃ k : Nat, k ≤ h.length ∧ i = .int .i64 k ∧ v = .int .i64 (nzTo h k) ∧ wr = w1) (fun _ i _ => h.length - (intOf i).toNat)
    case atStart => exact ⟨0, Nat.zero_le _, rfl, rfl, rfl⟩
    case round =>
      obtain ⟨k, hk, rfl, rfl, rfl⟩ := hrel
      have hl := HL.out
      by_cases hlt : k < h.length
      · obtain ⟨b, o, x, rfl, hc, hx⟩ := HS.out.at hlt
        have hgx := gt_some' hx.out
        have hin := nzTo_in h k
        by_cases h0 : x = 0
        · subst h0
          have HT : Hid (nzTo h (k + 1) = nzTo h k) := by show _ = _; rw [nzTo, if_pos hgx]
          clear hgx
          go_wp2
          go_roundw
          case rel => exact ⟨k + 1, by omega, by go_num, by rw [HT.out], by first | trivial | rfl⟩
          case measure => simp [intOf]; omega
        · have HT : Hid (nzTo h (k + 1) = nzTo h k + 1) := by show _ = _; rw [nzTo, if_neg (by rw [hgx]; exact h0)]
          clear hgx
          have hne : (x != 0) = true := by simpa using h0
          obtain ⟨n, hn⟩ : ∃ n, nzTo h k = n := ⟨_, rfl⟩
          rw [hn] at hin HT ⊢
          clear hn
          go_wp2
          go_roundw
          case rel => exact ⟨k + 1, by omega, by go_num, by rw [HT.out], by first | trivial | rfl⟩
          case measure => simp [intOf]; omega
      · obtain rfl : k = h.length := by omega
        go_wp2
        go_ret2
        exact ⟨rfl, HB.out⟩
  · rw [if_neg he] at HSP
    rw [HSP.out]
    dsimp only
    have hne : (e0 != 0) = true := by simpa using he
    clear HSP he
    go_enter Tryz.func23, Tryz.ntmps23
    go_wp2_with (go_at_call 52; refine HCI.out.mono ?_; rintro e w1 ⟨hb1, ah, ch, rfl, hsl⟩; dsimp only; have HB := Lib.hid hb1; clear hb1 hsl)
    go_ret2
    exact ⟨rfl, HB.out⟩
end Go.Proofs.YtfnomiingelfaaaGreat
/- Light of the statements, whatever it says; Circuits of the answers, whole. -/
namespace Go.Proofs.YtfnomiingelfaaaGreat
open Go.RowKit

set_option maxRecDepth 100000 in
set_option maxHeartbeats 800000 in
theorem light_any (a : Option Addr) (m : List (List Int)) (cap : Nat) (w : World) (hl : m.length ≤ 9223372036854775807) (hs : Ms w a m) :
    Calls Tryz.prog 6 #[.slice a m.length cap] w fun e w' => (∃ b, e = .returned (.bool b)) ∧ w = w' := by
  have HS := Lib.hid hs; clear hs
  go_enter Tryz.func6, Tryz.ntmps6
  go_wp2
  go_loopw [3, 8] (fun v i wr => ∃ k : Nat, k ≤ m.length ∧ i = .int .i64 k ∧ (∃ n, v = .int .i64 n) ∧ wr = w) (fun _ i _ => m.length - (intOf i).toNat)
  case atStart => exact ⟨0, Nat.zero_le _, rfl, ⟨_, rfl⟩, rfl⟩
  case round =>
    obtain ⟨k, hk, rfl, ⟨n, rfl⟩, rfl⟩ := hrel
    by_cases hlt : k < m.length
    · obtain ⟨b, o, ai, r, ci, rfl, hc, _, hr⟩ := HS.out.at hlt
      clear hr
      obtain ⟨rl, hrl⟩ : ∃ rl, r.length = rl := ⟨_, rfl⟩
      rw [hrl] at hc
      clear hrl
      by_cases h7 : (7 : Int) < rl
      · by_cases h10 : (rl : Int) ≤ 10
        · go_wp2
          go_ret
          exact ⟨⟨_, rfl⟩, rfl⟩
        · go_wp2
          go_roundw
          case rel => exact ⟨k + 1, by omega, by go_num, ⟨_, rfl⟩, by first | trivial | rfl⟩
          case measure => simp [intOf]; omega
      · go_wp2
        go_roundw
        case rel => exact ⟨k + 1, by omega, by go_num, ⟨_, rfl⟩, by first | trivial | rfl⟩
        case measure => simp [intOf]; omega
    · obtain rfl : k = m.length := by omega
      go_wp2
      go_ret
      exact ⟨⟨_, rfl⟩, rfl⟩
theorem rcircuitsV_any (a : Option Addr) (m : List (List Int)) (cap : Nat) (w : World) (hm : MOk m) (hs : Ms w a m) :
    Calls Tryz.prog 84 #[.slice a m.length cap] w fun e w' => ∃ ca cc, e = .returned (.tuple #[.slice ca (circsV m).1.length cc, .int .i64 (circsV m).2]) ∧ Ms w' ca (circsV m).1 ∧ Below w.heap.size w w' := by
  cases hv : validM m with
  | false =>
    have e0 : circsV m = ([], 1) := by unfold circsV; rw [hv]; rfl
    rw [e0]
    refine (rcircuits_no a m cap w hv hm hs).mono ?_
    rintro e w' ⟨rfl, rfl⟩
    exact ⟨none, 0, rfl, fun k hk => by simp at hk, Below.refl _ _⟩
  | true =>
    have e0 : circsV m = (circsAll m, 0) := by unfold circsV; rw [if_pos hv]
    rw [e0]
    have h := rcircuits_any a m cap w hv hm hs
    rw [circs_same hv] at h
    exact h
theorem circsV_bd (m : List (List Int)) : (circsV m).1.length ≤ 10000 ∧ ∀ r ∈ (circsV m).1, r.length ≤ 10 := by
  cases hv : validM m with
  | false =>
    have e0 : circsV m = ([], 1) := by unfold circsV; rw [hv]; rfl
    rw [e0]; exact ⟨by simp, fun r hr => by cases hr⟩
  | true =>
    have e0 : circsV m = (circsAll m, 0) := by unfold circsV; rw [if_pos hv]
    rw [e0]
    exact ⟨circsAll_small hv, fun r hr => by rw [circsAll_len hr]; exact (validM_of hv).2.2.2.1⟩
end Go.Proofs.YtfnomiingelfaaaGreat
/- How a slice of fractions that came in is opened. Speaks of no function. -/
namespace Go.Proofs.YtfnomiingelfaaaGreat
open Go.ChangeShapes Go.WideShapes Go.ChangeAt Go.RowKit Go.Joins Go.Deep

def InRatios (w : World) (v : Value) (a : Option Addr) (ps : List (Int × Int)) (cap : Nat) : Prop :=
  v = .slice a ps.length cap ∧ Rr w a ps ∧ ps.length ≤ 9223372036854775807
section
variable {H : Type} {enc : TypeId × Value → H} {P : Program} {w : World} {base : Nat} {held : Bool}
theorem in_ratios {t e : TypeId} {f0 f1 : Field} {fuel : Nat} {v : Value} {x : DataW H × List MemPlace} (ht : P.underlying t = some (.slice e)) (he : P.underlying e = some (.struct #[f0, f1])) (hone : oneCellFields P #[f0, f1] = true) (ce : P.cellsOf e = 2)
    (h0 : P.underlying f0.type = some (.int .i64)) (h1 : P.underlying f1.type = some (.int .i64))
    (h : DataW.trod enc P w base (fun _ => true) held fuel t [v] = some x) : ∃ a ps cap, InRatios w v a ps cap := by
  rcases DataW.trod_slice ht h with ⟨hcs, _⟩ | ⟨ad, len, cap, elems, rest, n, _, hcs, _, _, hl, hm, hlen, hel, _, _⟩
  · simp only [List.cons.injEq, and_true] at hcs
    exact ⟨none, [], 0, hcs, fun j p hj => by simp at hj, by simp⟩
  · simp only [List.cons.injEq, and_true] at hcs
    obtain ⟨o0, k0⟩ := hone_of hone 0 f0 rfl
    obtain ⟨o1, k1⟩ := hone_of hone 1 f1 rfl
    have each : ∀ i, i < len → ∃ p : Int × Int, w.cell? ((ad.add (i * 2)).add 0) = some (.int .i64 p.1) ∧ w.cell? ((ad.add (i * 2)).add 1) = some (.int .i64 p.2) := by
      intro i hi
      have hb := hel i hi
      obtain ⟨y, hy⟩ : ∃ y, elems[i]? = some y := ⟨elems[i]'(by omega), by simp [hlen, hi]⟩
      rw [hy, ce, Option.bind_eq_some_iff] at hb
      obtain ⟨cs, hc, ht2⟩ := hb
      obtain ⟨_, hcl, hce⟩ := World.cells?_some hc
      obtain ⟨y0, y1, m, _, _, g0, g1⟩ := trod_struct2 he ht2
      match cs, hcl with
      | [c0, c1], _ =>
        simp [o0, k0] at g0
        simp [o1, k1] at g1
        obtain ⟨p, rfl, _⟩ := in_int h0 g0
        obtain ⟨q, rfl, _⟩ := in_int h1 g1
        exact ⟨(p, q), by simpa using hce 0 (by simp), by simpa using hce 1 (by simp)⟩
    obtain ⟨f, hf⟩ : ∃ f : Nat → Int × Int, ∀ i, i < len → w.cell? ((ad.add (i * 2)).add 0) = some (.int .i64 (f i).1) ∧ w.cell? ((ad.add (i * 2)).add 1) = some (.int .i64 (f i).2) :=
      ⟨fun i => if hi : i < len then Classical.choose (each i hi) else (0, 0), fun i hi => by
        dsimp only
        rw [dif_pos hi]
        exact Classical.choose_spec (each i hi)⟩
    unfold maxLen at hm
    have hlen2 : ((List.range len).map f).length = len := by simp
    refine ⟨some ad, (List.range len).map f, cap, by rw [hlen2]; exact hcs, fun j p hj => ?_, by rw [hlen2]; omega⟩
    have hjl : j < len := by have := (List.getElem?_eq_some_iff.1 hj).1; simpa using this
    have hp : f j = p := by simpa [hjl] using hj
    obtain ⟨b, off, e0⟩ := addr_flat (w := w) (ad := ad) (v := .int .i64 (f 0).1) (by
      have := (hf 0 (by omega)).1
      have e : (ad.add (0 * 2)).add 0 = ad.add 0 := by unfold Addr.add; split <;> simp_all
      rw [e] at this; exact this)
    subst e0
    have h2 := hf j hjl
    rw [hp, flat_add, flat_add, flat_add, Nat.add_zero] at h2
    exact ⟨b, off, rfl, h2⟩
end
end Go.Proofs.YtfnomiingelfaaaGreat
/- SparseFits: the walk. -/
namespace Go.Proofs.YtfnomiingelfaaaGreat
open Go.RowKit Go.Shelf
set_option maxRecDepth 100000 in
theorem long42_any (b o : Nat) (a0 : Option Addr) (n0 c0 : Nat) (a1 : Option Addr) (n1 c1 cap : Nat) (w : World) (_h0 : n0 ≤ 9223372036854775807) (_h1 : n1 ≤ 9223372036854775807) (hc0 : w.cell? ⟨b, o, none⟩ = some (.slice a0 n0 c0)) (hc1 : w.cell? ⟨b, o + 1, none⟩ = some (.slice a1 n1 c1)) :
    Calls Tryz.prog 7 #[.slice (some ⟨b, o, none⟩) 2 cap] w fun e w' => ∃ q, e = .returned (.bool q) ∧ (q = false → n0 ≤ 100 ∧ n1 ≤ 100) ∧ w = w' := by
  go_enter Tryz.func7, Tryz.ntmps7
  go_wp2
  go_loopw [7] (fun i wr => ∃ k : Nat, k ≤ 2 ∧ i = .int .i64 k ∧ wr = w ∧ (1 ≤ k → n0 ≤ 100) ∧ (2 ≤ k → n1 ≤ 100)) (fun i _ => 2 - (intOf i).toNat)
  case atStart => exact ⟨0, by omega, rfl, rfl, fun h => by omega, fun h => by omega⟩
  case round =>
    obtain ⟨k, hk, rfl, rfl, q0, q1⟩ := hrel
    by_cases hlt : k < 2
    · have hcell : ∃ ak nk ck, wr.cell? ⟨b, o + k, none⟩ = some (.slice ak nk ck) ∧ (nk ≤ 100 → (1 ≤ k + 1 → n0 ≤ 100) ∧ (2 ≤ k + 1 → n1 ≤ 100)) := by
        match k, hlt with
        | 0, _ => exact ⟨a0, n0, c0, hc0, fun h => ⟨fun _ => h, fun h2 => by omega⟩⟩
        | 1, _ => exact ⟨a1, n1, c1, hc1, fun h => ⟨fun _ => q0 (by omega), fun _ => h⟩⟩
      obtain ⟨ak, nk, ck, hck, hok⟩ := hcell
      have HOK := Lib.hid hok
      clear hok hc0 hc1
      by_cases h : nk > 100
      · have hk2 : (k : Int) < 2 := by omega
        go_wp2
        go_ret
        exact ⟨true, rfl, (fun h => absurd h (by decide)), rfl⟩
      · have hk2 : (k : Int) < 2 := by omega
        go_wp2
        go_roundw
        case rel => exact ⟨k + 1, by omega, by go_num, by first | trivial | rfl, (HOK.out (by omega)).1, (HOK.out (by omega)).2⟩
        case measure => simp [intOf]; omega
    · obtain rfl : k = 2 := by omega
      go_wp2
      go_ret
      exact ⟨_, rfl, fun _ => ⟨q0 (by omega), q1 (by omega)⟩, rfl⟩
theorem bel_trn {w V V' : World} (hb : Below w.heap.size w V) (h : Below V.heap.size V V') : Below w.heap.size w V' := hb.trans (h.mono hb.size)
theorem rfitsF_any (ma : Option Addr) (m : List (List Int)) (mc : Nat) (ya : Option Addr) (y : List Int) (yc : Nat) (kk : Int) (w : World) (hm : MOk m) (hly : y.length ≤ 1000) (hs : Ms w ma m) (hy : Sl w ya y) :
    Calls Tryz.prog 12 #[.slice ma m.length mc, .slice ya y.length yc, .int .i64 kk] w (FsPost (fitsKV m y kk) w) := by
  refine (rfits_any ma m mc ya y yc kk w hm hly hs hy).mono ?_
  rintro e w' ⟨h1, base, v, xs, he, hx, hr⟩
  obtain ⟨a, c, rfl, _⟩ := hr.at
  exact ⟨h1, a, c, by rw [he, ← hx, List.length_map], by rw [← hx]; exact fs_of hr⟩
theorem fitsKV_short (m : List (List Int)) (y : List Int) (k : Int) : (fitsKV m y k).1.length ≤ 3300 ∧ ∀ q ∈ (fitsKV m y k).1, q.1.length ≤ 1000 ∧ q.2.length ≤ 1000 := by
  unfold fitsKV
  split
  · rename_i h1
    split
    · refine ⟨Nat.le_trans (List.length_filter_le _ _) ?_, fun q hq => ?_⟩
      · have := allFits_len (readE_ok h1).1 y zB (min 10 (rankM m) + 1) (by omega)
        show (fitsTo _ _ _ _).length ≤ _
        omega
      · have h := (List.mem_filter.1 hq).1
        unfold allFits fitsTo at h
        obtain ⟨s, hs, hq⟩ := List.mem_flatMap.1 h
        obtain ⟨px, hpx, e⟩ := List.mem_filterMap.1 hq
        obtain ⟨vs, hvs, rfl⟩ := Option.map_eq_some_iff.1 e
        have h1 := (compl_mem hpx).1
        have h2 := List.mem_range.1 hs
        have h3 := fitO_len hvs
        exact ⟨by show px.length ≤ 1000; omega, by show vs.length ≤ 1000; omega⟩
    · exact ⟨by simp, fun q hq => by cases hq⟩
  · exact ⟨by simp, fun q hq => by cases hq⟩
end Go.Proofs.YtfnomiingelfaaaGreat
namespace Go.Proofs.YtfnomiingelfaaaGreat.sparseFits
open Go.RowKit Go.Shelf
set_option maxRecDepth 1000000 in
set_option maxHeartbeats 8000000 in
theorem walk (b0 : Option Addr) (m0 : List (List Int)) (c0 : Nat) (b1 : Option Addr) (xs1 : List Int) (c1 : Nat) (b2 : Option Addr) (xs2 : List Int) (c2 : Nat) (vb2 : Option Addr) (ps2 : List (Int × Int)) (vc2 : Nat) (m3 : Int) (w : World) (h0 : Ms w b0 m0) (r0 : MOk m0) (h1 : Sl w b1 xs1) (l1 : xs1.length ≤ 9223372036854775807) (_r1 : ∀ x ∈ xs1, I64 x) (h2 : Sl w b2 xs2) (l2 : xs2.length ≤ 9223372036854775807) (_r2 : ∀ x ∈ xs2, I64 x) (hv2 : Rr w vb2 ps2) (_lv2 : ps2.length ≤ 9223372036854775807) (_r3 : I64 m3) :
    Calls Tryz.prog 3 #[.slice b0 m0.length c0, .slice b1 xs1.length c1, .agg #[.slice b2 xs2.length c2, .slice vb2 ps2.length vc2], .int .i64 m3] w fun e w' => e = .returned (.bool true) ∧ Below w.heap.size w w' := by
  obtain ⟨V, hV⟩ : ∃ V, w.alloc (.cells #[.slice b2 xs2.length c2, .slice vb2 ps2.length vc2] 27) = V := ⟨_, rfl⟩
  have hbv : Below w.heap.size w V := by rw [← hV]; exact (Below.refl _ _).alloc (Nat.le_refl _) _
  have HBV := Lib.hid hbv
  have HVW := Lib.hid (box2 hV)
  obtain ⟨t0, t1, t2, t3⟩ := HVW.out V (Below.refl _ _)
  have HLI : Hid (Calls Tryz.prog 6 #[.slice b0 m0.length c0] V fun e w' => (∃ b, e = .returned (.bool b)) ∧ V = w') := light_any b0 m0 c0 V r0.1 (h0.below hbv)
  obtain ⟨wl, hwl⟩ : ∃ wl, V.alloc (.cells #[.slice b1 xs1.length c1, .slice b2 xs2.length c2] 24) = wl := ⟨_, rfl⟩
  have hbl : Below V.heap.size V wl := by rw [← hwl]; exact (Below.refl _ _).alloc (Nat.le_refl _) _
  obtain ⟨v0, v1, _, _⟩ := HVW.out wl hbl
  have HLN : Hid (Calls Tryz.prog 7 #[.slice (some ⟨V.heap.size, 0, none⟩) 2 2] wl fun e w' => w' = wl ∧ (e = .returned (.bool true) ∨ e = .returned (.bool false) ∧ Hid (xs1.length ≤ 100 ∧ xs2.length ≤ 100))) := by
    refine (long42_any V.heap.size 0 b1 xs1.length c1 b2 xs2.length c2 2 wl l1 l2 (by rw [← hwl]; exact alloc_cell V _ _ _ _ rfl) (by rw [← hwl]; exact alloc_cell V _ _ _ _ rfl)).mono ?_
    rintro e w' ⟨q, k1, k2, k3⟩
    refine ⟨k3.symm, ?_⟩
    cases q
    · exact .inr ⟨k1, k2 rfl⟩
    · exact .inl k1
  have HB1 : Hid (Below w.heap.size w wl) := bel_trn hbv hbl
  have HBL := Lib.hid hbl
  have HC1 : Hid (xs1.length ≤ 100 ∧ xs2.length ≤ 100 → ∀ V, Below w.heap.size w V → Calls Tryz.prog 9 #[.slice b0 m0.length c0, .slice b1 xs1.length c1, .slice b2 xs2.length c2] V fun e w' => e = .returned (.tuple #[.bool (carryV m0 xs1 xs2).1, .int .i64 (carryV m0 xs1 xs2).2]) ∧ Below V.heap.size V w') := fun hl V hb => scarries_any b0 m0 c0 b1 xs1 c1 b2 xs2 c2 V r0 (by omega) (by omega) (h0.below hb) (h2.below hb) (h1.below hb)
  have HC2 : Hid (xs1.length ≤ 100 ∧ xs2.length ≤ 100 → ∀ V, Below w.heap.size w V → Calls Tryz.prog 10 #[.slice b0 m0.length c0, .slice b1 xs1.length c1, .slice b2 xs2.length c2] V fun e w' => e = .returned (.tuple #[.bool (carryV m0 xs1 xs2).1, .int .i64 (carryV m0 xs1 xs2).2]) ∧ Below V.heap.size V w') := fun hl V hb => rcarries_any b0 m0 c0 b1 xs1 c1 b2 xs2 c2 V r0 (by omega) (by omega) (h0.below hb) (h2.below hb) (h1.below hb)
  have HF1 : Hid (xs1.length ≤ 100 ∧ xs2.length ≤ 100 → ∀ V, Below w.heap.size w V → Calls Tryz.prog 11 #[.slice b0 m0.length c0, .slice b1 xs1.length c1, .int .i64 m3] V (FsPost (fitsKV m0 xs1 m3) V)) := fun hl V hb => sfitsK_any b0 m0 c0 b1 xs1 c1 m3 V r0 (by omega) (h0.below hb) (h1.below hb)
  have HF2 : Hid (xs1.length ≤ 100 ∧ xs2.length ≤ 100 → ∀ V, Below w.heap.size w V → Calls Tryz.prog 12 #[.slice b0 m0.length c0, .slice b1 xs1.length c1, .int .i64 m3] V (FsPost (fitsKV m0 xs1 m3) V)) := fun hl V hb => rfitsF_any b0 m0 c0 b1 xs1 c1 m3 V r0 (by omega) (h0.below hb) (h1.below hb)
  have HI1 : Hid ((xs1.length ≤ 100 ∧ xs2.length ≤ 100) → ps2.length ≤ 100 → ∀ V, Below w.heap.size w V → Calls Tryz.prog 13 #[.slice b0 m0.length c0, .slice b1 xs1.length c1, .agg #[.slice b2 xs2.length c2, .slice vb2 ps2.length vc2]] V fun e w' => e = .returned (.bool (isFitB m0 xs1 xs2 ps2)) ∧ Below V.heap.size V w') := fun hl hp V hb => sisFit_any b0 m0 c0 b1 xs1 c1 b2 xs2 c2 vb2 ps2 vc2 V r0 (by omega) (by omega) (h0.below hb) (h2.below hb) (h1.below hb) (by omega) (hv2.below hb)
  have HI2 : Hid ((xs1.length ≤ 100 ∧ xs2.length ≤ 100) → ps2.length ≤ 100 → ∀ V, Below w.heap.size w V → Calls Tryz.prog 14 #[.slice b0 m0.length c0, .slice b1 xs1.length c1, .agg #[.slice b2 xs2.length c2, .slice vb2 ps2.length vc2]] V fun e w' => e = .returned (.bool (isFitB m0 xs1 xs2 ps2)) ∧ Below V.heap.size V w') := fun hl hp V hb => risFit_any b0 m0 c0 b1 xs1 c1 b2 xs2 c2 vb2 ps2 vc2 V r0 (by omega) (by omega) (h0.below hb) (h2.below hb) (h1.below hb) (by omega) (hv2.below hb)
  obtain ⟨hs1, hs2⟩ := fitsKV_short m0 xs1 m3
  have HSF : Hid (∀ V a ca b cb, Fs V a (fitsKV m0 xs1 m3).1 → Fs V b (fitsKV m0 xs1 m3).1 → Calls Tryz.prog 15 #[.slice a (fitsKV m0 xs1 m3).1.length ca, .slice b (fitsKV m0 xs1 m3).1.length cb] V fun e w' => e = .returned (.bool true) ∧ Below V.heap.size V w') := fun V a ca b cb k1 k2 => sameFits_any a _ ca b cb V (by omega) hs2 k1 k2
  obtain ⟨⟨cb, ce⟩, hcv⟩ : ∃ r, carryV m0 xs1 xs2 = r := ⟨_, rfl⟩
  rw [hcv] at HC1 HC2
  obtain ⟨ib, hib⟩ : ∃ r, isFitB m0 xs1 xs2 ps2 = r := ⟨_, rfl⟩
  rw [hib] at HI1 HI2
  obtain ⟨⟨L, fe⟩, hfv⟩ : ∃ r, fitsKV m0 xs1 m3 = r := ⟨_, rfl⟩
  rw [hfv] at HF1 HF2 HSF
  unfold FsPost at HF1 HF2
  dsimp only at HF1 HF2 HSF
  obtain ⟨ll, hll⟩ : ∃ ll, L.length = ll := ⟨_, rfl⟩
  rw [hll] at HF1 HF2 HSF
  obtain ⟨pn, hpn⟩ : ∃ pn, ps2.length = pn := ⟨_, rfl⟩
  rw [hpn] at HI1 HI2 HVW t1 v1 hV ⊢
  obtain ⟨ml, hml⟩ : ∃ ml, m0.length = ml := ⟨_, rfl⟩
  rw [hml] at HLI HC1 HC2 HF1 HF2 HI1 HI2 ⊢
  clear h0 h1 h2 hv2 r0 hs1 hs2 hcv hib hfv hll hpn hml _r1 _r2 _r3 _lv2 hbv hbl
  by_cases hp : 100 < pn
  · have hpI : (100 : Int) < (pn : Int) := by omega
    clear hp
    go_enter Tryz.func3, Tryz.ntmps3
    go_wp2_with (first
      | (go_at_call 6; refine HLI.out.mono ?_; rintro e w0 ⟨⟨bb, rfl⟩, rfl⟩; cases bb)
      | (go_at_call 7; refine HLN.out.mono ?_; rintro e w1 ⟨rfl, rfl | ⟨rfl, HQ⟩⟩)
      | (go_at_call 8; refine (awake4_any _).mono ?_; rintro e w20 ⟨rfl, hb20⟩))
    all_goals go_ret
    all_goals first
      | exact ⟨rfl, bel_trn HB1.out hb20⟩
      | exact ⟨rfl, bel_trn HBV.out hb20⟩
  · have hpI : ¬ (100 : Int) < (pn : Int) := by omega
    have HPN : Hid (pn ≤ 100) := by show _ ≤ _; omega
    clear hp
    go_enter Tryz.func3, Tryz.ntmps3
    go_wp2_with (first
      | (go_at_call 6; refine HLI.out.mono ?_; rintro e w0 ⟨⟨bb, rfl⟩, rfl⟩; cases bb)
      | (go_at_call 7; refine HLN.out.mono ?_; rintro e w1 ⟨rfl, rfl | ⟨rfl, HQ⟩⟩)
      | (go_at_call 8; refine (awake4_any _).mono ?_; rintro e w20 ⟨rfl, hb20⟩)
      | (go_at_call 9; refine (HC1.out HQ.out _ HB1.out).mono ?_; rintro e w2 ⟨rfl, hb2⟩; have HV2 : Hid (Below V.heap.size V w2) := bel_trn HBL.out hb2; obtain ⟨x0, x1, _, _⟩ := HVW.out w2 HV2.out; have HB2 : Hid (Below w.heap.size w w2) := bel_trn HB1.out hb2; clear hb2)
      | (go_at_call 10; refine (HC2.out HQ.out _ HB2.out).mono ?_; rintro e w3 ⟨rfl, hb3⟩; have HV3 : Hid (Below V.heap.size V w3) := bel_trn HV2.out hb3; have HB3 : Hid (Below w.heap.size w w3) := bel_trn HB2.out hb3; clear hb3)
      | (go_at_call 11; refine (HF1.out HQ.out _ HB3.out).mono ?_; rintro e w4 ⟨hb4, fa, fc, rfl, hf4⟩; have HV4 : Hid (Below V.heap.size V w4) := bel_trn HV3.out hb4; have HB4 : Hid (Below w.heap.size w w4) := bel_trn HB3.out hb4; have HFS := Lib.hid hf4; clear hb4 hf4)
      | (go_at_call 12; refine (HF2.out HQ.out _ HB4.out).mono ?_; rintro e w5 ⟨hb5, ga, gc, rfl, hf5⟩; have HV5 : Hid (Below V.heap.size V w5) := bel_trn HV4.out hb5; obtain ⟨y0, y1, _, _⟩ := HVW.out w5 HV5.out; have HB5 : Hid (Below w.heap.size w w5) := bel_trn HB4.out hb5; have HFS5 : Hid (Fs w5 fa L) := HFS.out.below hb5; have HGS := Lib.hid hf5; clear hb5 hf5))
    all_goals first
      | (go_ret
         first
           | exact ⟨rfl, bel_trn HB1.out hb20⟩
           | exact ⟨rfl, bel_trn HBV.out hb20⟩)
      | skip
    have hdr : Below w5.heap.size w5 w5.drew := ⟨rfl, rfl, rfl, Nat.le_refl _, fun _ _ => rfl⟩
    have HVD : Hid (Below V.heap.size V w5.drew) := bel_trn HV5.out hdr
    have HBD : Hid (Below w.heap.size w w5.drew) := bel_trn HB5.out hdr
    have HFSD : Hid (Fs w5.drew fa L) := HFS5.out.below hdr
    have HGSD : Hid (Fs w5.drew ga L) := HGS.out.below hdr
    clear hdr
    go_region_held_law (fun w' => w'.cell? ⟨w.heap.size, 0, none⟩ = some (.slice b2 xs2.length c2) ∧ w'.cell? ⟨w.heap.size, 1, none⟩ = some (.slice vb2 pn vc2)) (first | exact ⟨by assumption, by assumption⟩ | go_keep) (first
      | (go_at_call 13; refine (HI1.out HQ.out HPN.out _ HBD.out).mono ?_; rintro e w6 ⟨rfl, hb6⟩; have HV6 : Hid (Below V.heap.size V w6) := bel_trn HVD.out hb6; obtain ⟨z0, z1, _, _⟩ := HVW.out w6 HV6.out; have HB6 : Hid (Below w.heap.size w w6) := bel_trn HBD.out hb6; have HFS6 : Hid (Fs w6 fa L) := HFSD.out.below hb6; have HGS6 : Hid (Fs w6 ga L) := HGSD.out.below hb6; clear hb6)
      | (go_at_call 14; refine (HI2.out HQ.out HPN.out _ HB6.out).mono ?_; rintro e w7 ⟨rfl, hb7⟩; have HB7 : Hid (Below w.heap.size w w7) := bel_trn HB6.out hb7; have HFS7 : Hid (Fs w7 fa L) := HFS6.out.below hb7; have HGS7 : Hid (Fs w7 ga L) := HGS6.out.below hb7; have HV7 : Hid (Below V.heap.size V w7) := bel_trn HV6.out hb7; obtain ⟨q0, q1, _, _⟩ := HVW.out w7 HV7.out; clear hb7)
      | (go_at_call 15; refine (HSF.out _ _ _ _ _ HFS7.out HGS7.out).mono ?_; rintro e w8 ⟨rfl, hb8⟩; have HB8 : Hid (Below w.heap.size w w8) := bel_trn HB7.out hb8; have HV8 : Hid (Below V.heap.size V w8) := bel_trn HV7.out hb8; obtain ⟨s0, s1, _, _⟩ := HVW.out w8 HV8.out; clear hb8)
      | (go_at_call 8; refine (awake4_any _).mono ?_; rintro e w9 ⟨rfl, hb9⟩; obtain ⟨r0, r1, _, _⟩ := HVW.out w9 (bel_trn HV8.out hb9)))
    go_wp2
    go_ret
    exact ⟨rfl, bel_trn HB8.out hb9⟩
end Go.Proofs.YtfnomiingelfaaaGreat.sparseFits
