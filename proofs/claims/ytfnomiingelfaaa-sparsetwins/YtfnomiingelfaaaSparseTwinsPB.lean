/- Parts of the proof of SparseTwins: plain words, walks and contracts, each under its own heading. -/
import Derived.Test.YtfnomiingelfaaaSparseTwinsPA
import Derived.Deep.RegionLaw
import Derived.Laws.ResultCell
import Derived.Laws.NewBlocks
import Derived.BigQuiet
import Derived.Deep.QuietTactic
import Derived.RangeFuncFrom
import Derived.RangeFuncBox
import Derived.RangeFuncLeaves
import Derived.RangeFuncNested
import Derived.RangeFuncBound
import Derived.RangeFuncCalls
import Derived.Shelf.Abstract
import Derived.Shelf.RegionOpen
import Derived.OwnWalkIn
import Derived.TacticsInMore
import Derived.LoopNIn
import Derived.LoopIn
import Derived.Test.YtfnomiingelfaaaProg
/- One int appended to a slice of the call's own, told by what grows (for reduce). -/
namespace Go.Proofs.Ytfnomiingelfaaa
open Go.RowKit

theorem wpList_pushG0 {ops : Array Oper} {rest : List Oper} {o : Oper} {act : Act} {Q : Exit → Act → World → Prop} (hgd : o.guard = none) (s x : Operand)
    (ho : o.op = .call { callee := .builtin .append, args := #[s, x], argTypes := #[24, 24] }) (base : Nat) (v : Value) (zs : List Int) (y : Int) (V : World) (B : Nat) (t : TypeId)
    (hs : act.eval s = v) (hx : act.eval x = .slice (some ⟨B, 0, none⟩) 1 1) (hB : B = V.heap.size) (hown : OwnI V base v zs) (hl : zs.length ≤ 100000) (hbase : base ≤ V.heap.size)
    (h : ∀ g cap w', OwnI w' base (.slice (some ⟨g, 0, none⟩) (zs.length + 1) cap) (zs ++ [y]) → (v.ownBlock = some g ∨ V.heap.size ≤ g) → Below base V w' → (V.alloc (.cells #[.int .i64 y] t)).grownBy w' v.ownBlock → wpList Try.prog ops Q rest (act.put o.dst (.slice (some ⟨g, 0, none⟩) (zs.length + 1) cap)) w') : wpList Try.prog ops Q (o :: rest) act (V.alloc (.cells #[.int .i64 y] t)) := by
  obtain ⟨i0, hi, hz0, hz1, hz2⟩ := info_parts Try.infoInt
  subst hB
  have hb1 : Below V.heap.size V (V.alloc (.cells #[.int .i64 y] t)) := (Below.refl _ _).alloc (Nat.le_refl _) _
  have hown' := OwnI.below hown hb1
  refine wpList_append_lies _ hgd s x 24 ho base 3 i0 (.int .i64 0) 1 8 Try.underlying24 hi hz0 hz1 hz2 rfl (by decide) v zs.length (zs.map (Value.int .i64)) hs hown' ⟨V.heap.size, 0, none⟩ 1 1 [.int .i64 y] hx rfl ?_ ?_ (by decide) (by unfold maxLen; omega) (by omega) (by rw [World.size_alloc]; omega) _ rfl ?_
  · intro j u hj
    match j, hj with
    | 0, hj =>
      simp at hj; subst hj
      rw [addr_add]; exact alloc_cell _ _ _ _ _ rfl
    | j + 1, hj => simp at hj
  · intro u hu; simp at hu; subst hu; rfl
  · intro g cap w' h1 h2 h3 _
    refine h g cap w' (by simpa [OwnI] using h1) ?_ (((Below.refl base V).alloc hbase _).grown h2 (by rw [World.size_alloc]; omega) (fun k e => (World.ownsRow.lt hown k e).1)) h2
    rcases h3 with h3 | h3
    · exact .inl h3
    · rw [World.size_alloc] at h3; exact .inr (by omega)
end Go.Proofs.Ytfnomiingelfaaa
/- The columns of a reduction cleared: the second loop of reduce. -/
namespace Go.Proofs.Ytfnomiingelfaaa
open Go.RowKit

theorem results_cell_one' {fn : Func} {p : Tmp} {ty : TypeId} (h : fn.results = #[.cell p ty]) (tmps : Array Value) (P : Program) (w : World) :
    (results fn tmps).run P w = ((asAddr (tmps.getD p undef)).run P w).andThen fun a w₁ => ((loadVar ty a).run P w₁).andThen fun v w₂ => .ok v w₂ := by
  simp only [results, h]
  simp [Sem.run_bind, Result.andThen]
  split <;> first | rfl | (split <;> rfl) | (split <;> simp_all)
def rdV (g cap : Nat) (pa : Option Addr) (pc : Nat) (r : Rd) : Value := .agg #[.int .i64 (r.cols : Int), .slice (some ⟨g, 0, none⟩) r.rows.length cap, .slice pa r.piv.length pc, .int .i64 r.dv]
def rdBox (T g cap : Nat) (pa : Option Addr) (pc : Nat) (r : Rd) (w : World) : World := (((w.setCell ⟨T, 0, none⟩ (.int .i64 (r.cols : Int))).setCell ⟨T, 1, none⟩ (.slice (some ⟨g, 0, none⟩) r.rows.length cap)).setCell ⟨T, 2, none⟩ (.slice pa r.piv.length pc)).setCell ⟨T, 3, none⟩ (.int .i64 r.dv)
def clearN (r : Rd) (k : Nat) : Rd := (List.range k).foldl (fun r c => clearR c r) r
theorem clearN_succ (r : Rd) (k : Nat) : clearN r (k + 1) = clearR k (clearN r k) := by unfold clearN; rw [List.range_succ, List.foldl_append]; rfl
theorem clearN_ok {N : Nat} {r : Rd} (h : RdOk N r) (h64 : All64 r.rows) (k : Nat) : RdOk N (clearN r k) ∧ All64 (clearN r k).rows ∧ (clearN r k).rows.length = r.rows.length ∧ (clearN r k).cols = r.cols := by
  induction k with
  | zero => exact ⟨h, h64, rfl, rfl⟩
  | succ k ih =>
    obtain ⟨a, b, c, d⟩ := ih
    obtain ⟨a', b', c', d'⟩ := a.clear (c := k) b
    rw [clearN_succ]
    exact ⟨a', b', c'.trans c, d'.trans d⟩
set_option maxRecDepth 100000 in
set_option maxHeartbeats 1600000 in
theorem reduce_t3 {base B T g cap N : Nat} {ads : List (Nat × Nat)} {pv : Value} {r : Rd} {pxa : Option Addr} {px : List Int} {pxc : Nat} {w w0 : World} (hT : T < base) (_hTw : T < w0.heap.size) (hok : Hid (RdOk N r)) (h64 : Hid (All64 r.rows)) (hpN : px.length ≤ N) (hp100 : px.length ≤ 100) (hcap : Hid (r.rows.length ≤ cap))
    (hbx : Hid (∀ k, k < 4 → (∃ u, w0.cell? ⟨T, k, none⟩ = some u) ∧ w0.frozen? ⟨T, k, none⟩ = false)) (h : Hid (RdW base B g cap ads pv r w)) (hb0 : Hid (Below base w0 w)) (u0 u2 u3 u4 u5 u8 u9 u10 u11 u12 u13 u14 u15 u16 u17 u18 u19 u20 u21 u22 u23 u24 u25 u26 u27 u28 u29 u30 u31 u32 u33 u34 u35 u36 u37 u38 u39 u40 u41 u42 u43 u44 u45 u46 u47 u48 u49 u50 u51 u52 u53 u54 u55 u56 u57 u58 : Value) (R : Ending → World → Prop)
    (hR : Hid (∀ (ads' : List (Nat × Nat)) (pa : Option Addr) (pc : Nat) (W : World), RdW base B g cap ads' (.slice pa (clearN r px.length).piv.length pc) (clearN r px.length) W → Below base w0 W → R (.returned (rdV g cap pa pc (clearN r px.length))) (rdBox T g cap pa pc (clearN r px.length) W))) :
    Code.wp Try.prog (seqTail 3 ((Try.f83.body).getD .skip)) (bodyPost Try.prog Try.f83 R) { tmps := #[u0, .slice pxa px.length pxc, u2, u3, u4, u5, .pointer (some ⟨T, 0, none⟩), .pointer (some ⟨B, 0, none⟩), u8, u9, u10, u11, u12, u13, u14, u15, u16, u17, u18, u19, u20, u21, u22, u23, u24, u25, u26, u27, u28, u29, u30, u31, u32, u33, u34, u35, u36, u37, u38, u39, u40, u41, u42, u43, u44, u45, u46, u47, u48, u49, u50, u51, u52, u53, u54, u55, u56, u57, u58], defers := [] } w := by
  conv => arg 2; whnf
  refine wp_seq_k (fun K hK => ?_)
  have HK := Lib.hid hK; clear hK
  go_wp2
  go_loopw [52] (fun i wr => ∃ (k : Nat) (ads' : List (Nat × Nat)) (pv' : Value), k ≤ px.length ∧ i = .int .i64 k ∧ Hid (RdW base B g cap ads' pv' (clearN r k) wr) ∧ Below base w0 wr) (fun i _ => px.length - (intOf i).toNat)
  case atStart => exact ⟨0, ads, pv, Nat.zero_le _, rfl, h, hb0.out⟩
  case round =>
    obtain ⟨k, ads', pv', hk, rfl, HR, hbl⟩ := hrel
    have HBL := Lib.hid hbl; clear hbl
    by_cases hlt : k < px.length
    · have HCO := Lib.hid (clearN_ok hok.out h64.out k)
      have HSU := Lib.hid (clearN_succ r k)
      go_wp2_with (go_at_call 104; refine (clear_any base B g cap k N ads' pv' (clearN r k) _ HCO.out.1 (Nat.lt_of_lt_of_le hlt hpN) (by rw [HCO.out.2.2.1]; exact hcap.out) HR.out).mono ?_; rintro e w2 ⟨rfl, hb2, ads2, pv2, hr2⟩)
      have HR2 : Hid (RdW base B g cap ads2 pv2 (clearN r (k + 1)) w2) := by rw [HSU.out]; exact hr2
      clear hr2
      go_wp2
      go_roundw
      case rel => exact ⟨k + 1, ads2, pv2, hlt, by go_num, HR2, HBL.out.trans hb2⟩
      case measure => simp [intOf]; omega
    · obtain rfl : k = px.length := by omega
      go_wp2
      refine HK.out _ _ ?_
      have c0 := HR.out.bx.c0
      have c1 := HR.out.bx.c1
      have c2 := HR.out.bx.c2
      have c3 := HR.out.bx.c3
      obtain ⟨pa, pc, rfl, _⟩ := HR.out.pi.any
      obtain ⟨⟨v0, t0⟩, z0⟩ := hbx.out 0 (by omega)
      obtain ⟨⟨v1, t1⟩, z1⟩ := hbx.out 1 (by omega)
      obtain ⟨⟨v2, t2⟩, z2⟩ := hbx.out 2 (by omega)
      obtain ⟨⟨v3, t3⟩, z3⟩ := hbx.out 3 (by omega)
      have t0' := (HBL.out.cell (p := ⟨T, 0, none⟩) hT).trans t0
      have t1' := (HBL.out.cell (p := ⟨T, 1, none⟩) hT).trans t1
      have t2' := (HBL.out.cell (p := ⟨T, 2, none⟩) hT).trans t2
      have t3' := (HBL.out.cell (p := ⟨T, 3, none⟩) hT).trans t3
      have z0' := (HBL.out.frozen (p := ⟨T, 0, none⟩) hT).trans z0
      have z1' := (HBL.out.frozen (p := ⟨T, 1, none⟩) hT).trans z1
      have z2' := (HBL.out.frozen (p := ⟨T, 2, none⟩) hT).trans z2
      have z3' := (HBL.out.frozen (p := ⟨T, 3, none⟩) hT).trans z3
      clear HK t0 t1 t2 t3 z0 z1 z2 z3
      go_wp2
      refine bodyPost_ret_by (v := rdV g cap pa pc (clearN r px.length)) ?_ rfl (hR.out ads' pa pc wr HR.out HBL.out)
      rw [results_cell_one' rfl]
      unfold rdV
      go_simp
end Go.Proofs.Ytfnomiingelfaaa
/- divisor and shorten of layer 3: contracts. -/
namespace Go.Proofs.Ytfnomiingelfaaa
open Go.RowKit

def gcdTo (xs : List Int) : Nat → Nat
  | 0 => 0
  | k + 1 => Nat.gcd (gcdTo xs k) (gt xs k).natAbs
def gcdL (xs : List Int) : Nat := gcdTo xs xs.length
def Mid (x : Int) : Prop := -4611686018427387904 ≤ x ∧ x ≤ 4611686018427387904
set_option maxRecDepth 100000 in
set_option maxHeartbeats 800000 in
theorem divisor_any (a : Option Addr) (xs : List Int) (cap : Nat) (w : World) (hl : xs.length ≤ 1000) (hx : ∀ x ∈ xs, Mid x) (hs : Sl w a xs) :
    Calls Try.prog 117 #[.slice a xs.length cap] w fun e w' => e = .returned (.int .i64 (gcdL xs : Nat)) ∧ ∃ nd, w' = w.drewN nd := by
  have HS := Lib.hid hs; clear hs
  have HX := Lib.hid hx; clear hx
  go_enter Try.func117, Try.ntmps117
  go_wp2
  go_loopw [3, 8] (fun c i wr => ∃ (k : Nat) (v : Int) (nd : Nat), k ≤ xs.length ∧ i = .int .i64 k ∧ c = .int .i64 v ∧ Mid v ∧ Hid (v.natAbs = gcdTo xs k) ∧ wr = w.drewN nd) (fun _ i _ => xs.length - (intOf i).toNat)
  case atStart => exact ⟨0, 0, 0, Nat.zero_le _, rfl, rfl, by unfold Mid; omega, rfl, rfl⟩
  case round =>
    obtain ⟨k, v, nd, hk, rfl, rfl, hv, HG, rfl⟩ := hrel
    by_cases hlt : k < xs.length
    · obtain ⟨b, off, x, rfl, hcell, HXK⟩ := HS.out.at hlt
      have hmx := HX.out x (List.mem_of_getElem? HXK.out)
      have HGN : Hid (gcdTo xs (k + 1) = Nat.gcd v.natAbs x.natAbs) := by show _ = _; unfold gcdTo; rw [gt_some' HXK.out, HG.out]
      go_wp2
      clear hcell
      go_loopw [3, 5] (fun c n wr => ∃ (p q : Int) (nd' : Nat), c = .int .i64 p ∧ n = .int .i64 q ∧ Mid p ∧ Mid q ∧ Hid (Nat.gcd p.natAbs q.natAbs = Nat.gcd v.natAbs x.natAbs) ∧ wr = w.drewN nd') (fun _ n _ => (intOf n).natAbs)
      case atStart => exact ⟨v, x, nd, rfl, rfl, hv, hmx, rfl, rfl⟩
      case round =>
        obtain ⟨p, q, nd', rfl, rfl, hp, hq, HE, rfl⟩ := hrel
        by_cases hq0 : q = 0
        · subst hq0
          have HGE : Hid (p.natAbs = gcdTo xs (k + 1)) := by
            show _ = _
            rw [HGN.out, ← HE.out]; simp
          go_wp2
          go_roundw
          case rel => exact ⟨k + 1, p, nd', by omega, by go_num, rfl, hp, HGE, rfl⟩
          case measure => simp [intOf]; omega
        · have y0 : (q == 0) = false := by simpa using hq0
          have y1 : (q != 0) = true := by simpa using hq0
          obtain ⟨t, ht⟩ : ∃ t, p.tmod q = t := ⟨_, rfl⟩
          have hta : t.natAbs = p.natAbs % q.natAbs := by rw [← ht, Int.natAbs_tmod]
          have hlt2 : p.natAbs % q.natAbs < q.natAbs := Nat.mod_lt _ (by omega)
          have hmt : Mid t := by unfold Mid at hq ⊢; omega
          have HE2 : Hid (Nat.gcd q.natAbs t.natAbs = Nat.gcd v.natAbs x.natAbs) := by
            show _ = _
            rw [hta, ← HE.out, Nat.gcd_comm p.natAbs, Nat.gcd_rec q.natAbs p.natAbs]
            exact Nat.gcd_comm _ _
          have hmeas : t.natAbs < q.natAbs := by omega
          obtain ⟨t1, t2⟩ := hmt
          have w1 : IntKind.i64.wrap t = t := IntWalk.i64_in _ (by omega)
          have w2 : wrap64 t = t := IntWalk.wrap64_in _ (by omega)
          clear hta hlt2 hlt
          go_wp2
          go_quiet (fail)
          go_wp2
          go_roundw
          case rel => exact ⟨q, t, _, rfl, rfl, hq, ⟨t1, t2⟩, HE2, World.drewN_drewN _ _ _⟩
          case measure => simp [intOf]; omega
    · obtain rfl : k = xs.length := by omega
      obtain ⟨v1, v2⟩ := hv
      have HF : Hid ((gcdL xs : Int) = if v < -v then -v else v) := by
        show _ = _
        have := HG.out
        unfold gcdL; rw [← this]; split <;> omega
      go_wp2
      all_goals go_ret
      all_goals exact ⟨ret_i64 (by rw [HF.out]; split <;> omega), nd, rfl⟩
def shortL (xs : List Int) : List Int := xs.map fun n => n.tdiv (gcdL xs : Nat)
def shortTo (xs : List Int) (g : Int) (q : Nat) : List Int := (List.range xs.length).map fun k => if k < q then (gt xs k).tdiv g else gt xs k
theorem shortTo_len (xs : List Int) (g : Int) (q : Nat) : (shortTo xs g q).length = xs.length := by simp [shortTo]
theorem shortTo_zero (xs : List Int) (g : Int) : shortTo xs g 0 = xs := by
  refine list_ext_gt (shortTo_len _ _ _) fun k hk => ?_
  rw [shortTo_len] at hk
  unfold shortTo; rw [gt_map_range _ hk, if_neg (by omega)]
theorem shortTo_at (xs : List Int) (g : Int) {q : Nat} (hq : q < xs.length) : gt (shortTo xs g q) q = gt xs q := by unfold shortTo; rw [gt_map_range _ hq, if_neg (by omega)]
theorem shortTo_succ {xs : List Int} {g : Int} {q : Nat} (hq : q < xs.length) : (shortTo xs g q).set q ((gt xs q).tdiv g) = shortTo xs g (q + 1) := by
  refine list_ext_gt (by rw [List.length_set, shortTo_len, shortTo_len]) fun k hk => ?_
  rw [List.length_set, shortTo_len] at hk
  rw [gt_set (by rw [shortTo_len]; exact hq)]
  unfold shortTo
  rw [gt_map_range _ hk, gt_map_range _ hk]
  by_cases e : k = q
  · subst e; rw [if_pos rfl, if_pos (by omega)]
  · rw [if_neg e]
    by_cases h : k < q
    · rw [if_pos h, if_pos (by omega)]
    · rw [if_neg h, if_neg (by omega)]
theorem shortTo_full (xs : List Int) : shortTo xs (gcdL xs : Nat) xs.length = shortL xs := by
  refine list_ext_gt (by simp [shortTo, shortL]) fun k hk => ?_
  rw [shortTo_len] at hk
  unfold shortTo shortL
  rw [gt_map_range _ hk, if_pos hk]
  unfold gt; simp [hk]
theorem tdiv_mid {x g : Int} (hx : Mid x) (_hg : 1 ≤ g) : Mid (x.tdiv g) := by
  have h : (x.tdiv g).natAbs ≤ x.natAbs := by rw [Int.natAbs_tdiv]; exact Nat.div_le_self _ _
  unfold Mid at *; omega
theorem OnlyB.ofDrewN (b : Nat) (w : World) (n : Nat) : OnlyB b w (w.drewN n) := ⟨rfl, fun _ _ => rfl⟩
set_option maxRecDepth 100000 in
set_option maxHeartbeats 800000 in
theorem shorten_any (base b c : Nat) (xs : List Int) (w : World) (hl : xs.length ≤ 1000) (hx : ∀ x ∈ xs, Mid x) (hg : gcdL xs ≠ 0) (ho : OwnI w base (.slice (some ⟨b, 0, none⟩) xs.length c) xs) :
    Calls Try.prog 111 #[.slice (some ⟨b, 0, none⟩) xs.length c] w fun e w' => e = .returned (.slice (some ⟨b, 0, none⟩) xs.length c) ∧ OnlyB b w w' ∧ Below base w w' ∧ OwnI w' base (.slice (some ⟨b, 0, none⟩) xs.length c) (shortL xs) := by
  have HO := Lib.hid ho; clear ho
  have HX := Lib.hid hx; clear hx
  go_enter Try.func111, Try.ntmps111
  go_wp2_with fail
  refine (divisor_any _ xs c w hl HX.out HO.out.sl).mono ?_
  rintro e w1 ⟨rfl, nd, rfl⟩
  have HF := Lib.hid (shortTo_full xs)
  obtain ⟨g, hg'⟩ : ∃ g : Int, (gcdL xs : Nat) = g := ⟨_, rfl⟩
  have hg1 : 1 ≤ g := by omega
  rw [hg'] at HF
  rw [hg']
  have HO1 : Hid (OwnI (w.drewN nd) base (.slice (some ⟨b, 0, none⟩) xs.length c) (shortTo xs g 0)) := by show OwnI _ _ _ _; rw [shortTo_zero]; exact HO.out.drewN nd
  have HB1 : Hid (OnlyB b w (w.drewN nd)) := OnlyB.ofDrewN b w nd
  have HBB1 : Hid (Below base w (w.drewN nd)) := below_drewN (Below.refl _ _) nd
  clear hg hg'
  generalize w.drewN nd = w1 at *
  have y0 : (g == 0) = false := by simp; omega
  have y1 : (g != 0) = true := by simp; omega
  have y2 : ¬ (g = 0) := by omega
  have y3 : ¬ (g = -1) := by omega
  go_wp2
  go_loopw [10] (fun i wr => ∃ q : Nat, q ≤ xs.length ∧ i = .int .i64 q ∧ OwnI wr base (.slice (some ⟨b, 0, none⟩) xs.length c) (shortTo xs g q) ∧ OnlyB b w wr ∧ Below base w wr) (fun i _ => xs.length - (intOf i).toNat)
  case atStart => exact ⟨0, Nat.zero_le _, rfl, HO1.out, HB1.out, HBB1.out⟩
  case round =>
    clear HO1 HB1 HBB1
    obtain ⟨q, hq, rfl, hO, hB, hb⟩ := hrel
    have HOR := Lib.hid hO; clear hO
    have HB := Lib.hid hB; clear hB
    have HBB := Lib.hid hb; clear hb
    by_cases hlt : q < xs.length
    · obtain ⟨c1, f1⟩ := HOR.out.cell (j := q) (by rw [shortTo_len]; exact hlt)
      have hv : (shortTo xs g q)[q]?.getD 0 = gt xs q := shortTo_at xs g hlt
      rw [hv] at c1
      have HG := HOR.out.lt
      have hmx : Mid (gt xs q) := HX.out _ (by unfold gt; rw [List.getElem?_eq_getElem hlt, Option.getD_some]; exact List.getElem_mem hlt)
      obtain ⟨x, hx⟩ : ∃ x, gt xs q = x := ⟨_, rfl⟩
      have HN : Hid ((shortTo xs g q).set q (x.tdiv g) = shortTo xs g (q + 1)) := by show _ = _; rw [← hx]; exact shortTo_succ hlt
      rw [hx] at c1 hmx
      have HST := Lib.hid (HOR.out.stored q (x.tdiv g))
      obtain ⟨t1, t2⟩ := tdiv_mid hmx hg1
      have w1 : wrap64 (x.tdiv g) = x.tdiv g := IntWalk.wrap64_in _ (by omega)
      have w2 : IntKind.i64.wrap (x.tdiv g) = x.tdiv g := IntWalk.i64_in _ (by omega)
      clear hv hx
      go_wp2
      go_roundw
      case rel => exact ⟨q + 1, by omega, by go_num, by rw [← HN.out]; exact HST.out, HB.out.setCell _ _, HBB.out.setCell HG.2 _⟩
      case measure => simp [intOf]; omega
    · obtain rfl : q = xs.length := by omega
      rw [HF.out] at HOR
      go_wp2
      go_ret
      exact ⟨rfl, HB.out, HBB.out, HOR.out⟩
end Go.Proofs.Ytfnomiingelfaaa
/- Whether a list has a number; rank and free of a reduction: contracts. -/
namespace Go.Proofs.Ytfnomiingelfaaa
open Go.RowKit

def firstAt (xs : List Int) (v : Int) : Nat → Nat → Option Nat
  | 0, _ => none
  | n + 1, i => if gt xs i = v then some i else firstAt xs v n (i + 1)
theorem firstAt_skip {xs : List Int} {v : Int} : ∀ (k n i : Nat), k ≤ n → (∀ j, j < k → gt xs (i + j) ≠ v) → firstAt xs v n i = firstAt xs v (n - k) (i + k)
  | 0, n, i, _, _ => by simp
  | k + 1, n, i, h, hz => by
    obtain ⟨n', rfl⟩ : ∃ n', n = n' + 1 := ⟨n - 1, by omega⟩
    have h0 := hz 0 (by omega)
    rw [Nat.add_zero] at h0
    rw [show firstAt xs v (n' + 1) i = firstAt xs v n' (i + 1) by conv => lhs; unfold firstAt; rw [if_neg h0]]
    rw [firstAt_skip k n' (i + 1) (by omega) (fun j hj => by have := hz (j + 1) (by omega); rwa [show i + (j + 1) = i + 1 + j by omega] at this)]
    rw [show n' + 1 - (k + 1) = n' - k by omega, show i + 1 + k = i + (k + 1) by omega]
def indexV (xs : List Int) (v : Int) : Int := match firstAt xs v xs.length 0 with | some i => (i : Int) | none => -1
theorem indexV_hit {xs : List Int} {v : Int} {k : Nat} (h : k < xs.length) (hz : ∀ j, j < k → gt xs j ≠ v) (hk : gt xs k = v) : indexV xs v = k := by
  have e := firstAt_skip k xs.length 0 (by omega) (fun j hj => by rw [Nat.zero_add]; exact hz j hj)
  obtain ⟨d, hd⟩ : ∃ d, xs.length - k = d + 1 := ⟨xs.length - k - 1, by omega⟩
  unfold indexV
  rw [e, hd, Nat.zero_add]; unfold firstAt; rw [if_pos hk]
theorem indexV_miss {xs : List Int} {v : Int} (hz : ∀ j, j < xs.length → gt xs j ≠ v) : indexV xs v = -1 := by
  have e := firstAt_skip xs.length xs.length 0 (Nat.le_refl _) (fun j hj => by rw [Nat.zero_add]; exact hz j hj)
  unfold indexV
  rw [e, Nat.sub_self]; rfl
theorem indexV_mem {xs : List Int} {v : Int} : decide (0 ≤ indexV xs v) = decide (v ∈ xs) := by
  by_cases h : v ∈ xs
  · have : ∃ k, k < xs.length ∧ gt xs k = v := by
      obtain ⟨k, hk, e⟩ := List.mem_iff_getElem.1 h
      exact ⟨k, hk, by unfold gt; rw [List.getElem?_eq_getElem hk, Option.getD_some]; exact e⟩
    have hex : ∃ k, k < xs.length ∧ gt xs k = v ∧ ∀ j, j < k → gt xs j ≠ v := by
      obtain ⟨k, hk, e⟩ := this
      induction k using Nat.strongRecOn with
      | _ k ih =>
        by_cases hj : ∃ j, j < k ∧ gt xs j = v
        · obtain ⟨j, j1, j2⟩ := hj
          exact ih j j1 (by omega) j2
        · exact ⟨k, hk, e, fun j j1 j2 => hj ⟨j, j1, j2⟩⟩
    obtain ⟨k, k1, k2, k3⟩ := hex
    rw [indexV_hit k1 k3 k2]
    simp [h]
  · rw [indexV_miss (fun j hj e => h (by rw [← e]; unfold gt; rw [List.getElem?_eq_getElem hj, Option.getD_some]; exact List.getElem_mem hj))]
    simp [h]
set_option maxRecDepth 100000 in
theorem index_any (a : Option Addr) (xs : List Int) (cap : Nat) (v : Int) (w : World) (hl : xs.length ≤ 1000) (hs : Sl w a xs) :
    Calls Try.prog 112 #[.slice a xs.length cap, .int .i64 v] w fun e w' => e = .returned (.int .i64 (indexV xs v)) ∧ w = w' := by
  have HS := Lib.hid hs; clear hs
  go_enter Try.func112, Try.ntmps112
  go_wp2
  go_loop [8] (fun i => ∃ k : Nat, k ≤ xs.length ∧ i = .int .i64 k ∧ Hid (∀ j, j < k → gt xs j ≠ v)) (fun i => xs.length - (intOf i).toNat)
  case atStart => exact ⟨0, Nat.zero_le _, rfl, fun j hj => by omega⟩
  case round =>
    obtain ⟨k, hk, rfl, HZ⟩ := hrel
    by_cases hlt : k < xs.length
    · obtain ⟨b, off, x, rfl, hcell, HX⟩ := HS.out.at hlt
      have HG := Lib.hid (gt_some' HX.out)
      by_cases hx : v = x
      · have e0 : (v == x) = true := by simpa using hx
        have HV : Hid (indexV xs v = k) := indexV_hit hlt HZ.out (by rw [HG.out]; exact hx.symm)
        clear hx
        go_wp2
        go_ret
        exact ⟨ret_i64 (by rw [HV.out]), rfl⟩
      · have e0 : (v == x) = false := by simpa using hx
        have HZ2 : Hid (∀ j, j < k + 1 → gt xs j ≠ v) := fun j hj => by
          by_cases e : j = k
          · rw [e, HG.out]; exact fun e => hx e.symm
          · exact HZ.out j (by omega)
        clear hx
        go_wp2
        go_round
        case rel => exact ⟨k + 1, by omega, by go_num, HZ2⟩
        case measure => simp [intOf]; omega
    · obtain rfl : k = xs.length := by omega
      have HV := Lib.hid (indexV_miss (xs := xs) (v := v) HZ.out)
      go_wp2
      go_ret
      exact ⟨ret_i64 (by rw [HV.out]), rfl⟩
theorem contains_any (a : Option Addr) (xs : List Int) (cap : Nat) (v : Int) (w : World) (hl : xs.length ≤ 1000) (hs : Sl w a xs) :
    Calls Try.prog 94 #[.slice a xs.length cap, .int .i64 v] w fun e w' => e = .returned (.bool (decide (v ∈ xs))) ∧ w = w' := by
  have HS := Lib.hid hs; clear hs
  go_enter Try.func94, Try.ntmps94
  go_wp2_with fail
  refine (index_any a xs cap v w hl HS.out).mono ?_
  rintro e w1 ⟨rfl, rfl⟩
  have HV := Lib.hid (indexV_mem (xs := xs) (v := v))
  go_wp2
  go_ret
  exact ⟨ret_bool (by rw [← HV.out]), rfl⟩
def freeTo (pz : List Int) : Nat → List Int
  | 0 => []
  | k + 1 => if (k : Int) ∈ pz then freeTo pz k else freeTo pz k ++ [(k : Int)]
theorem freeTo_len (pz : List Int) : ∀ k, (freeTo pz k).length ≤ k
  | 0 => Nat.le_refl _
  | k + 1 => by
    have := freeTo_len pz k
    unfold freeTo; split
    · omega
    · rw [List.length_append, List.length_singleton]; omega
def RdV (cols : Nat) (g n cap : Nat) (pv : Value) (dv : Int) : Value := .agg #[.int .i64 (cols : Int), .slice (some ⟨g, 0, none⟩) n cap, pv, .int .i64 dv]
set_option maxRecDepth 100000 in
set_option maxHeartbeats 800000 in
theorem free_any (cols g n cap : Nat) (pa : Option Addr) (pz : List Int) (pc : Nat) (dv : Int) (w : World) (hc : cols ≤ 100) (hl : pz.length ≤ 1000) (hs : Sl w pa pz) :
    Calls Try.prog 92 #[RdV cols g n cap (.slice pa pz.length pc) dv] w fun e w' => Below w.heap.size w w' ∧ ∃ a k, e = .returned (.slice a (freeTo pz cols).length k) ∧ Sl w' a (freeTo pz cols) := by
  have HS := Lib.hid hs; clear hs
  unfold RdV
  go_enter Try.func92, Try.ntmps92
  have HB0 : Hid (Below w.heap.size w (w.alloc (.cells #[.int .i64 (cols : Int), .slice (some ⟨g, 0, none⟩) n cap, .slice pa pz.length pc, .int .i64 dv] 87))) := (Below.refl _ _).alloc (Nat.le_refl _) _
  have hc0 : (w.alloc (.cells #[.int .i64 (cols : Int), .slice (some ⟨g, 0, none⟩) n cap, .slice pa pz.length pc, .int .i64 dv] 87)).cell? ⟨w.heap.size, 0, none⟩ = some (.int .i64 (cols : Int)) := alloc_cell _ _ _ _ _ rfl
  have HC2 : Hid ((w.alloc (.cells #[.int .i64 (cols : Int), .slice (some ⟨g, 0, none⟩) n cap, .slice pa pz.length pc, .int .i64 dv] 87)).cell? ⟨w.heap.size, 2, none⟩ = some (.slice pa pz.length pc)) := alloc_cell _ _ _ _ _ rfl
  have hsz : w.heap.size < (w.alloc (.cells #[.int .i64 (cols : Int), .slice (some ⟨g, 0, none⟩) n cap, .slice pa pz.length pc, .int .i64 dv] 87)).heap.size := by rw [World.size_alloc]; omega
  go_wp2
  generalize (w.alloc (.cells #[.int .i64 (cols : Int), .slice (some ⟨g, 0, none⟩) n cap, .slice pa pz.length pc, .int .i64 dv] 87)) = V at *
  clear hc0
  go_loopw [3, 7] (fun v i wr => ∃ k : Nat, k ≤ cols ∧ i = .int .i64 k ∧ OwnI wr V.heap.size v (freeTo pz k) ∧ Below V.heap.size V wr) (fun _ i _ => cols - (intOf i).toNat)
  case atStart => exact ⟨0, Nat.zero_le _, rfl, OwnI.nil _ _, Below.refl _ _⟩
  case round =>
    obtain ⟨k, hk, rfl, hO, hB⟩ := hrel
    have HO := Lib.hid hO; clear hO
    have HB := Lib.hid hB; clear hB
    have HBw : Hid (Below w.heap.size w wr) := HB0.out.trans (HB.out.mono (Nat.le_of_lt hsz))
    by_cases hlt : k < cols
    · have c2 : wr.cell? ⟨w.heap.size, 2, none⟩ = some (.slice pa pz.length pc) := (HB.out.cell (p := ⟨w.heap.size, 2, none⟩) hsz).trans HC2.out
      have HLEN := Lib.hid (freeTo_len pz k)
      go_wp2_with fail
      refine (contains_any pa pz pc (k : Int) wr hl (HS.out.below HBw.out)).mono ?_
      rintro e w1 ⟨rfl, rfl⟩
      by_cases hm : (k : Int) ∈ pz
      · have HT : Hid (freeTo pz (k + 1) = freeTo pz k) := by show _ = _; conv => lhs; unfold freeTo; rw [if_pos hm]
        rw [show decide ((k : Int) ∈ pz) = true by simpa using hm]
        clear hm c2
        go_wp2
        go_roundw
        case rel => exact ⟨k + 1, by omega, by go_num, by rw [HT.out]; exact HO.out, HB.out⟩
        case measure => simp [intOf]; omega
      · have HT : Hid (freeTo pz (k + 1) = freeTo pz k ++ [(k : Int)]) := by show _ = _; conv => lhs; unfold freeTo; rw [if_neg hm]
        rw [show decide ((k : Int) ∈ pz) = false by simpa using hm]
        clear hm c2
        go_wp2_with (at_builtin; go_must (refine wpList_push rfl (.tmp 15) (.tmp 17) rfl V.heap.size _ (freeTo pz k) _ _ _ _ rfl rfl rfl HO.out (by have := HLEN.out; omega) HB.out.size ?_); intro v' w9 ho' hb')
        go_roundw
        case rel => exact ⟨k + 1, by omega, by go_num, by rw [HT.out]; exact ho', HB.out.trans hb'⟩
        case measure => simp [intOf]; omega
    · obtain rfl : k = cols := by omega
      obtain ⟨a5, c5, rfl, s5⟩ := HO.out.any
      have S5 := Lib.hid s5; clear s5
      go_wp2
      go_ret
      exact ⟨HBw.out, a5, c5, rfl, S5.out⟩
end Go.Proofs.Ytfnomiingelfaaa
/- kernel, rank and nothing of layer 3: contracts. -/
namespace Go.Proofs.Ytfnomiingelfaaa
open Go.RowKit

theorem nothing_any (i : Int) (w : World) : Calls Try.prog 62 #[.int .i64 i] w fun e w' => e = .returned (.slice none 0 0) ∧ w = w' := by
  go_enter Try.func62, Try.ntmps62
  go_wp2
  go_ret
  exact ⟨rfl, rfl⟩
theorem rank_any (cols g n cap : Nat) (pa : Option Addr) (pz : List Int) (pc : Nat) (dv : Int) (w : World) :
    Calls Try.prog 63 #[RdV cols g n cap (.slice pa pz.length pc) dv] w fun e w' => e = .returned (.int .i64 pz.length) ∧ Below w.heap.size w w' := by
  unfold RdV
  have HB0 : Hid (Below w.heap.size w (w.alloc (.cells #[.int .i64 (cols : Int), .slice (some ⟨g, 0, none⟩) n cap, .slice pa pz.length pc, .int .i64 dv] 87))) := (Below.refl _ _).alloc (Nat.le_refl _) _
  have c2 : (w.alloc (.cells #[.int .i64 (cols : Int), .slice (some ⟨g, 0, none⟩) n cap, .slice pa pz.length pc, .int .i64 dv] 87)).cell? ⟨w.heap.size, 2, none⟩ = some (.slice pa pz.length pc) := alloc_cell _ _ _ _ _ rfl
  go_enter Try.func63, Try.ntmps63
  go_wp2
  go_ret
  exact ⟨rfl, HB0.out⟩
def kerTo (cols : Nat) (M : List (List Int)) (pz : List Int) (dv : Int) (fr : Nat) : Nat → List Int
  | 0 => (List.replicate cols (0 : Int)).set fr dv
  | k + 1 => (kerTo cols M pz dv fr k).set (gt pz k).toNat (IntKind.i64.wrap (-gt (rowL M k) fr))
theorem kerTo_len (cols : Nat) (M : List (List Int)) (pz : List Int) (dv : Int) (fr : Nat) : ∀ k, (kerTo cols M pz dv fr k).length = cols
  | 0 => by simp [kerTo]
  | k + 1 => by unfold kerTo; rw [List.length_set]; exact kerTo_len cols M pz dv fr k
def kerL (cols : Nat) (M : List (List Int)) (pz : List Int) (dv : Int) (fr : Nat) : List Int := shortL (kerTo cols M pz dv fr pz.length)
set_option maxRecDepth 100000 in
set_option maxHeartbeats 1600000 in
theorem kernel_any (base cols g cap : Nat) (ads : List (Nat × Nat)) (M : List (List Int)) (pa : Option Addr) (pz : List Int) (pc : Nat) (dv : Int) (fr : Nat) (w : World) (hc : cols ≤ 100) (hf : fr < cols) (hl : pz.length ≤ M.length) (hM : M.length ≤ 100) (hp : ∀ k, k < pz.length → 0 ≤ gt pz k ∧ gt pz k < cols)
    (hrl : ∀ r ∈ M, fr < r.length) (hmid : ∀ x ∈ kerTo cols M pz dv fr pz.length, Mid x) (hg : gcdL (kerTo cols M pz dv fr pz.length) ≠ 0) (hs : Sl w pa pz) (hsi : SI w base g ads M) :
    Calls Try.prog 93 #[RdV cols g M.length cap (.slice pa pz.length pc) dv, .int .i64 (fr : Int)] w fun e w' => Below w.heap.size w w' ∧ ∃ b k, e = .returned (.slice (some ⟨b, 0, none⟩) cols k) ∧ OwnI w' w.heap.size (.slice (some ⟨b, 0, none⟩) cols k) (kerL cols M pz dv fr) := by
  have HS := Lib.hid hs; clear hs
  have HSI := Lib.hid hsi; clear hsi
  have HP := Lib.hid hp; clear hp
  have HRL := Lib.hid hrl; clear hrl
  have HMID := Lib.hid hmid; clear hmid
  have HG := Lib.hid hg; clear hg
  obtain ⟨i0, hi, hz0, hz1, hz2⟩ := info_parts Try.infoInt
  unfold RdV
  go_enter Try.func93, Try.ntmps93
  have HB0 : Hid (Below w.heap.size w (w.alloc (.cells #[.int .i64 (cols : Int), .slice (some ⟨g, 0, none⟩) M.length cap, .slice pa pz.length pc, .int .i64 dv] 87))) := (Below.refl _ _).alloc (Nat.le_refl _) _
  have c0 : (w.alloc (.cells #[.int .i64 (cols : Int), .slice (some ⟨g, 0, none⟩) M.length cap, .slice pa pz.length pc, .int .i64 dv] 87)).cell? ⟨w.heap.size, 0, none⟩ = some (.int .i64 (cols : Int)) := alloc_cell _ _ _ _ _ rfl
  have HC1 : Hid ((w.alloc (.cells #[.int .i64 (cols : Int), .slice (some ⟨g, 0, none⟩) M.length cap, .slice pa pz.length pc, .int .i64 dv] 87)).cell? ⟨w.heap.size, 1, none⟩ = some (.slice (some ⟨g, 0, none⟩) M.length cap)) := alloc_cell _ _ _ _ _ rfl
  have HC2 : Hid ((w.alloc (.cells #[.int .i64 (cols : Int), .slice (some ⟨g, 0, none⟩) M.length cap, .slice pa pz.length pc, .int .i64 dv] 87)).cell? ⟨w.heap.size, 2, none⟩ = some (.slice pa pz.length pc)) := alloc_cell _ _ _ _ _ rfl
  have HC3 : Hid ((w.alloc (.cells #[.int .i64 (cols : Int), .slice (some ⟨g, 0, none⟩) M.length cap, .slice pa pz.length pc, .int .i64 dv] 87)).cell? ⟨w.heap.size, 3, none⟩ = some (.int .i64 dv)) := alloc_cell _ _ _ _ _ rfl
  have hsz : w.heap.size < (w.alloc (.cells #[.int .i64 (cols : Int), .slice (some ⟨g, 0, none⟩) M.length cap, .slice pa pz.length pc, .int .i64 dv] 87)).heap.size := by rw [World.size_alloc]; omega
  go_wp2_with (with_reducible refine wpList_make_full _ rfl (.tmp 9) (.tmp 9) 24 rfl (w.alloc (.cells #[.int .i64 (cols : Int), .slice (some ⟨g, 0, none⟩) M.length cap, .slice pa pz.length pc, .int .i64 dv] 87)).heap.size 3 i0 (.int .i64 0) 1 Try.underlying24 hi hz0 hz1 .i64 .i64 (cols : Int) (cols : Int) cols rfl rfl rfl rfl (by rw [hz2]; omega) (by unfold maxLen; omega) (Nat.le_refl _) ?_)
  rotate_left
  intro w4 hown hgrow
  have hsz1 : (w.alloc (.cells #[.int .i64 (cols : Int), .slice (some ⟨g, 0, none⟩) M.length cap, .slice pa pz.length pc, .int .i64 dv] 87)).heap.size = w.heap.size + 1 := World.size_alloc _ _
  have HO4 : Hid (OwnI w4 w.heap.size (.slice (some ⟨w.heap.size + 1, 0, none⟩) cols cols) (List.replicate cols 0)) := by
    have z := zeros_are cols
    rw [Nat.mul_one] at z
    refine OwnI.mono (base := w.heap.size + 1) ?_ (Nat.le_succ _)
    show w4.ownsRow _ _ _ _ _ _
    rw [List.length_replicate, ← z]; exact hown
  have hb4 : Below (w.heap.size + 1) (w.alloc (.cells #[.int .i64 (cols : Int), .slice (some ⟨g, 0, none⟩) M.length cap, .slice pa pz.length pc, .int .i64 dv] 87)) w4 := (Below.refl (w.heap.size + 1) _).grown hgrow (by rw [hsz1]; exact Nat.le_refl _) (fun k e => by cases e)
  have HB4 : Hid (Below w.heap.size w w4) := HB0.out.trans (hb4.mono (Nat.le_succ _))
  have HD1 : Hid (w4.cell? ⟨w.heap.size, 1, none⟩ = some (.slice (some ⟨g, 0, none⟩) M.length cap)) := (hb4.cell (p := ⟨w.heap.size, 1, none⟩) (Nat.lt_succ_self _)).trans HC1.out
  have HD2 : Hid (w4.cell? ⟨w.heap.size, 2, none⟩ = some (.slice pa pz.length pc)) := (hb4.cell (p := ⟨w.heap.size, 2, none⟩) (Nat.lt_succ_self _)).trans HC2.out
  have d3 : w4.cell? ⟨w.heap.size, 3, none⟩ = some (.int .i64 dv) := (hb4.cell (p := ⟨w.heap.size, 3, none⟩) (Nat.lt_succ_self _)).trans HC3.out
  have HK0 : Hid ((List.replicate cols (0 : Int)).set fr dv = kerTo cols M pz dv fr 0) := rfl
  obtain ⟨cz, fz⟩ := HO4.out.cell (j := fr) (by rw [List.length_replicate]; exact hf)
  have HO5 := Lib.hid (HO4.out.stored fr dv)
  have HON : Hid (OnlyB (w.heap.size + 1) w4 (w4.setCell ⟨w.heap.size + 1, fr, none⟩ (.int .i64 dv))) := (OnlyB.refl _ _).setCell fr _
  have HB5 : Hid (Below w.heap.size w (w4.setCell ⟨w.heap.size + 1, fr, none⟩ (.int .i64 dv))) := HB4.out.setCell (p := ⟨w.heap.size + 1, fr, none⟩) (Nat.le_succ _) _
  have d2' : (w4.setCell ⟨w.heap.size + 1, fr, none⟩ (.int .i64 dv)).cell? ⟨w.heap.size, 2, none⟩ = some (.slice pa pz.length pc) := (HON.out.cell (by omega)).trans HD2.out
  clear hown hgrow hb4 hsz hsz1 c0
  go_wp2
  clear d2' d3 cz fz
  go_loopw [19] (fun i wr => ∃ k : Nat, k ≤ pz.length ∧ i = .int .i64 k ∧ OwnI wr w.heap.size (.slice (some ⟨w.heap.size + 1, 0, none⟩) cols cols) (kerTo cols M pz dv fr k) ∧ OnlyB (w.heap.size + 1) w4 wr ∧ Below w.heap.size w wr) (fun i _ => pz.length - (intOf i).toNat)
  case atStart => exact ⟨0, Nat.zero_le _, rfl, HO5.out, HON.out, HB5.out⟩
  case round =>
    clear HO5 HON HB5 HO4
    obtain ⟨k, hk, rfl, hO, hN, hB⟩ := hrel
    have HO := Lib.hid hO; clear hO
    have HN := Lib.hid hN; clear hN
    have HB := Lib.hid hB; clear hB
    by_cases hlt : k < pz.length
    · obtain ⟨pb, po, v, rfl, hcv, HV⟩ := (HS.out.below HB.out).at hlt
      have hgv := gt_some' HV.out
      have hvr := HP.out k hlt
      rw [hgv] at hvr
      obtain ⟨j, rfl⟩ := Int.eq_ofNat_of_zero_le hvr.1
      have hj : j < cols := by omega
      have hkM : k < M.length := by omega
      obtain ⟨r, hr⟩ : ∃ r, M[k]? = some r := ⟨M[k], by simp [hkM]⟩
      obtain ⟨x, hx⟩ : ∃ x, ads[k]? = some x := ⟨ads[k]'(by rw [HSI.out.len]; exact hkM), by simp [HSI.out.len, hkM]⟩
      obtain ⟨xb, xc⟩ := x
      obtain ⟨hh, hro⟩ := (HSI.out.below HB.out).row k (xb, xc) r hx hr
      have hfr : fr < r.length := HRL.out r (List.mem_of_getElem? hr)
      dsimp only at hh
      have hcr := (OwnI.cell hro (j := fr) hfr).1
      obtain ⟨y, hy⟩ : ∃ y, gt r fr = y := ⟨_, rfl⟩
      have hcy : wr.cell? ⟨xb, fr, none⟩ = some (.int .i64 y) := by rw [← hy]; exact hcr
      have d1 : wr.cell? ⟨w.heap.size, 1, none⟩ = some (.slice (some ⟨g, 0, none⟩) M.length cap) := (HN.out.cell (by omega)).trans HD1.out
      obtain ⟨cz, fz⟩ := HO.out.cell (j := j) (by rw [kerTo_len]; exact hj)
      have HKN : Hid ((kerTo cols M pz dv fr k).set j (IntKind.i64.wrap (-y)) = kerTo cols M pz dv fr (k + 1)) := by
        show _ = _
        conv => rhs; unfold kerTo
        rw [hgv, Int.toNat_natCast, rowL_some hr, hy]
      have HST := Lib.hid (HO.out.stored j (IntKind.i64.wrap (-y)))
      clear hcr hro hgv hvr hy hx hr
      go_wp2
      go_roundw
      case rel =>
        (try rw [wrap_is])
        exact ⟨k + 1, by omega, by go_num, by rw [← HKN.out]; exact HST.out, HN.out.setCell _ _, HB.out.setCell (p := ⟨w.heap.size + 1, j, none⟩) (Nat.le_succ _) _⟩
      case measure => simp [intOf]; omega
    · obtain rfl : k = pz.length := by omega
      have HKL : Hid ((kerTo cols M pz dv fr pz.length).length = cols) := kerTo_len _ _ _ _ _ _
      have HSH : Hid (Calls Try.prog 111 #[.slice (some ⟨w.heap.size + 1, 0, none⟩) cols cols] wr fun e w' => e = .returned (.slice (some ⟨w.heap.size + 1, 0, none⟩) cols cols) ∧ OnlyB (w.heap.size + 1) wr w' ∧ Below w.heap.size wr w' ∧ OwnI w' w.heap.size (.slice (some ⟨w.heap.size + 1, 0, none⟩) cols cols) (kerL cols M pz dv fr)) := by
        have h := shorten_any w.heap.size (w.heap.size + 1) cols (kerTo cols M pz dv fr pz.length) wr (by rw [HKL.out]; omega) HMID.out HG.out (by rw [HKL.out]; exact HO.out)
        rw [HKL.out] at h
        exact h
      go_wp2_with fail
      refine HSH.out.mono ?_
      rintro e w6 ⟨rfl, _, hbl, hown⟩
      have HB6 := Lib.hid (HB.out.trans hbl)
      have HO6 := Lib.hid hown
      clear hbl hown
      go_wp2
      go_ret
      exact ⟨HB6.out, _, _, rfl, HO6.out⟩
end Go.Proofs.Ytfnomiingelfaaa
/- The rows of a reduction laid: the first loop of reduce. -/
namespace Go.Proofs.Ytfnomiingelfaaa
open Go.RowKit

def pixR (px : List Int) (r : List Int) : List Int := px.map fun j => gt r j.toNat
def pixM (px : List Int) (m : List (List Int)) : List (List Int) := m.map (pixR px)
theorem pixR_len (px r : List Int) : (pixR px r).length = px.length := by simp [pixR]
theorem pixR_succ {px r : List Int} {j : Nat} {p : Int} (h : px[j]? = some p) : (pixR px r).take (j + 1) = (pixR px r).take j ++ [gt r p.toNat] := by
  have hj := (List.getElem?_eq_some_iff.1 h).1
  rw [List.take_succ_eq_append_getElem (by rw [pixR_len]; exact hj)]
  have e := (List.getElem?_eq_some_iff.1 h).2
  simp [pixR, e]
def redM (m : List (List Int)) (px : List Int) : Rd := { cols := px.length, rows := pixM px m, piv := [], dv := 1 }
def redN (m : List (List Int)) (px : List Int) : Rd := clearN (redM m px) px.length
theorem redM_ok {m : List (List Int)} {px : List Int} (hm : m.length ≤ 6) (hp : px.length ≤ 10) (h64 : All64 m) : RdOk px.length (redM m px) ∧ All64 (redM m px).rows := by
  refine ⟨⟨?_, ?_, by omega, ?_, by simp [redM]⟩, ?_⟩
  · show (pixM px m).length ≤ 100; rw [pixM, List.length_map]; omega
  · intro q hq; obtain ⟨r, _, rfl⟩ := List.mem_map.1 hq; exact pixR_len _ _
  · exact Nat.zero_le _
  · intro q hq x hx
    obtain ⟨r, hr, rfl⟩ := List.mem_map.1 hq
    obtain ⟨j, _, rfl⟩ := List.mem_map.1 hx
    exact gt_in64 (h64 r hr) _
set_option maxRecDepth 100000 in
set_option maxHeartbeats 1600000 in
theorem reduce_t2 {base B T : Nat} {ma : Option Addr} {m : List (List Int)} {mc : Nat} {pxa : Option Addr} {px : List Int} {pxc : Nat} {w w0 : World} (hbB : base ≤ B) (hm : Hid (m.length ≤ 6)) (hpx : Hid (px.length ≤ 10)) (hin : Hid (∀ j ∈ px, 0 ≤ j ∧ j < colsM m)) (hrl : Hid (∀ r ∈ m, r.length = colsM m))
    (hms : Hid (∀ {W : World}, Below base w0 W → Ms W ma m)) (hps : Hid (∀ {W : World}, Below base w0 W → Sl W pxa px)) (hB : B < w.heap.size)
    (hbx : Hid (RB B (px.length : Int) (.slice none 0 0) w)) (hb0 : Hid (Below base w0 w)) (hm1 : Hid (1 ≤ m.length)) (h64 : Hid (All64 m)) (hT : T < base) (hTw : T < w0.heap.size) (hTx : Hid (∀ k, k < 4 → (∃ u, w0.cell? ⟨T, k, none⟩ = some u) ∧ w0.frozen? ⟨T, k, none⟩ = false)) (u3 u4 u5 u8 u9 u10 u11 u12 u13 u14 u15 u16 u17 u18 u19 u20 u21 u22 u23 u24 u25 u26 u27 u28 u29 u30 u31 u32 u33 u34 u35 u36 u37 u38 u39 u40 u41 u42 u43 u44 u45 u46 u47 u48 u49 u50 u51 u52 u53 u54 u55 u56 u57 u58 : Value) (R : Ending → World → Prop)
    (hR : Hid (∀ (g cap : Nat) (ads' : List (Nat × Nat)) (pa : Option Addr) (pc : Nat) (W : World), RdW base B g cap ads' (.slice pa (redN m px).piv.length pc) (redN m px) W → Below base w0 W → R (.returned (rdV g cap pa pc (redN m px))) (rdBox T g cap pa pc (redN m px) W))) :
    Code.wp Try.prog (seqTail 2 ((Try.f83.body).getD .skip)) (bodyPost Try.prog Try.f83 R) { tmps := #[.slice ma m.length mc, .slice pxa px.length pxc, .func (.func 62) #[] #[], u3, u4, u5, .pointer (some ⟨T, 0, none⟩), .pointer (some ⟨B, 0, none⟩), u8, u9, u10, u11, u12, u13, u14, u15, u16, u17, u18, u19, u20, u21, u22, u23, u24, u25, u26, u27, u28, u29, u30, u31, u32, u33, u34, u35, u36, u37, u38, u39, u40, u41, u42, u43, u44, u45, u46, u47, u48, u49, u50, u51, u52, u53, u54, u55, u56, u57, u58], defers := [] } w := by
  conv => arg 2; whnf
  refine wp_seq_k (fun K hK => ?_)
  have HK := Lib.hid hK; clear hK
  obtain ⟨i0, hi, hz0, hz1, hz2⟩ := info_parts Try.infoInt
  go_wp2
  go_loopw [19] (fun i wr => ∃ (k : Nat) (rv : Value) (ads : List (Nat × Nat)), k ≤ m.length ∧ i = .int .i64 k ∧ Hid (RS base rv ads ((pixM px m).take k) wr) ∧ Hid (RB B (px.length : Int) rv wr) ∧ Hid (rv.ownBlock ≠ some B ∧ ∀ (i : Nat) (x : Nat × Nat), ads[i]? = some x → x.1 ≠ B) ∧ Below base w0 wr ∧ B < wr.heap.size) (fun i _ => m.length - (intOf i).toNat)
  case atStart => exact ⟨0, _, [], Nat.zero_le _, rfl, ⟨rfl, World.ownsRow_nil _ _ _ _, fun i x r h => by simp at h, fun i j x y h => by simp at h, fun i x h => by simp at h⟩, hbx, ⟨by simp [Value.ownBlock], fun i x h => by simp at h⟩, hb0.out, hB⟩
  case round =>
    obtain ⟨k, rv, ads, hk, rfl, HRS, HBX, HNE, hbl, hBl⟩ := hrel
    have HBL := Lib.hid hbl; clear hbl
    by_cases hlt : k < m.length
    · obtain ⟨b1, o1, ai, r, ci, rfl, hcell, hsl, HR⟩ := (hms.out HBL.out).at hlt
      have HSL := Lib.hid hsl; clear hsl
      have hbw : base ≤ wr.heap.size := by omega
      go_wp2_with (with_reducible refine wpList_make_own _ rfl (.const (.int .i64 0)) (.const (.int .i64 20)) 24 rfl wr.heap.size 3 i0 (.int .i64 0) 1 Try.underlying24 hi hz0 hz1 .i64 .i64 20 20 rfl rfl rfl (by rw [hz2]; omega) (by unfold maxLen; omega) (Nat.le_refl _) ?_)
      rotate_left
      intro w4 hown hgrow
      have HO4 : Hid (OwnI w4 wr.heap.size (.slice (some ⟨wr.heap.size, 0, none⟩) 0 20) []) := hown
      have HB4 : Hid (Below wr.heap.size wr w4) := (Below.refl _ _).grown hgrow (Nat.le_refl _) (fun k e => by cases e)
      clear hown hgrow
      obtain ⟨G, hG⟩ : ∃ G, wr.heap.size = G := ⟨_, rfl⟩
      rw [hG] at HO4 HB4
      have HGB : Hid (∀ {W : World}, Below G wr W → Below wr.heap.size wr W) := fun h => by rw [hG]; exact h
      rw [hG]
      have HGS : Hid (∀ {W : World}, Below G wr W → G ≤ W.heap.size) := fun h => by have := h.size; omega
      have hGb : base ≤ G := by omega
      have HGE := Lib.hid hG
      clear hG
      have hpx10 : px.length ≤ 10 := hpx.out
      go_wp2
      go_loopw [10, 27] (fun v i wq => ∃ j : Nat, j ≤ px.length ∧ i = .int .i64 j ∧ OwnI wq G v ((pixR px r).take j) ∧ Below G wr wq ∧ ∃ b c, v = .slice (some ⟨b, 0, none⟩) j c) (fun _ i _ => px.length - (intOf i).toNat)
      case atStart => exact ⟨0, Nat.zero_le _, rfl, HO4.out, HB4.out, _, _, rfl⟩
      case round =>
        clear HO4 HB4
        obtain ⟨j, hj, rfl, hO, hB, nb, nc, hvv⟩ := hrel
        subst hvv
        have HO := Lib.hid hO; clear hO
        have HB := Lib.hid hB; clear hB
        have HBq : Hid (Below base w0 wr) := HBL.out.trans (HB.out.mono hGb)
        by_cases hlj : j < px.length
        · obtain ⟨pb, po, v, rfl, hcv, HV⟩ := (hps.out HBq.out).at hlj
          have hvr := hin.out v (List.mem_of_getElem? HV.out)
          have HRC : Hid (r.length = colsM m) := hrl.out r (List.mem_of_getElem? HR.out)
          obtain ⟨q, rfl⟩ := Int.eq_ofNat_of_zero_le hvr.1
          have hq : q < r.length := by have := HRC.out; omega
          obtain ⟨rb, ro, x, rfl, hcx, HX⟩ := (HSL.out.below (HGB.out HB.out)).at hq
          have HT : Hid ((pixR px r).take (j + 1) = (pixR px r).take j ++ [x]) := by show _ = _; rw [pixR_succ HV.out, Int.toNat_natCast, gt_some' HX.out]
          have HTL : Hid (((pixR px r).take j).length = j) := by show _ = _; rw [List.length_take, pixR_len]; omega
          obtain ⟨TT, hTT⟩ : ∃ TT, (pixR px r).take j = TT := ⟨_, rfl⟩
          rw [hTT] at HO HT HTL
          clear hvr hTT
          go_wp2_with (at_builtin; go_must (refine wpList_pushG0 rfl (.tmp 31) (.tmp 36) rfl G _ TT _ _ _ _ rfl rfl rfl HO.out (by rw [HTL.out]; omega) (HGS.out HB.out) ?_); intro g7 c7 w9 ho' _ hb' _)
          go_roundw
          case rel => exact ⟨j + 1, by omega, by go_num, by rw [HT.out]; exact ho', HB.out.trans hb', g7, c7, by rw [HTL.out]⟩
          case measure => simp [intOf]; omega
        · obtain rfl : j = px.length := by omega
          rw [List.take_of_length_le (by rw [pixR_len]; exact Nat.le_refl _)] at HO
          have HPXL : Hid (px.length = (pixR px r).length) := (pixR_len px r).symm
          rw [HPXL.out] at HO
          rw [show Value.slice (some ⟨nb, 0, none⟩) px.length nc = Value.slice (some ⟨nb, 0, none⟩) (pixR px r).length nc by rw [pixR_len]]
          have hBG : B < G := by have := HGE.out; omega
          have cB : wr.cell? ⟨B, 1, none⟩ = some rv := (HB.out.cell (p := ⟨B, 1, none⟩) hBG).trans HBX.out.c1
          have fB : wr.frozen? ⟨B, 1, none⟩ = false := (HB.out.frozen (p := ⟨B, 1, none⟩) hBG).trans HBX.out.f1
          have HBX2 : Hid (RB B (px.length : Int) rv wr) := HBX.out.kept (HB.out.block B hBG)
          have HNBL : Hid (nb < wr.heap.size) := (OwnI.lt HO.out).1
          have HRS2 : Hid (RS base rv ads ((pixM px m).take k) wr) := HRS.out.below (HGB.out HB.out)
          have HK2 : Hid (((pixM px m).take k).length = k) := by show _ = _; rw [List.length_take, pixM, List.length_map]; omega
          obtain ⟨Mk, hMk⟩ : ∃ Mk, (pixM px m).take k = Mk := ⟨_, rfl⟩
          rw [hMk] at HRS2 HK2
          have HMT : Hid (Mk ++ [pixR px r] = (pixM px m).take (k + 1)) := by
            show _ = _
            have e := (List.getElem?_eq_some_iff.1 HR.out)
            rw [← hMk, List.take_succ_eq_append_getElem (by rw [pixM, List.length_map]; exact e.1)]
            simp [pixM, e.2]
          have HMK := Lib.hid hMk
          clear hMk
          have lBq : B < wr.heap.size := by have := HGS.out HB.out; omega
          have hbq : base ≤ wr.heap.size := by omega
          have HNCL : (pixR px r).length ≤ nc := OwnI.cap_le HO.out
          have HBQ : Hid (Below base w0 wr) := HBL.out.trans (HB.out.mono hGb)
          have HRW : Hid (OwnI wr base (.slice (some ⟨nb, 0, none⟩) (pixR px r).length nc) (pixR px r)) := HO.out.mono hGb
          have HAPP : Hid ((∀ (i : Nat) (x : Nat × Nat), ads[i]? = some x → x.1 ≠ nb) ∧ rv.ownBlock ≠ some nb) := by
            have e1 := HGE.out
            have e2 := (OwnI.lt HO.out).2
            refine ⟨fun i x e => ?_, fun e => ?_⟩
            · have := (HRS.out.out i x e).2.1; omega
            · have := (World.ownsRow.lt HRS.out.own nb e).2; omega
          have HBN : Hid (B < nb) := by have e2 := (OwnI.lt HO.out).2; show B < nb; omega
          go_wp2
          go_region_law (first | (go_simp; go_at_call 62; refine (nothing_any _ _).mono ?_; rintro e wz ⟨rfl, rfl⟩) | (refine step_pushRow rfl (.tmp 40) (.tmp 46) rfl base rv ads Mk (pixR px r) nb nc _ _ (by rfl) (by rfl) (by go_simp) ((HRS2.out.below ((Below.refl _ _).alloc (Nat.le_refl _) _).drew)) (HRW.out.below ((Below.refl _ _).alloc (Nat.le_refl _) _).drew) HAPP.out.1 HAPP.out.2 (by rw [HK2.out]; have := hm.out; omega) (by simp; omega) ?_; intro G2 cp2 w9 ho9 hg9 hat9; have hk9 := (hg9.block B (by simp; omega) (fun e => HNE.out.1 e.symm)).trans (((Below.refl wr.heap.size wr).alloc (Nat.le_refl _) _).drew.block B lBq); have c9 := (cell_of_block hk9 1).trans cB; have f9 := (frozen_of_block' hk9 1).trans fB; have HB9 := Lib.hid (HBX2.out.kept hk9)))
          all_goals
            have key := rs_pushed HBQ.out hbB lBq HRS2.out HNE.out HBN.out ho9 hg9 hat9 HB9.out
            have KEY := Lib.hid key
            clear key ho9 hg9 hat9 hk9 c9 f9
            have hk6 : m.length ≤ 6 := hm.out
            go_wp2
            go_roundw
            case rel => exact ⟨k + 1, _, ads ++ [(nb, nc)], hlt, by go_num, HMT.out ▸ KEY.out.1, KEY.out.2.1, KEY.out.2.2.1, KEY.out.2.2.2.1, KEY.out.2.2.2.2⟩
            case measure => simp [intOf]; omega
    · obtain rfl : k = m.length := by omega
      have HOK := Lib.hid (redM_ok hm.out hpx.out h64.out)
      have hRS := HRS.out
      rw [List.take_of_length_le (by rw [pixM, List.length_map]; exact Nat.le_refl _)] at hRS
      obtain ⟨g, cap, rfl, hgc, hW⟩ := hRS.reduction (by rw [pixM, List.length_map]; exact hm1.out) hbB HNE.out HBX.out
      have HWW : Hid (RdW base B g cap ads (.slice none 0 0) (redM m px) wr) := hW
      have HGC := Lib.hid hgc
      clear hW hRS hgc
      go_wp2
      refine HK.out _ _ ?_
      refine reduce_t3 (N := px.length) (r := redM m px) hT hTw HOK.out.1 HOK.out.2 (Nat.le_refl _) (by have := hpx.out; omega) HGC.out hTx HWW HBL _ _ _ _ _ _ _ _ _ _ _ _ _ _ _ _ _ _ _ _ _ _ _ _ _ _ _ _ _ _ _ _ _ _ _ _ _ _ _ _ _ _ _ _ _ _ _ _ _ _ _ _ _ _ _ _ R (hR.out g cap)
end Go.Proofs.Ytfnomiingelfaaa
/- What a whole reduction is: pivots, free columns, and the same vectors read as 0. Plain words. Speaks of no program. -/
namespace Go.Proofs.Ytfnomiingelfaaa
open Go.RowKit

structure RFin (R N cols : Nat) (A0 : Nat → Nat → Int) (r : Rd) : Prop where
  len : r.rows.length = R
  row : ∀ q ∈ r.rows, q.length = N
  pl : r.piv.length ≤ R
  pz : ∀ t, t < r.piv.length → 0 ≤ gt r.piv t ∧ gt r.piv t < cols
  asc : ∀ s t, s < t → t < r.piv.length → pivN r s < pivN r t
  pos : 0 < r.dv ∧ r.dv ≤ 720
  self : ∀ s t, s < r.piv.length → t < r.piv.length → gt (rowL r.rows t) (pivN r s) = if t = s then r.dv else 0
  low : ∀ x, r.piv.length ≤ x → x < R → ∀ c, c < cols → gt (rowL r.rows x) c = 0
  ech : ∀ t, t < r.piv.length → ∀ c, c < pivN r t → gt (rowL r.rows t) c = 0
  bd : ∀ x, x < R → ∀ c, c < cols → -720 ≤ gt (rowL r.rows x) c ∧ gt (rowL r.rows x) c ≤ 720
  bdN : ∀ x, x < R → ∀ c, c < N → -720000000 ≤ gt (rowL r.rows x) c ∧ gt (rowL r.rows x) c ≤ 720000000
  ker : ∀ w : Nat → Int, (∀ i, i < R → sumTo (fun c => A0 i c * w c) N = 0) ↔ (∀ x, x < R → sumTo (fun c => gt (rowL r.rows x) c * w c) N = 0)
theorem clearR_cols (c : Nat) (r : Rd) : (clearR c r).cols = r.cols := by unfold clearR; split <;> rfl
theorem clearN_cols (r : Rd) : ∀ k, (clearN r k).cols = r.cols
  | 0 => rfl
  | k + 1 => by rw [clearN_succ, clearR_cols, clearN_cols r k]
theorem bar_all {R N cols : Nat} {M : List (List Int)} (h1 : M.length = R) (h2 : ∀ q ∈ M, q.length = N) (hR : R ≤ 6) (hN : cols ≤ N) (hb1 : ∀ i, i < R → ∀ c, c < cols → -1 ≤ a0 M i c ∧ a0 M i c ≤ 1) (hb2 : ∀ i, i < R → ∀ c, c < N → -1000000 ≤ a0 M i c ∧ a0 M i c ≤ 1000000) :
    ∀ D, D ≤ cols → ∃ A, Bar R N D (a0 M) A (clearN { cols := cols, rows := M, piv := [], dv := 1 } D)
  | 0, _ => ⟨_, bar_start h1 h2⟩
  | D + 1, hD => by
    obtain ⟨A, hA⟩ := bar_all h1 h2 hR hN hb1 hb2 D (by omega)
    rw [clearN_succ]
    obtain ⟨r, hr⟩ : ∃ r, clearN { cols := cols, rows := M, piv := [], dv := 1 } D = r := ⟨_, rfl⟩
    rw [hr] at hA ⊢
    cases hp : pivRow r.rows D (r.rows.length - r.piv.length) r.piv.length with
    | none =>
      have e : clearR D r = r := by unfold clearR; rw [hp]
      rw [e]
      exact ⟨A, bar_skip hA (by omega) hp⟩
    | some i => exact bar_step hA hR (by omega) hN hb1 hb2 hp
theorem rd_fin {R N cols : Nat} {M : List (List Int)} (h1 : M.length = R) (h2 : ∀ q ∈ M, q.length = N) (hR : R ≤ 6) (hN : cols ≤ N) (hb1 : ∀ i, i < R → ∀ c, c < cols → -1 ≤ a0 M i c ∧ a0 M i c ≤ 1) (hb2 : ∀ i, i < R → ∀ c, c < N → -1000000 ≤ a0 M i c ∧ a0 M i c ≤ 1000000) :
    RFin R N cols (a0 M) (clearN { cols := cols, rows := M, piv := [], dv := 1 } cols) := by
  obtain ⟨A, h⟩ := bar_all h1 h2 hR hN hb1 hb2 cols (Nat.le_refl _)
  obtain ⟨r, hr⟩ : ∃ r, clearN { cols := cols, rows := M, piv := [], dv := 1 } cols = r := ⟨_, rfl⟩
  rw [hr] at h ⊢
  have hpt : ∀ t, t < r.piv.length → pivN r t < cols := fun t ht => by have := h.pz t ht; unfold pivN; omega
  have hA1 : ∀ x, x < R → ∀ c, c < cols → -1 ≤ A x c ∧ A x c ≤ 1 := fun x hx c hc => arr_bd h.arr (fun i hi => hb1 i hi c hc) x hx
  have hA2 : ∀ x, x < R → ∀ c, c < N → -1000000 ≤ A x c ∧ A x c ≤ 1000000 := fun x hx c hc => arr_bd h.arr (fun i hi => hb2 i hi c hc) x hx
  refine ⟨h.len, h.row, h.pl, h.pz, h.asc, ⟨h.pos, ?_⟩, ?_, ?_, ?_, ?_, ?_, ?_⟩
  · rw [h.dv]
    unfold dt
    have one : ∀ k, pr (fun _ => 1) k = 1 := fun k => by
      induction k with
      | zero => rfl
      | succ k ih => simp only [pr]; rw [ih]; rfl
    have hd := detC_bd r.piv.length (colF A (pivN r)) (fun _ => 1) (fun _ _ => Int.one_nonneg) (fun s hs i hi => hA1 i (by have := h.pl; omega) _ (hpt s hs))
    rw [one, Int.mul_one] at hd
    have : fc r.piv.length ≤ fc 6 := fc_mono (by have := h.pl; omega)
    exact Int.le_trans (Int.le_trans hd.2 this) (by decide)
  · intro s t hs ht
    rw [h.val t (by have := h.pl; omega) _ (by have := hpt s hs; omega), mk_self h.uq hs ht, h.dv]
  · intro x h3 h4 c hc
    rw [h.val x h4 c (by omega)]; exact h.low x h3 h4 c hc
  · intro t ht c hc
    rw [h.val t (by have := h.pl; omega) c (by have := hpt t ht; omega)]; exact h.ech t ht c hc
  · intro x hx c hc
    rw [h.val x hx c (by omega)]
    exact mk_bd6 (Y := 1) (by decide) h.pl hR hx (fun i hi t ht => hA1 i hi _ (hpt t ht)) (fun i hi => hA1 i hi c hc)
  · intro x hx c hc
    rw [h.val x hx c hc]
    exact mk_bd6 (Y := 1000000) (by decide) h.pl hR hx (fun i hi t ht => hA1 i hi _ (hpt t ht)) (fun i hi => hA2 i hi c hc)
  · intro w
    rw [h.ker w, mk_ker h.uq (by have := h.pos; rw [h.dv] at this; omega) R N h.pl w]
    constructor <;> intro hz x hx <;> rw [← hz x hx] <;> refine sumTo_congr N fun c hc => ?_ <;> rw [h.val x hx c hc]
def pxOk (m : List (List Int)) (px : List Int) : Prop := ∀ j ∈ px, 0 ≤ j ∧ j < colsM m
theorem gt_pixR {px r : List Int} {c : Nat} (h : c < px.length) : gt (pixR px r) c = gt r (gt px c).toNat := by
  unfold pixR gt; simp [h]
theorem rowL_pixM {m : List (List Int)} {px : List Int} {i : Nat} (h : i < m.length) : rowL (pixM px m) i = pixR px (rowL m i) := by
  unfold pixM rowL; simp [h]
theorem redN_cols (m : List (List Int)) (px : List Int) : (redN m px).cols = px.length := clearN_cols _ _
theorem redN_fin {m : List (List Int)} (hv : validM m = true) {px : List Int} (hpx : pxOk m px) : RFin m.length px.length px.length (a0 (pixM px m)) (redN m px) := by
  obtain ⟨hm1, hm6, hc1, hc10, hrows⟩ := validM_of hv
  have hb : ∀ i, i < m.length → ∀ c, c < px.length → -1 ≤ a0 (pixM px m) i c ∧ a0 (pixM px m) i c ≤ 1 := by
    intro i hi c hc
    unfold a0
    rw [rowL_pixM hi, gt_pixR hc]
    have hr := hrows _ (rowL_mem hi)
    have hj : gt px c ∈ px := by unfold gt; simp [hc]
    have := hpx _ hj
    exact gt_in hr.2 (by rw [hr.1]; omega)
  refine rd_fin (by simp [pixM]) ?_ hm6 (Nat.le_refl _) hb (fun i hi c hc => by have := hb i hi c hc; omega)
  intro q hq
  obtain ⟨r, _, rfl⟩ := List.mem_map.1 hq
  exact pixR_len _ _
end Go.Proofs.Ytfnomiingelfaaa
/- The kernel vector at a free column: its numbers. Plain words. -/
namespace Go.Proofs.Ytfnomiingelfaaa
open Go.RowKit

theorem freeTo_mem (pz : List Int) : ∀ k c, c ∈ freeTo pz k ↔ ∃ j : Nat, j < k ∧ c = (j : Int) ∧ (j : Int) ∉ pz
  | 0, c => by simp [freeTo]
  | k + 1, c => by
    unfold freeTo
    have ih := freeTo_mem pz k c
    split
    · rename_i h
      rw [ih]
      constructor
      · rintro ⟨j, h1, h2, h3⟩; exact ⟨j, by omega, h2, h3⟩
      · rintro ⟨j, h1, h2, h3⟩
        by_cases e : j = k
        · subst e; exact absurd h h3
        · exact ⟨j, by omega, h2, h3⟩
    · rename_i h
      rw [List.mem_append, ih, List.mem_singleton]
      constructor
      · rintro (⟨j, h1, h2, h3⟩ | rfl)
        · exact ⟨j, by omega, h2, h3⟩
        · exact ⟨k, by omega, rfl, h⟩
      · rintro ⟨j, h1, h2, h3⟩
        by_cases e : j = k
        · subst e; exact .inr h2
        · exact .inl ⟨j, by omega, h2, h3⟩
theorem mem_gt {xs : List Int} {v : Int} : v ∈ xs ↔ ∃ t, t < xs.length ∧ gt xs t = v := by
  rw [List.mem_iff_getElem]
  constructor
  · rintro ⟨t, h, e⟩; exact ⟨t, h, by unfold gt; simp [h, e]⟩
  · rintro ⟨t, h, e⟩; exact ⟨t, h, by unfold gt at e; simpa [h] using e⟩
section
variable {R N cols : Nat} {A0 : Nat → Nat → Int} {r : Rd}
theorem RFin.pivN_lt (h : RFin R N cols A0 r) {t : Nat} (ht : t < r.piv.length) : pivN r t < cols := by have := h.pz t ht; unfold pivN; omega
theorem RFin.pivN_eq (h : RFin R N cols A0 r) {t : Nat} (ht : t < r.piv.length) : gt r.piv t = (pivN r t : Int) := by have := h.pz t ht; unfold pivN; omega
theorem RFin.inj (h : RFin R N cols A0 r) {s t : Nat} (hs : s < r.piv.length) (ht : t < r.piv.length) (e : pivN r s = pivN r t) : s = t := by
  rcases Nat.lt_trichotomy s t with q | q | q
  · have := h.asc s t q ht; omega
  · exact q
  · have := h.asc t s q hs; omega
theorem RFin.mem (h : RFin R N cols A0 r) {c : Nat} : (c : Int) ∈ r.piv ↔ ∃ t, t < r.piv.length ∧ pivN r t = c := by
  rw [mem_gt]
  constructor
  · rintro ⟨t, ht, e⟩; exact ⟨t, ht, by rw [h.pivN_eq ht] at e; omega⟩
  · rintro ⟨t, ht, e⟩; exact ⟨t, ht, by rw [h.pivN_eq ht, e]⟩
theorem RFin.ker_at (h : RFin R N cols A0 r) (hR : R ≤ 6) (hN : cols ≤ N) {fr : Nat} (hf : fr < cols) (hn : (fr : Int) ∉ r.piv) : ∀ k, k ≤ r.piv.length → ∀ c, c < cols →
    gt (kerTo cols r.rows r.piv r.dv fr k) c = if c = fr then r.dv else if (∃ t, t < k ∧ pivN r t = c) then -gt (rowL r.rows ((List.range k).findIdx fun t => pivN r t == c)) fr else 0
  | 0, _, c, hc => by
    unfold kerTo
    rw [gt_set (by simpa using hf)]
    split
    · rfl
    · rw [if_neg (by rintro ⟨t, ht, _⟩; omega)]; unfold gt; simp [hc]
  | k + 1, hk, c, hc => by
    have ih := h.ker_at hR hN hf hn k (by omega) c hc
    unfold kerTo
    rw [gt_set (by rw [kerTo_len]; exact h.pivN_lt (by omega))]
    have hfr : pivN r k ≠ fr := fun e => hn (h.mem.2 ⟨k, by omega, e⟩)
    have hfind : ∀ t, t ≤ k → pivN r t = c → (List.range (k + 1)).findIdx (fun t => pivN r t == c) = t := by
      intro t ht e
      rw [List.findIdx_eq (by simp; omega)]
      refine ⟨by simpa using e, fun j hj => ?_⟩
      have : pivN r j ≠ c := fun e2 => by have := h.inj (s := j) (t := t) (by omega) (by omega) (by omega); omega
      simpa using this
    have hfind' : ∀ t, t < k → pivN r t = c → (List.range k).findIdx (fun t => pivN r t == c) = t := by
      intro t ht e
      rw [List.findIdx_eq (by simp; omega)]
      refine ⟨by simpa using e, fun j hj => ?_⟩
      have : pivN r j ≠ c := fun e2 => by have := h.inj (s := j) (t := t) (by omega) (by omega) (by omega); omega
      simpa using this
    by_cases e : c = (gt r.piv k).toNat
    · rw [if_pos e, if_neg (by intro e2; apply hfr; show (gt r.piv k).toNat = fr; omega), if_pos ⟨k, by omega, e.symm⟩, hfind k (Nat.le_refl k) e.symm]
      have := h.bd k (by have := h.pl; omega) fr hf
      exact wrap_id (by omega) (by omega)
    · rw [if_neg e, ih]
      by_cases e1 : c = fr
      · rw [if_pos e1, if_pos e1]
      · rw [if_neg e1, if_neg e1]
        by_cases e2 : ∃ t, t < k ∧ pivN r t = c
        · obtain ⟨t, ht, e3⟩ := e2
          rw [if_pos ⟨t, ht, e3⟩, if_pos ⟨t, by omega, e3⟩, hfind t (by omega) e3, hfind' t ht e3]
        · rw [if_neg e2, if_neg]
          rintro ⟨t, ht, e3⟩
          by_cases e4 : t = k
          · subst e4; exact e e3.symm
          · exact e2 ⟨t, by omega, e3⟩
def kvec (r : Rd) (cols fr : Nat) : List Int := kerTo cols r.rows r.piv r.dv fr r.piv.length
theorem RFin.kvec_free (h : RFin R N cols A0 r) (hR : R ≤ 6) (hN : cols ≤ N) {fr : Nat} (hf : fr < cols) (hn : (fr : Int) ∉ r.piv) : gt (kvec r cols fr) fr = r.dv := by
  unfold kvec; rw [h.ker_at hR hN hf hn _ (Nat.le_refl _) fr hf, if_pos rfl]
theorem RFin.kvec_piv (h : RFin R N cols A0 r) (hR : R ≤ 6) (hN : cols ≤ N) {fr : Nat} (hf : fr < cols) (hn : (fr : Int) ∉ r.piv) {t : Nat} (ht : t < r.piv.length) : gt (kvec r cols fr) (pivN r t) = -gt (rowL r.rows t) fr := by
  unfold kvec
  rw [h.ker_at hR hN hf hn _ (Nat.le_refl _) _ (h.pivN_lt ht), if_neg (fun e => hn (h.mem.2 ⟨t, ht, e⟩)), if_pos ⟨t, ht, rfl⟩]
  congr 3
  rw [List.findIdx_eq (by simpa using ht)]
  refine ⟨by simp, fun j hj => ?_⟩
  have : pivN r j ≠ pivN r t := fun e2 => by have := h.inj (s := j) (t := t) (by omega) ht e2; omega
  simpa using this
theorem RFin.kvec_else (h : RFin R N cols A0 r) (hR : R ≤ 6) (hN : cols ≤ N) {fr : Nat} (hf : fr < cols) (hn : (fr : Int) ∉ r.piv) {c : Nat} (hc : c < cols) (h1 : c ≠ fr) (h2 : (c : Int) ∉ r.piv) : gt (kvec r cols fr) c = 0 := by
  unfold kvec
  rw [h.ker_at hR hN hf hn _ (Nat.le_refl _) c hc, if_neg h1, if_neg fun e => h2 (h.mem.2 e)]
theorem RFin.kvec_bd (h : RFin R N cols A0 r) (hR : R ≤ 6) (hN : cols ≤ N) {fr : Nat} (hf : fr < cols) (hn : (fr : Int) ∉ r.piv) {c : Nat} (hc : c < cols) : -720 ≤ gt (kvec r cols fr) c ∧ gt (kvec r cols fr) c ≤ 720 := by
  have hp := h.pos
  by_cases e : c = fr
  · subst e; rw [h.kvec_free hR hN hf hn]; omega
  · by_cases e2 : (c : Int) ∈ r.piv
    · obtain ⟨t, ht, rfl⟩ := h.mem.1 e2
      rw [h.kvec_piv hR hN hf hn ht]
      have := h.bd t (by have := h.pl; omega) fr hf
      omega
    · rw [h.kvec_else hR hN hf hn hc e e2]; omega
theorem kvec_len (r : Rd) (cols fr : Nat) : (kvec r cols fr).length = cols := kerTo_len _ _ _ _ _ _
theorem gcdTo_zero {xs : List Int} : ∀ k, gcdTo xs k = 0 → ∀ j, j < k → gt xs j = 0
  | 0, _, _, h => absurd h (by omega)
  | k + 1, h, j, hj => by
    unfold gcdTo at h
    have h1 : gcdTo xs k = 0 := Nat.eq_zero_of_gcd_eq_zero_left h
    have h2 : (gt xs k).natAbs = 0 := Nat.eq_zero_of_gcd_eq_zero_right h
    by_cases e : j = k
    · subst e; omega
    · exact gcdTo_zero k h1 j (by omega)
theorem RFin.kvec_gcd (h : RFin R N cols A0 r) (hR : R ≤ 6) (hN : cols ≤ N) {fr : Nat} (hf : fr < cols) (hn : (fr : Int) ∉ r.piv) : gcdL (kvec r cols fr) ≠ 0 := by
  intro e
  have := gcdTo_zero _ e fr (by rw [kvec_len]; exact hf)
  rw [h.kvec_free hR hN hf hn] at this
  have := h.pos; omega
theorem RFin.kvec_mid (h : RFin R N cols A0 r) (hR : R ≤ 6) (hN : cols ≤ N) {fr : Nat} (hf : fr < cols) (hn : (fr : Int) ∉ r.piv) : ∀ x ∈ kvec r cols fr, Mid x := by
  intro x hx
  obtain ⟨c, hc, rfl⟩ := mem_gt.1 hx
  have := h.kvec_bd hR hN hf hn (c := c) (by rw [kvec_len] at hc; exact hc)
  unfold Mid; omega
end
end Go.Proofs.Ytfnomiingelfaaa
/- reduce: a contract. -/
namespace Go.Proofs.Ytfnomiingelfaaa
open Go.RowKit

def RdPost (r : Rd) (w : World) (e : Ending) (w' : World) : Prop := Below w.heap.size w w' ∧ ∃ (g cap : Nat) (ads : List (Nat × Nat)) (pa : Option Addr) (pc : Nat), e = .returned (rdV g cap pa pc r) ∧ w.heap.size ≤ g ∧ SI w' w.heap.size g ads r.rows ∧ OwnI w' w.heap.size (.slice pa r.piv.length pc) r.piv
theorem SI.lower {w : World} {base base' g : Nat} {ads : List (Nat × Nat)} {M : List (List Int)} (h : SI w base g ads M) (hb : base' ≤ base) : SI w base' g ads M :=
  ⟨h.len, fun i x r e1 e2 => ⟨(h.row i x r e1 e2).1, (h.row i x r e1 e2).2.mono hb⟩, h.apart, fun i x e => ⟨(h.out i x e).1, Nat.le_trans hb (h.out i x e).2⟩⟩
theorem rdBox_heap (T g cap : Nat) (pa : Option Addr) (pc : Nat) (r : Rd) (W : World) {b : Nat} (hb : b ≠ T) : (rdBox T g cap pa pc r W).heap[b]? = W.heap[b]? :=
  (Below.heap_setCell _ ⟨T, 3, none⟩ _ b hb).trans ((Below.heap_setCell _ ⟨T, 2, none⟩ _ b hb).trans ((Below.heap_setCell _ ⟨T, 1, none⟩ _ b hb).trans (Below.heap_setCell W ⟨T, 0, none⟩ _ b hb)))
theorem rdPost_of {B g cap pc : Nat} {pa : Option Addr} {ads : List (Nat × Nat)} {r : Rd} {w w0 W : World} (hT : Below w.heap.size w w0) (h : RdW (w.heap.size + 1) B g cap ads (.slice pa r.piv.length pc) r W) (hb : Below (w.heap.size + 1) w0 W) : RdPost r w (.returned (rdV g cap pa pc r)) (rdBox w.heap.size g cap pa pc r W) := by
  refine ⟨?_, g, cap, ads, pa, pc, rfl, Nat.le_trans (Nat.le_succ _) h.bg, (h.si.same (rdBox_heap _ _ _ _ _ _ _ (by have := h.bg; omega)) fun i x e => rdBox_heap _ _ _ _ _ _ _ (by have := (h.si.out i x e).2; omega)).lower (Nat.le_succ _), ?_⟩
  · have h1 := hT.trans (hb.mono (Nat.le_succ _))
    exact (((h1.setCell (p := ⟨w.heap.size, 0, none⟩) (Nat.le_refl _) _).setCell (p := ⟨w.heap.size, 1, none⟩) (Nat.le_refl _) _).setCell (p := ⟨w.heap.size, 2, none⟩) (Nat.le_refl _) _).setCell (p := ⟨w.heap.size, 3, none⟩) (Nat.le_refl _) _
  · have hp : OwnI (rdBox w.heap.size g cap pa pc r W) (w.heap.size + 1) (.slice pa r.piv.length pc) r.piv := row_same h.pi fun b e => rdBox_heap _ _ _ _ _ _ _ (by have := (World.ownsRow.lt h.pi b e).1; omega)
    exact hp.mono (Nat.le_succ _)
theorem rb_new (w : World) (o : Obj) (cols : Int) (t : TypeId) : RB (w.heap.size + 1) cols (.slice none 0 0) ((w.alloc o).alloc (.cells #[.int .i64 cols, .slice none 0 0, .slice none 0 0, .int .i64 1] t)) := by
  have h : (w.alloc o).heap.size = w.heap.size + 1 := World.size_alloc _ _
  rw [← h]
  exact ⟨alloc_cell _ _ _ _ _ rfl, alloc_cell _ _ _ _ _ rfl, alloc_cell _ _ _ _ _ rfl, alloc_cell _ _ _ _ _ rfl, by simp, by simp, by simp⟩
theorem rt_new (w : World) (a b c d : Value) (t : TypeId) (o : Obj) : ∀ k, k < 4 → (∃ u, ((w.alloc (.cells #[a, b, c, d] t)).alloc o).cell? ⟨w.heap.size, k, none⟩ = some u) ∧ ((w.alloc (.cells #[a, b, c, d] t)).alloc o).frozen? ⟨w.heap.size, k, none⟩ = false := by
  have h : (w.alloc (.cells #[a, b, c, d] t)).heap.size = w.heap.size + 1 := World.size_alloc _ _
  intro k hk
  refine ⟨?_, by simp⟩
  match k, hk with
  | 0, _ => exact ⟨a, (alloc_old _ _ _ _ (by omega)).trans (alloc_cell _ _ _ _ _ rfl)⟩
  | 1, _ => exact ⟨b, (alloc_old _ _ _ _ (by omega)).trans (alloc_cell _ _ _ _ _ rfl)⟩
  | 2, _ => exact ⟨c, (alloc_old _ _ _ _ (by omega)).trans (alloc_cell _ _ _ _ _ rfl)⟩
  | 3, _ => exact ⟨d, (alloc_old _ _ _ _ (by omega)).trans (alloc_cell _ _ _ _ _ rfl)⟩
theorem two_new (w : World) (o o' : Obj) : Below w.heap.size w ((w.alloc o).alloc o') := ((Below.refl _ _).alloc (Nat.le_refl _) _).alloc (by rw [World.size_alloc]; omega) _
set_option maxRecDepth 100000 in
theorem reduce_any0 {ma : Option Addr} {m : List (List Int)} {mc : Nat} {pxa : Option Addr} {px : List Int} {pxc : Nat} {w : World} (hm : Hid (m.length ≤ 6)) (hm1 : Hid (1 ≤ m.length)) (hpx : Hid (px.length ≤ 10)) (hin : Hid (∀ j ∈ px, 0 ≤ j ∧ j < colsM m)) (hrl : Hid (∀ r ∈ m, r.length = colsM m)) (h64 : Hid (All64 m))
    (hms : Hid (Ms w ma m)) (hps : Hid (Sl w pxa px)) :
    Calls Try.prog 83 #[.slice ma m.length mc, .slice pxa px.length pxc, .func (.func 62) #[] #[]] w (RdPost (redN m px) w) := by
  go_enter Try.func83, Try.ntmps83
  refine wp_seq_k (fun K hK => ?_)
  have HK := Lib.hid hK; clear hK
  go_wp2
  refine HK.out _ _ ?_
  clear HK
  refine wp_seq_k (fun K hK => ?_)
  have HK := Lib.hid hK; clear hK
  go_wp2
  refine HK.out _ _ ?_
  clear HK
  refine reduce_t2 (base := w.heap.size + 1) (T := w.heap.size) (Nat.le_refl _) hm hpx hin hrl ?_ ?_ ?_ ?_ (Below.refl _ _) hm1 h64 (Nat.lt_succ_self _) ?_ ?_ _ _ _ _ _ _ _ _ _ _ _ _ _ _ _ _ _ _ _ _ _ _ _ _ _ _ _ _ _ _ _ _ _ _ _ _ _ _ _ _ _ _ _ _ _ _ _ _ _ _ _ _ _ _ _ ?_
  · exact fun hb => hms.out.below ((two_new w _ _).trans (hb.mono (Nat.le_succ _)))
  · exact fun hb => hps.out.below ((two_new w _ _).trans (hb.mono (Nat.le_succ _)))
  · rw [World.size_alloc, World.size_alloc]; omega
  · exact rb_new w _ _ _
  · rw [World.size_alloc, World.size_alloc]; omega
  · exact rt_new w _ _ _ _ _ _
  · exact fun g cap ads pa pc W h hb => rdPost_of (two_new w _ _) h hb
theorem reduce_any {ma : Option Addr} {m : List (List Int)} {mc : Nat} {pxa : Option Addr} {px : List Int} {pxc : Nat} {w : World} (hm : Hid (m.length ≤ 6)) (hm1 : Hid (1 ≤ m.length)) (hpx : Hid (1 ≤ px.length ∧ px.length ≤ 10)) (hin : Hid (∀ j ∈ px, 0 ≤ j ∧ j < colsM m)) (hrl : Hid (∀ r ∈ m, r.length = colsM m)) (h64 : Hid (All64 m))
    (hms : Hid (Ms w ma m)) (hps : Hid (Sl w pxa px)) :
    Calls Try.prog 83 #[.slice ma m.length mc, .slice pxa px.length pxc, .func (.func 62) #[] #[]] w (RdPost (redN m px) w) := reduce_any0 hm hm1 (Lib.hid hpx.out.2) hin hrl h64 hms hps
end Go.Proofs.Ytfnomiingelfaaa
/- circuitOn of layer 3: a contract. -/
namespace Go.Proofs.Ytfnomiingelfaaa
open Go.RowKit

def putTo (n : Nat) (px : List Int) (part : List Int) : Nat → List Int
  | 0 => List.replicate n 0
  | k + 1 => (putTo n px part k).set (gt px k).toNat (gt part k)
theorem putTo_len (n : Nat) (px part : List Int) : ∀ k, (putTo n px part k).length = n
  | 0 => by simp [putTo]
  | k + 1 => by unfold putTo; rw [List.length_set]; exact putTo_len n px part k
def partC (m : List (List Int)) (px : List Int) : List Int := shortL (kvec (redN m px) px.length (gt (freeTo (redN m px).piv px.length) 0).toNat)
def signC (xs : List Int) : List Int := if gt xs 0 < 0 then negL xs else xs
def circB (m : List (List Int)) (px : List Int) : Bool := decide ((freeTo (redN m px).piv px.length).length = 1) && !decide ((0 : Int) ∈ partC m px)
def circH (m : List (List Int)) (px : List Int) : List Int := putTo (colsM m) px (signC (partC m px)) px.length
def CPost (m : List (List Int)) (px : List Int) (w : World) (e : Ending) (w' : World) : Prop :=
  Below w.heap.size w w' ∧ ((circB m px = false ∧ e = .returned (.tuple #[.slice none 0 0, .bool false])) ∨ (circB m px = true ∧ ∃ b, e = .returned (.tuple #[.slice (some ⟨b, 0, none⟩) (colsM m) (colsM m), .bool true]) ∧ OwnI w' w.heap.size (.slice (some ⟨b, 0, none⟩) (colsM m) (colsM m)) (circH m px)))
set_option maxRecDepth 100000 in
set_option maxHeartbeats 2000000 in
theorem circuitOn_any {ma : Option Addr} {m : List (List Int)} {mc : Nat} {pxa : Option Addr} {px : List Int} {pxc : Nat} {w : World} (hv : validM m = true) (hpx : 1 ≤ px.length ∧ px.length ≤ 10) (hin : pxOk m px) (hms : Ms w ma m) (hps : Sl w pxa px) :
    Calls Try.prog 76 #[.slice ma m.length mc, .slice pxa px.length pxc] w (CPost m px w) := by
  have HF := Lib.hid (redN_fin hv hin)
  obtain ⟨hm1, hm6, hc1, hc10, hrows⟩ := validM_of hv
  have h64 : Hid (All64 m) := fun q hq x hx => by
    obtain ⟨c, hc, rfl⟩ := mem_gt.1 hx
    have := gt_in (hrows q hq).2 hc
    unfold In64; omega
  have HRL : Hid (∀ r ∈ m, r.length = colsM m) := fun r hr => (hrows r hr).1
  have HMS := Lib.hid hms
  have HPS := Lib.hid hps
  have HPX := Lib.hid hpx
  have HIN : Hid (∀ j ∈ px, 0 ≤ j ∧ j < colsM m) := hin
  have HM6 := Lib.hid hm6
  have HM1 := Lib.hid hm1
  have HC10 := Lib.hid hc10
  have HC1 := Lib.hid hc1
  clear hv hin hms hps hrows hm1 hm6 hc1 hc10
  obtain ⟨r, hr⟩ : ∃ r, redN m px = r := ⟨_, rfl⟩
  have HRE := Lib.hid hr
  have hcols : r.cols = px.length := by rw [← hr]; exact redN_cols m px
  obtain ⟨cols, rows, piv, dv⟩ := r
  dsimp only at hcols
  subst hcols
  have HF1 : Hid (RFin m.length px.length px.length (a0 (pixM px m)) { cols := px.length, rows := rows, piv := piv, dv := dv }) := by rw [← hr]; exact HF.out
  have HRA : Hid (Calls Try.prog 83 #[.slice ma m.length mc, .slice pxa px.length pxc, .func (.func 62) #[] #[]] w (RdPost { cols := px.length, rows := rows, piv := piv, dv := dv } w)) := by rw [← hr]; exact reduce_any HM6 HM1 HPX HIN HRL h64 HMS HPS
  have HRLEN : Hid (rows.length = m.length) := HF1.out.len
  obtain ⟨fz, hfz⟩ : ∃ fz, freeTo piv px.length = fz := ⟨_, rfl⟩
  have HFZ := Lib.hid hfz
  have HFL : Hid (fz.length ≤ 10) := by have h1 := freeTo_len piv px.length; rw [hfz] at h1; have := HPX.out.2; show _ ≤ _; omega
  have HFM : Hid (∀ c, c ∈ fz ↔ ∃ j : Nat, j < px.length ∧ c = (j : Int) ∧ (j : Int) ∉ piv) := fun c => by rw [← hfz]; exact freeTo_mem piv px.length c
  have HPL : Hid (piv.length ≤ m.length) := HF1.out.pl
  clear hr hfz HF
  by_cases hone : fz.length = 1
  case neg =>
    have hne : ¬ ((fz.length : Int) = 1) := by omega
    have HB : Hid (circB m px = false) := by show _ = _; unfold circB; rw [HRE.out]; dsimp only; rw [HFZ.out]; simp [hone]
    clear hone
    go_enter Try.func76, Try.ntmps76
    go_wp2_with (first | (go_at_call 83; refine HRA.out.mono ?_; rintro e w2 ⟨hb2, g, cap, ads, pa2, pc2, rfl, hgg, si, pi⟩; dsimp only at hgg si pi; unfold rdV; dsimp only; have HB2 := Lib.hid hb2; have HSI := Lib.hid si; have HPI := Lib.hid (OwnI.sl pi); clear si pi hgg hb2) | (go_at_call 92; refine (free_any px.length g rows.length cap pa2 piv pc2 dv _ (by have := HPX.out.2; omega) (by have := HPL.out; have := HM6.out; omega) (HPI.out.below ((Below.refl _ _).alloc (Nat.le_refl _) _))).mono ?_; rintro e w3 ⟨hb3, fa, fk, rfl, hsf⟩; rw [HFZ.out] at hsf ⊢; have HB3 := Lib.hid hb3; have HSF := Lib.hid hsf; clear hb3 hsf))
    go_ret2
    exact ⟨(HB2.out.alloc HB2.out.size _).trans (HB3.out.mono (by rw [World.size_alloc]; have := HB2.out.size; omega)), .inl ⟨HB.out, rfl⟩⟩
  case pos =>
  obtain ⟨f, hf⟩ : ∃ f, fz = [f] := by
    match fz, hone with
    | [f], _ => exact ⟨f, rfl⟩
  subst hf
  obtain ⟨fr, hfr, hff, hfn⟩ := (HFM.out f).1 (by simp)
  subst hff
  have HFR := Lib.hid hfr
  have HFN := Lib.hid hfn
  have HK : Hid (∀ (w' : World) (g' cap' pc' : Nat) (ads' : List (Nat × Nat)) (pa' : Option Addr), Sl w' pa' piv → SI w' w.heap.size g' ads' rows → Calls Try.prog 93 #[.agg #[.int .i64 (px.length : Int), .slice (some ⟨g', 0, none⟩) rows.length cap', .slice pa' piv.length pc', .int .i64 dv], .int .i64 (fr : Int)] w' fun e w2 => Below w'.heap.size w' w2 ∧ ∃ b k, e = .returned (.slice (some ⟨b, 0, none⟩) px.length k) ∧ OwnI w2 w'.heap.size (.slice (some ⟨b, 0, none⟩) px.length k) (partC m px)) := by
    intro w' g' cap' pc' ads' pa' h1 h2
    have e : partC m px = kerL px.length rows piv dv fr := by unfold partC; rw [HRE.out]; dsimp only; rw [HFZ.out]; rfl
    rw [e]
    exact kernel_any w.heap.size px.length g' cap' ads' rows pa' piv pc' dv fr w' (by have := HPX.out.2; omega) hfr (by have h3 := HRLEN.out; have h4 := HPL.out; omega) (by have h3 := HRLEN.out; have h4 := HM6.out; omega) (fun k hk => by have := HF1.out.pz k hk; dsimp only at this; exact this)
      (fun r hr => by have := HF1.out.row r hr; omega) (HF1.out.kvec_mid HM6.out (Nat.le_refl _) hfr hfn) (HF1.out.kvec_gcd HM6.out (Nat.le_refl _) hfr hfn) h1 h2
  clear hone hfr hfn hpx
  go_enter Try.func76, Try.ntmps76
  go_wp2_with (first | (go_at_call 83; refine HRA.out.mono ?_; rintro e w2 ⟨hb2, g, cap, ads, pa2, pc2, rfl, hgg, si, pi⟩; dsimp only at hgg si pi; unfold rdV; dsimp only; have HB2 := Lib.hid hb2; have HSI := Lib.hid si; have HPI := Lib.hid (OwnI.sl pi); clear si pi hgg hb2) | (go_at_call 92; refine (free_any px.length g rows.length cap pa2 piv pc2 dv _ (by have := HPX.out.2; omega) (by have := HPL.out; have := HM6.out; omega) (HPI.out.below ((Below.refl _ _).alloc (Nat.le_refl _) _))).mono ?_; rintro e w3 ⟨hb3, fa, fk, rfl, hsf⟩; rw [HFZ.out] at hsf ⊢; have HB3 := Lib.hid hb3; have HSF := Lib.hid hsf; obtain ⟨fb, fo, v, rfl, hcv, hvv⟩ := hsf.at (k := 0) Nat.zero_lt_one; have hv2 : (fr : Int) = v := Option.some.inj hvv; subst hv2; clear hb3 hsf hvv))
  have hsz : (w2.alloc (.cells #[.int .i64 (px.length : Int), .slice (some ⟨g, 0, none⟩) rows.length cap, .slice pa2 piv.length pc2, .int .i64 dv] 87)).heap.size = w2.heap.size + 1 := World.size_alloc _ _
  have HBX := (HB3.out.cell (p := ⟨w2.heap.size, 0, none⟩) (by rw [hsz]; exact Nat.lt_succ_self _)).trans (alloc_cell w2 _ _ _ _ rfl)
  have HBY := (HB3.out.cell (p := ⟨w2.heap.size, 1, none⟩) (by rw [hsz]; exact Nat.lt_succ_self _)).trans (alloc_cell w2 _ _ _ _ rfl)
  have HBZ := (HB3.out.cell (p := ⟨w2.heap.size, 2, none⟩) (by rw [hsz]; exact Nat.lt_succ_self _)).trans (alloc_cell w2 _ _ _ _ rfl)
  have HBW := (HB3.out.cell (p := ⟨w2.heap.size, 3, none⟩) (by rw [hsz]; exact Nat.lt_succ_self _)).trans (alloc_cell w2 _ _ _ _ rfl)
  have HB23 : Hid (Below w2.heap.size w2 w3) := ((Below.refl _ _).alloc (Nat.le_refl _) _).trans (HB3.out.mono (by rw [hsz]; exact Nat.le_succ _))
  have HPI3 : Hid (Sl w3.drew pa2 piv) := (HPI.out.below HB23.out).drew
  have HSI3 : Hid (SI w3.drew w.heap.size g ads rows) := (HSI.out.below HB23.out).below (Below.refl _ _).drew
  have HW3 : Hid (Below w.heap.size w w3) := HB2.out.trans (HB23.out.mono HB2.out.size)
  clear hsz
  rw [Nat.add_zero] at hcv
  have l2 : w2.heap.size < w3.drew.heap.size := by have h1 := HB3.out.size; rw [World.size_alloc] at h1; exact h1
  have lf : fb < w3.drew.heap.size := cell_lt hcv
  go_region_held_law (fun w' => w'.cell? ⟨w2.heap.size, 0, none⟩ = some (.int .i64 (px.length : Int)) ∧ w'.cell? ⟨w2.heap.size, 1, none⟩ = some (.slice (some ⟨g, 0, none⟩) rows.length cap) ∧ w'.cell? ⟨w2.heap.size, 2, none⟩ = some (.slice pa2 piv.length pc2) ∧ w'.cell? ⟨w2.heap.size, 3, none⟩ = some (.int .i64 dv) ∧ w'.cell? ⟨fb, fo, none⟩ = some (.int .i64 (fr : Int))) (first | exact ⟨by assumption, by assumption, by assumption, by assumption, by assumption⟩ | go_keep | exact ⟨(hb4.cell (p := ⟨w2.heap.size, 0, none⟩) l2).trans (by assumption), (hb4.cell (p := ⟨w2.heap.size, 1, none⟩) l2).trans (by assumption), (hb4.cell (p := ⟨w2.heap.size, 2, none⟩) l2).trans (by assumption), (hb4.cell (p := ⟨w2.heap.size, 3, none⟩) l2).trans (by assumption), (hb4.cell (p := ⟨fb, fo, none⟩) lf).trans (by assumption)⟩) (first | (go_at_call 93; refine (HK.out _ g cap pc2 ads pa2 HPI3.out HSI3.out).mono ?_; rintro e w4 ⟨hb4, kb, kk, rfl, ho4⟩))
  rename_i hsk
  clear hsk
  have HB4 := Lib.hid hb4
  have HO4 := Lib.hid ho4
  clear hb4 ho4 l2 lf
  obtain ⟨pt, hpt⟩ : ∃ pt, partC m px = pt := ⟨_, rfl⟩
  rw [hpt] at HO4
  have HPT := Lib.hid hpt
  have HFZ1 : Hid ((freeTo (redN m px).piv px.length).length = 1) := by show _ = _; rw [HRE.out]; dsimp only; rw [HFZ.out]; rfl
  have hptl : pt.length = px.length := by
    rw [← hpt]; unfold partC; rw [HRE.out]; dsimp only; rw [HFZ.out]
    show (shortL (kvec _ px.length fr)).length = _
    unfold shortL; rw [List.length_map, kvec_len]
  have HPTL := Lib.hid hptl
  have HB34 : Hid (Below w.heap.size w w4) := HW3.out.trans ((Below.refl _ _).drew.trans (HB4.out.mono HW3.out.size))
  have HSP := Lib.hid HO4.out.sl
  have HCN : Hid (Calls Try.prog 94 #[.slice (some ⟨kb, 0, none⟩) px.length kk, .int .i64 0] w4 fun e w' => e = .returned (.bool (decide ((0 : Int) ∈ pt))) ∧ w4 = w') := by
    have h := contains_any (some ⟨kb, 0, none⟩) pt kk 0 w4 (by have := HPX.out.2; omega) HSP.out
    rw [hptl] at h
    exact h
  clear hpt HBX HBY HBZ HBW hcv hptl
  by_cases hz : (0 : Int) ∈ pt
  case pos =>
    have HB : Hid (circB m px = false) := by show _ = _; unfold circB; rw [HPT.out]; simp [hz]
    have hd : decide ((0 : Int) ∈ pt) = true := by simpa using hz
    rw [hd] at HCN
    clear hz hd
    go_wp2_with (go_at_call 94; refine HCN.out.mono ?_; rintro e w5 ⟨rfl, rfl⟩)
    go_ret2
    exact ⟨HB34.out, .inl ⟨HB.out, rfl⟩⟩
  case neg =>
  have HB : Hid (circB m px = true) := by show _ = _; unfold circB; rw [HPT.out, HFZ1.out]; simp [hz]
  have hd : decide ((0 : Int) ∈ pt) = false := by simpa using hz
  rw [hd] at HCN
  clear hz hd
  obtain ⟨v0, hv0⟩ : ∃ v, gt pt 0 = v := ⟨_, rfl⟩
  have HV0 := Lib.hid hv0
  have hc0 : w4.cell? ⟨kb, 0, none⟩ = some (.int .i64 v0) := by rw [← hv0]; exact (OwnI.cell HO4.out (j := 0) (by have := HPTL.out; have := HPX.out.1; omega)).1
  clear hv0
  obtain ⟨b1, o1, ai, rr, ci, rfl, hcell, hsl, HR⟩ := HMS.out.at (show 0 < m.length from HM1.out)
  have hrn : rr.length = colsM m := HRL.out rr (List.mem_of_getElem? HR.out)
  rw [hrn] at hcell
  clear hrn hsl
  obtain ⟨i0, hi, hz0, hz1, hz2⟩ := info_parts Try.infoInt
  have hm1 := HM1.out
  have hp1 := HPX.out.1
  have hp10 := HPX.out.2
  by_cases hneg : v0 < 0
  case pos =>
    have HTN : Hid (Calls Try.prog 95 #[.slice (some ⟨kb, 0, none⟩) px.length kk] w4 fun e w' => e = .returned (.tuple #[]) ∧ OnlyB kb w4 w' ∧ Below w3.drew.heap.size w4 w' ∧ OwnI w' w3.drew.heap.size (.slice (some ⟨kb, 0, none⟩) px.length kk) (negL pt)) := by
      have h := turn_any w3.drew.heap.size kb kk pt w4 (by have h1 := HPTL.out; have := HPX.out.2; omega) (by rw [HPTL.out]; exact HO4.out)
      rw [HPTL.out] at h
      exact h
    obtain ⟨q, hq⟩ : ∃ q, signC pt = q := ⟨_, rfl⟩
    have HQ := Lib.hid hq
    have hqn : negL pt = q := by rw [← hq]; unfold signC; rw [if_pos (by rw [HV0.out]; exact hneg)]
    rw [hqn] at HTN
    clear hq hqn
    have hlb := cell_lt hcell
    have HQL : Hid (q.length = px.length) := by show _ = _; rw [← HQ.out]; unfold signC; split <;> simp [negL, HPTL.out]
    have HHQ : Hid (circH m px = putTo (colsM m) px q px.length) := by show _ = _; unfold circH; rw [HPT.out, HQ.out]
    have hn10 := HC10.out
    obtain ⟨n, hn⟩ : ∃ n, colsM m = n := ⟨_, rfl⟩
    rw [hn] at hcell HHQ hn10
    have HN := Lib.hid hn
    clear hn
    have HLB := Lib.hid hlb
    have HCELL := Lib.hid hcell
    clear hlb hcell
    go_wp2_with (first | (go_at_call 94; refine HCN.out.mono ?_; rintro e w5 ⟨rfl, rfl⟩) | (go_at_call 95; refine HTN.out.mono ?_; rintro e w5 ⟨rfl, -, hb5, ho5⟩; have HB5 := Lib.hid (HB34.out.trans (hb5.mono HW3.out.size)); have HSQ := Lib.hid ho5.sl; clear hb5 ho5; have hcell5 : w5.cell? ⟨b1, o1, none⟩ = some (.slice ai n ci) := (HB5.out.cell (p := ⟨b1, o1, none⟩) HLB.out).trans HCELL.out) | (with_reducible refine wpList_make_full _ rfl (.tmp 35) (.tmp 35) 24 rfl w5.heap.size 3 i0 (.int .i64 0) 1 Try.underlying24 hi hz0 hz1 .i64 .i64 (n : Int) (n : Int) n rfl rfl rfl rfl (by rw [hz2]; omega) (by unfold maxLen; omega) (Nat.le_refl _) ?_))
    clear hcell5
    rotate_left
    intro w6 hown hgrow
    have hb6 : Below w5.heap.size w5 w6 := (Below.refl _ _).grown hgrow (Nat.le_refl _) (fun k e => by cases e)
    have HB6 : Hid (Below w.heap.size w w6) := HB5.out.trans (hb6.mono HB5.out.size)
    have HO6 : Hid (OwnI w6 w.heap.size (.slice (some ⟨w5.heap.size, 0, none⟩) n n) (putTo n px q 0)) := by
      have z := zeros_are n
      rw [Nat.mul_one] at z
      refine OwnI.mono (base := w5.heap.size) ?_ HB5.out.size
      show w6.ownsRow _ _ _ _ _ _
      rw [putTo_len]
      show w6.ownsRow _ _ _ _ _ ((List.replicate n (0 : Int)).map (Value.int .i64))
      rw [← z]; exact hown
    have HWS : Hid (w.heap.size ≤ w5.heap.size) := HB5.out.size
    have HSQ6 : Hid (Sl w6 (some ⟨kb, 0, none⟩) q) := HSQ.out.below hb6
    have HPS6 : Hid (Sl w6 pxa px) := HPS.out.below HB6.out
    have HLQ : Hid (∀ c, c < q.length → ∃ v, w6.cell? ⟨kb, 0 + c, none⟩ = some v ∧ kb < w5.heap.size) := fun c hc => by
      obtain ⟨b', o', e, h2⟩ := HSQ.out c hc
      have h3 := HSQ6.out c hc
      obtain ⟨b'', o'', e2, h4⟩ := h3
      rw [e] at e2
      obtain ⟨rfl, rfl⟩ : kb = b' ∧ 0 = o' := by simpa using e
      obtain ⟨rfl, rfl⟩ : kb = b'' ∧ 0 = o'' := by simpa using e2
      exact ⟨_, h4, cell_lt h2⟩
    clear hown hgrow hb6
    go_wp2
    go_loopw [39] (fun i wr => ∃ k : Nat, k ≤ px.length ∧ i = .int .i64 k ∧ OwnI wr w.heap.size (.slice (some ⟨w5.heap.size, 0, none⟩) n n) (putTo n px q k) ∧ OnlyB w5.heap.size w6 wr ∧ Below w.heap.size w wr) (fun i _ => px.length - (intOf i).toNat)
    case atStart => exact ⟨0, Nat.zero_le _, rfl, HO6.out, OnlyB.refl _ _, HB6.out⟩
    case round =>
      clear HO6 HB6
      obtain ⟨k, hk, rfl, hO, hN, hB⟩ := hrel
      have HO := Lib.hid hO; clear hO
      have HON := Lib.hid hN; clear hN
      have HBB := Lib.hid hB; clear hB
      by_cases hlt : k < px.length
      · obtain ⟨pb, po, v, rfl, hcv, HV⟩ := (HPS.out.below HBB.out).at hlt
        have hgv := gt_some' HV.out
        have hvr := HIN.out v (List.mem_of_getElem? HV.out)
        obtain ⟨j, rfl⟩ := Int.eq_ofNat_of_zero_le hvr.1
        have hj : j < n := by have := HN.out; omega
        obtain ⟨y, hy⟩ : ∃ y, gt q k = y := ⟨_, rfl⟩
        have hqk : k < q.length := by rw [HQL.out]; exact hlt
        have hcq : wr.cell? ⟨kb, k, none⟩ = some (.int .i64 y) := by
          obtain ⟨_, _, l1⟩ := HLQ.out k hqk
          refine (HON.out.cell (by omega)).trans ?_
          obtain ⟨b', o', e, h2⟩ := HSQ6.out k hqk
          obtain ⟨rfl, rfl⟩ : kb = b' ∧ 0 = o' := by simpa using e
          rw [Nat.zero_add] at h2
          rw [h2, ← hy]; rfl
        obtain ⟨cz, fz⟩ := HO.out.cell (j := j) (by rw [putTo_len]; exact hj)
        have HKN : Hid ((putTo n px q k).set j y = putTo n px q (k + 1)) := by
          show _ = _
          conv => rhs; unfold putTo
          rw [hgv, Int.toNat_natCast, hy]
        have HST := Lib.hid (HO.out.stored j y)
        clear hgv hvr hy hqk
        go_wp2
        go_roundw
        case rel => exact ⟨k + 1, by omega, by go_num, by rw [← HKN.out]; exact HST.out, HON.out.setCell _ _, HBB.out.setCell (p := ⟨w5.heap.size, j, none⟩) HWS.out _⟩
        case measure => simp [intOf]; omega
      · obtain rfl : k = px.length := by omega
        go_wp2
        go_ret2
        refine ⟨HBB.out, .inr ⟨HB.out, w5.heap.size, by rw [HN.out]; rfl, ?_⟩⟩
        rw [HN.out, HHQ.out]; exact HO.out
  case neg =>
    obtain ⟨q, hq⟩ : ∃ q, signC pt = q := ⟨_, rfl⟩
    have HQ := Lib.hid hq
    have hqn : pt = q := by rw [← hq]; unfold signC; rw [if_neg (by rw [HV0.out]; exact hneg)]
    rw [hqn] at HSP
    have HB5 := HB34
    have HSQ := HSP
    clear hq hqn
    have hlb := cell_lt hcell
    have HQL : Hid (q.length = px.length) := by show _ = _; rw [← HQ.out]; unfold signC; split <;> simp [negL, HPTL.out]
    have HHQ : Hid (circH m px = putTo (colsM m) px q px.length) := by show _ = _; unfold circH; rw [HPT.out, HQ.out]
    have hn10 := HC10.out
    obtain ⟨n, hn⟩ : ∃ n, colsM m = n := ⟨_, rfl⟩
    rw [hn] at hcell HHQ hn10
    have HN := Lib.hid hn
    clear hn
    have HLB := Lib.hid hlb
    have HCELL := Lib.hid hcell
    clear hlb hcell
    have hcell5 : w4.cell? ⟨b1, o1, none⟩ = some (.slice ai n ci) := (HB5.out.cell (p := ⟨b1, o1, none⟩) HLB.out).trans HCELL.out
    go_wp2_with (first | (go_at_call 94; refine HCN.out.mono ?_; rintro e w5 ⟨rfl, rfl⟩) | (with_reducible refine wpList_make_full _ rfl (.tmp 35) (.tmp 35) 24 rfl w4.heap.size 3 i0 (.int .i64 0) 1 Try.underlying24 hi hz0 hz1 .i64 .i64 (n : Int) (n : Int) n rfl rfl rfl rfl (by rw [hz2]; omega) (by unfold maxLen; omega) (Nat.le_refl _) ?_))
    clear hcell5
    rotate_left
    intro w6 hown hgrow
    have hb6 : Below w4.heap.size w4 w6 := (Below.refl _ _).grown hgrow (Nat.le_refl _) (fun k e => by cases e)
    have HB6 : Hid (Below w.heap.size w w6) := HB5.out.trans (hb6.mono HB5.out.size)
    have HO6 : Hid (OwnI w6 w.heap.size (.slice (some ⟨w4.heap.size, 0, none⟩) n n) (putTo n px q 0)) := by
      have z := zeros_are n
      rw [Nat.mul_one] at z
      refine OwnI.mono (base := w4.heap.size) ?_ HB5.out.size
      show w6.ownsRow _ _ _ _ _ _
      rw [putTo_len]
      show w6.ownsRow _ _ _ _ _ ((List.replicate n (0 : Int)).map (Value.int .i64))
      rw [← z]; exact hown
    have HWS : Hid (w.heap.size ≤ w4.heap.size) := HB5.out.size
    have HSQ6 : Hid (Sl w6 (some ⟨kb, 0, none⟩) q) := HSQ.out.below hb6
    have HPS6 : Hid (Sl w6 pxa px) := HPS.out.below HB6.out
    have HLQ : Hid (∀ c, c < q.length → ∃ v, w6.cell? ⟨kb, 0 + c, none⟩ = some v ∧ kb < w4.heap.size) := fun c hc => by
      obtain ⟨b', o', e, h2⟩ := HSQ.out c hc
      have h3 := HSQ6.out c hc
      obtain ⟨b'', o'', e2, h4⟩ := h3
      rw [e] at e2
      obtain ⟨rfl, rfl⟩ : kb = b' ∧ 0 = o' := by simpa using e
      obtain ⟨rfl, rfl⟩ : kb = b'' ∧ 0 = o'' := by simpa using e2
      exact ⟨_, h4, cell_lt h2⟩
    clear hown hgrow hb6
    go_wp2
    go_loopw [39] (fun i wr => ∃ k : Nat, k ≤ px.length ∧ i = .int .i64 k ∧ OwnI wr w.heap.size (.slice (some ⟨w4.heap.size, 0, none⟩) n n) (putTo n px q k) ∧ OnlyB w4.heap.size w6 wr ∧ Below w.heap.size w wr) (fun i _ => px.length - (intOf i).toNat)
    case atStart => exact ⟨0, Nat.zero_le _, rfl, HO6.out, OnlyB.refl _ _, HB6.out⟩
    case round =>
      clear HO6 HB6
      obtain ⟨k, hk, rfl, hO, hN, hB⟩ := hrel
      have HO := Lib.hid hO; clear hO
      have HON := Lib.hid hN; clear hN
      have HBB := Lib.hid hB; clear hB
      by_cases hlt : k < px.length
      · obtain ⟨pb, po, v, rfl, hcv, HV⟩ := (HPS.out.below HBB.out).at hlt
        have hgv := gt_some' HV.out
        have hvr := HIN.out v (List.mem_of_getElem? HV.out)
        obtain ⟨j, rfl⟩ := Int.eq_ofNat_of_zero_le hvr.1
        have hj : j < n := by have := HN.out; omega
        obtain ⟨y, hy⟩ : ∃ y, gt q k = y := ⟨_, rfl⟩
        have hqk : k < q.length := by rw [HQL.out]; exact hlt
        have hcq : wr.cell? ⟨kb, k, none⟩ = some (.int .i64 y) := by
          obtain ⟨_, _, l1⟩ := HLQ.out k hqk
          refine (HON.out.cell (by omega)).trans ?_
          obtain ⟨b', o', e, h2⟩ := HSQ6.out k hqk
          obtain ⟨rfl, rfl⟩ : kb = b' ∧ 0 = o' := by simpa using e
          rw [Nat.zero_add] at h2
          rw [h2, ← hy]; rfl
        obtain ⟨cz, fz⟩ := HO.out.cell (j := j) (by rw [putTo_len]; exact hj)
        have HKN : Hid ((putTo n px q k).set j y = putTo n px q (k + 1)) := by
          show _ = _
          conv => rhs; unfold putTo
          rw [hgv, Int.toNat_natCast, hy]
        have HST := Lib.hid (HO.out.stored j y)
        clear hgv hvr hy hqk
        go_wp2
        go_roundw
        case rel => exact ⟨k + 1, by omega, by go_num, by rw [← HKN.out]; exact HST.out, HON.out.setCell _ _, HBB.out.setCell (p := ⟨w4.heap.size, j, none⟩) HWS.out _⟩
        case measure => simp [intOf]; omega
      · obtain rfl : k = px.length := by omega
        go_wp2
        go_ret2
        refine ⟨HBB.out, .inr ⟨HB.out, w4.heap.size, by rw [HN.out]; rfl, ?_⟩⟩
        rw [HN.out, HHQ.out]; exact HO.out
end Go.Proofs.Ytfnomiingelfaaa
/- Ranges over functions whose values lie in memory: what an iterator owes its caller and what the caller owes it, told by the blocks that each of the two alone may write. Speaks of no function. -/
namespace Go.Proofs.Ytfnomiingelfaaa
open Go.RowKit

theorem roundIn_n {P : Program} {n m l : Nat} {f : FuncId} {tmps : Array Value} {assign body : Code} {w : World} {R : Ending → World → Prop} (h : RoundIn Fence.wide n P l f tmps assign body w R) : RoundIn Fence.wide m P l f tmps assign body w R :=
  ⟨h.1, fun c cs _ => h.2 c cs (room_wide _)⟩
abbrev Blk := Nat → Prop
structure Turned (T : Blk) (W W' : World) : Prop where
  os : W'.os = W.os
  tape : W'.tape = W.tape
  output : W'.output = W.output
  size : W.heap.size ≤ W'.heap.size
  same : ∀ b, b < W.heap.size → ¬ T b → W'.heap[b]? = W.heap[b]?
theorem Turned.refl (T : Blk) (W : World) : Turned T W W := ⟨rfl, rfl, rfl, Nat.le_refl _, fun _ _ _ => rfl⟩
theorem Turned.trans {T T' : Blk} {A B C : World} (h : Turned T A B) (k : Turned T' B C) (hT : ∀ b, T' b → T b ∨ A.heap.size ≤ b) : Turned T A C :=
  ⟨k.os.trans h.os, k.tape.trans h.tape, k.output.trans h.output, Nat.le_trans h.size k.size, fun b hb hn => (k.same b (Nat.lt_of_lt_of_le hb h.size) (fun e => by rcases hT b e with q | q; exact hn q; omega)).trans (h.same b hb hn)⟩
theorem Turned.mono {T T' : Blk} {A B : World} (h : Turned T A B) (hT : ∀ b, b < A.heap.size → T b → T' b) : Turned T' A B := ⟨h.os, h.tape, h.output, h.size, fun b hb hn => h.same b hb fun e => hn (hT b hb e)⟩
theorem turned_of_below {T : Blk} {B : Nat} {W W' : World} (h : Below B W W') (hT : ∀ b, b < W.heap.size → B ≤ b → T b) : Turned T W W' := ⟨h.os, h.tape, h.output, h.size, fun b hb hn => h.block b (by rcases Nat.lt_or_ge b B with q | q; exact q; exact absurd (hT b hb q) hn)⟩
theorem turned_below {T : Blk} {W W' : World} (h : Below W.heap.size W W') : Turned T W W' := turned_of_below h fun b hb hB => by omega
theorem turned_alloc (T : Blk) (W : World) (o : Obj) : Turned T W (W.alloc o) := turned_below ((Below.refl _ _).alloc (Nat.le_refl _) o)
theorem turned_grown {T : Blk} {W W' : World} {row : Option Nat} (h : W.grownBy W' row) (hr : ∀ r, row = some r → T r) : Turned T W W' := ⟨h.os, h.tape, h.output, h.size, fun b hb hn => h.block b hb fun e => hn (hr b e.symm)⟩
theorem turned_set {T : Blk} (W : World) {a : Addr} (v : Value) (h : T a.block) : Turned T W (W.setCell a v) := ⟨rfl, rfl, rfl, by simp, fun b _ hn => Below.heap_setCell W a v b fun e => hn (e ▸ h)⟩
theorem turned_put {T : Blk} (W : World) {l : Nat} (o : Obj) (h : T l) : Turned T W (W.putObj l o) := turned_grown (grownBy_putObj' W l o) fun r e => by cases e; exact h
theorem Turned.cell {T : Blk} {W W' : World} (h : Turned T W W') {a : Addr} {v : Value} (hc : W.cell? a = some v) (hn : ¬ T a.block) : W'.cell? a = some v := by
  have hb : a.block < W.heap.size := by
    unfold World.cell? at hc
    rcases Nat.lt_or_ge a.block W.heap.size with hl | hl
    · exact hl
    · simp [Array.getElem?_eq_none hl] at hc
  exact (World.cell?_of_block (h.same _ hb hn)).trans hc
theorem Turned.frozen {T : Blk} {W W' : World} (h : Turned T W W') {a : Addr} (hb : a.block < W.heap.size) (hn : ¬ T a.block) : W'.frozen? a = W.frozen? a := World.frozen?_of_block (h.same _ hb hn)
theorem Turned.below {T : Blk} {W W' : World} {B : Nat} (h : Turned T W W') (hB : B ≤ W.heap.size) (hT : ∀ b, b < B → ¬ T b) : Below B W W' :=
  ⟨h.os, h.tape, h.output, h.size, fun b hb => h.same b (Nat.lt_of_lt_of_le hb hB) (hT b hb)⟩

section
variable {α β : Type}
structure Client (J : List α → Blk → Blk → World → Prop) : Prop where
  lt : ∀ {pre C T W}, J pre C T W → ∀ b, C b → b < W.heap.size ∧ ¬ T b
  keep : ∀ {pre C T T' W W'}, J pre C T W → Turned T W W' → (∀ b, T' b → T b ∨ W.heap.size ≤ b) → J pre C T' W'
def Went (J : List α → Blk → Blk → World → Prop) (own : α → Blk) (pre : List α) (x : α) (C T : Blk) (W W' : World) : Prop :=
  ∃ C' T', J (pre ++ [x]) C' T' W' ∧ (∀ b, T b → b < W.heap.size → ¬ own x b → T' b) ∧ (∀ b, C' b → C b ∨ own x b ∨ W.heap.size ≤ b) ∧ Turned (fun b => C b ∨ own x b) W W'
def SeqM (P : Program) (g : Nat) (lb : Array Value) (encs : α → Array Value) (Mem : α → World → Prop) (own : α → Blk) (key : α → β) (Z : List β) (need : Blk) (w : World) : Prop :=
  ∀ (l : Nat) (J Jx : List α → Blk → Blk → World → Prop) (C T : Blk) (W : World), Below w.heap.size w W → Client J → Client Jx → (∀ b, need b → ¬ C b) →
    (∀ pre x C T W1, J pre C T W1 → Mem x W1 → (∀ b, own x b → T b) → (∃ rest, Z = pre.map key ++ key x :: rest) → ∀ m, YieldAt Fence.wide m P l (encs x) W1 fun e W' =>
      (e = .returned (.bool true) ∧ Went J own pre x C T W1 W') ∨ (e = .returned (.bool false) ∧ Went Jx own pre x C T W1 W')) →
    J [] C T W →
    Calls P g (#[.func (.yield l) #[] #[]] ++ lb) W fun e W' => (∃ v, e = .returned v) ∧ ((∃ xs C T, xs.map key = Z ∧ J xs C T W') ∨ (∃ pre C T, Jx pre C T W'))
def wentPost (I : List α → Blk → Blk → World → Prop) (Ix : Code → List α → Blk → Blk → World → Prop) (own : α → Blk) (pre : List α) (x : α) (C T : Blk) (W : World) : Exit → Act → World → Prop
  | .normal, _, W' => Went I own pre x C T W W'
  | .ret, _, W' => Went (Ix .ret) own pre x C T W W'
  | .exit id, _, W' => Went (Ix (.exit id)) own pre x C T W W'
  | .goto t, _, W' => Went (Ix (.goto t)) own pre x C T W W'
  | .panic _, _, _ => False
  | .outgrown, _, _ => False
def Ring (I : List α → Blk → Blk → World → Prop) (l D : Nat) (r : Loop) (pre : List α) (C T : Blk) (W : World) : Prop :=
  ∃ C1 T1, I pre C1 T1 W ∧ (∀ b, C b ↔ C1 b ∨ b = l ∨ b = D) ∧ (∀ b, T b → T1 b) ∧ T1 l ∧ T1 D ∧ ¬ T l ∧ ¬ T D ∧ W.heap[l]? = some (.loop r) ∧ W.heap[D]? = some (.deferred (some []))
theorem Client.ring' {I : List α → Blk → Blk → World → Prop} (h : Client I) (l D : Nat) (r : Loop) : Client (Ring I l D r) where
  lt := by
    rintro pre C T W ⟨C1, T1, hI, hC, hT, q1, q2, tl, tD, hl, hD⟩ b hb
    rcases (hC b).1 hb with q | rfl | rfl
    · exact ⟨(h.lt hI b q).1, fun e => (h.lt hI b q).2 (hT b e)⟩
    · exact ⟨(Array.getElem?_eq_some_iff.1 hl).1, tl⟩
    · exact ⟨(Array.getElem?_eq_some_iff.1 hD).1, tD⟩
  keep := by
    rintro pre C T T' W W' ⟨C1, T1, hI, hC, hT, q1, q2, tl, tD, hl, hD⟩ ht hT'
    have ll := (Array.getElem?_eq_some_iff.1 hl).1
    have lD := (Array.getElem?_eq_some_iff.1 hD).1
    exact ⟨C1, fun b => T1 b ∨ W.heap.size ≤ b, h.keep hI (ht.mono fun b _ e => hT b e) (fun b e => e), hC, fun b e => (hT' b e).elim (fun e => .inl (hT b e)) .inr, .inl q1, .inl q2,
      (fun e => (hT' _ e).elim tl (by omega)), (fun e => (hT' _ e).elim tD (by omega)), (ht.same _ ll tl).trans hl, (ht.same _ lD tD).trans hD⟩
theorem wpIn_rangeFunc_M {P : Program} {n : Nat} {g : Operand} {ps : Array Tmp} {assign body : Code} {Q : Exit → Act → World → Prop} {a : Act} {w : World}
    (h1 : 1 ≤ n) {gf : Nat} {lb : Array Value} (hg : a.eval g = .func (.func gf) #[] lb) (eg : ∀ args w, (callFunc gf args).run P w = .ok (.enter gf args) w)
    {encs : α → Array Value} {Mem : α → World → Prop} {own : α → Blk} {key : α → β} {Z : List β} {need : Blk} {w0 : World} (hseq : SeqM P gf lb encs Mem own key Z need w0) (hb0 : Below w0.heap.size w0 w) (hps : ∀ x, (encs x).size = ps.size)
    (hMem : ∀ x W l r r', Mem x W → W.heap[l]? = some (.loop r) → Mem x (W.putObj l (.loop r'))) (I : List α → Blk → Blk → World → Prop) (Ix : Code → List α → Blk → Blk → World → Prop) (hI : Client I) (hIx : ∀ c, Client (Ix c)) (C T : Blk) (hneed : ∀ b, need b → ¬ C b ∧ b < w.heap.size) (hT : ∀ b, T b → b < w.heap.size) (h0 : I [] C T w) (a₁ : α → Act)
    (hassign : ∀ (l : Nat) (x : α) (W : World) (K : Act → World → Prop), K (a₁ x) W →
      assign.wpIn (Fence.wide.inRound l) (n - 1 - 1) P (Exit.then K (fun _ _ _ => False)) { tmps := (ps.zip (encs x)).foldl (fun t (p, v) => t.setIfInBounds p v) a.tmps, defers := [] } W)
    (hbody : ∀ (l : Nat) (pre : List α) (x : α) (C T : Blk) (W : World), I pre C T W → Mem x W → (∀ b, own x b → T b) → (∃ rest, Z = pre.map key ++ key x :: rest) → body.wpIn (Fence.wide.inRound l) (n - 1 - 1) P (wentPost I Ix own pre x C T W) (a₁ x) W)
    (hdone : ∀ (D : Nat) (xs : List α) (C T : Blk) (W : World), w.heap.size ≤ D → xs.map key = Z → I xs C T W → T D → W.heap[D]? = some (.deferred (some [])) → Q .normal { a with defers := { target := .collected D, args := #[] } :: a.defers } W)
    (hstop : ∀ (D : Nat) (c : Code) (pre : List α) (C T : Blk) (W : World), w.heap.size ≤ D → Ix c pre C T W → T D → W.heap[D]? = some (.deferred (some [])) → c.wpIn Fence.wide n P Q { a with defers := { target := .collected D, args := #[] } :: a.defers } W) :
    (Code.rangeFunc g ps assign body).wpIn Fence.wide n P Q a w := by
  refine wpIn_rangeFunc fun fn _ => ?_
  obtain ⟨rec, hrec⟩ : ∃ rec : LoopState → Option Code → Loop, rec = fun st pe => { state := st, pending := pe, fn, tmps := a.tmps, params := ps, assign, body, defers := w.heap.size } := ⟨_, rfl⟩
  obtain ⟨D, hD⟩ : ∃ D, w.heap.size = D := ⟨_, rfl⟩
  obtain ⟨W1, hW1⟩ : ∃ W1, (w.alloc (.deferred (some []))).alloc (.loop (rec .ready none)) = W1 := ⟨_, rfl⟩
  have sz : W1.heap.size = D + 2 := by rw [← hW1]; simp; omega
  have hL1 : W1.heap[D + 1]? = some (.loop (rec .ready none)) := by
    rw [← hW1]; have := World.alloc_heap_new (w.alloc (.deferred (some []))) (.loop (rec .ready none)); rw [World.size_alloc, hD] at this; exact this
  have hK1 : W1.heap[D]? = some (.deferred (some [])) := by
    rw [← hW1, ← hD]; exact (Below.heap_alloc _ _ _ (by simp)).trans (World.alloc_heap_new w _)
  have hbw : Below w.heap.size w W1 := by
    rw [← hW1]; exact ((Below.refl _ w).alloc (Nat.le_refl _) _).alloc (by simp) _
  have hI1 : I [] C T W1 := hI.keep h0 (turned_below hbw) fun b hb => .inl hb
  have hC1 : ∀ b, C b → b < D := fun b hb => by have := (hI.lt h0 b hb).1; omega
  refine ⟨D + 1, [{ target := .collected D, args := #[] }], W1, { target := .fn (.func gf) lb, args := #[.func (.yield (D + 1)) #[] #[]] }, W1, gf, #[.func (.yield (D + 1)) #[] #[]] ++ lb, W1, ?_, ?_, ?_, ?_, fun _ => by omega, ?_⟩
  · rw [← hW1, hrec, ← hD]; exact run_enterLoop_outer _ _ _ _ _
  · simp only [resolve, hg]
    simp [go_sem]
  · intro _ _; trivial
  · simp [invoke, go_sem, eg]
  refine (callsIn_wide.2 (hseq (D + 1) (Ring I (D + 1) D (rec .ready none)) (fun pre C T W => ∃ c, Ring (Ix c) (D + 1) D (rec .done (some c)) pre C T W) (fun b => C b ∨ b = D + 1 ∨ b = D) T W1 (hb0.trans (hbw.mono hb0.size)) (hI.ring' _ _ _) ?_ ?_ ?_ ?_)).mono ?_
  · exact { lt := fun ⟨c, h⟩ => ((hIx c).ring' _ _ _).lt h, keep := fun ⟨c, h⟩ ht hT => ⟨c, ((hIx c).ring' _ _ _).keep h ht hT⟩ }
  · rintro b hb (e | e | e)
    · exact (hneed b hb).1 e
    · have := (hneed b hb).2; omega
    · have := (hneed b hb).2; omega
  · rintro pre x C T W ⟨C1, T1, hi, hC, hTT, q1, q2, tl, tD, hl, hk⟩ hmem hown hrest m
    have hlt := (Array.getElem?_eq_some_iff.1 hl).1
    have hlk := (Array.getElem?_eq_some_iff.1 hk).1
    have hy := run_yield (P := P) (args := encs x) hl (by rw [hrec]; exact hps x)
    rw [hrec] at hy
    refine ⟨fn, _, assign, body, hy, roundIn_n (n := n - 1 - 1) <| roundIn_of_wpIn trivial (hassign _ x W _ ⟨_, run_beginRound hl (by rw [hrec]), ?_⟩)⟩
    clear hy
    obtain ⟨W2, hW2⟩ : ∃ W2, W.putObj (D + 1) (.loop { rec .ready none with state := .busy }) = W2 := ⟨_, rfl⟩
    rw [hW2]
    have hl2 : W2.heap[D + 1]? = some (.loop { rec .ready none with state := .busy }) := by rw [← hW2]; exact World.putObj_heap_same hlt
    have ht2 : Turned (fun b => b = D + 1) W W2 := by rw [← hW2]; exact turned_put W _ rfl
    have hk2 : W2.heap[D]? = some (.deferred (some [])) := (ht2.same D hlk (by show ¬ D = D + 1; omega)).trans hk
    have hi2 : I pre C1 T1 W2 := hI.keep hi (ht2.mono fun b _ e => by subst e; exact q1) fun b e => .inl e
    have hm2 : Mem x W2 := by rw [← hW2]; exact hMem x W _ _ _ hmem hl
    have fin : ∀ (K : List α → Blk → Blk → World → Prop) (jump : Option Code) (W3 : World), Client K → Went K own pre x C1 T1 W2 W3 →
        (Instr.endRound (D + 1) jump).run P W3 = .ok (.bool jump.isNone) (W3.putObj (D + 1) (.loop (rec (if jump.isNone then .ready else .done) jump))) ∧
        Went (Ring K (D + 1) D (rec (if jump.isNone then .ready else .done) jump)) own pre x C T W (W3.putObj (D + 1) (.loop (rec (if jump.isNone then .ready else .done) jump))) := by
      rintro K jump W3 hK ⟨C', T', hi3, hT3, hC3, ht3⟩
      have nl : ¬ (C1 (D + 1) ∨ own x (D + 1)) := fun e => e.elim (fun e => (hI.lt hi _ e).2 q1) fun e => tl (hown _ e)
      have nD : ¬ (C1 D ∨ own x D) := fun e => e.elim (fun e => (hI.lt hi _ e).2 q2) fun e => tD (hown _ e)
      have hl3 : W3.heap[D + 1]? = some (.loop { rec .ready none with state := .busy }) := (ht3.same _ (Array.getElem?_eq_some_iff.1 hl2).1 nl).trans hl2
      have hk3 : W3.heap[D]? = some (.deferred (some [])) := (ht3.same _ (Array.getElem?_eq_some_iff.1 hk2).1 nD).trans hk2
      have hr := run_endRound (P := P) jump hl3
      rw [hrec] at hr
      refine ⟨by rw [hrec]; exact hr, fun b => C' b ∨ b = D + 1 ∨ b = D, fun b => T' b ∧ b ≠ D + 1 ∧ b ≠ D, ⟨C', T', ?_, fun b => Iff.rfl, fun b e => e.1, hT3 _ q1 (Array.getElem?_eq_some_iff.1 hl2).1 (fun e => nl (.inr e)), hT3 _ q2 (Array.getElem?_eq_some_iff.1 hk2).1 (fun e => nD (.inr e)), fun e => e.2.1 rfl, fun e => e.2.2 rfl, World.putObj_heap_same (Array.getElem?_eq_some_iff.1 hl3).1, (World.putObj_heap_other (by omega)).trans hk3⟩, ?_, ?_, ?_⟩
      · exact hK.keep hi3 (turned_put W3 _ (hT3 _ q1 (Array.getElem?_eq_some_iff.1 hl2).1 fun e => nl (.inr e))) fun b e => .inl e
      · exact fun b hb hlt hn => ⟨hT3 b (hTT b hb) (Nat.lt_of_lt_of_le hlt ht2.size) hn, fun e => tl (e ▸ hb), fun e => tD (e ▸ hb)⟩
      · rintro b (e | e | e)
        · rcases hC3 b e with q | q | q
          · exact .inl ((hC b).2 (.inl q))
          · exact .inr (.inl q)
          · exact .inr (.inr (Nat.le_trans ht2.size q))
        · exact .inl ((hC b).2 (.inr (.inl e)))
        · exact .inl ((hC b).2 (.inr (.inr e)))
      · have a1 : Turned (fun b => C b ∨ own x b) W W2 := ht2.mono fun b _ e => .inl ((hC b).2 (.inr (.inl e)))
        have a2 : Turned (fun b => C b ∨ own x b) W2 W3 := ht3.mono fun b _ e => e.elim (fun e => .inl ((hC b).2 (.inl e))) .inr
        have a3 : Turned (fun b => C b ∨ own x b) W3 (W3.putObj (D + 1) (.loop (rec (if jump.isNone then .ready else .done) jump))) := turned_put W3 _ (.inl ((hC _).2 (.inr (.inl rfl))))
        exact (a1.trans a2 fun b e => .inl e).trans a3 fun b e => .inl e
    refine wpIn_mono (hbody _ pre x C1 T1 W2 hi2 hm2 (fun b e => hTT b (hown b e)) hrest) ?_
    rintro e a3 W3 hp
    cases e with
    | normal => obtain ⟨hr, hw⟩ := fin I none W3 hI hp; exact ⟨_, _, hr, .inl ⟨rfl, hw⟩⟩
    | ret => obtain ⟨hr, C', T', hw, q⟩ := fin _ (some .ret) W3 (hIx _) hp; exact ⟨_, _, hr, .inr ⟨rfl, C', T', ⟨_, hw⟩, q⟩⟩
    | exit id => obtain ⟨hr, C', T', hw, q⟩ := fin _ (some (.exit id)) W3 (hIx _) hp; exact ⟨_, _, hr, .inr ⟨rfl, C', T', ⟨_, hw⟩, q⟩⟩
    | goto t => obtain ⟨hr, C', T', hw, q⟩ := fin _ (some (.goto t)) W3 (hIx _) hp; exact ⟨_, _, hr, .inr ⟨rfl, C', T', ⟨_, hw⟩, q⟩⟩
    | panic ch => exact hp.elim
    | outgrown => exact hp.elim
  · refine ⟨C, fun b => T b ∨ w.heap.size ≤ b, hI.keep h0 (turned_below hbw) (fun b e => e), fun b => Iff.rfl, fun b e => .inl e, .inr (by omega), .inr (by omega), fun e => by have := hT _ e; omega, fun e => by have := hT _ e; omega, hL1, hK1⟩
  · rintro e W2 ⟨⟨v, rfl⟩, (⟨xs, C', T', hZ, C1, T1, hi, hC, hTT, q1, q2, tl, tD, hl, hk⟩ | ⟨pre, C', T', c, C1, T1, hi, hC, hTT, q1, q2, tl, tD, hl, hk⟩)⟩
    · refine ⟨none, _, by have := run_endLoop (P := P) hl (by rw [hrec]; simp); rw [hrec] at this; exact this, hdone D xs C1 T1 _ (by omega) hZ (hI.keep hi (turned_put W2 _ q1) fun b e => .inl e) q2 ((World.putObj_heap_other (by omega)).trans hk)⟩
    · refine ⟨some c, _, by have := run_endLoop (P := P) hl (by rw [hrec]; simp); rw [hrec] at this; exact this, hstop D c pre C1 T1 _ (by omega) ((hIx c).keep hi (turned_put W2 _ q1) fun b e => .inl e) q2 ((World.putObj_heap_other (by omega)).trans hk)⟩
end
end Go.Proofs.Ytfnomiingelfaaa
/- sets of layer 3 (sets$1, sets$1$1: a closure that calls itself): a contract. -/
namespace Go.Proofs.Ytfnomiingelfaaa
open Go.RowKit Go.Shelf
attribute [local go_sem] Oper.semAt_some

def compl (n : Nat) : Nat → Nat → List (List Int)
  | 0, _ => [[]]
  | r + 1, b => (List.range (n - r - b)).flatMap fun d => (compl n r (b + d + 1)).map fun s => ((b + d : Nat) : Int) :: s
def complTo (n r b d : Nat) : List (List Int) := (List.range d).flatMap fun d => (compl n r (b + d + 1)).map fun s => ((b + d : Nat) : Int) :: s
theorem complTo_succ (n r b d : Nat) : complTo n r b (d + 1) = complTo n r b d ++ (compl n r (b + d + 1)).map fun s => ((b + d : Nat) : Int) :: s := by
  unfold complTo; rw [List.range_succ, List.flatMap_append]; simp
theorem compl_succ (n r b : Nat) : compl n (r + 1) b = complTo n r b (n - r - b) := rfl
theorem complTo_split (n r b : Nat) : ∀ d e, d ≤ e → ∃ post, complTo n r b e = complTo n r b d ++ post
  | d, e, h => by
    obtain ⟨k, rfl⟩ : ∃ k, e = d + k := ⟨e - d, by omega⟩
    refine ⟨(List.range k).flatMap fun i => (compl n r (b + (d + i) + 1)).map fun s => ((b + (d + i) : Nat) : Int) :: s, ?_⟩
    unfold complTo
    rw [List.range_add, List.flatMap_append, List.flatMap_map]
theorem compl_mem {n : Nat} : ∀ {r b : Nat} {s : List Int}, s ∈ compl n r b → s.length = r ∧ ∀ j ∈ s, (b : Int) ≤ j ∧ j < n
  | 0, b, s, h => by
    have : s = [] := by simpa [compl] using h
    subst this; exact ⟨rfl, fun j hj => by cases hj⟩
  | r + 1, b, s, h => by
    unfold compl at h
    obtain ⟨d, hd, h2⟩ := List.mem_flatMap.1 h
    obtain ⟨t, ht, rfl⟩ := List.mem_map.1 h2
    have hd := List.mem_range.1 hd
    obtain ⟨h3, h4⟩ := compl_mem ht
    refine ⟨by simp [h3], fun j hj => ?_⟩
    rcases List.mem_cons.1 hj with rfl | hj
    · constructor <;> omega
    · have := h4 j hj; omega
abbrev SetV := Nat × List Int
abbrev encS (x : SetV) : Array Value := #[.slice (some ⟨x.1, 0, none⟩) x.2.length x.2.length]
def MemS (x : SetV) (W : World) : Prop := OwnI W 0 (.slice (some ⟨x.1, 0, none⟩) x.2.length x.2.length) x.2
structure SetsF (l S Y E N K SB n size : Nat) (xs : List Int) (W : World) : Prop where
  cs : W.cell? ⟨S, 0, none⟩ = some (.int .i64 size)
  cy : W.cell? ⟨Y, 0, none⟩ = some (.func (.yield l) #[] #[])
  ce : W.cell? ⟨E, 0, none⟩ = some (.slice (some ⟨SB, 0, none⟩) size size)
  cn : W.cell? ⟨N, 0, none⟩ = some (.int .i64 n)
  ck : W.cell? ⟨K, 0, none⟩ = some (.func (.func 91) #[] #[.pointer (some ⟨S, 0, none⟩), .pointer (some ⟨Y, 0, none⟩), .pointer (some ⟨E, 0, none⟩), .pointer (some ⟨N, 0, none⟩), .pointer (some ⟨K, 0, none⟩)])
  own : OwnI W 0 (.slice (some ⟨SB, 0, none⟩) size size) xs
  len : xs.length = size
  apart : SB ≠ S ∧ SB ≠ Y ∧ SB ≠ E ∧ SB ≠ N ∧ SB ≠ K
theorem memS_put (x : SetV) (W : World) (l : Nat) (r r' : Loop) (h : MemS x W) (hl : W.heap[l]? = some (.loop r)) : MemS x (W.putObj l (.loop r')) := by
  refine OwnI.sameBlock h (World.putObj_heap_other fun e => ?_)
  subst e
  obtain ⟨_, ⟨e, _⟩ | ⟨g, cap, cur, e, _, hh, _⟩⟩ := h
  · cases e
  · obtain ⟨rfl, _⟩ : x.1 = g ∧ _ := by simpa using e
    rw [hl] at hh; cases hh
theorem SetsF.stored {l S Y E N K SB n size : Nat} {xs : List Int} {W : World} (h : SetsF l S Y E N K SB n size xs W) (k : Nat) (j : Int) : SetsF l S Y E N K SB n size (xs.set k j) (W.setCell ⟨SB, k, none⟩ (.int .i64 j)) := by
  obtain ⟨cs, cy, ce, cn, ck, own, len, h1, h2, h3, h4, h5⟩ := h
  exact ⟨(cell_other _ _ _ _ (Ne.symm h1)).trans cs, (cell_other _ _ _ _ (Ne.symm h2)).trans cy, (cell_other _ _ _ _ (Ne.symm h3)).trans ce, (cell_other _ _ _ _ (Ne.symm h4)).trans cn, (cell_other _ _ _ _ (Ne.symm h5)).trans ck, own.stored k j, by rw [List.length_set]; exact len, h1, h2, h3, h4, h5⟩
def SetsA (S Y E N K SB : Nat) (C T : Blk) : Prop := T SB ∧ ∀ b, (b = S ∨ b = Y ∨ b = E ∨ b = N ∨ b = K ∨ b = SB) → ¬ C b
theorem SetsF.turned {l S Y E N K SB n size : Nat} {xs : List Int} {W W' : World} {C : Blk} (h : SetsF l S Y E N K SB n size xs W) (ht : Turned C W W') (ha : ∀ b, (b = S ∨ b = Y ∨ b = E ∨ b = N ∨ b = K ∨ b = SB) → ¬ C b) : SetsF l S Y E N K SB n size xs W' := by
  obtain ⟨cs, cy, ce, cn, ck, own, len, h1, h2, h3, h4, h5⟩ := h
  exact ⟨ht.cell cs (ha _ (by simp)), ht.cell cy (ha _ (by simp)), ht.cell ce (ha _ (by simp)), ht.cell cn (ha _ (by simp)), ht.cell ck (ha _ (by simp)), own.sameBlock (ht.same _ (OwnI.lt own).1 (ha _ (by simp))), len, h1, h2, h3, h4, h5⟩
theorem take_set {xs : List Int} {p : List Int} {k : Nat} {j : Int} (hp : xs.take k = p) (hk : k < xs.length) : (xs.set k j).take (k + 1) = p ++ [j] := by
  subst hp
  apply List.ext_getElem?
  intro i
  rw [List.getElem?_append, List.getElem?_take]
  have hl : (xs.take k).length = k := by rw [List.length_take]; omega
  rw [hl, List.getElem?_take, List.getElem?_set]
  by_cases h1 : i < k
  · rw [if_pos (by omega), if_neg (by omega), if_pos h1, if_pos h1]
  · by_cases h2 : i = k
    · subst h2; rw [if_pos (by omega), if_pos rfl, if_neg h1]; simp [hk]
    · rw [if_neg (by omega), if_neg h1, List.getElem?_eq_none (by simp; omega)]
theorem take_less {xs p : List Int} {k : Nat} {j : Int} (h : xs.take (k + 1) = p ++ [j]) (hp : p.length = k) : xs.take k = p := by
  have h2 : (xs.take (k + 1)).take k = (p ++ [j]).take k := by rw [h]
  rw [List.take_take, Nat.min_eq_left (by omega)] at h2
  rw [h2]; simp [← hp]
def ChPost (l S Y E N K SB n size : Nat) (J Jx : List SetV → Blk → Blk → World → Prop) (k : Nat) (p : List Int) (pre : List SetV) (L : List (List Int)) (e : Ending) (W' : World) : Prop :=
  (e = .returned (.bool true) ∧ ∃ ys C T xs', ys.map Prod.snd = L.map (p ++ ·) ∧ J (pre ++ ys) C T W' ∧ SetsF l S Y E N K SB n size xs' W' ∧ SetsA S Y E N K SB C T ∧ xs'.take k = p) ∨ (e = .returned (.bool false) ∧ ∃ pre' C T, Jx pre' C T W')
set_option maxRecDepth 100000 in
set_option maxHeartbeats 2000000 in
theorem choose_in (l S Y E N K SB n size : Nat) (hn : n ≤ 100) (hs : size ≤ 100) (J Jx : List SetV → Blk → Blk → World → Prop) (hJ : Client J) (Z : List (List Int))
    (hY : ∀ pre x C T W1, J pre C T W1 → MemS x W1 → (∀ b, False → T b) → (∃ rest, Z = pre.map Prod.snd ++ x.2 :: rest) → ∀ m, YieldAt Fence.wide m Try.prog l (encS x) W1 fun e W' =>
      (e = .returned (.bool true) ∧ Went J (fun _ _ => False) pre x C T W1 W') ∨ (e = .returned (.bool false) ∧ Went Jx (fun _ _ => False) pre x C T W1 W')) :
    ∀ (r k b : Nat) (p : List Int) (pre : List SetV) (C T : Blk) (xs : List Int) (W : World), k + r = size → p.length = k → b ≤ n → J pre C T W → SetsF l S Y E N K SB n size xs W → SetsA S Y E N K SB C T → xs.take k = p → (∃ post, Z = pre.map Prod.snd ++ (compl n r b).map (p ++ ·) ++ post) →
      CallsIn Fence.wide 50 Try.prog 91 #[.int .i64 k, .int .i64 b, .pointer (some ⟨S, 0, none⟩), .pointer (some ⟨Y, 0, none⟩), .pointer (some ⟨E, 0, none⟩), .pointer (some ⟨N, 0, none⟩), .pointer (some ⟨K, 0, none⟩)] W (ChPost l S Y E N K SB n size J Jx k p pre (compl n r b)) := by
  intro r
  induction r with
  | zero =>
    intro k b p pre C T xs W hk hp hb hj hF hA htake hZ
    obtain rfl : k = size := by omega
    have HF := Lib.hid hF
    have HA := Lib.hid hA
    have HZ := Lib.hid hZ
    have cs := hF.cs; have cy := hF.cy; have ce := hF.ce; have own := hF.own; have len := hF.len
    clear hF
    have hx : xs = p := by rw [← htake, List.take_of_length_le (by omega)]
    subst hx
    have LEN := Lib.hid len
    have HP : Hid (MemS (SB, xs) W) := by show OwnI _ _ _ _; dsimp only; rw [len]; exact own
    have HJ := Lib.hid hj
    have hy := hY pre (SB, xs) C T W hj HP.out (fun _ h => h.elim) (by obtain ⟨post, h⟩ := hZ; exact ⟨post, by rw [h]; simp [compl]⟩)
    obtain ⟨fn, tmps, assign, body, hy1, hR⟩ := hy 49
    dsimp only [encS] at hy1
    rw [len] at hy1
    clear hy hj hZ hA htake len own
    refine callsIn_of_wp Try.func91 rfl trivial ?_ rfl
    simp only [Try.ntmps91, List.size_toArray, List.length_cons, List.length_nil, Nat.reduceAdd, Nat.reduceSub, Array.replicate_succ, Array.replicate_zero, List.push_toArray, List.append_toArray, List.nil_append, List.cons_append]
    gi_wp2
    refine hR.mono ?_
    rintro e W3 (⟨rfl, hw⟩ | ⟨rfl, hw⟩)
    · have HW := Lib.hid hw; clear hw
      gi_wp2
      go_ret
      obtain ⟨C', T', hj', hT', hC', ht'⟩ := HW.out
      refine .inl ⟨rfl, [(SB, xs)], C', T', xs, by simp [compl], hj', HF.out.turned ht' (fun b hb e => e.elim (HA.out.2 b hb) id), ⟨hT' _ HA.out.1 (OwnI.lt HF.out.own).1 id, fun b hb e => ?_⟩, by rw [List.take_of_length_le (by have := LEN.out; omega)]⟩
      rcases hC' b e with q | q | q
      · exact HA.out.2 b hb q
      · exact q
      · have l1 := cell_lt cs; have l2 := cell_lt cy; have l3 := cell_lt ce; have l4 := cell_lt HF.out.cn; have l5 := cell_lt HF.out.ck; dsimp only at l1 l2 l3 l4 l5; have l6 := (OwnI.lt HF.out.own).1
        rcases hb with rfl | rfl | rfl | rfl | rfl | rfl <;> omega
    · have HW := Lib.hid hw; clear hw
      gi_wp2
      go_ret
      obtain ⟨C', T', hj', hT', hC', ht'⟩ := HW.out
      exact .inr ⟨rfl, _, C', T', hj'⟩
  | succ r ih =>
    intro k b p pre C T xs W hk hp hb hj hF hA htake hZ
    have hks : k < size := by omega
    have HF := Lib.hid hF
    have HA := Lib.hid hA
    have HZ := Lib.hid hZ
    have HJ := Lib.hid hj
    have HT := Lib.hid htake
    have HP := Lib.hid hp
    have HK := Lib.hid hk
    have cs := hF.cs
    clear hj hZ hA htake hp hk hF
    refine callsIn_of_wp Try.func91 rfl trivial ?_ rfl
    simp only [Try.ntmps91, List.size_toArray, List.length_cons, List.length_nil, Nat.reduceAdd, Nat.reduceSub, Array.replicate_succ, Array.replicate_zero, List.push_toArray, List.append_toArray, List.nil_append, List.cons_append]
    gi_wp2
    clear cs
    gi_loopw [10] (fun i wr => ∃ j : Nat, b ≤ j ∧ (j = b ∨ j ≤ n - r) ∧ i = .int .i64 (j : Int) ∧ ∃ ys C T xs', ys.map Prod.snd = (complTo n r b (j - b)).map (p ++ ·) ∧ J (pre ++ ys) C T wr ∧ SetsF l S Y E N K SB n size xs' wr ∧ SetsA S Y E N K SB C T ∧ xs'.take k = p) (fun i _ => n + 2 - (intOf i).toNat)
    case atStart => exact ⟨b, Nat.le_refl _, .inl rfl, rfl, [], C, T, xs, by rw [Nat.sub_self]; rfl, by simpa using HJ.out, HF.out, HA.out, HT.out⟩
    case round =>
      obtain ⟨j, hd1, hd2, rfl, ys, C', T', xs', hys, hj', hF', hA', ht'⟩ := hrel
      have HF' := Lib.hid hF'
      have HJ' := Lib.hid hj'
      have HA' := Lib.hid hA'
      have HT' := Lib.hid ht'
      have HYS := Lib.hid hys
      have cs := hF'.cs; have ce := hF'.ce; have cn := hF'.cn; have own := hF'.own; have len := hF'.len
      clear hj' hA' ht' hys hF'
      by_cases hlt : j < n - r
      · have hle : (j : Int) ≤ (n : Int) - size + k := by have := HK.out; omega
        obtain ⟨cz, fz⟩ := own.cell (j := k) (by omega)
        have LEN := Lib.hid len
        have HF2 := Lib.hid (HF'.out.stored k (j : Int))
        have ck2 := HF2.out.ck
        have HJ2 : Hid (J (pre ++ ys) C' T' (wr.setCell ⟨SB, k, none⟩ (.int .i64 (j : Int)))) := hJ.keep HJ'.out (turned_set wr _ HA'.out.1) fun b e => .inl e
        have HT2 : Hid ((xs'.set k (j : Int)).take (k + 1) = p ++ [(j : Int)]) := take_set HT'.out (by omega)
        have HS : Hid (complTo n r b (j - b + 1) = complTo n r b (j - b) ++ (compl n r (j + 1)).map fun s => (j : Int) :: s) := by
          show _ = _
          rw [complTo_succ, show b + (j - b) = j by omega]
        have HZ2 : Hid (∃ post, Z = (pre ++ ys).map Prod.snd ++ (compl n r (j + 1)).map ((p ++ [(j : Int)]) ++ ·) ++ post) := by
          obtain ⟨post, hz⟩ := HZ.out
          obtain ⟨post2, hz2⟩ := complTo_split n r b (j - b + 1) (n - r - b) (by omega)
          refine ⟨post2.map (p ++ ·) ++ post, ?_⟩
          rw [hz, compl_succ, hz2, HS.out]
          rw [List.map_append (l₁ := pre), HYS.out, List.map_append, List.map_append]
          simp [List.append_assoc]
        have HLT := Lib.hid hlt
        clear own len hlt
        have hk1 : Hid (k + 1 + r = size) := by have := HK.out; show _ = _; omega
        have hp1 : Hid ((p ++ [(j : Int)]).length = k + 1) := by have := HP.out; show _ = _; simp; omega
        have hb1 : Hid (j + 1 ≤ n) := by show _ ≤ _; omega
        gi_wp2_with (refine ⟨trivial, ?_⟩; gi_at_call 91; refine CallsIn.mono (callsIn_wide.2 (callsIn_wide.1 (ih (k + 1) (j + 1) (p ++ [(j : Int)]) (pre ++ ys) C' T' _ _ hk1.out hp1.out hb1.out HJ2.out HF2.out HA'.out HT2.out HZ2.out))) ?_; rintro e W3 (⟨rfl, hw⟩ | ⟨rfl, hw⟩) <;> have HW := Lib.hid hw <;> clear hw)
        · obtain ⟨zs, C3, T3, xs3, hzs, hj3, hF3, hA3, ht3⟩ := HW.out
          have hj3' : J (pre ++ (ys ++ zs)) C3 T3 W3 := by rw [← List.append_assoc]; exact hj3
          have R1 := Lib.hid hj3'; have R2 := Lib.hid hF3; have R3 := Lib.hid hA3; have R4 := Lib.hid (take_less ht3 HP.out); have R5 := Lib.hid hzs
          clear hj3 hj3' hF3 hA3 ht3 hzs ck2 cz fz cs
          gi_wp2
          go_roundw
          case rel =>
            have := hb1.out; have := HLT.out
            refine ⟨j + 1, by omega, .inr (by omega), by go_num, ys ++ zs, C3, T3, xs3, ?_, R1.out, R2.out, R3.out, R4.out⟩
            rw [List.map_append, HYS.out, R5.out, show j + 1 - b = j - b + 1 by omega, HS.out, List.map_append]
            simp
          case measure => have := hb1.out; simp [intOf]; omega
        · obtain ⟨pre', C3, T3, hx3⟩ := HW.out
          have R1 := Lib.hid hx3
          clear hx3 ck2 cz fz cs
          gi_wp2
          go_ret
          exact .inr ⟨rfl, _, _, _, R1.out⟩
      · have hle : ¬ ((j : Int) ≤ (n : Int) - size + k) := by have := HK.out; omega
        have HJE : Hid (complTo n r b (j - b) = compl n (r + 1) b) := by
          show _ = _
          rw [compl_succ]
          congr 1
          omega
        clear own len ce
        gi_wp2
        go_ret
        exact .inl ⟨rfl, ys, C', T', xs', by rw [← HJE.out]; exact HYS.out, HJ'.out, HF'.out, HA'.out, HT'.out⟩
end Go.Proofs.Ytfnomiingelfaaa
/- sets of layer 3: the contract of what it hands back. -/
namespace Go.Proofs.Ytfnomiingelfaaa
open Go.RowKit Go.Shelf

theorem sets_any (n size : Int) (w : World) : Calls Try.prog 75 #[.int .i64 n, .int .i64 size] w fun e w' =>
    e = .returned (.func (.func 90) #[] #[.pointer (some ⟨w.heap.size + 1, 0, none⟩), .pointer (some ⟨w.heap.size, 0, none⟩)]) ∧ w' = (w.alloc (.cells #[.int .i64 n] 3)).alloc (.cells #[.int .i64 size] 3) := by
  go_enter Try.func75, Try.ntmps75
  go_wp2
  go_ret
  exact ⟨rfl, rfl⟩
theorem two_last (w : World) (o : Obj) (v : Value) (t : TypeId) : ((w.alloc o).alloc (.cells #[v] t)).cell? ⟨w.heap.size + 1, 0, none⟩ = some v ∧ ((w.alloc o).alloc (.cells #[v] t)).frozen? ⟨w.heap.size + 1, 0, none⟩ = false := by
  have h : (w.alloc o).heap.size = w.heap.size + 1 := World.size_alloc _ _
  rw [← h]
  exact ⟨alloc_cell _ _ _ _ _ rfl, by simp⟩
theorem sets_boxes {w4 W V : World} {S N l n size : Nat} {t t' : TypeId} {u : Value} (h1 : V.heap.size = W.heap.size + 1) (h2 : V.heap.size < w4.heap.size) (hb : Below W.heap.size W w4) (hbV : Below V.heap.size V w4) (cS : W.cell? ⟨S, 0, none⟩ = some (.int .i64 size)) (cN : W.cell? ⟨N, 0, none⟩ = some (.int .i64 n))
    (cY : V.cell? ⟨W.heap.size, 0, none⟩ = some (.func (.yield l) #[] #[])) (ho : OwnI w4 0 (.slice (some ⟨V.heap.size, 0, none⟩) size size) (List.replicate size 0)) :
    let f : Value := .func (.func 91) #[] #[.pointer (some ⟨S, 0, none⟩), .pointer (some ⟨W.heap.size, 0, none⟩), .pointer (some ⟨w4.heap.size, 0, none⟩), .pointer (some ⟨N, 0, none⟩), .pointer (some ⟨w4.heap.size + 1, 0, none⟩)]
    let X := ((w4.alloc (.cells #[.slice (some ⟨V.heap.size, 0, none⟩) size size] t)).alloc (.cells #[u] t')).setCell ⟨w4.heap.size + 1, 0, none⟩ f
    SetsF l S W.heap.size w4.heap.size N (w4.heap.size + 1) V.heap.size n size (List.replicate size 0) X ∧ Below W.heap.size W X := by
  intro f X
  have LS : S < W.heap.size := cell_lt cS
  have LN : N < W.heap.size := cell_lt cN
  have e1 : (w4.alloc (.cells #[.slice (some ⟨V.heap.size, 0, none⟩) size size] t)).heap.size = w4.heap.size + 1 := World.size_alloc _ _
  have hX : Below w4.heap.size w4 X := ((((Below.refl _ _).alloc (Nat.le_refl _) _).alloc (by omega) _).setCell (p := ⟨w4.heap.size + 1, 0, none⟩) (by show _ ≤ w4.heap.size + 1; omega) _)
  have old : ∀ {b o : Nat} {v : Value}, w4.cell? ⟨b, o, none⟩ = some v → X.cell? ⟨b, o, none⟩ = some v := fun h => (hX.cell (p := ⟨_, _, none⟩) (cell_lt h)).trans h
  have hws : W.heap.size ≤ w4.heap.size := hb.size
  refine ⟨⟨old ((hb.cell (p := ⟨S, 0, none⟩) LS).trans cS), old ((hbV.cell (p := ⟨W.heap.size, 0, none⟩) (by show W.heap.size < _; omega)).trans cY), ?_, old ((hb.cell (p := ⟨N, 0, none⟩) LN).trans cN), World.cell?_setCell_same _ _ _ (two_last _ _ _ _).1, ho.below hX, by simp, by omega, by omega, by omega, by omega, by omega⟩, hb.trans (hX.mono hws)⟩
  refine (cell_other _ _ _ _ (by show w4.heap.size ≠ w4.heap.size + 1; omega)).trans ((alloc_old _ _ _ _ (by omega)).trans (alloc_cell _ _ _ _ _ rfl))
@[local go_sem] theorem run_store_func' (P : Program) (w : World) (a : Addr) (m : Mode) (f : Fn) (x y : Array Value) : (store a (.func f x y) m).run P w = stored P w a (.func f x y) m := run_store P w a _ m rfl
set_option maxRecDepth 100000 in
set_option maxHeartbeats 1000000 in
theorem sets1_seq (n size S N : Nat) (hn : n ≤ 100) (hs : 1 ≤ size ∧ size ≤ 100) (w : World) (hS : w.cell? ⟨S, 0, none⟩ = some (.int .i64 size)) (hN : w.cell? ⟨N, 0, none⟩ = some (.int .i64 n)) :
    SeqM Try.prog 90 #[.pointer (some ⟨S, 0, none⟩), .pointer (some ⟨N, 0, none⟩)] encS MemS (fun _ _ => False) Prod.snd (compl n size 0) (fun b => b = S ∨ b = N) w := by
  intro l J Jx C T W hW hJ hJx hneed hY h0
  obtain ⟨i0, hi, hz0, hz1, hz2⟩ := info_parts Try.infoInt
  have cS : W.cell? ⟨S, 0, none⟩ = some (.int .i64 size) := (hW.cell (p := ⟨S, 0, none⟩) (cell_lt hS)).trans hS
  have cN : W.cell? ⟨N, 0, none⟩ = some (.int .i64 n) := (hW.cell (p := ⟨N, 0, none⟩) (cell_lt hN)).trans hN
  have LS : S < W.heap.size := cell_lt cS
  have LN : N < W.heap.size := cell_lt cN
  have HY := Lib.hid hY
  have H0 := Lib.hid h0
  have HNEED := Lib.hid hneed
  have HSZ := Lib.hid hs
  obtain ⟨hs1, hs2⟩ := hs
  have CS := Lib.hid cS
  have CN := Lib.hid cN
  clear hY h0 hneed hS hN hW cN
  show Calls _ _ (#[.func (.yield l) #[] #[], .pointer (some ⟨S, 0, none⟩), .pointer (some ⟨N, 0, none⟩)]) _ _
  obtain ⟨V, hV⟩ : ∃ V, W.alloc (.cells #[.func (.yield l) #[] #[]] 81) = V := ⟨_, rfl⟩
  have HB0 : Hid (Below W.heap.size W V) := by rw [← hV]; exact (Below.refl _ _).alloc (Nat.le_refl _) _
  have cSV : V.cell? ⟨S, 0, none⟩ = some (.int .i64 size) := (HB0.out.cell (p := ⟨S, 0, none⟩) LS).trans cS
  have hVs : V.heap.size = W.heap.size + 1 := by rw [← hV]; exact World.size_alloc _ _
  have HCY : Hid (V.cell? ⟨W.heap.size, 0, none⟩ = some (.func (.yield l) #[] #[])) := by rw [← hV]; exact alloc_cell _ _ _ _ _ rfl
  go_enter Try.func90, Try.ntmps90
  have HVS := Lib.hid hVs
  clear cS hVs
  go_wp2_with (with_reducible refine wpList_make_full _ rfl (.tmp 6) (.tmp 6) 24 rfl V.heap.size 3 i0 (.int .i64 0) 1 Try.underlying24 hi hz0 hz1 .i64 .i64 (size : Int) (size : Int) size rfl rfl rfl rfl (by rw [hz2]; omega) (by unfold maxLen; omega) (Nat.le_refl _) ?_)
  rotate_left
  intro w4 hown hgrow
  have hb4 : Below V.heap.size V w4 := (Below.refl _ _).grown hgrow (Nat.le_refl _) (fun k e => by cases e)
  have hsz4 : V.heap.size ≤ w4.heap.size := hb4.size
  have HB4 : Hid (Below W.heap.size W w4) := HB0.out.trans (hb4.mono (by have := HVS.out; omega))
  have HSB : Hid (V.heap.size < w4.heap.size) := (OwnI.lt (xs := List.replicate size 0) (by
    have z := zeros_are size
    rw [Nat.mul_one] at z
    show w4.ownsRow V.heap.size _ _ _ _ _
    rw [List.length_replicate, ← z]; exact hown)).1
  have HO4 : Hid (OwnI w4 0 (.slice (some ⟨V.heap.size, 0, none⟩) size size) (List.replicate size 0)) := by
    have z := zeros_are size
    rw [Nat.mul_one] at z
    refine OwnI.mono (base := V.heap.size) ?_ (Nat.zero_le _)
    show w4.ownsRow _ _ _ _ _ _
    rw [List.length_replicate, ← z]; exact hown
  have HBV := Lib.hid hb4
  have HL := Lib.hid LS
  have HLN := Lib.hid LN
  clear hown hgrow hb4 cSV hsz4 LS LN
  obtain ⟨k1, k2⟩ := two_last w4 (.cells #[.slice (some ⟨V.heap.size, 0, none⟩) size size] 24) .nilFunc 110
  obtain ⟨q1, q2⟩ := sets_boxes (t := 24) (t' := 110) (u := .nilFunc) HVS.out HSB.out HB4.out HBV.out CS.out CN.out HCY.out HO4.out
  have Q1 := Lib.hid q1
  have Q2 := Lib.hid q2
  clear q1 q2
  obtain ⟨X0, hX0⟩ : ∃ X0, (w4.alloc (.cells #[.slice (some ⟨V.heap.size, 0, none⟩) size size] 24)).alloc (.cells #[.nilFunc] 110) = X0 := ⟨_, rfl⟩
  rw [hX0] at k1 k2 Q1 Q2
  go_wp2_with fail
  refine (callsIn_wide.1 (choose_in l S W.heap.size w4.heap.size N (w4.heap.size + 1) V.heap.size n size hn hs2 J Jx hJ (compl n size 0) HY.out size 0 0 [] [] C (fun b => T b ∨ W.heap.size ≤ b) (List.replicate size 0) _ (by omega) rfl (Nat.zero_le _) (hJ.keep H0.out (turned_below Q2.out) (fun b e => e)) Q1.out ⟨.inr (by have := HVS.out; omega), ?_⟩ rfl ⟨[], by simp⟩)).mono ?_
  · have hlt := fun b hb => (hJ.lt H0.out b hb).1
    have hW := HB4.out.size
    have hV := HVS.out
    rintro b (rfl | rfl | rfl | rfl | rfl | rfl) hb
    · exact HNEED.out _ (.inl rfl) hb
    · have := hlt _ hb; omega
    · have := hlt _ hb; omega
    · exact HNEED.out _ (.inr rfl) hb
    · have := hlt _ hb; omega
    · have := hlt _ hb; omega
  · rintro e W3 (⟨rfl, ys, C3, T3, xs3, hys, hj3, -⟩ | ⟨rfl, pre', C3, T3, hx3⟩)
    · have R1 := Lib.hid hj3
      have R2 := Lib.hid hys
      clear hj3 hys k1 k2
      go_wp2
      go_end0
      exact ⟨⟨_, rfl⟩, .inl ⟨ys, C3, T3, by have := R2.out; simpa using this, R1.out⟩⟩
    · have R1 := Lib.hid hx3
      clear hx3 k1 k2
      go_wp2
      go_end0
      exact ⟨⟨_, rfl⟩, .inr ⟨_, _, _, R1.out⟩⟩
end Go.Proofs.Ytfnomiingelfaaa
/- reduceAll: a contract. -/
namespace Go.Proofs.Ytfnomiingelfaaa
open Go.RowKit

def upTo (n : Nat) : List Int := (List.range n).map Int.ofNat
theorem upTo_len (n : Nat) : (upTo n).length = n := by simp [upTo]
theorem upTo_succ (n : Nat) : upTo (n + 1) = upTo n ++ [(n : Int)] := by unfold upTo; rw [List.range_succ, List.map_append]; rfl
theorem rdPost_box {T g cap pc : Nat} {pa : Option Addr} {ads : List (Nat × Nat)} {r : Rd} {w wr W : World} (hT : T = w.heap.size) (hwr : w.heap.size < wr.heap.size) (hb0 : Below w.heap.size w wr) (hb : Below wr.heap.size wr W) (hg : wr.heap.size ≤ g) (hs : SI W wr.heap.size g ads r.rows) (hp : OwnI W wr.heap.size (.slice pa r.piv.length pc) r.piv) : RdPost r w (.returned (rdV g cap pa pc r)) (rdBox T g cap pa pc r W) := by
  subst hT
  refine ⟨?_, g, cap, ads, pa, pc, rfl, by omega, (hs.same (rdBox_heap _ _ _ _ _ _ _ (by omega)) fun i x e => rdBox_heap _ _ _ _ _ _ _ (by have := (hs.out i x e).2; omega)).lower (by omega), ?_⟩
  · have h1 := hb0.trans (hb.mono (Nat.le_of_lt hwr))
    exact (((h1.setCell (p := ⟨w.heap.size, 0, none⟩) (Nat.le_refl _) _).setCell (p := ⟨w.heap.size, 1, none⟩) (Nat.le_refl _) _).setCell (p := ⟨w.heap.size, 2, none⟩) (Nat.le_refl _) _).setCell (p := ⟨w.heap.size, 3, none⟩) (Nat.le_refl _) _
  · have hp : OwnI (rdBox w.heap.size g cap pa pc r W) wr.heap.size (.slice pa r.piv.length pc) r.piv := row_same hp fun b e => rdBox_heap _ _ _ _ _ _ _ (by have := (World.ownsRow.lt hp b e).1; omega)
    exact hp.mono (Nat.le_of_lt hwr)
theorem upTo_in {n : Nat} {q : Int} (h : q ∈ upTo n) : 0 ≤ q ∧ q < (n : Int) := by
  obtain ⟨j, hj, rfl⟩ := List.mem_map.1 h
  have := List.mem_range.1 hj
  exact ⟨Int.natCast_nonneg _, by show (j : Int) < n; omega⟩
set_option maxRecDepth 100000 in
theorem reduceAll_any {ma : Option Addr} {m : List (List Int)} {mc : Nat} {w : World} (hm : Hid (m.length ≤ 6)) (hm1 : Hid (1 ≤ m.length)) (hc : Hid (1 ≤ colsM m ∧ colsM m ≤ 10)) (hrl : Hid (∀ r ∈ m, r.length = colsM m)) (h64 : Hid (All64 m)) (hms : Hid (Ms w ma m)) :
    Calls Try.prog 61 #[.slice ma m.length mc, .func (.func 62) #[] #[]] w (RdPost (redN m (upTo (colsM m))) w) := by
  obtain ⟨n, hn⟩ : ∃ n, colsM m = n := ⟨_, rfl⟩
  have HN := Lib.hid hn
  rw [hn] at hc hrl
  clear hn
  go_enter Try.func61, Try.ntmps61
  have HB0 : Hid (∀ o, Below (w.heap.size + 1) (w.alloc o) (w.alloc o)) := fun o => Below.refl _ _
  have HBA : Hid (∀ o, Below w.heap.size w (w.alloc o)) := fun o => (Below.refl _ _).alloc (Nat.le_refl _) _
  have h0 : 0 < m.length := hm1.out
  obtain ⟨b1, o1, ai, r, ci, rfl, hcell, hsl, HR⟩ := hms.out.at h0
  have hcell' : ∀ o, (w.alloc o).cell? ⟨b1, o1, none⟩ = some (.slice ai r.length ci) := fun o => ((HBA.out o).cell (p := ⟨b1, o1, none⟩) (cell_lt hcell)).trans hcell
  have hrn : r.length = n := hrl.out r (List.mem_of_getElem? HR.out)
  rw [hrn] at hcell'
  clear hcell
  have hn10 := hc.out.2
  go_wp2
  go_loopw [5, 11] (fun v i wr => ∃ j : Nat, j ≤ n ∧ i = .int .i64 j ∧ OwnI wr (w.heap.size + 1) v (upTo j) ∧ Below (w.heap.size + 1) (w.alloc (.cells #[.int .i64 0, .slice none 0 0, .slice none 0 0, .int .i64 0] 87)) wr) (fun _ i _ => n - (intOf i).toNat)
  case atStart => exact ⟨0, Nat.zero_le _, rfl, OwnI.nil _ _, Below.refl _ _⟩
  case round =>
    obtain ⟨j, hj, rfl, hO, hB⟩ := hrel
    have HO := Lib.hid hO; clear hO
    have HB := Lib.hid hB; clear hB
    have hsz : (w.alloc (.cells #[.int .i64 0, .slice none 0 0, .slice none 0 0, .int .i64 0] 87)).heap.size = w.heap.size + 1 := World.size_alloc _ _
    have HSZ : Hid (w.heap.size + 1 ≤ wr.heap.size) := by have := HB.out.size; show _ ≤ _; omega
    clear hsz hcell'
    by_cases hlt : j < n
    · go_wp2_with (at_builtin; go_must (refine wpList_push rfl (.tmp 14) (.tmp 16) rfl (w.heap.size + 1) _ (upTo j) _ _ _ _ rfl rfl rfl HO.out (by rw [upTo_len]; omega) HSZ.out ?_); intro v' w9 ho' hb')
      go_roundw
      case rel => exact ⟨j + 1, by omega, by go_num, by rw [upTo_succ]; exact ho', HB.out.trans hb'⟩
      case measure => simp [intOf]; omega
    · obtain rfl : j = n := by omega
      have HBW : Hid (Below w.heap.size w wr) := (HBA.out _).trans (HB.out.mono (Nat.le_succ _))
      obtain ⟨pa, pc, rfl, hps⟩ := HO.out.any
      have HPS := Lib.hid hps; clear hps
      have HMS : Hid (Ms wr (some ⟨b1, o1, none⟩) m) := hms.out.below HBW.out
      have HT0 : Hid (wr.cell? ⟨w.heap.size, 0, none⟩ = some (.int .i64 0) ∧ wr.frozen? ⟨w.heap.size, 0, none⟩ = false) := ⟨(HB.out.cell (p := ⟨w.heap.size, 0, none⟩) (Nat.lt_succ_self _)).trans (alloc_cell w _ _ _ _ rfl), (HB.out.frozen (p := ⟨w.heap.size, 0, none⟩) (Nat.lt_succ_self _)).trans (by simp)⟩
      have HT1 : Hid (wr.cell? ⟨w.heap.size, 1, none⟩ = some (.slice none 0 0) ∧ wr.frozen? ⟨w.heap.size, 1, none⟩ = false) := ⟨(HB.out.cell (p := ⟨w.heap.size, 1, none⟩) (Nat.lt_succ_self _)).trans (alloc_cell w _ _ _ _ rfl), (HB.out.frozen (p := ⟨w.heap.size, 1, none⟩) (Nat.lt_succ_self _)).trans (by simp)⟩
      have HT2 : Hid (wr.cell? ⟨w.heap.size, 2, none⟩ = some (.slice none 0 0) ∧ wr.frozen? ⟨w.heap.size, 2, none⟩ = false) := ⟨(HB.out.cell (p := ⟨w.heap.size, 2, none⟩) (Nat.lt_succ_self _)).trans (alloc_cell w _ _ _ _ rfl), (HB.out.frozen (p := ⟨w.heap.size, 2, none⟩) (Nat.lt_succ_self _)).trans (by simp)⟩
      have HT3 : Hid (wr.cell? ⟨w.heap.size, 3, none⟩ = some (.int .i64 0) ∧ wr.frozen? ⟨w.heap.size, 3, none⟩ = false) := ⟨(HB.out.cell (p := ⟨w.heap.size, 3, none⟩) (Nat.lt_succ_self _)).trans (alloc_cell w _ _ _ _ rfl), (HB.out.frozen (p := ⟨w.heap.size, 3, none⟩) (Nat.lt_succ_self _)).trans (by simp)⟩
      have hlw : Hid (w.heap.size < wr.heap.size) := HSZ.out
      have HPX : Hid (1 ≤ (upTo j).length ∧ (upTo j).length ≤ 10) := by rw [upTo_len]; exact hc.out
      have HIN : Hid (∀ q ∈ upTo j, 0 ≤ q ∧ q < colsM m) := fun q hq => by rw [HN.out]; exact upTo_in hq
      have HRL : Hid (∀ r ∈ m, r.length = colsM m) := fun r hr => by rw [HN.out]; exact hrl.out r hr
      go_wp2_with (go_at_call 83; refine (reduce_any hm hm1 HPX HIN HRL h64 HMS HPS).mono ?_; rintro e w2 ⟨hb2, g, cap, ads, pa2, pc2, rfl, hgg, si, pi⟩; unfold rdV; have t0 := (hb2.cell (p := ⟨w.heap.size, 0, none⟩) hlw.out).trans HT0.out.1; have z0 := (hb2.frozen (p := ⟨w.heap.size, 0, none⟩) hlw.out).trans HT0.out.2; have t1 := (hb2.cell (p := ⟨w.heap.size, 1, none⟩) hlw.out).trans HT1.out.1; have z1 := (hb2.frozen (p := ⟨w.heap.size, 1, none⟩) hlw.out).trans HT1.out.2; have t2 := (hb2.cell (p := ⟨w.heap.size, 2, none⟩) hlw.out).trans HT2.out.1; have z2 := (hb2.frozen (p := ⟨w.heap.size, 2, none⟩) hlw.out).trans HT2.out.2; have t3 := (hb2.cell (p := ⟨w.heap.size, 3, none⟩) hlw.out).trans HT3.out.1; have z3 := (hb2.frozen (p := ⟨w.heap.size, 3, none⟩) hlw.out).trans HT3.out.2)
      refine bodyPost_ret_by (v := rdV g cap pa2 pc2 (redN m (upTo j))) ?_ rfl (by rw [HN.out]; exact rdPost_box rfl hlw.out HBW.out hb2 hgg si pi)
      rw [results_cell_one' rfl]
      unfold rdV
      go_simp
end Go.Proofs.Ytfnomiingelfaaa
/- The marks that ranges over functions leave behind, and what is owed at the return. -/
namespace Go.Proofs.Ytfnomiingelfaaa
open Go.RowKit

def mark (D : Nat) : Deferred := { target := .collected D, args := #[] }
def Marks (B : Nat) (ms : List Nat) (W : World) : Prop := ms.Nodup ∧ ∀ D, D ∈ ms → B ≤ D ∧ W.heap[D]? = some (.deferred (some []))
theorem Marks.kept {B : Nat} {ms : List Nat} {W W' : World} (h : Marks B ms W) (k : ∀ D, D ∈ ms → W'.heap[D]? = W.heap[D]?) : Marks B ms W' := ⟨h.1, fun D hD => ⟨(h.2 D hD).1, (k D hD).trans (h.2 D hD).2⟩⟩
theorem Marks.lt {B : Nat} {ms : List Nat} {W : World} (h : Marks B ms W) {D : Nat} (hD : D ∈ ms) : D < W.heap.size := (Array.getElem?_eq_some_iff.1 (h.2 D hD).2).1
end Go.Proofs.Ytfnomiingelfaaa
/- circuits of layer 3: the contract of what it hands back. -/
namespace Go.Proofs.Ytfnomiingelfaaa
open Go.RowKit Go.Shelf
attribute [local go_sem] Oper.semAt_some

def circsTo (m : List (List Int)) (k : Nat) : List (List Int) := (List.range k).flatMap fun f => ((compl (colsM m) (f + 1) 0).filter (circB m)).map (circH m)
def rankM (m : List (List Int)) : Nat := (redN m (upTo (colsM m))).piv.length
def circsAll (m : List (List Int)) : List (List Int) := circsTo m (rankM m + 1)
theorem circsTo_succ (m : List (List Int)) (k : Nat) : circsTo m (k + 1) = circsTo m k ++ ((compl (colsM m) (k + 1) 0).filter (circB m)).map (circH m) := by
  unfold circsTo; rw [List.range_succ, List.flatMap_append]; simp
theorem circsTo_split (m : List (List Int)) (k n : Nat) (h : k ≤ n) : ∃ post, circsTo m n = circsTo m k ++ post := by
  obtain ⟨d, rfl⟩ : ∃ d, n = k + d := ⟨n - k, by omega⟩
  unfold circsTo
  rw [List.range_add, List.flatMap_append]
  exact ⟨_, rfl⟩
abbrev ownC (x : SetV) : Blk := fun b => b = x.1
structure CIn (w0 : World) (B Y l : Nat) (ma : Option Addr) (M mc : Nat) (ms : List Nat) (K : List SetV → Blk → Blk → World → Prop) (pre : List SetV) (C T : Blk) (W : World) : Prop where
  cl : ∃ T2, K pre C T2 W ∧ (∀ b, T b → T2 b) ∧ T2 Y ∧ ∀ D, D ∈ ms → T2 D
  nc : ∀ b, b < w0.heap.size ∨ b = B → ¬ C b
  nt : ∀ b, b < w0.heap.size ∨ b = B ∨ b = Y ∨ b ∈ ms → ¬ T b
  bw : Below w0.heap.size w0 W
  cB : W.cell? ⟨B, 0, none⟩ = some (.slice ma M mc)
  cY : W.cell? ⟨Y, 0, none⟩ = some (.func (.yield l) #[] #[])
  dm : ∀ D, D ∈ ms → W.heap[D]? = some (.deferred (some []))
theorem CIn.client {w0 : World} {B Y l : Nat} {ma : Option Addr} {M mc : Nat} {ms : List Nat} {K : List SetV → Blk → Blk → World → Prop} {β : Type} {q : List β → List SetV → Prop} (hK : Client K) : Client fun (s : List β) C T W => ∃ pre, q s pre ∧ CIn w0 B Y l ma M mc ms K pre C T W where
  lt := by
    rintro s C T W ⟨pre, _, h⟩ b hb
    obtain ⟨T2, hk, h1, _⟩ := h.cl
    exact ⟨(hK.lt hk b hb).1, fun e => (hK.lt hk b hb).2 (h1 b e)⟩
  keep := by
    rintro s C T T' W W' ⟨pre, hq, h⟩ ht hT
    obtain ⟨T2, hk, h1, h2, h3⟩ := h.cl
    have lB := cell_lt h.cB
    have lY := cell_lt h.cY
    have lD : ∀ D, D ∈ ms → D < W.heap.size := fun D hD => (Array.getElem?_eq_some_iff.1 (h.dm D hD)).1
    have hnt : ∀ b, b < w0.heap.size ∨ b = B ∨ b = Y ∨ b ∈ ms → ¬ T' b := by
      intro b hb e
      rcases hT b e with q | q
      · exact h.nt b hb q
      · have := h.bw.size
        rcases hb with hb | rfl | rfl | hb
        · omega
        · dsimp only at lB; omega
        · dsimp only at lY; omega
        · have := lD b hb; omega
    refine ⟨pre, hq, ⟨fun b => T2 b ∨ W.heap.size ≤ b, hK.keep hk (ht.mono fun b _ e => h1 b e) (fun b e => e), fun b e => (hT b e).elim (fun e => .inl (h1 b e)) .inr, .inl h2, fun D hD => .inl (h3 D hD)⟩, h.nc, hnt, h.bw.trans (ht.below h.bw.size fun b hb => h.nt b (.inl hb)), ht.cell h.cB (h.nt _ (by simp)), ht.cell h.cY (h.nt _ (by simp)), fun D hD => (ht.same D (lD D hD) (h.nt D (by simp [hD]))).trans (h.dm D hD)⟩
theorem cin_next {w0 V2 W5 W6 : World} {B Y l M mc bh : Nat} {ma : Option Addr} {ms : List Nat} {J K : List SetV → Blk → Blk → World → Prop} {pre' : List SetV} {h : List Int} {C3 T3 T2 : Blk} (hJ : Client J) (hI : CIn w0 B Y l ma M mc ms J pre' C3 T3 V2)
    (hk : J pre' C3 T2 V2) (h1 : ∀ b, T3 b → T2 b) (h2 : T2 Y) (h3 : ∀ D, D ∈ ms → T2 D) (hb5 : Below V2.heap.size V2 W5) (hbh : V2.heap.size ≤ bh) (hw : Went K ownC pre' (bh, h) C3 (fun b => T2 b ∨ V2.heap.size ≤ b) W5 W6) :
    ∃ C', CIn w0 B Y l ma M mc ms K (pre' ++ [(bh, h)]) C' (fun b => T3 b ∧ b < V2.heap.size) W6 ∧ (∀ b, C' b → C3 b ∨ V2.heap.size ≤ b) ∧ Turned C3 V2 W6 := by
  obtain ⟨C', T', hj6, hT', hC', ht'⟩ := hw
  have s5 := hb5.size
  have lB := cell_lt hI.cB
  have lY := cell_lt hI.cY
  dsimp only at lB lY
  have lD : ∀ D, D ∈ ms → D < V2.heap.size := fun D hD => (Array.getElem?_eq_some_iff.1 (hI.dm D hD)).1
  have lw := hI.bw.size
  have nC : ∀ b, T2 b → ¬ C3 b := fun b hb hc => (hJ.lt hk b hc).2 hb
  have no : ∀ b, b < V2.heap.size → ¬ C3 b → ¬ (C3 b ∨ ownC (bh, h) b) := fun b hb hn e => e.elim hn fun e => by have : b = bh := e; omega
  have t5 : Turned C3 V2 W5 := turned_below hb5
  have hc5 : ∀ {a : Addr} {v : Value}, a.block < V2.heap.size → V2.cell? a = some v → ¬ C3 a.block → W6.cell? a = some v := fun hl hc hn => ht'.cell ((hb5.cell hl).trans hc) (no _ hl hn)
  refine ⟨C', ⟨⟨T', hj6, fun b hb => hT' b (.inl (h1 b hb.1)) (by omega) (fun e => by have : b = bh := e; omega), hT' Y (.inl h2) (by omega) (fun e => by have : Y = bh := e; omega), fun D hD => hT' D (.inl (h3 D hD)) (by have := lD D hD; omega) (fun e => by have : D = bh := e; have := lD D hD; omega)⟩, ?_, fun b hb e => hI.nt b hb e.1, ?_, hc5 lB hI.cB (hI.nc B (.inr rfl)), hc5 lY hI.cY (nC Y h2), ?_⟩, ?_, ?_⟩
  · intro b hb e
    rcases hC' b e with q | q | q
    · exact hI.nc b hb q
    · have q : b = bh := q
      rcases hb with hb | hb <;> omega
    · rcases hb with hb | hb <;> omega
  · refine hI.bw.trans ((hb5.mono lw).trans (ht'.below (by omega) fun b hb => no b (by omega) (hI.nc b (.inl hb))))
  · intro D hD
    have := lD D hD
    exact (ht'.same D (by omega) (no D this (nC D (h3 D hD)))).trans ((hb5.block D this).trans (hI.dm D hD))
  · intro b hb
    rcases hC' b hb with q | q | q
    · exact .inl q
    · have q : b = bh := q
      exact .inr (by omega)
    · exact .inr (by omega)
  · exact t5.trans ht' fun b e => e.elim .inl fun e => .inr (by have : b = bh := e; omega)
theorem leaves_marks2 {F : Fence} {n : Nat} {P : Program} {fn : Func} {tmps : Array Value} {R : Ending → World → Prop} (p : World → Prop) (ms0 : List Nat)
    (hp : ∀ W D, D ∈ ms0 → p W → p (W.putObj D (.deferred none))) (hR : ∀ W, p W → LeavesIn F n P fn tmps R [] .returning W) :
    ∀ (ms : List Nat) (W : World), (∀ D, D ∈ ms → D ∈ ms0) → ms.Nodup → (∀ D, D ∈ ms → W.heap[D]? = some (.deferred (some []))) → p W → LeavesInM F n P fn tmps R (ms.map mark) .returning W := by
  intro ms
  induction ms with
  | nil => intro W _ _ _ h; exact hR W h
  | cons D ms ih =>
    intro W hs hn hd h
    have hn' := List.nodup_cons.1 hn
    refine ⟨by simp, .inl ⟨D, W.putObj D (.deferred none), rfl, run_takeDeferred (hd D (by simp)), ih _ (fun E hE => hs E (by simp [hE])) hn'.2 (fun E hE => ?_) (hp W D (hs D (by simp)) h)⟩⟩
    exact (World.putObj_heap_other (fun e => hn'.1 (by rw [← e]; exact hE))).trans (hd E (by simp [hE]))
theorem circ_leaves {fn : Func} {tmps : Array Value} {K J Jx : List SetV → Blk → Blk → World → Prop} {Z : List (List Int)} {pre : List SetV} {C T2 : Blk} {ms : List Nat} {V : World} (hf : fn.results = #[]) (hK : Client K) (hk : K pre C T2 V) (hT : ∀ D, D ∈ ms → T2 D) (hn : ms.Nodup) (hd : ∀ D, D ∈ ms → V.heap[D]? = some (.deferred (some [])))
    (hR : ∀ C T W, K pre C T W → (∃ xs C T, xs.map Prod.snd = Z ∧ J xs C T W) ∨ (∃ pre C T, Jx pre C T W)) :
    LeavesInM Fence.wide 50 Try.prog fn tmps (fun e W' => (∃ v, e = .returned v) ∧ ((∃ xs C T, xs.map Prod.snd = Z ∧ J xs C T W') ∨ (∃ pre C T, Jx pre C T W'))) (ms.map mark) .returning V := by
  refine leaves_marks2 (fun W => ∃ C T, K pre C T W ∧ ∀ D, D ∈ ms → T D) ms ?_ ?_ ms V (fun _ h => h) hn hd ⟨C, T2, hk, hT⟩
  · rintro W D hD ⟨C', T', h1, h2⟩
    exact ⟨C', T', hK.keep h1 (turned_put W _ (h2 D hD)) (fun b e => .inl e), h2⟩
  · rintro W ⟨C', T', h1, _⟩
    exact ⟨_, results_none hf _ _ _, ⟨_, rfl⟩, hR _ _ _ h1⟩
set_option maxRecDepth 100000 in
set_option maxHeartbeats 2000000 in
theorem circuits1_seq {ma : Option Addr} {m : List (List Int)} {mc B : Nat} {w0 w : World} (hv : validM m = true) (hms : Ms w0 ma m) (hw0 : Below w0.heap.size w0 w) (hB : w.cell? ⟨B, 0, none⟩ = some (.slice ma m.length mc)) :
    SeqM Try.prog 74 #[.pointer (some ⟨B, 0, none⟩)] encS MemS ownC Prod.snd (circsAll m) (fun b => b < w0.heap.size ∨ b = B) w := by
  intro l J Jx C T W hW hJ hJx hneed hY h0
  obtain ⟨hm1, hm6, hc1, hc10, hrows⟩ := validM_of hv
  have h64 : Hid (All64 m) := fun q hq x hx => by
    obtain ⟨c, hc, rfl⟩ := mem_gt.1 hx
    have := gt_in (hrows q hq).2 hc
    unfold In64; omega
  have HRL : Hid (∀ r ∈ m, r.length = colsM m) := fun r hr => (hrows r hr).1
  have HM6 := Lib.hid hm6
  have HM1 := Lib.hid hm1
  have HC : Hid (1 ≤ colsM m ∧ colsM m ≤ 10) := ⟨hc1, hc10⟩
  have HMS := Lib.hid hms
  have HV := Lib.hid hv
  have HY := Lib.hid hY
  have H0 := Lib.hid h0
  have HNEED := Lib.hid hneed
  have HW0 : Hid (Below w0.heap.size w0 W) := hw0.trans (hW.mono hw0.size)
  have cB : W.cell? ⟨B, 0, none⟩ = some (.slice ma m.length mc) := (hW.cell (p := ⟨B, 0, none⟩) (cell_lt hB)).trans hB
  clear hms hv hY h0 hneed hw0 hB hW hrows hc1 hc10 hm6
  obtain ⟨V, hV⟩ : ∃ V, W.alloc (.cells #[.func (.yield l) #[] #[]] 81) = V := ⟨_, rfl⟩
  have HB0 : Hid (Below W.heap.size W V) := by rw [← hV]; exact (Below.refl _ _).alloc (Nat.le_refl _) _
  have HVS : Hid (V.heap.size = W.heap.size + 1) := by rw [← hV]; exact World.size_alloc _ _
  have HCY : Hid (V.cell? ⟨W.heap.size, 0, none⟩ = some (.func (.yield l) #[] #[])) := by rw [← hV]; exact alloc_cell _ _ _ _ _ rfl
  have cBV : V.cell? ⟨B, 0, none⟩ = some (.slice ma m.length mc) := (HB0.out.cell (p := ⟨B, 0, none⟩) (cell_lt cB)).trans cB
  have HBV := Lib.hid cBV
  have HBW : Hid (Below w0.heap.size w0 V) := HW0.out.trans (HB0.out.mono HW0.out.size)
  have HLB : Hid (B < W.heap.size) := cell_lt cB
  clear cB
  show Calls _ _ (#[.func (.yield l) #[] #[], .pointer (some ⟨B, 0, none⟩)]) _ _
  refine (callsIn_wide (n := 50)).1 ?_
  refine callsIn_of_wp_marks Try.func74 rfl trivial ?_ rfl
  simp only [Try.ntmps74, List.size_toArray, List.length_cons, List.length_nil, Nat.reduceAdd, Nat.reduceSub, Array.replicate_succ, Array.replicate_zero, List.push_toArray, List.append_toArray, List.nil_append, List.cons_append]
  obtain ⟨rd, hrd⟩ : ∃ rd, redN m (upTo (colsM m)) = rd := ⟨_, rfl⟩
  obtain ⟨rk, hrk⟩ : ∃ rk, rd.piv.length = rk := ⟨_, rfl⟩
  have HRK : Hid (rankM m = rk) := by show _ = _; unfold rankM; rw [hrd, hrk]
  have hrk6 : rk ≤ 6 := by
    have h := (redN_fin HV.out (px := upTo (colsM m)) (fun j hj => upTo_in hj)).pl
    rw [hrd, hrk] at h; have := HM6.out; omega
  have HRD : Hid (Calls Try.prog 61 #[.slice ma m.length mc, .func (.func 62) #[] #[]] V (RdPost rd V)) := by
    rw [← hrd]; exact reduceAll_any HM6 HM1 HC HRL h64 (HMS.out.below HBW.out)
  have HRKD := Lib.hid hrk
  clear hrd hrk
  obtain ⟨rd, hrd⟩ : ∃ rd, redN m (upTo (colsM m)) = rd := ⟨_, rfl⟩
  obtain ⟨rk, hrk⟩ : ∃ rk, rd.piv.length = rk := ⟨_, rfl⟩
  have HRK : Hid (rankM m = rk) := by show _ = _; unfold rankM; rw [hrd, hrk]
  have hrk6 : rk ≤ 6 := by
    have h := (redN_fin HV.out (px := upTo (colsM m)) (fun j hj => upTo_in hj)).pl
    rw [hrd, hrk] at h; have := HM6.out; omega
  have HRD : Hid (Calls Try.prog 61 #[.slice ma m.length mc, .func (.func 62) #[] #[]] V (RdPost rd V)) := by
    rw [← hrd]; exact reduceAll_any HM6 HM1 HC HRL h64 (HMS.out.below HBW.out)
  have HRKD := Lib.hid hrk
  clear hrd hrk
  obtain ⟨rd, hrd⟩ : ∃ rd, redN m (upTo (colsM m)) = rd := ⟨_, rfl⟩
  obtain ⟨rk, hrk⟩ : ∃ rk, rd.piv.length = rk := ⟨_, rfl⟩
  have HRK : Hid (rankM m = rk) := by show _ = _; unfold rankM; rw [hrd, hrk]
  have hrk6 : rk ≤ 6 := by
    have h := (redN_fin HV.out (px := upTo (colsM m)) (fun j hj => upTo_in hj)).pl
    rw [hrd, hrk] at h; have := HM6.out; omega
  have HRD : Hid (Calls Try.prog 61 #[.slice ma m.length mc, .func (.func 62) #[] #[]] V (RdPost rd V)) := by
    rw [← hrd]; exact reduceAll_any HM6 HM1 HC HRL h64 (HMS.out.below HBW.out)
  have HRKD := Lib.hid hrk
  clear hrd hrk
  obtain ⟨rd, hrd⟩ : ∃ rd, redN m (upTo (colsM m)) = rd := ⟨_, rfl⟩
  obtain ⟨rk, hrk⟩ : ∃ rk, rd.piv.length = rk := ⟨_, rfl⟩
  have HRK : Hid (rankM m = rk) := by show _ = _; unfold rankM; rw [hrd, hrk]
  have hrk6 : rk ≤ 6 := by
    have h := (redN_fin HV.out (px := upTo (colsM m)) (fun j hj => upTo_in hj)).pl
    rw [hrd, hrk] at h; have := HM6.out; omega
  have HRD : Hid (Calls Try.prog 61 #[.slice ma m.length mc, .func (.func 62) #[] #[]] V (RdPost rd V)) := by
    rw [← hrd]; exact reduceAll_any HM6 HM1 HC HRL h64 (HMS.out.below HBW.out)
  have HRKD := Lib.hid hrk
  clear hrd hrk
  obtain ⟨rd, hrd⟩ : ∃ rd, redN m (upTo (colsM m)) = rd := ⟨_, rfl⟩
  obtain ⟨rk, hrk⟩ : ∃ rk, rd.piv.length = rk := ⟨_, rfl⟩
  have HRK : Hid (rankM m = rk) := by show _ = _; unfold rankM; rw [hrd, hrk]
  have hrk6 : rk ≤ 6 := by
    have h := (redN_fin HV.out (px := upTo (colsM m)) (fun j hj => upTo_in hj)).pl
    rw [hrd, hrk] at h; have := HM6.out; omega
  have HRD : Hid (Calls Try.prog 61 #[.slice ma m.length mc, .func (.func 62) #[] #[]] V (RdPost rd V)) := by
    rw [← hrd]; exact reduceAll_any HM6 HM1 HC HRL h64 (HMS.out.below HBW.out)
  have HRKD := Lib.hid hrk
  clear hrd hrk
  obtain ⟨rd, hrd⟩ : ∃ rd, redN m (upTo (colsM m)) = rd := ⟨_, rfl⟩
  obtain ⟨rk, hrk⟩ : ∃ rk, rd.piv.length = rk := ⟨_, rfl⟩
  have HRK : Hid (rankM m = rk) := by show _ = _; unfold rankM; rw [hrd, hrk]
  have hrk6 : rk ≤ 6 := by
    have h := (redN_fin HV.out (px := upTo (colsM m)) (fun j hj => upTo_in hj)).pl
    rw [hrd, hrk] at h; have := HM6.out; omega
  have HRD : Hid (Calls Try.prog 61 #[.slice ma m.length mc, .func (.func 62) #[] #[]] V (RdPost rd V)) := by
    rw [← hrd]; exact reduceAll_any HM6 HM1 HC HRL h64 (HMS.out.below HBW.out)
  have HRKD := Lib.hid hrk
  clear hrd hrk
  obtain ⟨rd, hrd⟩ : ∃ rd, redN m (upTo (colsM m)) = rd := ⟨_, rfl⟩
  obtain ⟨rk, hrk⟩ : ∃ rk, rd.piv.length = rk := ⟨_, rfl⟩
  have HRK : Hid (rankM m = rk) := by show _ = _; unfold rankM; rw [hrd, hrk]
  have hrk6 : rk ≤ 6 := by
    have h := (redN_fin HV.out (px := upTo (colsM m)) (fun j hj => upTo_in hj)).pl
    rw [hrd, hrk] at h; have := HM6.out; omega
  have HRD : Hid (Calls Try.prog 61 #[.slice ma m.length mc, .func (.func 62) #[] #[]] V (RdPost rd V)) := by
    rw [← hrd]; exact reduceAll_any HM6 HM1 HC HRL h64 (HMS.out.below HBW.out)
  have HRKD := Lib.hid hrk
  clear hrd hrk
  obtain ⟨rd, hrd⟩ : ∃ rd, redN m (upTo (colsM m)) = rd := ⟨_, rfl⟩
  obtain ⟨rk, hrk⟩ : ∃ rk, rd.piv.length = rk := ⟨_, rfl⟩
  have HRK : Hid (rankM m = rk) := by show _ = _; unfold rankM; rw [hrd, hrk]
  have hrk6 : rk ≤ 6 := by
    have h := (redN_fin HV.out (px := upTo (colsM m)) (fun j hj => upTo_in hj)).pl
    rw [hrd, hrk] at h; have := HM6.out; omega
  have HRD : Hid (Calls Try.prog 61 #[.slice ma m.length mc, .func (.func 62) #[] #[]] V (RdPost rd V)) := by
    rw [← hrd]; exact reduceAll_any HM6 HM1 HC HRL h64 (HMS.out.below HBW.out)
  have HRKD := Lib.hid hrk
  clear hrd hrk
  gi_wp2_with (first | (refine ⟨trivial, ?_⟩; gi_at_call 61; refine (callsIn_wide.2 HRD.out).mono ?_; rintro e w2 ⟨hb2, g, cap, ads, pa2, pc2, rfl, hgg, si, pi⟩; unfold rdV; have HB2 := Lib.hid hb2; clear hb2 si pi hgg) | (refine ⟨trivial, ?_⟩; gi_at_call 63; refine (callsIn_wide.2 (rank_any rd.cols g rd.rows.length cap pa2 rd.piv pc2 rd.dv _)).mono ?_; rintro e w3 ⟨rfl, hb3⟩; have HB3 := Lib.hid hb3; clear hb3; rw [HRKD.out]))
  have HV3 : Hid (Below V.heap.size V w3) := HB2.out.trans (HB3.out.mono HB2.out.size)
  have HW3 : Hid (Below W.heap.size W w3) := HB0.out.trans (HV3.out.mono (by have := HVS.out; omega))
  have HI0 : Hid (∃ pre C, CIn w0 B W.heap.size l ma m.length mc [] J pre C (fun _ => False) w3 ∧ pre.map Prod.snd = circsTo m 0) := by
    refine ⟨[], C, ⟨⟨fun b => T b ∨ W.heap.size ≤ b, hJ.keep H0.out (turned_below HW3.out) (fun b e => e), fun b e => e.elim, .inr (Nat.le_refl _), fun D hD => by cases hD⟩, HNEED.out, fun b _ e => e, HW0.out.trans (HW3.out.mono HW0.out.size), ?_, ?_, fun D hD => by cases hD⟩, rfl⟩
    · exact (HV3.out.cell (p := ⟨B, 0, none⟩) (by have := HLB.out; have := HVS.out; show B < _; omega)).trans HBV.out
    · exact (HV3.out.cell (p := ⟨W.heap.size, 0, none⟩) (by have := HVS.out; show W.heap.size < _; omega)).trans HCY.out
  clear hV cBV
  refine wpIn_loop (fun a' X => ∃ (k : Nat) (ms : List Nat) (u4 u5 u6 u7 u8 u9 u10 u11 u14 u15 u16 u17 u18 u19 u20 u21 u22 u23 u24 u25 u26 u27 u28 u29 u30 u31 u32 u33 u34 u35 u36 u37 : Value), a' = { tmps := #[.func (.yield l) #[] #[], .pointer (some ⟨B, 0, none⟩), .pointer (some ⟨W.heap.size, 0, none⟩), .int .i64 (rk : Int), u4, u5, u6, u7, u8, u9, u10, u11, .int .i64 ((rk : Int) + 1), .int .i64 (k : Int), u14, u15, u16, u17, u18, u19, u20, u21, u22, u23, u24, u25, u26, u27, u28, u29, u30, u31, u32, u33, u34, u35, u36, u37], defers := ms.map mark } ∧ k ≤ rk + 1 ∧ ms.Nodup ∧ ∃ pre C, CIn w0 B W.heap.size l ma m.length mc ms J pre C (fun _ => False) X ∧ pre.map Prod.snd = circsTo m k)
    (fun a' _ => 8 - (intOf (a'.tmps.getD 13 undef)).toNat) ?start ?round
  case start =>
    exact ⟨0, [], _, _, _, _, _, _, _, _, _, _, _, _, _, _, _, _, _, _, _, _, _, _, _, _, _, _, _, _, _, _, _, _, rfl, Nat.zero_le _, List.nodup_nil, HI0.out⟩
  case round =>
    rintro a' X ⟨k, ms, u4, u5, u6, u7, u8, u9, u10, u11, u14, u15, u16, u17, u18, u19, u20, u21, u22, u23, u24, u25, u26, u27, u28, u29, u30, u31, u32, u33, u34, u35, u36, u37, rfl, hk, hnd, pre, C1, hI, hpre⟩
    have HI := Lib.hid hI
    have HPRE := Lib.hid hpre
    have HND := Lib.hid hnd
    clear HI0 hpre hnd
    by_cases hlt : k < rk + 1
    · obtain ⟨n, hn⟩ : ∃ n, colsM m = n := ⟨_, rfl⟩
      have HN := Lib.hid hn
      have hn1 : 1 ≤ n := by rw [← hn]; exact HC.out.1
      have hn10 : n ≤ 10 := by rw [← hn]; exact HC.out.2
      obtain ⟨b1, o1, ai, rr, ci, rfl, hcell, hsl, HR⟩ := HMS.out.at (show 0 < m.length from HM1.out)
      have hrn : rr.length = n := by rw [← hn]; exact HRL.out rr (List.mem_of_getElem? HR.out)
      rw [hrn] at hcell
      have hcX : X.cell? ⟨b1, o1, none⟩ = some (.slice ai n ci) := (hI.bw.cell (p := ⟨b1, o1, none⟩) (cell_lt hcell)).trans hcell
      have hcB := hI.cB
      clear hrn hsl hcell hn hI
      gi_wp2_with (refine ⟨trivial, ?_⟩; gi_at_call 75; refine (callsIn_wide.2 (sets_any (n : Int) ((k : Int) + 1) X)).mono ?_; rintro e w4 ⟨rfl, rfl⟩)
      obtain ⟨V1, hV1⟩ : ∃ V1, (X.alloc (.cells #[.int .i64 (n : Int)] 3)).alloc (.cells #[.int .i64 ((k : Int) + 1)] 3) = V1 := ⟨_, rfl⟩
      have hv1 : V1.heap.size = X.heap.size + 2 := by rw [← hV1, World.size_alloc, World.size_alloc]
      have hcN : V1.cell? ⟨X.heap.size, 0, none⟩ = some (.int .i64 n) := by rw [← hV1]; exact (alloc_old _ _ _ _ (alloc_lt' rfl)).trans (alloc_cell _ _ _ _ _ rfl)
      have hcS : V1.cell? ⟨X.heap.size + 1, 0, none⟩ = some (.int .i64 ((k + 1 : Nat) : Int)) := by rw [← hV1]; exact (two_last _ _ _ _).1
      have hbX : Below X.heap.size X V1 := by rw [← hV1]; exact ((Below.refl _ _).alloc (Nat.le_refl _) _).alloc (by rw [World.size_alloc]; omega) _
      rw [hV1]
      have hC1 : ∀ b, C1 b → b < X.heap.size := by
        obtain ⟨T2, hk2, _⟩ := HI.out.cl
        exact fun b hb => (hJ.lt hk2 b hb).1
      have hI1 : ∃ pre', (pre'.map Prod.snd = circsTo m k ++ ((([] : List SetV).map Prod.snd).filter (circB m)).map (circH m)) ∧ CIn w0 B W.heap.size l (some ⟨b1, o1, none⟩) m.length mc ms J pre' C1 (fun _ => False) V1 :=
        (CIn.client hJ (q := fun (s : List SetV) pre' => pre'.map Prod.snd = circsTo m k ++ ((s.map Prod.snd).filter (circB m)).map (circH m))).keep ⟨pre, by rw [HPRE.out]; simp, HI.out⟩ (turned_below hbX) (fun b e => e.elim)
      have HI1 := Lib.hid hI1
      have HXV := Lib.hid hbX
      have HV1 := Lib.hid hv1
      have HC1 := Lib.hid hC1
      have HK := Lib.hid hlt
      clear hI1 hbX hV1 hcB hcX hC1
      refine wpIn_rangeFunc_M (by omega) (gf := 90) (lb := #[.pointer (some ⟨X.heap.size + 1, 0, none⟩), .pointer (some ⟨X.heap.size, 0, none⟩)]) rfl (enters_of Try.func90 (by kernel_rfl) rfl)
        (sets1_seq n (k + 1) (X.heap.size + 1) X.heap.size (by omega) (by omega) V1 hcS hcN) (Below.refl _ _) (fun _ => rfl) memS_put
        (fun s C T W' => ∃ pre', (pre'.map Prod.snd = circsTo m k ++ ((s.map Prod.snd).filter (circB m)).map (circH m)) ∧ CIn w0 B W.heap.size l (some ⟨b1, o1, none⟩) m.length mc ms J pre' C T W')
        (fun c s C T W' => ∃ pre' : List SetV, c = .ret ∧ CIn w0 B W.heap.size l (some ⟨b1, o1, none⟩) m.length mc ms Jx pre' C T W')
        (CIn.client hJ) (fun c => CIn.client hJx (q := fun _ _ => c = .ret)) C1 (fun _ => False) ?need (fun _ e => e.elim) HI1.out
        (fun x => { tmps := #[.func (.yield l) #[] #[], .pointer (some ⟨B, 0, none⟩), .pointer (some ⟨W.heap.size, 0, none⟩), .int .i64 (rk : Int), .int .i64 (k : Int), .slice (some ⟨x.1, 0, none⟩) x.2.length x.2.length, u6, u7, u8, u9, u10, u11, .int .i64 ((rk : Int) + 1), .int .i64 (k : Int), .bool true, .int .i64 (k : Int), .slice (some ⟨b1, o1, none⟩) m.length mc, .pointer (some ⟨b1, o1, none⟩), .slice ai n ci, .int .i64 (n : Int), .int .i64 (k : Int), .int .i64 ((k : Int) + 1), .func (.func 90) #[] #[.pointer (some ⟨X.heap.size + 1, 0, none⟩), .pointer (some ⟨X.heap.size, 0, none⟩)], .slice (some ⟨x.1, 0, none⟩) x.2.length x.2.length, u24, u25, u26, u27, u28, u29, u30, u31, u32, u33, u34, u35, u36, u37], defers := [] }) ?assign ?body ?done ?stop
      case need =>
        have h1 := HV1.out
        rintro b (rfl | rfl)
        · exact ⟨fun e => by have := HC1.out _ e; omega, by omega⟩
        · exact ⟨fun e => by have := HC1.out _ e; omega, by omega⟩
      case assign =>
        intro l2 x V K hK
        gi_wp2
        exact hK
      case stop =>
        rintro D c pre2 C3 T3 V2 hD ⟨pre', rfl, hI'⟩ hTD hK2
        obtain ⟨T2, q1, q2, q3, q4⟩ := hI'.cl
        have X1 := Lib.hid q1; have X4 := Lib.hid q4
        have XT := Lib.hid (q2 D hTD)
        have XD := Lib.hid hK2
        have XM := Lib.hid hI'.dm
        have hlD : ∀ E, E ∈ ms → E < X.heap.size := fun E hE => (Array.getElem?_eq_some_iff.1 (HI.out.dm E hE)).1
        have XN : Hid ((D :: ms).Nodup) := List.nodup_cons.2 ⟨fun hm => by have := hlD D hm; have := HV1.out; omega, HND.out⟩
        clear q1 q2 q3 q4 hI' hK2 hTD hD hcS hcN hv1 hlD
        gi_wp2
        refine circ_leaves (ms := D :: ms) rfl hJx X1.out ?_ XN.out ?_ (fun C T W h => .inr ⟨_, _, _, h⟩)
        · intro E hE
          rcases List.mem_cons.1 hE with rfl | hE
          · exact XT.out
          · exact X4.out E hE
        · intro E hE
          rcases List.mem_cons.1 hE with rfl | hE
          · exact XD.out
          · exact XM.out E hE
      case done =>
        rintro D ys C3 T3 V2 hD hys ⟨pre', hpre', hI'⟩ hTD hK2
        have hlD : ∀ E, E ∈ ms → E < X.heap.size := fun E hE => (Array.getElem?_eq_some_iff.1 (HI.out.dm E hE)).1
        have XN : Hid ((D :: ms).Nodup) := List.nodup_cons.2 ⟨fun hm => by have := hlD D hm; have := HV1.out; omega, HND.out⟩
        have XP : Hid (pre'.map Prod.snd = circsTo m (k + 1)) := by show _ = _; rw [hpre', hys, circsTo_succ, HN.out]
        have XI : Hid (CIn w0 B W.heap.size l (some ⟨b1, o1, none⟩) m.length mc (D :: ms) J pre' C3 (fun _ => False) V2) := by
          obtain ⟨T2, q1, q2, q3, q4⟩ := hI'.cl
          refine ⟨⟨T2, q1, fun b e => e.elim, q3, fun E hE => ?_⟩, hI'.nc, fun b _ e => e, hI'.bw, hI'.cB, hI'.cY, fun E hE => ?_⟩
          · rcases List.mem_cons.1 hE with rfl | hE
            · exact q2 _ hTD
            · exact q4 E hE
          · rcases List.mem_cons.1 hE with rfl | hE
            · exact hK2
            · exact hI'.dm E hE
        clear hys hpre' hI' hTD hK2 hcS hcN hv1 hlD hD
        gi_wp2
        refine ⟨?_, ?_⟩
        · refine ⟨k + 1, D :: ms, ?_⟩
          (repeat apply Exists.intro)
          refine ⟨?_, by have := HK.out; omega, XN.out, pre', C3, XI.out, XP.out⟩
          simp only [List.map_cons, mark]
          congr 1
        · have := HK.out; simp [intOf]; omega
      case body =>
        rintro l2 pre2 ⟨xb, xs⟩ C3 T3 V2 ⟨pre', hpre', hI'⟩ hmem hown ⟨rest, hrest⟩
        dsimp only at hmem hrest
        have hin : xs ∈ compl n (k + 1) 0 := by rw [hrest]; simp
        obtain ⟨hxl, hxr⟩ := compl_mem hin
        have XPX : Hid (1 ≤ xs.length ∧ xs.length ≤ 10) := by show _ ∧ _; rw [hxl]; have := HK.out; omega
        have XIN : Hid (pxOk m xs) := fun j hj => by have := hxr j hj; rw [HN.out]; omega
        have XSL := Lib.hid (OwnI.sl hmem)
        have XI := Lib.hid hI'
        have XMS : Hid (Ms V2 (some ⟨b1, o1, none⟩) m) := HMS.out.below hI'.bw
        have XP := Lib.hid hpre'
        have XR := Lib.hid hrest
        have hcB2 := hI'.cB
        have HCO : Hid (Calls Try.prog 76 #[.slice (some ⟨b1, o1, none⟩) m.length mc, .slice (some ⟨xb, 0, none⟩) xs.length xs.length] V2 (CPost m xs V2)) := circuitOn_any HV.out XPX.out XIN.out XMS.out XSL.out
        have HNN := Lib.hid HN.out
        clear hmem hrest hin hxl hxr hI' hpre' hown hcS hcN hv1
        dsimp only
        by_cases hcb : circB m xs = true
        case neg =>
          have hcb' : circB m xs = false := by simpa using hcb
          have HCB := Lib.hid hcb'
          clear hcb hcb'
          gi_wp2_with (refine ⟨trivial, ?_⟩; gi_at_call 76; refine (callsIn_wide.2 HCO.out).mono ?_; rintro e W5 ⟨hb5, (⟨-, rfl⟩ | ⟨ht, -⟩)⟩; rotate_left 1; exact absurd ht (by rw [HCB.out]; simp); have HB5 := Lib.hid hb5; clear hb5)
          obtain ⟨q1, q2, q3⟩ := (CIn.client hJ (q := fun (s : List SetV) pre' => pre'.map Prod.snd = circsTo m k ++ ((s.map Prod.snd).filter (circB m)).map (circH m))).keep (pre := pre2) ⟨pre', XP.out, XI.out⟩ (turned_below HB5.out) (fun b e => .inl e)
          have Q1 := Lib.hid q2; have Q3 := Lib.hid q3
          clear q2 q3
          refine ⟨fun _ h => (by cases h), ?_⟩
          gi_wp2
          refine ⟨C3, T3, ⟨q1, ?_, Q3.out⟩, fun b hb _ _ => hb, fun b hb => .inl hb, turned_below HB5.out⟩
          rw [Q1.out, List.map_append, List.filter_append]
          simp [HCB.out]
        case pos =>
          have HCB := Lib.hid hcb
          have HHL : Hid ((circH m xs).length = n) := by show _ = _; rw [← HN.out]; exact putTo_len _ _ _ _
          obtain ⟨T2, q1, q2, q3, q4⟩ := XI.out.cl
          have XPR : Hid (∃ rest2, circsAll m = pre'.map Prod.snd ++ circH m xs :: rest2) := by
            obtain ⟨post, hpost⟩ := circsTo_split m (k + 1) (rk + 1) (by have := HK.out; omega)
            refine ⟨((rest).filter (circB m)).map (circH m) ++ post, ?_⟩
            unfold circsAll
            rw [HRK.out, hpost, circsTo_succ, HN.out, XR.out, XP.out, List.filter_append, List.filter_cons_of_pos HCB.out]
            simp
          have Q1 := Lib.hid q1; have Q2 := Lib.hid q2; have Q3 := Lib.hid q3; have Q4 := Lib.hid q4
          clear hcb q1 q2 q3 q4
          gi_wp2_with (refine ⟨trivial, ?_⟩; gi_at_call 76; refine (callsIn_wide.2 HCO.out).mono ?_; rintro e W5 ⟨hb5, (⟨hff, rfl⟩ | ⟨-, bh, rfl, ho5⟩)⟩; exact absurd HCB.out (by rw [hff]; simp); rw [HN.out] at ho5 ⊢; have hY2 := HY.out pre' (bh, circH m xs) C3 (fun b => T2 b ∨ V2.heap.size ≤ b) W5 (hJ.keep Q1.out (turned_below hb5) (fun b e => e)) (by show OwnI _ _ _ _; dsimp only; rw [HHL.out]; exact ho5.mono (Nat.zero_le _)) (fun b e => by have e : b = bh := e; subst e; exact .inr (OwnI.lt ho5).2) XPR.out 47; obtain ⟨fn, tmps, assign, body, hy1, hR⟩ := hY2; dsimp only [encS] at hy1; rw [HHL.out] at hy1; have HBH := Lib.hid (OwnI.lt ho5).2; have HB5 := Lib.hid hb5; have hcY5 := (hb5.cell (p := ⟨W.heap.size, 0, none⟩) (cell_lt XI.out.cY)).trans XI.out.cY; clear hb5 ho5)
          refine hR.mono ?_
          rintro e W6 (⟨rfl, hw⟩ | ⟨rfl, hw⟩)
          · obtain ⟨C', r1, r2, r3⟩ := cin_next hJ XI.out Q1.out Q2.out Q3.out Q4.out HB5.out HBH.out hw
            have R1 := Lib.hid r1; have R2 := Lib.hid r2; have R3 := Lib.hid r3
            clear r1 r2 r3 hw hR hy1 hcY5 hcB2
            gi_wp2
            refine ⟨C', fun b => T3 b ∧ b < V2.heap.size, ⟨_, ?_, R1.out⟩, fun b hb hl _ => ⟨hb, hl⟩, fun b hb => (R2.out b hb).elim .inl (fun q => .inr (.inr q)), R3.out.mono fun b _ e => .inl e⟩
            rw [List.map_append, XP.out, List.map_append, List.filter_append]
            simp [HCB.out]
          · obtain ⟨C', r1, r2, r3⟩ := cin_next hJ XI.out Q1.out Q2.out Q3.out Q4.out HB5.out HBH.out hw
            have R1 := Lib.hid r1; have R2 := Lib.hid r2; have R3 := Lib.hid r3
            clear r1 r2 r3 hw hR hy1 hcY5 hcB2
            gi_wp2
            exact ⟨C', fun b => T3 b ∧ b < V2.heap.size, ⟨_, rfl, R1.out⟩, fun b hb hl _ => ⟨hb, hl⟩, fun b hb => (R2.out b hb).elim .inl (fun q => .inr (.inr q)), R3.out.mono fun b _ e => .inl e⟩
    · obtain ⟨T2, q1, q2, q3, q4⟩ := hI.cl
      obtain rfl : k = rk + 1 := by omega
      have X1 := Lib.hid q1; have X4 := Lib.hid q4
      have XM := Lib.hid hI.dm
      clear q1 q2 q3 q4 hI
      gi_wp2
      refine circ_leaves (ms := ms) rfl hJ X1.out X4.out HND.out XM.out (fun C T W h => .inl ⟨_, _, _, ?_, h⟩)
      rw [HPRE.out]; unfold circsAll; rw [HRK.out]
end Go.Proofs.Ytfnomiingelfaaa
/- What asks masks and lists for their ranges, in layer 2 and in its answers: contracts. -/
namespace Go.Proofs.Ytfnomiingelfaaa
open Go.RowKit

def allR (lo hi : Int) (xs : List Int) : Bool := xs.all fun x => rangeB x lo hi
theorem allR_sym (lim : Int) (xs : List Int) : allR (-lim) lim xs = allB lim xs := by
  unfold allR allB
  congr 1; funext x
  simp only [rangeB, outB]
  by_cases h1 : -lim ≤ x <;> by_cases h2 : x ≤ lim <;> simp [h1, h2] <;> omega
theorem allR_no {lo hi : Int} {xs : List Int} {k : Nat} {x : Int} (hx : xs[k]? = some x) (ho : rangeB x lo hi = false) : allR lo hi xs = false := by
  unfold allR; rw [List.all_eq_false]
  exact ⟨x, List.mem_of_getElem? hx, by simp [ho]⟩
theorem allR_yes {lo hi : Int} {xs : List Int} (h : ∀ j, j < xs.length → rangeB (xs[j]?.getD 0) lo hi = true) : allR lo hi xs = true := by
  unfold allR; rw [List.all_eq_true]; intro x hx
  obtain ⟨j, hj, rfl⟩ := List.mem_iff_getElem.1 hx
  have := h j hj
  simpa [hj] using this

theorem btw_any (n lo hi : Int) (B C : Nat) (w : World) (c1 : w.cell? ⟨B, 0, none⟩ = some (.int .i64 lo)) (c2 : w.cell? ⟨C, 0, none⟩ = some (.int .i64 hi)) :
    Calls Try.prog 89 #[.int .i64 n, .pointer (some ⟨B, 0, none⟩), .pointer (some ⟨C, 0, none⟩)] w fun e w' => e = .returned (.bool (rangeB n lo hi)) ∧ w = w' := by
  go_enter Try.func89, Try.ntmps89
  go_wp2
  all_goals go_ret
  all_goals exact ⟨ret_bool (by first | (simp [rangeB, *]; done) | (simp [rangeB]; omega)), rfl⟩
theorem between_any (lo hi : Int) (w : World) :
    Calls Try.prog 73 #[.int .i64 lo, .int .i64 hi] w fun e w' => e = .returned (.func (.func 89) #[] #[.pointer (some ⟨w.heap.size, 0, none⟩), .pointer (some ⟨w.heap.size + 1, 0, none⟩)]) ∧
      w'.cell? ⟨w.heap.size, 0, none⟩ = some (.int .i64 lo) ∧ w'.cell? ⟨w.heap.size + 1, 0, none⟩ = some (.int .i64 hi) ∧ Below w.heap.size w w' := by
  go_enter Try.func73, Try.ntmps73
  go_wp2
  go_ret
  exact ⟨by simp, (alloc_old _ _ _ _ (by simp)).trans (alloc_cell _ _ _ _ _ rfl), by simp, ((Below.refl _ _).alloc (Nat.le_refl _) _).alloc (by simp) _⟩
theorem allbtw_any (lo hi : Int) (B C : Nat) (a : Option Addr) (xs : List Int) (cap : Nat) (w : World) (hl : xs.length ≤ 9223372036854775807)
    (c1 : w.cell? ⟨B, 0, none⟩ = some (.int .i64 lo)) (c2 : w.cell? ⟨C, 0, none⟩ = some (.int .i64 hi)) (hs : Sl w a xs) :
    Calls Try.prog 72 #[.slice a xs.length cap, .func (.func 89) #[] #[.pointer (some ⟨B, 0, none⟩), .pointer (some ⟨C, 0, none⟩)]] w fun e w' => e = .returned (.bool (allR lo hi xs)) ∧ w = w' := by
  have HS := Lib.hid hs; clear hs
  go_enter Try.func72, Try.ntmps72
  go_wp2
  go_loop [9] (fun i => ∃ k : Nat, k ≤ xs.length ∧ i = .int .i64 k ∧ ∀ j, j < k → rangeB (xs[j]?.getD 0) lo hi = true) (fun i => xs.length - (intOf i).toNat)
  case atStart => exact ⟨0, Nat.zero_le _, rfl, fun j h => by omega⟩
  case round =>
    obtain ⟨k, hk, rfl, hno⟩ := hrel
    have HN := Lib.hid hno; clear hno
    by_cases hlt : k < xs.length
    · obtain ⟨b, off, x, rfl, hcell, HX⟩ := HS.out.at hlt
      cases ho : rangeB x lo hi
      · go_wp2_with (go_at_call 89; refine (btw_any _ lo hi _ _ _ c1 c2).mono ?_; rintro e w' ⟨rfl, rfl⟩)
        go_ret
        exact ⟨ret_bool (allR_no HX.out ho).symm, rfl⟩
      · go_wp2_with (go_at_call 89; refine (btw_any _ lo hi _ _ _ c1 c2).mono ?_; rintro e w' ⟨rfl, rfl⟩)
        go_round
        case rel => exact ⟨k + 1, by omega, by go_num, fun j hj => by
            by_cases hj' : j = k
            · subst hj'; rw [HX.out]; exact ho
            · exact HN.out j (by omega)⟩
        case measure => simp [intOf]; omega
    · go_wp2
      go_ret
      exact ⟨ret_bool (allR_yes (fun j hj => HN.out j (by omega))).symm, rfl⟩
theorem validRow_any (a : Option Addr) (r : List Int) (cap : Nat) (w : World) (hl : r.length ≤ 9223372036854775807) (hs : Sl w a r) :
    Calls Try.prog 55 #[.slice a r.length cap] w fun e w' => e = .returned (.bool (rowB r)) ∧ Below w.heap.size w w' := by
  have HS := Lib.hid hs; clear hs
  by_cases h1 : 1 ≤ r.length ∧ r.length ≤ 10
  · obtain ⟨h1, h2⟩ := h1
    go_enter Try.func55, Try.ntmps55
    go_wp2_with fail
    refine (between_any (-1) 1 _).mono ?_
    rintro e w1 ⟨rfl, c1, c2, hb⟩
    have HB := Lib.hid hb; clear hb
    go_wp2_with fail
    refine (allbtw_any (-1) 1 _ _ _ _ _ _ hl c1 c2 (HS.out.below HB.out)).mono ?_
    rintro e w2 ⟨rfl, rfl⟩
    go_wp2
    go_ret
    refine ⟨ret_bool ?_, HB.out⟩
    rw [allR_sym 1]
    simp [rowB, rangeB]; omega
  · have HX : Hid (rowB r = false) := by
      show rowB r = false
      simp only [rowB, rangeB]
      by_cases h2 : 1 ≤ r.length
      · have : ¬ ((r.length : Int) ≤ 10) := by omega
        simp [this]
      · have : ¬ (1 ≤ (r.length : Int)) := by omega
        simp [this]
    by_cases h2 : 1 ≤ r.length
    · have h3 : 10 < r.length := by omega
      clear h1
      go_enter Try.func55, Try.ntmps55
      go_wp2
      go_ret
      exact ⟨ret_bool HX.out.symm, Below.refl _ _⟩
    · have h3 : r.length < 1 := by omega
      clear h1 h2
      go_enter Try.func55, Try.ntmps55
      go_wp2
      go_ret
      exact ⟨ret_bool HX.out.symm, Below.refl _ _⟩
theorem fits_any (a : Option Addr) (xs : List Int) (cap : Nat) (n lim : Int) (h0 : 0 ≤ lim) (h1 : lim ≤ 1000000000) (w : World) (hl : xs.length ≤ 9223372036854775807) (hs : Sl w a xs) :
    Calls Try.prog 50 #[.slice a xs.length cap, .int .i64 n, .int .i64 lim] w fun e w' => e = .returned (.int .i64 (fitsV xs n lim)) ∧ Below w.heap.size w w' := by
  have HS := Lib.hid hs; clear hs
  by_cases hn : (xs.length : Int) = n
  · have HN : Hid (fitsV xs n lim = if allB lim xs = true then 0 else 7) := by show fitsV xs n lim = _; unfold fitsV; rw [if_pos hn]
    have hb : ((xs.length : Int) == n) = true := by simpa using hn
    have hb' : ((xs.length : Int) != n) = false := by simpa using hn
    clear hn
    have HV := Lib.hid (allR_sym lim xs)
    go_enter Try.func50, Try.ntmps50
    go_wp2_with fail
    refine (between_any (-lim) lim _).mono ?_
    rintro e w1 ⟨rfl, c1, c2, hb⟩
    have HB := Lib.hid hb; clear hb
    go_wp2_with fail
    refine (allbtw_any (-lim) lim _ _ _ _ _ _ hl c1 c2 (HS.out.below HB.out)).mono ?_
    rintro e w2 ⟨rfl, rfl⟩
    rw [HV.out]
    cases hA : allB lim xs
    · rw [hA] at HN
      have HN' := HN; clear HN hA
      go_wp2
      go_ret
      exact ⟨by rw [HN'.out]; rfl, HB.out⟩
    · rw [hA] at HN
      have HN' := HN; clear HN hA
      go_wp2
      go_ret
      exact ⟨by rw [HN'.out]; rfl, HB.out⟩
  · have HN : Hid (fitsV xs n lim = 9) := by show fitsV xs n lim = _; unfold fitsV; rw [if_neg hn]
    have hb : ((xs.length : Int) == n) = false := by simpa using hn
    have hb' : ((xs.length : Int) != n) = true := by simpa using hn
    clear hn
    go_enter Try.func50, Try.ntmps50
    go_wp2
    go_ret
    exact ⟨by rw [HN.out]; rfl, Below.refl _ _⟩

theorem row0 {w : World} {a : Option Addr} {m : List (List Int)} (h : Ms w a m) (h1 : 1 ≤ m.length) : ∃ b off a0 c0, a = some ⟨b, off, none⟩ ∧ w.cell? ⟨b, off, none⟩ = some (.slice a0 (colsM m) c0) := by
  obtain ⟨b, off, a0, c0, h1, h2, _⟩ := h 0 (by omega)
  exact ⟨b, off, a0, c0, h1, h2⟩
theorem valid1_any (B : Nat) (a : Option Addr) (m : List (List Int)) (cap : Nat) (b : Option Addr) (r : List Int) (c : Nat) (w : World) (hm : 1 ≤ m.length) (hl : r.length ≤ 9223372036854775807)
    (hbox : w.cell? ⟨B, 0, none⟩ = some (.slice a m.length cap)) (hs : Ms w a m) (hr : Sl w b r) :
    Calls Try.prog 54 #[.slice b r.length c, .pointer (some ⟨B, 0, none⟩)] w fun e w' => e = .returned (.bool (decide (r.length = colsM m) && rowB r)) ∧ Below w.heap.size w w' := by
  obtain ⟨b0, o0, a0, c0, rfl, hcell⟩ := row0 hs hm
  have HR := Lib.hid hr; clear hr hs
  by_cases he : r.length = colsM m
  · have e1 : ((r.length : Int) == (colsM m : Int)) = true := by simp [he]
    have HE : Hid (decide (r.length = colsM m) = true) := by show decide (r.length = colsM m) = true; simp [he]
    clear he
    go_enter Try.func54, Try.ntmps54
    go_wp2_with (go_at_call 55; refine (validRow_any b r c _ hl HR.out).mono ?_; rintro e w1 ⟨rfl, hb⟩)
    go_ret
    exact ⟨ret_bool (by rw [HE.out, Bool.true_and]), hb⟩
  · have e1 : ((r.length : Int) == (colsM m : Int)) = false := by simp; omega
    have HE : Hid (decide (r.length = colsM m) = false) := by show decide (r.length = colsM m) = false; simp [he]
    clear he
    go_enter Try.func54, Try.ntmps54
    go_wp2
    go_ret
    exact ⟨ret_bool (by rw [HE.out, Bool.false_and]), Below.refl _ _⟩
theorem allrows_any (B : Nat) (a : Option Addr) (m : List (List Int)) (cap : Nat) (w : World) (hm : MOk m) (h1 : 1 ≤ m.length) (hB : B < w.heap.size)
    (hbox : w.cell? ⟨B, 0, none⟩ = some (.slice a m.length cap)) (hs : Ms w a m) :
    Calls Try.prog 53 #[.slice a m.length cap, .func (.func 54) #[] #[.pointer (some ⟨B, 0, none⟩)]] w fun e w' => e = .returned (.bool (m.all fun r => decide (r.length = colsM m) && rowB r)) ∧ Below w.heap.size w w' := by
  have HS := Lib.hid hs; clear hs
  have HM := Lib.hid hm
  have hml := hm.1
  clear hm
  have HBX := Lib.hid hbox; clear hbox
  go_enter Try.func53, Try.ntmps53
  go_wp2
  go_loopw [9] (fun i wr => ∃ k : Nat, k ≤ m.length ∧ i = .int .i64 k ∧ (∀ j, j < k → (decide ((m[j]?.getD []).length = colsM m) && rowB (m[j]?.getD [])) = true) ∧ Below w.heap.size w wr) (fun i _ => m.length - (intOf i).toNat)
  case atStart => exact ⟨0, Nat.zero_le _, rfl, fun j h => by omega, Below.refl _ _⟩
  case round =>
    obtain ⟨k, hk, rfl, hno, hb⟩ := hrel
    have HN := Lib.hid hno; clear hno
    have HB := Lib.hid hb; clear hb
    by_cases hlt : k < m.length
    · obtain ⟨b, off, ai, r, ci, rfl, hcell, hsl, HX⟩ := (HS.out.below HB.out).at hlt
      have HSL := Lib.hid hsl; clear hsl
      have hrl := (HM.out.row HX.out).1
      have hbx := (HB.out.cell (p := ⟨B, 0, none⟩) hB).trans HBX.out
      cases ho : (decide (r.length = colsM m) && rowB r)
      · have HO := Lib.hid ho; clear ho
        go_wp2_with (go_at_call 54; refine (valid1_any B _ m cap _ _ _ _ h1 hrl hbx (HS.out.below HB.out) HSL.out).mono ?_; rintro e w1 ⟨rfl, hb1⟩; rw [HO.out])
        go_ret
        refine ⟨ret_bool ?_, HB.out.trans (hb1.mono HB.out.size)⟩
        symm; rw [List.all_eq_false]; exact ⟨r, List.mem_of_getElem? HX.out, by rw [HO.out]; simp⟩
      · have HO := Lib.hid ho; clear ho
        go_wp2_with (go_at_call 54; refine (valid1_any B _ m cap _ _ _ _ h1 hrl hbx (HS.out.below HB.out) HSL.out).mono ?_; rintro e w1 ⟨rfl, hb1⟩; rw [HO.out])
        go_roundw
        case rel => exact ⟨k + 1, by omega, by go_num, fun j hj => by
            by_cases hj' : j = k
            · subst hj'; rw [HX.out]; exact HO.out
            · exact HN.out j (by omega), HB.out.trans (hb1.mono HB.out.size)⟩
        case measure => simp [intOf]; omega
    · go_wp2
      go_ret
      refine ⟨ret_bool ?_, HB.out⟩
      symm; rw [List.all_eq_true]; intro r hr
      obtain ⟨i, hi, rfl⟩ := List.mem_iff_getElem.1 hr
      have := HN.out i (by omega)
      simpa [hi] using this
theorem mvalid_any (a : Option Addr) (m : List (List Int)) (cap : Nat) (w : World) (hm : MOk m) (hs : Ms w a m) :
    Calls Try.prog 32 #[.slice a m.length cap] w fun e w' => e = .returned (.bool (validM m)) ∧ Below w.heap.size w w' := by
  have HM := Lib.hid hm
  have hml := hm.1
  clear hm
  have HS := Lib.hid (hs.alloc (.cells #[.slice a m.length cap] 23)); clear hs
  have HX : Hid (validM m = (rangeB m.length 1 6 && m.all fun r => decide (r.length = colsM m) && rowB r)) := Lib.hid rfl
  by_cases h1 : 1 ≤ m.length
  · by_cases h2 : m.length ≤ 6
    · go_enter Try.func32, Try.ntmps32
      go_wp2_with (go_at_call 53; refine (allrows_any w.heap.size a m cap _ HM.out h1 (by simp) (by simp) HS.out).mono ?_; rintro e w1 ⟨rfl, hb⟩)
      go_ret
      refine ⟨ret_bool ?_, ((Below.refl _ _).alloc (Nat.le_refl _) _).trans (hb.mono (by simp))⟩
      rw [HX.out]; simp [rangeB]; omega
    · have h2' : 6 < m.length := by omega
      clear h2
      go_enter Try.func32, Try.ntmps32
      go_wp2
      go_ret
      refine ⟨ret_bool ?_, (Below.refl _ _).alloc (Nat.le_refl _) _⟩
      rw [HX.out]
      have : ¬ ((m.length : Int) ≤ 6) := by omega
      simp [rangeB, this]
  · have h1' : m.length < 1 := by omega
    clear h1
    go_enter Try.func32, Try.ntmps32
    go_wp2
    go_ret
    refine ⟨ret_bool ?_, (Below.refl _ _).alloc (Nat.le_refl _) _⟩
    rw [HX.out]
    have : ¬ (1 ≤ (m.length : Int)) := by omega
    simp [rangeB, this]
end Go.Proofs.Ytfnomiingelfaaa
/- Circuit and Spark of layer 3: contracts. -/
namespace Go.Proofs.Ytfnomiingelfaaa
open Go.RowKit Go.Shelf
attribute [local go_sem] Oper.semAt_some

theorem mok_of {m : List (List Int)} (hv : validM m = true) : MOk m := by
  obtain ⟨hm1, hm6, hc1, hc10, hrows⟩ := validM_of hv
  refine ⟨by omega, fun r hr => ⟨by have := (hrows r hr).1; omega, fun x hx => ?_⟩⟩
  obtain ⟨c, hc, rfl⟩ := mem_gt.1 hx
  have := gt_in (hrows r hr).2 hc
  unfold I64; omega
theorem circuits_any (a : Option Addr) (M cap : Nat) (w : World) :
    Calls Try.prog 56 #[.slice a M cap] w fun e w' =>
      e = .returned (.func (.func 74) #[] #[.pointer (some ⟨w.heap.size, 0, none⟩)]) ∧ w' = w.alloc (.cells #[.slice a M cap] 23) := by
  go_enter Try.func56, Try.ntmps56
  go_wp2
  go_ret
  exact ⟨rfl, rfl⟩
def circuitV (m : List (List Int)) : List Int × Int := if validM m = true then (match circsAll m with | [] => ([], 8) | h :: _ => (h, 0)) else ([], 1)
def CCPost (r : List Int × Int) (w : World) (e : Ending) (w' : World) : Prop :=
  Below w.heap.size w w' ∧ ∃ a, e = .returned (.tuple #[.slice a r.1.length r.1.length, .int .i64 r.2]) ∧ Sl w' a r.1
structure CirI (w : World) (v : Value) (n : Int) (pre : List SetV) (C T : Blk) (W : World) : Prop where
  r : W.cell? ⟨w.heap.size, 0, none⟩ = some v
  e : W.cell? ⟨w.heap.size + 1, 0, none⟩ = some (.int .i64 n)
  fr : W.frozen? ⟨w.heap.size, 0, none⟩ = false
  fe : W.frozen? ⟨w.heap.size + 1, 0, none⟩ = false
  bw : Below w.heap.size w W
  nt : ∀ b, b < w.heap.size + 2 → ¬ T b
  cc : ∀ b, C b ↔ b = w.heap.size ∨ b = w.heap.size + 1 ∨ ∃ x ∈ pre, b = x.1
  mem : ∀ x ∈ pre, MemS x W ∧ ¬ T x.1 ∧ w.heap.size + 2 ≤ x.1
theorem memS_turned {x : SetV} {T : Blk} {W W' : World} (h : MemS x W) (ht : Turned T W W') (hn : ¬ T x.1) : MemS x W' := OwnI.sameBlock h (ht.same _ (OwnI.lt h).1 hn)
theorem CirI.keep {w : World} {v : Value} {n : Int} {pre : List SetV} {C T T' : Blk} {W W' : World} (h : CirI w v n pre C T W) (ht : Turned T W W') (hT : ∀ b, T' b → T b ∨ W.heap.size ≤ b) : CirI w v n pre C T' W' := by
  have l0 := cell_lt h.r
  have l1 := cell_lt h.e
  dsimp only at l0 l1
  have hnt : ∀ b, b < w.heap.size + 2 → ¬ T' b := fun b hb e => (hT b e).elim (h.nt b hb) (by omega)
  refine ⟨ht.cell h.r (h.nt _ (by show w.heap.size < _; omega)), ht.cell h.e (h.nt _ (by show w.heap.size + 1 < _; omega)), (ht.frozen l0 (h.nt _ (by show w.heap.size < _; omega))).trans h.fr, (ht.frozen l1 (h.nt _ (by show w.heap.size + 1 < _; omega))).trans h.fe, h.bw.trans (ht.below h.bw.size fun b hb => h.nt b (by omega)), hnt, h.cc, fun x hx => ?_⟩
  obtain ⟨m1, m2, m3⟩ := h.mem x hx
  exact ⟨memS_turned m1 ht m2, fun e => (hT _ e).elim m2 (by have := (OwnI.lt m1).1; omega), m3⟩
theorem CirI.client {w : World} {p : List SetV → Value → Prop} {n : Int} : Client fun pre C T W => ∃ v, p pre v ∧ CirI w v n pre C T W where
  lt := by
    rintro pre C T W ⟨v, _, h⟩ b hb
    rcases (h.cc b).1 hb with rfl | rfl | ⟨x, hx, rfl⟩
    · exact ⟨cell_lt h.r, h.nt _ (by omega)⟩
    · exact ⟨cell_lt h.e, h.nt _ (by omega)⟩
    · exact ⟨(OwnI.lt (h.mem x hx).1).1, (h.mem x hx).2.1⟩
  keep := fun ⟨v, hp, h⟩ ht hT => ⟨v, hp, h.keep ht hT⟩
theorem CirI.over {w : World} {v : Value} {n : Int} {C T : Blk} {W : World} (h : CirI w v n [] C T W) (pre : List SetV) (hp : ∀ x ∈ pre, MemS x W ∧ T x.1) (v' : Value) (n' : Int) :
    CirI w v' n' pre (fun b => C b ∨ ∃ x ∈ pre, b = x.1) (fun b => T b ∧ ∀ x ∈ pre, b ≠ x.1) ((W.setCell ⟨w.heap.size, 0, none⟩ v').setCell ⟨w.heap.size + 1, 0, none⟩ (.int .i64 n')) := by
  obtain ⟨c0, c1, f0, f1, bw, nt, cc, -⟩ := h
  have hge : ∀ x ∈ pre, w.heap.size + 2 ≤ x.1 := fun x hx => Nat.le_of_not_lt fun e => nt x.1 e (hp x hx).2
  refine ⟨?_, ?_, ?_, ?_, ?_, fun b hb e => nt b hb e.1, fun b => ?_, fun x hx => ⟨?_, fun e => e.2 x hx rfl, hge x hx⟩⟩
  · exact (cell_other _ _ _ _ (by show w.heap.size ≠ w.heap.size + 1; omega)).trans (World.cell?_setCell_same _ _ _ c0)
  · exact World.cell?_setCell_same _ _ _ ((cell_other _ _ _ _ (by show w.heap.size + 1 ≠ w.heap.size; omega)).trans c1)
  · simpa using f0
  · simpa using f1
  · exact (bw.setCell (p := ⟨w.heap.size, 0, none⟩) (Nat.le_refl _) _).setCell (p := ⟨w.heap.size + 1, 0, none⟩) (Nat.le_succ _) _
  · constructor
    · rintro (e | e)
      · rcases (cc b).1 e with e | e | ⟨x, hx, _⟩
        · exact .inl e
        · exact .inr (.inl e)
        · cases hx
      · exact .inr (.inr e)
    · rintro (e | e | e)
      · exact .inl ((cc b).2 (.inl e))
      · exact .inl ((cc b).2 (.inr (.inl e)))
      · exact .inr e
  · have := hge x hx
    refine OwnI.sameBlock (hp x hx).1 ?_
    exact (Below.heap_setCell _ _ _ _ (by show x.1 ≠ w.heap.size + 1; omega)).trans (Below.heap_setCell _ _ _ _ (by show x.1 ≠ w.heap.size; omega))
theorem cir_leaves {fn : Func} {tmps : Array Value} {w : World} {v : Value} {n : Int} {pre : List SetV} {C T : Blk} {ms : List Nat} {V : World} {R : Ending → World → Prop}
    (hres : ∀ W : World, W.cell? ⟨w.heap.size, 0, none⟩ = some v → W.cell? ⟨w.heap.size + 1, 0, none⟩ = some (.int .i64 n) → (results fn tmps).run Try.prog W = .ok (.tuple #[v, .int .i64 n]) W)
    (h : CirI w v n pre C T V) (hT : ∀ D, D ∈ ms → T D) (hn : ms.Nodup) (hd : ∀ D, D ∈ ms → V.heap[D]? = some (.deferred (some []))) (hR : ∀ W, CirI w v n pre C T W → R (.returned (.tuple #[v, .int .i64 n])) W) :
    LeavesInM Fence.wide 50 Try.prog fn tmps R (ms.map mark) .returning V := by
  refine leaves_marks2 (fun W => CirI w v n pre C T W) ms ?_ ?_ ms V (fun _ h => h) hn hd h
  · exact fun W D hD hW => hW.keep (turned_put W _ (hT D hD)) fun b e => .inl e
  · exact fun W hW => ⟨_, hres W hW.r hW.e, hR W hW⟩
set_option maxRecDepth 100000 in
set_option maxHeartbeats 2000000 in
theorem circuit_in (a : Option Addr) (m : List (List Int)) (cap : Nat) (w : World) (hm : MOk m) (hs : Ms w a m) :
    CallsIn Fence.wide 50 Try.prog 33 #[.slice a m.length cap] w (CCPost (circuitV m) w) := by
  have HM := Lib.hid hm; clear hm
  have HS := Lib.hid hs; clear hs
  obtain ⟨V0, hV0⟩ : ∃ V0, (w.alloc (.cells #[.slice none 0 0] 24)).alloc (.cells #[.int .i64 0] 28) = V0 := ⟨_, rfl⟩
  have hw1 : (w.alloc (.cells #[.slice none 0 0] 24)).heap.size = w.heap.size + 1 := World.size_alloc _ _
  have hB0 : Below w.heap.size w V0 := by rw [← hV0]; exact ((Below.refl _ _).alloc (Nat.le_refl _) _).alloc (by omega) _
  have hsz0 : V0.heap.size = w.heap.size + 2 := by rw [← hV0, World.size_alloc, hw1]
  have c0 : V0.cell? ⟨w.heap.size, 0, none⟩ = some (.slice none 0 0) := by rw [← hV0]; exact (alloc_old _ _ _ _ (by omega)).trans (alloc_cell _ _ _ _ _ rfl)
  have c1 : V0.cell? ⟨w.heap.size + 1, 0, none⟩ = some (.int .i64 0) := by rw [← hV0, ← hw1]; exact alloc_cell _ _ _ _ _ rfl
  have f0 : V0.frozen? ⟨w.heap.size, 0, none⟩ = false := by rw [← hV0]; simp
  have f1 : V0.frozen? ⟨w.heap.size + 1, 0, none⟩ = false := by rw [← hV0]; simp
  have HV : Hid (Calls Try.prog 32 #[.slice a m.length cap] V0 fun e w' => e = .returned (.bool (validM m)) ∧ Below V0.heap.size V0 w') := mvalid_any a m cap V0 HM.out (HS.out.below hB0)
  have HI0 : Hid (CirI w (.slice none 0 0) 0 [] (fun b => b = w.heap.size ∨ b = w.heap.size + 1) (fun _ => False) V0) := ⟨c0, c1, f0, f1, hB0, fun _ _ e => e, fun b => by simp, fun x hx => by cases hx⟩
  have HSZ := Lib.hid hsz0
  clear c0 c1 f0 f1 hB0 hsz0 hw1
  cases hv : validM m
  case false =>
    rw [hv] at HV
    have HC : Hid (circuitV m = ([], 1)) := by show circuitV m = _; simp [circuitV, hv]
    clear hv
    refine callsIn_of_wp_marks Try.func33 rfl trivial ?_ rfl
    simp only [Try.ntmps33, List.size_toArray, List.length_cons, List.length_nil, Nat.reduceAdd, Nat.reduceSub, Array.replicate_succ, Array.replicate_zero, List.push_toArray, List.append_toArray, List.nil_append, List.cons_append]
    gi_wp2_with (refine ⟨trivial, ?_⟩; gi_at_call 32; refine (callsIn_wide.2 HV.out).mono ?_; rintro e w1 ⟨rfl, hb⟩; have hI1 := HI0.out.keep (turned_below hb) (fun b e => .inl e); have HI1 := Lib.hid hI1; obtain ⟨c0, c1, f0, f1, -⟩ := hI1; clear hb)
    rw [HC.out]
    exact cir_leaves (ms := []) (v := .slice none 0 0) (n := 1) (by intro W q0 q1; simp [results, Try.results33, go_sem, q0, q1]) (HI1.out.over [] (fun x hx => by cases hx) _ 1) (fun _ h => by cases h) List.nodup_nil (fun _ h => by cases h) (fun W h => ⟨h.bw, none, rfl, Sl.none _⟩)
  case true =>
    rw [hv] at HV
    have HVV := Lib.hid hv
    have hn1 : 1 ≤ m.length := (validM_of hv).1
    clear hv
    refine callsIn_of_wp_marks Try.func33 rfl trivial ?_ rfl
    simp only [Try.ntmps33, List.size_toArray, List.length_cons, List.length_nil, Nat.reduceAdd, Nat.reduceSub, Array.replicate_succ, Array.replicate_zero, List.push_toArray, List.append_toArray, List.nil_append, List.cons_append]
    gi_wp2_with (first | (refine ⟨trivial, ?_⟩; gi_at_call 32; refine (callsIn_wide.2 HV.out).mono ?_; rintro e w1 ⟨rfl, hb⟩; have HI1 := Lib.hid (HI0.out.keep (turned_below hb) (fun b e => .inl e)); have HZ1 : Hid (w.heap.size + 2 ≤ w1.heap.size) := (by have := hb.size; have := HSZ.out; show _ ≤ _; omega); clear hb) | (refine ⟨trivial, ?_⟩; gi_at_call 56; refine (callsIn_wide.2 (circuits_any a m.length cap w1)).mono ?_; rintro e w2 ⟨rfl, rfl⟩))
    obtain ⟨V1, hV1⟩ : ∃ V1, w1.alloc (.cells #[.slice a m.length cap] 23) = V1 := ⟨_, rfl⟩
    have hBV : Below w1.heap.size w1 V1 := by rw [← hV1]; exact (Below.refl _ _).alloc (Nat.le_refl _) _
    have hcB : V1.cell? ⟨w1.heap.size, 0, none⟩ = some (.slice a m.length cap) := by rw [← hV1]; exact alloc_cell _ _ _ _ _ rfl
    have hvs : V1.heap.size = w1.heap.size + 1 := by rw [← hV1]; exact World.size_alloc _ _
    rw [hV1]
    have HI2 := Lib.hid (HI1.out.keep (turned_below hBV) (fun b e => .inl e))
    have HVS := Lib.hid hvs
    clear hV1 hBV hvs
    refine wpIn_rangeFunc_M (by omega) (gf := 74) (lb := #[.pointer (some ⟨w1.heap.size, 0, none⟩)]) rfl (enters_of Try.func74 (by kernel_rfl) rfl)
      (circuits1_seq (w0 := w) HVV.out HS.out HI2.out.bw hcB) (Below.refl _ _) (fun _ => rfl) memS_put
      (fun pre C T W => ∃ v, (pre = [] ∧ v = .slice none 0 0) ∧ CirI w v 0 pre C T W)
      (fun c pre C T W => ∃ v, (c = .ret ∧ ∃ x, pre = [x] ∧ v = .slice (some ⟨x.1, 0, none⟩) x.2.length x.2.length ∧ ∃ rest, circsAll m = x.2 :: rest) ∧ CirI w v 0 pre C T W)
      (CirI.client (p := fun pre v => pre = [] ∧ v = .slice none 0 0)) (fun c => CirI.client (p := fun pre v => c = .ret ∧ ∃ x, pre = [x] ∧ v = .slice (some ⟨x.1, 0, none⟩) x.2.length x.2.length ∧ ∃ rest, circsAll m = x.2 :: rest)) (fun b => b = w.heap.size ∨ b = w.heap.size + 1) (fun _ => False) ?need (fun _ e => e.elim) ⟨_, ⟨rfl, rfl⟩, HI2.out⟩
      (fun x => { tmps := #[.slice a m.length cap, undef, .pointer (some ⟨w.heap.size, 0, none⟩), .pointer (some ⟨w.heap.size + 1, 0, none⟩), .slice (some ⟨x.1, 0, none⟩) x.2.length x.2.length, .slice a m.length cap, .bool true, .bool false, .slice a m.length cap, .func (.func 74) #[] #[.pointer (some ⟨w1.heap.size, 0, none⟩)], .slice (some ⟨x.1, 0, none⟩) x.2.length x.2.length, undef], defers := [] }) ?assign ?body ?done ?stop
    case need =>
      have h1 := HZ1.out
      have h2 := HVS.out
      rintro b (h | rfl)
      · exact ⟨by rintro (e | e) <;> omega, by omega⟩
      · exact ⟨by rintro (e | e) <;> omega, by omega⟩
    case assign =>
      intro l2 x V K hK
      gi_wp2
      exact hK
    case body =>
      rintro l2 pre ⟨xb, xs⟩ C T V ⟨v, ⟨rfl, rfl⟩, hI⟩ hmem hown ⟨rest, hrest⟩
      have HI := Lib.hid hI
      have HX := Lib.hid (hI.over [(xb, xs)] (fun x hx => (by obtain rfl : x = (xb, xs) := List.mem_singleton.1 hx; exact ⟨hmem, hown xb rfl⟩)) (.slice (some ⟨xb, 0, none⟩) xs.length xs.length) 0)
      have HR : Hid (circsAll m = xs :: rest) := hrest
      have HT := Lib.hid (hown xb rfl)
      obtain ⟨c0, c1, f0, f1, -⟩ := hI
      clear hmem hown hrest hcB
      dsimp only
      gi_wp2
      refine ⟨_, _, ⟨_, ⟨rfl, (xb, xs), rfl, rfl, rest, HR.out⟩, HX.out⟩, ?_, ?_, ?_⟩
      · rintro b hb hl hn
        exact ⟨hb, fun x hx => (by obtain rfl : x = (xb, xs) := List.mem_singleton.1 hx; exact hn)⟩
      · rintro b (e | ⟨x, hx, rfl⟩)
        · exact .inl e
        · obtain rfl : x = (xb, xs) := List.mem_singleton.1 hx
          exact .inr (.inl rfl)
      · exact (turned_set V _ (.inl ((HI.out.cc _).2 (.inl rfl)))).trans (turned_set _ _ (.inl ((HI.out.cc _).2 (.inr (.inl rfl))))) fun b e => .inl e
    case done =>
      rintro D ys C T V hD hys ⟨v, ⟨rfl, rfl⟩, hI⟩ hTD hK
      have HI := Lib.hid hI
      have HC : Hid (circuitV m = ([], 8)) := by show circuitV m = _; unfold circuitV; rw [if_pos HVV.out, ← hys]; rfl
      have HX := Lib.hid (hI.over [] (fun x hx => by cases hx) (.slice none 0 0) 8)
      have HT := Lib.hid hTD
      have HK := Lib.hid ((Below.heap_setCell (V.setCell ⟨w.heap.size, 0, none⟩ (.slice none 0 0)) ⟨w.heap.size + 1, 0, none⟩ (.int .i64 8) D (fun e => hI.nt D (by have e : D = w.heap.size + 1 := e; omega) hTD)).trans ((Below.heap_setCell V ⟨w.heap.size, 0, none⟩ (.slice none 0 0) D (fun e => hI.nt D (by have e : D = w.heap.size := e; omega) hTD)).trans hK))
      obtain ⟨c0, c1, f0, f1, -⟩ := hI
      clear hys hTD hK hcB hD
      gi_wp2
      rw [HC.out]
      refine cir_leaves (ms := [D]) (v := .slice none 0 0) (n := 8) (by intro W q0 q1; simp [results, Try.results33, go_sem, q0, q1]) HX.out (fun E hE => ?_) (by simp) (fun E hE => ?_) (fun W h => ⟨h.bw, none, rfl, Sl.none _⟩)
      · obtain rfl : E = D := by simpa using hE
        exact ⟨HT.out, fun x hx => by cases hx⟩
      · obtain rfl : E = D := by simpa using hE
        exact HK.out
    case stop =>
      rintro D c pre C T V hD ⟨v, ⟨rfl, x, rfl, rfl, rest, hrest⟩, hI⟩ hTD hK
      have HI := Lib.hid hI
      have HC : Hid (circuitV m = (x.2, 0)) := by show circuitV m = _; unfold circuitV; rw [if_pos HVV.out, hrest]
      have HT := Lib.hid hTD
      have HK := Lib.hid hK
      clear hrest hTD hK hcB hD hI
      gi_wp2
      rw [HC.out]
      refine cir_leaves (ms := [D]) (v := .slice (some ⟨x.1, 0, none⟩) x.2.length x.2.length) (n := 0) (by intro W q0 q1; simp [results, Try.results33, go_sem, q0, q1]) HI.out (fun E hE => ?_) (by simp) (fun E hE => ?_) (fun W h => ⟨h.bw, _, rfl, (h.mem x (by simp)).1.sl⟩)
      · obtain rfl : E = D := by simpa using hE
        exact HT.out
      · obtain rfl : E = D := by simpa using hE
        exact HK.out
theorem circuit_cap (a : Option Addr) (m : List (List Int)) (cap : Nat) (w : World) (hm : MOk m) (hs : Ms w a m) : Calls Try.prog 33 #[.slice a m.length cap] w (CCPost (circuitV m) w) := callsIn_wide.1 (circuit_in a m cap w hm hs)
theorem circuit_any (a : Option Addr) (m : List (List Int)) (cap : Nat) (w : World) (hm : MOk m) (hs : Ms w a m) : Calls Try.prog 33 #[.slice a m.length cap] w (LPost (circuitV m) w) := (circuit_cap a m cap w hm hs).mono fun _ _ ⟨h1, a, h2, h3⟩ => ⟨h1, a, _, h2, h3⟩
end Go.Proofs.Ytfnomiingelfaaa
/- Spark of layer 3: a contract. -/
namespace Go.Proofs.Ytfnomiingelfaaa
open Go.RowKit

def nzTo (xs : List Int) : Nat → Int
  | 0 => 0
  | k + 1 => if gt xs k = 0 then nzTo xs k else nzTo xs k + 1
theorem nzTo_in (xs : List Int) : ∀ k, 0 ≤ nzTo xs k ∧ nzTo xs k ≤ k
  | 0 => by simp [nzTo]
  | k + 1 => by have := nzTo_in xs k; unfold nzTo; split <;> omega
def sparkV (m : List (List Int)) : Int × Int := if (circuitV m).2 = 0 then (nzTo (circuitV m).1 (circuitV m).1.length, 0) else (0, (circuitV m).2)
theorem circH_len (m : List (List Int)) (px : List Int) : (circH m px).length = colsM m := putTo_len _ _ _ _
theorem circsAll_len {m : List (List Int)} {h : List Int} (hh : h ∈ circsAll m) : h.length = colsM m := by
  unfold circsAll circsTo at hh
  obtain ⟨f, _, h2⟩ := List.mem_flatMap.1 hh
  obtain ⟨px, _, rfl⟩ := List.mem_map.1 h2
  exact circH_len m px
theorem circuitV_len {m : List (List Int)} : (circuitV m).1.length ≤ 10 := by
  unfold circuitV
  split
  · rename_i hv
    split
    · exact Nat.zero_le _
    · rename_i h t e
      show h.length ≤ 10
      rw [circsAll_len (m := m) (by rw [e]; simp)]
      exact (validM_of hv).2.2.2.1
  · exact Nat.zero_le _
set_option maxRecDepth 100000 in
set_option maxHeartbeats 800000 in
theorem spark_any (a : Option Addr) (m : List (List Int)) (cap : Nat) (w : World) (hm : MOk m) (hs : Ms w a m) :
    Calls Try.prog 35 #[.slice a m.length cap] w fun e w' => e = .returned (.tuple #[.int .i64 (sparkV m).1, .int .i64 (sparkV m).2]) ∧ Below w.heap.size w w' := by
  have HCI : Hid (Calls Try.prog 33 #[.slice a m.length cap] w (LPost (circuitV m) w)) := circuit_any a m cap w hm hs
  have HL := Lib.hid (circuitV_len (m := m))
  have HSP : Hid (sparkV m = if (circuitV m).2 = 0 then (nzTo (circuitV m).1 (circuitV m).1.length, 0) else (0, (circuitV m).2)) := rfl
  clear hm hs
  obtain ⟨⟨h, e0⟩, hr⟩ : ∃ r, circuitV m = r := ⟨_, rfl⟩
  rw [hr] at HCI HL HSP
  dsimp only at HL HSP
  clear hr
  by_cases he : e0 = 0
  · subst he
    rw [if_pos rfl] at HSP
    rw [HSP.out]
    dsimp only
    clear HSP
    go_enter Try.func35, Try.ntmps35
    go_wp2_with (go_at_call 33; refine HCI.out.mono ?_; rintro e w1 ⟨hb1, ah, ch, rfl, hsl⟩; dsimp only at hsl ⊢; have HB := Lib.hid hb1; have HS := Lib.hid hsl; clear hb1 hsl)
    go_loopw [6, 19] (fun v i wr => ∃ k : Nat, k ≤ h.length ∧ i = .int .i64 k ∧ v = .int .i64 (nzTo h k) ∧ wr = w1) (fun _ i _ => h.length - (intOf i).toNat)
    case atStart => exact ⟨0, Nat.zero_le _, rfl, rfl, rfl⟩
    case round =>
      obtain ⟨k, hk, rfl, rfl, rfl⟩ := hrel
      have hl := HL.out
      by_cases hlt : k < h.length
      · obtain ⟨b, o, x, rfl, hc, hx⟩ := HS.out.at hlt
        have hgx := gt_some' hx.out
        have hin := nzTo_in h k
        by_cases h0 : x = 0
        · subst h0
          have HT : Hid (nzTo h (k + 1) = nzTo h k) := by show _ = _; rw [nzTo, if_pos hgx]
          clear hgx
          go_wp2
          go_roundw
          case rel => exact ⟨k + 1, by omega, by go_num, by rw [HT.out], by first | trivial | rfl⟩
          case measure => simp [intOf]; omega
        · have HT : Hid (nzTo h (k + 1) = nzTo h k + 1) := by show _ = _; rw [nzTo, if_neg (by rw [hgx]; exact h0)]
          clear hgx
          have hne : (x != 0) = true := by simpa using h0
          obtain ⟨n, hn⟩ : ∃ n, nzTo h k = n := ⟨_, rfl⟩
          rw [hn] at hin HT ⊢
          clear hn
          go_wp2
          go_roundw
          case rel => exact ⟨k + 1, by omega, by go_num, by rw [HT.out], by first | trivial | rfl⟩
          case measure => simp [intOf]; omega
      · obtain rfl : k = h.length := by omega
        go_wp2
        go_ret2
        exact ⟨rfl, HB.out⟩
  · rw [if_neg he] at HSP
    rw [HSP.out]
    dsimp only
    have hne : (e0 != 0) = true := by simpa using he
    clear HSP he
    go_enter Try.func35, Try.ntmps35
    go_wp2_with (go_at_call 33; refine HCI.out.mono ?_; rintro e w1 ⟨hb1, ah, ch, rfl, hsl⟩; dsimp only; have HB := Lib.hid hb1; clear hb1 hsl)
    go_ret2
    exact ⟨rfl, HB.out⟩
end Go.Proofs.Ytfnomiingelfaaa
/- lit and some (how many pixels are not 0), slices.Equal of any two lists of numbers: contracts. Written by mk_split.py. -/
namespace Go.Proofs.Ytfnomiingelfaaa
open Go.RowKit

set_option maxRecDepth 100000 in
theorem lit_any (a : Option Addr) (h : List Int) (cap : Nat) (w : World) (hl : h.length ≤ 1000) (hs : Sl w a h) :
    Calls Try.prog 26 #[.slice a h.length cap] w fun e w' => e = .returned (.int .i64 (nzTo h h.length)) ∧ w = w' := by
  have HS := Lib.hid hs; clear hs
  go_enter Try.func26, Try.ntmps26
  go_wp2
  go_loopw [3, 8] (fun v i wr => ∃ k : Nat, k ≤ h.length ∧ i = .int .i64 k ∧ v = .int .i64 (nzTo h k) ∧ wr = w) (fun _ i _ => h.length - (intOf i).toNat)
  case atStart => exact ⟨0, Nat.zero_le _, rfl, rfl, rfl⟩
  case round =>
    obtain ⟨k, hk, rfl, rfl, rfl⟩ := hrel
    by_cases hlt : k < h.length
    · obtain ⟨b, o, x, rfl, hc, hx⟩ := HS.out.at hlt
      have hgx := gt_some' hx.out
      have hin := nzTo_in h k
      by_cases h0 : x = 0
      · subst h0
        have HT : Hid (nzTo h (k + 1) = nzTo h k) := by show _ = _; rw [nzTo, if_pos hgx]
        clear hgx
        go_wp2
        go_roundw
        case rel => exact ⟨k + 1, by omega, by go_num, by rw [HT.out], by first | trivial | rfl⟩
        case measure => simp [intOf]; omega
      · have HT : Hid (nzTo h (k + 1) = nzTo h k + 1) := by show _ = _; rw [nzTo, if_neg (by rw [hgx]; exact h0)]
        clear hgx
        have hne : (x != 0) = true := by simpa using h0
        obtain ⟨n, hn⟩ : ∃ n, nzTo h k = n := ⟨_, rfl⟩
        rw [hn] at hin HT ⊢
        clear hn
        go_wp2
        go_roundw
        case rel => exact ⟨k + 1, by omega, by go_num, by rw [HT.out], by first | trivial | rfl⟩
        case measure => simp [intOf]; omega
    · obtain rfl : k = h.length := by omega
      go_wp2
      go_ret
      exact ⟨rfl, rfl⟩
set_option maxRecDepth 100000 in
theorem some_any (a : Option Addr) (h : List Int) (cap : Nat) (w : World) (hl : h.length ≤ 1000) (hs : Sl w a h) :
    Calls Try.prog 30 #[.slice a h.length cap] w fun e w' => e = .returned (.int .i64 (nzTo h h.length)) ∧ w = w' := by
  have HS := Lib.hid hs; clear hs
  go_enter Try.func30, Try.ntmps30
  go_wp2
  go_loopw [3, 8] (fun v i wr => ∃ k : Nat, k ≤ h.length ∧ i = .int .i64 k ∧ v = .int .i64 (nzTo h k) ∧ wr = w) (fun _ i _ => h.length - (intOf i).toNat)
  case atStart => exact ⟨0, Nat.zero_le _, rfl, rfl, rfl⟩
  case round =>
    obtain ⟨k, hk, rfl, rfl, rfl⟩ := hrel
    by_cases hlt : k < h.length
    · obtain ⟨b, o, x, rfl, hc, hx⟩ := HS.out.at hlt
      have hgx := gt_some' hx.out
      have hin := nzTo_in h k
      by_cases h0 : x = 0
      · subst h0
        have HT : Hid (nzTo h (k + 1) = nzTo h k) := by show _ = _; rw [nzTo, if_pos hgx]
        clear hgx
        go_wp2
        go_roundw
        case rel => exact ⟨k + 1, by omega, by go_num, by rw [HT.out], by first | trivial | rfl⟩
        case measure => simp [intOf]; omega
      · have HT : Hid (nzTo h (k + 1) = nzTo h k + 1) := by show _ = _; rw [nzTo, if_neg (by rw [hgx]; exact h0)]
        clear hgx
        have hne : (x != 0) = true := by simpa using h0
        obtain ⟨n, hn⟩ : ∃ n, nzTo h k = n := ⟨_, rfl⟩
        rw [hn] at hin HT ⊢
        clear hn
        go_wp2
        go_roundw
        case rel => exact ⟨k + 1, by omega, by go_num, by rw [HT.out], by first | trivial | rfl⟩
        case measure => simp [intOf]; omega
    · obtain rfl : k = h.length := by omega
      go_wp2
      go_ret
      exact ⟨rfl, rfl⟩
theorem slEq_any (a : Option Addr) (xs : List Int) (ca : Nat) (b : Option Addr) (ys : List Int) (cb : Nat) (w : World) (hx : xs.length ≤ 140737488351232) (hy : ys.length ≤ 140737488351232) (ha : Sl w a xs) (hb : Sl w b ys) :
    Calls Try.prog 28 #[.slice a xs.length ca, .slice b ys.length cb] w fun e w' => e = .returned (.bool (decide (xs = ys))) ∧ ∃ n, w' = w.drewN n := by
  have HA := Lib.hid ha; clear ha
  have HB := Lib.hid hb; clear hb
  by_cases hl : xs.length = ys.length
  · have hb : ((xs.length : Int) == (ys.length : Int)) = true := by simp [hl]
    have hb' : ((xs.length : Int) != (ys.length : Int)) = false := by simp [hl]
    have HL := Lib.hid hl; clear hl
    go_enter Try.func28, Try.ntmps28
    go_wp2
    go_loopw [13] (fun i wr => ∃ k nd : Nat, k ≤ xs.length ∧ i = .int .i64 k ∧ wr = w.drewN nd ∧ ∀ j, j < k → xs[j]?.getD 0 = ys[j]?.getD 0) (fun i _ => xs.length - (intOf i).toNat)
    case atStart => exact ⟨0, 0, Nat.zero_le _, rfl, rfl, fun j h => by omega⟩
    case round =>
      obtain ⟨k, nd, hk, rfl, rfl, hno⟩ := hrel
      have HN := Lib.hid hno; clear hno
      by_cases hlt : k < xs.length
      · have hly : k < ys.length := by rw [← HL.out]; exact hlt
        obtain ⟨b1, o1, x, rfl, hc1, HX⟩ := HA.out.at hlt
        obtain ⟨b2, o2, y, rfl, hc2, HY⟩ := HB.out.at hly
        by_cases he : x = y
        · subst he
          go_wp2
          go_quiet (fail)
          go_wp2
          go_roundw
          case rel => exact ⟨k + 1, _, by omega, by go_num, rfl, fun j hj => by
              by_cases hj' : j = k
              · subst hj'; rw [HX.out, HY.out]
              · exact HN.out j (by omega)⟩
          case measure => simp [intOf]; omega
        · have hne : (x == y) = false := by simpa using he
          have hne' : (x != y) = true := by simpa using he
          have HE : Hid (decide (xs = ys) = false) := by
            show decide (xs = ys) = false
            rw [decide_eq_false_iff_not]
            rintro rfl
            have h1 := HX.out
            have h2 := HY.out
            rw [h1] at h2
            exact he (by simpa using h2)
          clear he
          go_wp2
          go_quiet (fail)
          go_wp2
          go_ret
          exact ⟨ret_bool HE.out.symm, _, World.drewN_drewN _ _ _⟩
      · have HE : Hid (decide (xs = ys) = true) := by
          show decide (xs = ys) = true
          rw [decide_eq_true_iff]
          refine List.ext_getElem HL.out (fun j h1 h2 => ?_)
          have := HN.out j (by omega)
          simpa [h1, h2] using this
        go_wp2
        go_ret
        exact ⟨ret_bool HE.out.symm, _, rfl⟩
  · have hb : ((xs.length : Int) == (ys.length : Int)) = false := by simp; omega
    have hb' : ((xs.length : Int) != (ys.length : Int)) = true := by simp; omega
    have HX : Hid (decide (xs = ys) = false) := by
      show decide (xs = ys) = false
      rw [decide_eq_false_iff_not]; rintro rfl; exact hl rfl
    clear hl
    go_enter Try.func28, Try.ntmps28
    go_wp2
    go_ret
    exact ⟨ret_bool HX.out.symm, 0, rfl⟩

end Go.Proofs.Ytfnomiingelfaaa
/- Determinants of order six with the entries -1, 0 and 1 are at most 320: by the minors of three rows. Plain words. Speaks of no program. -/
namespace Go.Proofs.Ytfnomiingelfaaa
open Go.RowKit

def d3 (u v w : Nat → Int) : Int := u 0 * (v 1 * w 2 - v 2 * w 1) - v 0 * (u 1 * w 2 - u 2 * w 1) + w 0 * (u 1 * v 2 - u 2 * v 1)
def d4 (u v w x : Nat → Int) : Int := x 3 * d3 u v w - (u 3 * d3 x v w + v 3 * d3 u x w + w 3 * d3 u v x)
def d5 (u v w x y : Nat → Int) : Int := y 4 * d4 u v w x - (u 4 * d4 y v w x + v 4 * d4 u y w x + w 4 * d4 u v y x + x 4 * d4 u v w y)
def d6 (u v w x y z : Nat → Int) : Int := z 5 * d5 u v w x y - (u 5 * d5 z v w x y + v 5 * d5 u z w x y + w 5 * d5 u v z x y + x 5 * d5 u v w z y + y 5 * d5 u v w x z)
def e3 (u v w : Nat → Int) : Int := d3 (fun i => u (i + 3)) (fun i => v (i + 3)) (fun i => w (i + 3))
theorem d3_of (b : Nat → Nat → Int) : detC 3 b = d3 (b 0) (b 1) (b 2) := by
  simp only [detC, sumTo, updC, d3]
  simp
  grind
theorem d4_of (b : Nat → Nat → Int) : detC 4 b = d4 (b 0) (b 1) (b 2) (b 3) := by
  unfold detC
  simp only [sumTo, d3_of, updC, d4]
  simp
theorem d5_of (b : Nat → Nat → Int) : detC 5 b = d5 (b 0) (b 1) (b 2) (b 3) (b 4) := by
  unfold detC
  simp only [sumTo, d4_of, updC, d5]
  simp
theorem d6_of (b : Nat → Nat → Int) : detC 6 b = d6 (b 0) (b 1) (b 2) (b 3) (b 4) (b 5) := by
  unfold detC
  simp only [sumTo, d5_of, updC, d6]
  simp
theorem d3_12 (u v w : Nat → Int) : d3 v u w = -d3 u v w := by unfold d3; grind
theorem d3_23 (u v w : Nat → Int) : d3 u w v = -d3 u v w := by unfold d3; grind
theorem d3_13 (u v w : Nat → Int) : d3 w v u = -d3 u v w := by unfold d3; grind
theorem d3_312 (u v w : Nat → Int) : d3 w u v = d3 u v w := by unfold d3; grind
theorem d3_231 (u v w : Nat → Int) : d3 v w u = d3 u v w := by unfold d3; grind
theorem d6_lap (u0 u1 u2 u3 u4 u5 : Nat → Int) : d6 u0 u1 u2 u3 u4 u5 = d3 u0 u1 u2 * e3 u3 u4 u5 + -(d3 u0 u1 u3) * e3 u2 u4 u5 + d3 u0 u1 u4 * e3 u2 u3 u5 + -(d3 u0 u1 u5) * e3 u2 u3 u4 + d3 u0 u2 u3 * e3 u1 u4 u5 + -(d3 u0 u2 u4) * e3 u1 u3 u5 + d3 u0 u2 u5 * e3 u1 u3 u4 + d3 u0 u3 u4 * e3 u1 u2 u5 + -(d3 u0 u3 u5) * e3 u1 u2 u4 + d3 u0 u4 u5 * e3 u1 u2 u3 + -(d3 u1 u2 u3) * e3 u0 u4 u5 + d3 u1 u2 u4 * e3 u0 u3 u5 + -(d3 u1 u2 u5) * e3 u0 u3 u4 + -(d3 u1 u3 u4) * e3 u0 u2 u5 + d3 u1 u3 u5 * e3 u0 u2 u4 + -(d3 u1 u4 u5) * e3 u0 u2 u3 + d3 u2 u3 u4 * e3 u0 u1 u5 + -(d3 u2 u3 u5) * e3 u0 u1 u4 + d3 u2 u4 u5 * e3 u0 u1 u3 + -(d3 u3 u4 u5) * e3 u0 u1 u2 := by
  unfold d6 d5 d4
  rw [d3_23 u0 u2 u3, d3_23 u0 u2 u4, d3_23 u0 u3 u4, d3_23 u0 u2 u5, d3_23 u0 u3 u5, d3_23 u0 u4 u5, d3_312 u1 u2 u3, d3_12 u1 u3 u4, d3_12 u1 u3 u5, d3_231 u2 u3 u4, d3_231 u2 u3 u5, d3_23 u3 u4 u5, d3_312 u1 u2 u4, d3_312 u1 u3 u4, d3_12 u1 u4 u5, d3_13 u2 u3 u4, d3_12 u3 u4 u5, d3_231 u2 u4 u5, d3_231 u3 u4 u5, d3_312 u1 u2 u5, d3_312 u1 u3 u5, d3_312 u1 u4 u5, d3_13 u2 u3 u5, d3_312 u3 u4 u5, d3_13 u2 u4 u5, d3_13 u3 u4 u5]
  generalize d3 u0 u1 u2 = m0
  generalize d3 u0 u1 u3 = m1
  generalize d3 u0 u1 u4 = m2
  generalize d3 u0 u1 u5 = m3
  generalize d3 u0 u2 u3 = m4
  generalize d3 u0 u2 u4 = m5
  generalize d3 u0 u2 u5 = m6
  generalize d3 u0 u3 u4 = m7
  generalize d3 u0 u3 u5 = m8
  generalize d3 u0 u4 u5 = m9
  generalize d3 u1 u2 u3 = m10
  generalize d3 u1 u2 u4 = m11
  generalize d3 u1 u2 u5 = m12
  generalize d3 u1 u3 u4 = m13
  generalize d3 u1 u3 u5 = m14
  generalize d3 u1 u4 u5 = m15
  generalize d3 u2 u3 u4 = m16
  generalize d3 u2 u3 u5 = m17
  generalize d3 u2 u4 u5 = m18
  generalize d3 u3 u4 u5 = m19
  unfold e3 d3
  simp only [Nat.reduceAdd, Nat.zero_add]
  generalize u0 3 = a03
  generalize u0 4 = a04
  generalize u0 5 = a05
  generalize u1 3 = a13
  generalize u1 4 = a14
  generalize u1 5 = a15
  generalize u2 3 = a23
  generalize u2 4 = a24
  generalize u2 5 = a25
  generalize u3 3 = a33
  generalize u3 4 = a34
  generalize u3 5 = a35
  generalize u4 3 = a43
  generalize u4 4 = a44
  generalize u4 5 = a45
  generalize u5 3 = a53
  generalize u5 4 = a54
  generalize u5 5 = a55
  grind
end Go.Proofs.Ytfnomiingelfaaa
/- Determinants of order 3 of numbers from -1 to 1. Plain mathematics. Speaks of no program. -/
namespace Go.Proofs.Ytfnomiingelfaaa
open Go.RowKit

def ones3 : List Int := [-1, 0, 1]
theorem in_ones {x : Int} (h : -1 ≤ x ∧ x ≤ 1) : x ∈ ones3 := by
  have : x = -1 ∨ x = 0 ∨ x = 1 := by omega
  unfold ones3
  rcases this with e | e | e <;> simp [e]
theorem cross_all : (ones3.all fun a => ones3.all fun b => ones3.all fun c => ones3.all fun d => ones3.all fun e => ones3.all fun f => decide ((b * f - c * e).natAbs + (a * f - c * d).natAbs + (a * e - b * d).natAbs ≤ 4)) = true := by decide +kernel
theorem cross_bd {a b c d e f : Int} (ha : -1 ≤ a ∧ a ≤ 1) (hb : -1 ≤ b ∧ b ≤ 1) (hc : -1 ≤ c ∧ c ≤ 1) (hd : -1 ≤ d ∧ d ≤ 1) (he : -1 ≤ e ∧ e ≤ 1) (hf : -1 ≤ f ∧ f ≤ 1) : (b * f - c * e).natAbs + (a * f - c * d).natAbs + (a * e - b * d).natAbs ≤ 4 := by
  have h := cross_all
  simp only [List.all_eq_true] at h
  exact of_decide_eq_true (h a (in_ones ha) b (in_ones hb) c (in_ones hc) d (in_ones hd) e (in_ones he) f (in_ones hf))
theorem one_mul_bd {x X : Int} (h : -1 ≤ x ∧ x ≤ 1) : -(X.natAbs : Int) ≤ x * X ∧ x * X ≤ (X.natAbs : Int) := by
  have : x = -1 ∨ x = 0 ∨ x = 1 := by omega
  rcases this with e | e | e <;> subst e <;> omega
theorem d3_bd {u v w : Nat → Int} (hu : ∀ i, i < 3 → -1 ≤ u i ∧ u i ≤ 1) (hv : ∀ i, i < 3 → -1 ≤ v i ∧ v i ≤ 1) (hw : ∀ i, i < 3 → -1 ≤ w i ∧ w i ≤ 1) : -4 ≤ d3 u v w ∧ d3 u v w ≤ 4 := by
  have h := cross_bd (hu 1 (by decide)) (hv 1 (by decide)) (hw 1 (by decide)) (hu 2 (by decide)) (hv 2 (by decide)) (hw 2 (by decide))
  have e1 := one_mul_bd (X := v 1 * w 2 - v 2 * w 1) (hu 0 (by decide))
  have e2 := one_mul_bd (X := u 1 * w 2 - u 2 * w 1) (hv 0 (by decide))
  have e3 := one_mul_bd (X := u 1 * v 2 - u 2 * v 1) (hw 0 (by decide))
  unfold d3
  rw [Int.mul_comm (w 1) (v 2), Int.mul_comm (w 1) (u 2), Int.mul_comm (v 1) (u 2)] at h
  omega
theorem prod_bd {a b : Int} (ha : -4 ≤ a ∧ a ≤ 4) (hb : -4 ≤ b ∧ b ≤ 4) : -16 ≤ a * b ∧ a * b ≤ 16 := by
  have := mul_le ha hb
  omega
end Go.Proofs.Ytfnomiingelfaaa
