/- Parts of the proof of LinLeast: plain words, walks and contracts, each under its own heading. -/
import Derived.Test.YtfkmlonhhdcfpaaLinLeastPD
import Derived.Test.YtfkmlonhhdcfpaaLinLeastPB
import Derived.Test.YtfkmlonhhdcfpaaLinLeastPC
import Derived.Deep.AppendLies
import Derived.OwnWalkIn
/- IsKernel of both sides: contracts. -/
namespace Go.Proofs.Ytfkmlonhhdcfpaa
open Go.RowKit

theorem kerB_no {m : List (List Int)} {h : List Int} (e : validM m = false) : kerB m h = false := by unfold kerB; rw [readV_no e]; rfl
theorem kerB_err {m : List (List Int)} {h : List Int} (e : validM m = true) (e2 : fitsV h (colsM m) 1000000 ≠ 0) : kerB m h = false := by
  unfold kerB; rw [readV_err e rfl e2]; simp [e2]
theorem kerB_ok {m : List (List Int)} {h : List Int} (e : validM m = true) (e2 : fitsV h (colsM m) 1000000 = 0) : kerB m h = (!allZ h && allZ (readL m h)) := by
  unfold kerB; rw [readV_ok e e2]; simp
set_option maxRecDepth 100000 in
set_option maxHeartbeats 800000 in
theorem liskernel_any (a : Option Addr) (m : List (List Int)) (cap : Nat) (b : Option Addr) (xs : List Int) (cb : Nat) (w : World) (hm : MOk m) (hl : xs.length ≤ 140737488351232) (hs : Ms w a m) (hx : Sl w b xs) :
    Calls Try.prog 13 #[.slice a m.length cap, .slice b xs.length cb] w fun e w' => e = .returned (.bool (kerB m xs)) ∧ Below w.heap.size w w' := by
  have HRD := Lib.hid (mread_any a m cap b xs cb w hm (by omega) hs hx)
  have HX := Lib.hid hx
  obtain ⟨r, hr⟩ : ∃ r, readV m xs = r := ⟨_, rfl⟩
  obtain ⟨z, hz⟩ : ∃ z, allZ xs = z := ⟨_, rfl⟩
  have HKB : Hid (kerB m xs = (decide (r.2 = 0) && !z && allZ r.1)) := by show _ = _; unfold kerB; rw [hr, hz]
  have hl1 : r.1.length ≤ 140737488351232 := by
    rw [← hr]
    cases hv : validM m with
    | false => rw [readV_no hv]; simp
    | true =>
      by_cases hf : fitsV xs (colsM m) 1000000 = 0
      · rw [readV_ok hv hf]
        have := (validM_of hv).2.1
        simp [readL]; omega
      · rw [readV_err hv rfl hf]; simp
  rw [hr] at HRD
  have HC1 : Hid (∀ W, Sl W b xs → Calls Try.prog 50 #[.slice b xs.length cb, .func (.func 51) #[] #[]] W fun e w' => e = .returned (.bool (!z)) ∧ W = w') := fun W h => by rw [← hz]; exact containsNZ_any b xs cb W hl h
  obtain ⟨ry, rc⟩ := r
  dsimp only at HKB hl1 HRD
  obtain ⟨y, hy⟩ : ∃ y, allZ ry = y := ⟨_, rfl⟩
  rw [hy] at HKB
  have HC2 : Hid (∀ (W : World) (c : Option Addr) (cc : Nat), Sl W c ry → Calls Try.prog 50 #[.slice c ry.length cc, .func (.func 51) #[] #[]] W fun e w' => e = .returned (.bool (!y)) ∧ W = w') := fun W c cc h => by rw [← hy]; exact containsNZ_any c ry cc W hl1 h
  obtain ⟨q, hq⟩ : ∃ q, decide (rc = 0) = q := ⟨_, rfl⟩
  rw [hq] at HKB
  have hq2 : (rc == 0) = q := by rw [← hq]; rfl
  clear hs hx hm hr hz hy
  rw [HKB.out]
  cases q <;> cases z <;> cases y
  all_goals
    go_enter Try.func13, Try.ntmps13
    go_wp2_with (first | (go_at_call 49; refine HRD.out.mono ?_; rintro e w1 ⟨hb1, ra, rcp, rfl, hry⟩; have HB1 := Lib.hid hb1; have HRY := Lib.hid hry; clear hb1 hry) | (go_at_call 50; refine (HC1.out w1 (HX.out.below HB1.out)).mono ?_; rintro e w2 ⟨rfl, rfl⟩) | (go_at_call 50; refine (HC2.out w1 ra rcp HRY.out).mono ?_; rintro e w3 ⟨rfl, rfl⟩))
    go_ret
    exact ⟨rfl, HB1.out⟩
set_option maxRecDepth 100000 in
set_option maxHeartbeats 1600000 in
theorem riskernel_any (a : Option Addr) (m : List (List Int)) (cap : Nat) (b : Option Addr) (xs : List Int) (cb : Nat) (w : World) (hm : MOk m) (hl : xs.length ≤ 140737488351232) (hs : Ms w a m) (hx : Sl w b xs) :
    Calls Try.prog 12 #[.slice a m.length cap, .slice b xs.length cb] w fun e w' => e = .returned (.bool (kerB m xs)) ∧ Below w.heap.size w w' := by
  have HVA : Hid (Calls Try.prog 45 #[.slice a m.length cap] w fun e w' => e = .returned (.bool (validM m)) ∧ w = w') := rvalid_any a m cap w hm hs
  have HX := Lib.hid hx
  have HS := Lib.hid hs
  obtain ⟨v, hv⟩ : ∃ v, validM m = v := ⟨_, rfl⟩
  rw [hv] at HVA
  clear hm
  cases v with
  | false =>
    have HK : Hid (kerB m xs = false) := kerB_no hv
    clear hv hs hx
    go_enter Try.func12, Try.ntmps12
    go_wp2_with (go_at_call 45; refine HVA.out.mono ?_; rintro e w1 ⟨rfl, rfl⟩)
    go_ret
    exact ⟨ret_bool HK.out.symm, Below.refl _ _⟩
  | true =>
    obtain ⟨hm1, hm6, hc1, hc10, hrows⟩ := validM_of hv
    obtain ⟨b1, o1, ai, ci, rfl, hcell, hsl⟩ := hs 0 hm1
    have hl0 : (m[0]?.getD []).length = colsM m := (hrows _ (by simp [List.getElem?_eq_getElem hm1])).1
    rw [hl0, Nat.add_zero] at hcell
    have HRW : Hid (∀ q ∈ m, q.length = colsM m ∧ allB 1 q = true) := fun q hq => ⟨(hrows q hq).1, (hrows q hq).2⟩
    have HC0 := Lib.hid hc10
    have HVV := Lib.hid hv
    obtain ⟨n, hn⟩ : ∃ n, m.length = n := ⟨_, rfl⟩
    have HN := Lib.hid hn
    rw [hn] at HVA hm1 hm6 ⊢
    have hm10 : (0 : Int) < (n : Int) := by omega
    obtain ⟨c, hc⟩ : ∃ c, colsM m = c := ⟨_, rfl⟩
    have HCC := Lib.hid hc
    rw [hc] at hcell HRW HC0
    clear hsl hl0 hrows hv hs hx hn hc hc1 hc10
    by_cases hlen : xs.length = c
    · have y0 : ((xs.length : Int) == (c : Int)) = true := by simp [hlen]
      have y1 : ((xs.length : Int) != (c : Int)) = false := by simp [hlen]
      have HLEN := Lib.hid hlen
      clear hlen
      obtain ⟨q, hq⟩ : ∃ q, allB 1000000 xs = q := ⟨_, rfl⟩
      have HML : Hid (Calls Try.prog 46 #[.slice b xs.length cb] w fun e w' => e = .returned (.bool q) ∧ w = w') := by rw [← hq]; exact million_any b xs cb w (by omega) HX.out
      cases q with
      | false =>
        have HK : Hid (kerB m xs = false) := kerB_err HVV.out (by unfold fitsV; rw [if_pos (by rw [HLEN.out, HCC.out]), hq]; decide)
        clear hq
        go_enter Try.func12, Try.ntmps12
        go_wp2_with (first | (go_at_call 45; refine HVA.out.mono ?_; rintro e w1 ⟨rfl, rfl⟩) | (go_at_call 46; refine HML.out.mono ?_; rintro e w2 ⟨rfl, rfl⟩))
        go_ret
        exact ⟨ret_bool HK.out.symm, Below.refl _ _⟩
      | true =>
        have HQ := Lib.hid hq
        have HKB : Hid (kerB m xs = (!allZ xs && allZ (readL m xs))) := kerB_ok HVV.out (by unfold fitsV; rw [if_pos (by rw [HLEN.out, HCC.out]), hq]; rfl)
        clear hq
        obtain ⟨z, hz⟩ : ∃ z, allZ xs = z := ⟨_, rfl⟩
        have HNO : Hid (Calls Try.prog 47 #[.slice b xs.length cb] w fun e w' => e = .returned (.bool z) ∧ w = w') := by rw [← hz]; exact nothing3_any b xs cb w (by omega) HX.out
        rw [hz] at HKB
        clear hz
        cases z with
        | true =>
          have HK : Hid (kerB m xs = false) := by show _ = _; rw [HKB.out]; rfl
          clear HKB
          go_enter Try.func12, Try.ntmps12
          go_wp2_with (first | (go_at_call 45; refine HVA.out.mono ?_; rintro e w1 ⟨rfl, rfl⟩) | (go_at_call 46; refine HML.out.mono ?_; rintro e w2 ⟨rfl, rfl⟩) | (go_at_call 47; refine HNO.out.mono ?_; rintro e w3 ⟨rfl, rfl⟩))
          go_ret
          exact ⟨ret_bool HK.out.symm, Below.refl _ _⟩
        | false =>
          have HK : Hid (kerB m xs = allZ (readL m xs)) := by show _ = _; rw [HKB.out]; rfl
          clear HKB
          have HRL : Hid ((readL m xs).length = n) := by show _ = _; rw [← HN.out]; simp [readL]
          have HAT : Hid (∀ k, k < n → (readL m xs)[k]? = some (dot (rowL m k) xs)) := fun k hk => by
            have : k < m.length := by rw [HN.out]; exact hk
            unfold readL rowL; simp [this]
          go_enter Try.func12, Try.ntmps12
          go_wp2_with (first | (go_at_call 45; refine HVA.out.mono ?_; rintro e w1 ⟨rfl, rfl⟩) | (go_at_call 46; refine HML.out.mono ?_; rintro e w2 ⟨rfl, rfl⟩) | (go_at_call 47; refine HNO.out.mono ?_; rintro e w3 ⟨rfl, rfl⟩))
          clear hcell
          go_loopw [30] (fun i wr => ∃ k : Nat, k ≤ n ∧ i = .int .i64 k ∧ (∀ j, j < k → (readL m xs)[j]?.getD 0 = 0) ∧ Below w.heap.size w wr) (fun i _ => n - (intOf i).toNat)
          case atStart => exact ⟨0, Nat.zero_le _, rfl, fun j h => by omega, Below.refl _ _⟩
          case round =>
            obtain ⟨k, hk, rfl, hno, hb⟩ := hrel
            have HZ := Lib.hid hno; clear hno
            have HB := Lib.hid hb; clear hb
            by_cases hlt : k < n
            · obtain ⟨b2, o2, ri, rci, ee, hcr0, hsr0⟩ := (HS.out.below HB.out) k (by rw [HN.out]; exact hlt)
              cases ee
              have hrm : rowL m k ∈ m := rowL_mem (by rw [HN.out]; exact hlt)
              obtain ⟨r1, r2⟩ := HRW.out _ hrm
              have hsr : Sl wr ri (rowL m k) := hsr0
              have hcr : wr.cell? ⟨b1, o1 + k, none⟩ = some (.slice ri c rci) := by rw [← r1]; exact hcr0
              clear hcr0 hsr0
              have HDT : Hid (Calls Try.prog 48 #[.slice ri c rci, .slice b xs.length cb] wr fun e w' => e = .returned (.int .i64 (dot (rowL m k) xs)) ∧ ∃ n, w' = wr.drewN n) := by
                have h := rdot_any ri (rowL m k) rci b xs cb wr (by rw [r1]; exact HC0.out) (by rw [r1, HLEN.out]; exact Nat.le_refl _) (by omega) (PB_of r2 HQ.out (by rw [r1, HLEN.out]; exact Nat.le_refl _) (by decide)) hsr (HX.out.below HB.out)
                rw [r1] at h
                exact h
              have HA := Lib.hid (HAT.out k hlt)
              obtain ⟨d, hd⟩ : ∃ d, dot (rowL m k) xs = d := ⟨_, rfl⟩
              rw [hd] at HDT HA
              clear hd hrm r1 r2 hsr
              by_cases hd0 : d = 0
              · have HD0 := Lib.hid hd0
                have y2 : (d == 0) = true := by simp [hd0]
                have y3 : (d != 0) = false := by simp [hd0]
                clear hd0
                go_wp2_with (go_at_call 48; refine HDT.out.mono ?_; rintro e w5 ⟨rfl, nd, rfl⟩)
                go_roundw
                case rel => exact ⟨k + 1, by omega, by go_num, fun j hj => by
                  by_cases e : j = k
                  · subst e; rw [HA.out]; exact HD0.out
                  · exact HZ.out j (by omega), below_drewN HB.out _⟩
                case measure => simp [intOf]; omega
              · have y2 : (d == 0) = false := by simpa using hd0
                have y3 : (d != 0) = true := by simpa using hd0
                have HAZ : Hid (allZ (readL m xs) = false) := allZ_no HA.out hd0
                go_wp2_with (go_at_call 48; refine HDT.out.mono ?_; rintro e w5 ⟨rfl, nd, rfl⟩)
                go_ret
                exact ⟨ret_bool (by rw [HK.out, HAZ.out]), below_drewN HB.out _⟩
            · obtain rfl : n = k := by omega
              have HAZ : Hid (allZ (readL m xs) = true) := allZ_yes fun j hj => HZ.out j (by rw [HRL.out] at hj; exact hj)
              go_wp2
              go_ret
              exact ⟨ret_bool (by rw [HK.out, HAZ.out]), HB.out⟩
    · have y0 : ((xs.length : Int) == (c : Int)) = false := by simpa using fun e : (xs.length : Int) = (c : Int) => hlen (by omega)
      have y1 : ((xs.length : Int) != (c : Int)) = true := by simpa using fun e : (xs.length : Int) = (c : Int) => hlen (by omega)
      have HK : Hid (kerB m xs = false) := kerB_err HVV.out (by unfold fitsV; rw [if_neg (by rw [HCC.out]; omega)]; decide)
      go_enter Try.func12, Try.ntmps12
      go_wp2_with (go_at_call 45; refine HVA.out.mono ?_; rintro e w1 ⟨rfl, rfl⟩)
      go_ret
      exact ⟨ret_bool HK.out.symm, Below.refl _ _⟩
end Go.Proofs.Ytfkmlonhhdcfpaa
/- What slices.AppendSeq keeps between two values (lists of ints in memory that the iterator made). Speaks of no function. -/
namespace Go.Proofs.Ytfkmlonhhdcfpaa
open Go.RowKit

/-- The header of a value. -/
def hdS (x : SetV) : Option Addr × Nat := (some ⟨x.1, 0, none⟩, x.2.length)
/-- The box of the slice, the slice's own block and the values. -/
structure AppI (w : World) (v : Value) (pre : List SetV) (C T : Blk) (W : World) : Prop where
  r : W.cell? ⟨w.heap.size, 0, none⟩ = some v
  fr : W.frozen? ⟨w.heap.size, 0, none⟩ = false
  bw : Below w.heap.size w W
  nt : ∀ b, b < w.heap.size + 1 → ¬ T b
  nv : ∀ g, v.ownBlock = some g → ¬ T g
  cc : ∀ b, C b ↔ b = w.heap.size ∨ v.ownBlock = some b ∨ ∃ x ∈ pre, b = x.1
  own : HR (w.heap.size + 1) v (pre.map hdS) (pre.map Prod.snd) W
  mem : ∀ x ∈ pre, MemS x W ∧ ¬ T x.1 ∧ w.heap.size + 1 ≤ x.1
theorem AppI.keep {w : World} {v : Value} {pre : List SetV} {C T T' : Blk} {W W' : World} (h : AppI w v pre C T W) (ht : Turned T W W') (hT : ∀ b, T' b → T b ∨ W.heap.size ≤ b) : AppI w v pre C T' W' := by
  have l0 := cell_lt h.r
  dsimp only at l0
  have hnt : ∀ b, b < w.heap.size + 1 → ¬ T' b := fun b hb e => (hT b e).elim (h.nt b hb) (by omega)
  have hmem : ∀ x ∈ pre, MemS x W' ∧ ¬ T' x.1 ∧ w.heap.size + 1 ≤ x.1 := fun x hx => by
    obtain ⟨m1, m2, m3⟩ := h.mem x hx
    exact ⟨memS_turned m1 ht m2, fun e => (hT _ e).elim m2 (by have := (OwnI.lt m1).1; omega), m3⟩
  refine ⟨ht.cell h.r (h.nt _ (by show w.heap.size < _; omega)), (ht.frozen l0 (h.nt _ (by show w.heap.size < _; omega))).trans h.fr, h.bw.trans (ht.below h.bw.size fun b hb => h.nt b (by omega)), hnt, fun g hg e => (hT g e).elim (h.nv g hg) (by have := (World.ownsRow.lt h.own.own g hg).2; omega), h.cc, ?_, hmem⟩
  refine ⟨h.own.len, row_same h.own.own fun b e => ht.same b (World.ownsRow.lt h.own.own b e).2 (h.nv b e), fun i x r e1 e2 => ?_, fun i x e ad ea => ⟨Nat.lt_of_lt_of_le (h.own.out i x e ad ea).1 ht.size, (h.own.out i x e ad ea).2⟩⟩
  rw [List.getElem?_map] at e1 e2
  obtain ⟨y, hy, rfl⟩ := Option.map_eq_some_iff.1 e1
  rw [hy] at e2
  cases e2
  exact OwnI.sl (hmem y (List.mem_of_getElem? hy)).1
theorem AppI.client {w : World} : Client fun pre C T W => ∃ v, AppI w v pre C T W where
  lt := by
    rintro pre C T W ⟨v, h⟩ b hb
    rcases (h.cc b).1 hb with rfl | e | ⟨x, hx, rfl⟩
    · exact ⟨cell_lt h.r, h.nt _ (by omega)⟩
    · exact ⟨(World.ownsRow.lt h.own.own b e).2, h.nv b e⟩
    · exact ⟨(OwnI.lt (h.mem x hx).1).1, (h.mem x hx).2.1⟩
  keep := fun ⟨v, h⟩ ht hT => ⟨v, h.keep ht hT⟩
theorem AppI.ms {w : World} {v : Value} {pre : List SetV} {C T : Blk} {W : World} (h : AppI w v pre C T W) : ∃ a c, v = .slice a (pre.map Prod.snd).length c ∧ Ms W a (pre.map Prod.snd) := h.own.ms
/-- A header appended, under a fence. -/
theorem wpListIn_pushH {F : Fence} {n' : Nat} {ops : Array Oper} {rest : List Oper} {o : Oper} {act : Act} {Q : Exit → Act → World → Prop} (hgd : o.guard = none) (s x : Operand)
    (ho : o.op = .call { callee := .builtin .append, args := #[s, x], argTypes := #[22, 22] }) (base : Nat) (rv : Value) (n : Nat) (xs : List Value) (hd : Value) (h1 : hd.oneCell' = true) (V : World) (t : TypeId)
    (hv : act.eval s = rv) (hx : act.eval x = .slice (some ⟨V.heap.size, 0, none⟩) 1 1) (hown : (V.alloc (.cells #[hd] t)).ownsRow base 24 1 rv n xs) (hl : n ≤ 100000) (hbase : base ≤ V.heap.size)
    (h : ∀ g cap w', w'.ownsRow base 24 1 (.slice (some ⟨g, 0, none⟩) (n + 1) cap) (n + 1) (xs ++ [hd]) → (V.alloc (.cells #[hd] t)).grownBy w' rv.ownBlock → (rv.ownBlock = some g ∨ g = V.heap.size + 1) → g < w'.heap.size → wpListIn F n' Try.prog ops Q rest (act.put o.dst (.slice (some ⟨g, 0, none⟩) (n + 1) cap)) w') : wpListIn F n' Try.prog ops Q (o :: rest) act (V.alloc (.cells #[hd] t)) := by
  obtain ⟨i0, hi, hz0, hz1, hz2⟩ := info_parts Try.infoRowL
  refine wpListIn_plain hgd fun K hK => ?_
  obtain ⟨g, cap, w', hr, k2, k3, k4, k5⟩ := run_append_lies (P := Try.prog) (w := V.alloc (.cells #[hd] t)) 22 o.type base 24 i0 (.slice none 0 0) 1 24 Try.underlying22 hi hz0 hz1 hz2 rfl (by decide) rv n xs hown ⟨V.heap.size, 0, none⟩ 1 1 [hd] rfl (by
    intro j u hj
    match j, hj with
    | 0, hj => simp at hj; subst hj; rw [addr_add]; exact alloc_cell _ _ _ _ _ rfl
    | j + 1, hj => simp at hj) (by intro u hu; simp at hu; subst hu; exact h1) (by decide) (by unfold maxLen; omega) (by omega) (by rw [World.size_alloc]; omega) (V.heap.size + 1) (World.size_alloc _ _)
  unfold Oper.wpIn
  refine ⟨?_, ?_⟩
  · simp [Oper.about, ho, resolve, Target.leads, Sem.run_pure]
  · rw [Oper.semAt_plain F _ _ (by rw [ho]; intro c hc'; cases hc')]
    simp [execOp, ho, resolve, invoke, builtin, hv, hx, hr, Result.andThen]
    exact hK _ _ (h g cap w' k2 k3 k4 k5)
/-- The box, as a round has appended. -/
theorem AppI.box2 {w : World} {v : Value} {pre : List SetV} {C T : Blk} {V W2 : World} {o : Obj} (h : AppI w v pre C T V) (h2 : (V.alloc o).grownBy W2 v.ownBlock) : W2.cell? ⟨w.heap.size, 0, none⟩ = some v ∧ W2.frozen? ⟨w.heap.size, 0, none⟩ = false := by
  have l0 : w.heap.size < V.heap.size := cell_lt h.r
  have hbV : Below V.heap.size V (V.alloc o) := (Below.refl _ _).alloc (Nat.le_refl _) _
  have hbox : v.ownBlock ≠ some w.heap.size := fun e => by have := (World.ownsRow.lt h.own.own _ e).1; omega
  have blk : W2.heap[w.heap.size]? = V.heap[w.heap.size]? := (h2.block _ (by rw [World.size_alloc]; omega) (Ne.symm hbox)).trans (hbV.block _ l0)
  exact ⟨(World.cell?_of_block (a := ⟨w.heap.size, 0, none⟩) blk).trans h.r, (World.frozen?_of_block (a := ⟨w.heap.size, 0, none⟩) blk).trans h.fr⟩
/-- A round of AppendSeq. -/
theorem AppI.push {w : World} {v : Value} {pre : List SetV} {C T : Blk} {V W2 : World} {x : SetV} {g cap : Nat} {t : TypeId} (h : AppI w v pre C T V) (hx : MemS x V) (hT : T x.1)
    (h1 : W2.ownsRow (w.heap.size + 1) 24 1 (.slice (some ⟨g, 0, none⟩) (pre.length + 1) cap) (pre.length + 1) (hdO (pre.map hdS) (pre.map Prod.snd) ++ [.slice (some ⟨x.1, 0, none⟩) x.2.length x.2.length]))
    (h2 : (V.alloc (.cells #[.slice (some ⟨x.1, 0, none⟩) x.2.length x.2.length] t)).grownBy W2 v.ownBlock) (h3 : v.ownBlock = some g ∨ g = V.heap.size + 1) (hg : g < W2.heap.size) :
    Went (fun pre C T W => ∃ v, AppI w v pre C T W) (fun y b => b = y.1) pre x C T V (W2.setCell ⟨w.heap.size, 0, none⟩ (.slice (some ⟨g, 0, none⟩) (pre.length + 1) cap)) := by
  obtain ⟨V1, hV1⟩ : ∃ V1, V.alloc (.cells #[.slice (some ⟨x.1, 0, none⟩) x.2.length x.2.length] t) = V1 := ⟨_, rfl⟩
  have hV1s : V1.heap.size = V.heap.size + 1 := by rw [← hV1]; exact World.size_alloc _ _
  have hbV : Below V.heap.size V V1 := by rw [← hV1]; exact (Below.refl _ _).alloc (Nat.le_refl _) _
  rw [hV1] at h2
  have l0 : w.heap.size < V.heap.size := cell_lt h.r
  have hxl : x.1 < V.heap.size := (OwnI.lt hx).1
  have hxw : w.heap.size + 1 ≤ x.1 := Nat.le_of_not_lt fun e => h.nt _ e hT
  have hxv : v.ownBlock ≠ some x.1 := fun e => h.nv _ e hT
  have hgw : w.heap.size + 1 ≤ g := by
    rcases h3 with e | e
    · exact (World.ownsRow.lt h.own.own g e).1
    · omega
  have hxg : x.1 ≠ g := by
    rcases h3 with e | e
    · intro e2; exact hxv (by rw [e, e2])
    · omega
  have hvg : ∀ b, v.ownBlock = some b → b = g ∨ g = V.heap.size + 1 := fun b e => by
    rcases h3 with e2 | e2
    · rw [e] at e2; exact .inl (by cases e2; rfl)
    · exact .inr e2
  have h' := h.keep (turned_below hbV) (fun b e => Or.inl e)
  have hx' : MemS x V1 := OwnI.below hx hbV
  have hr := h'.own.push (row := x.2) (a := some ⟨x.1, 0, none⟩) (c := x.2.length) (g := g) (cap := cap) (OwnI.sl hx') (fun ad e => by cases e; exact ⟨by show x.1 < _; omega, hxv⟩) (by rw [List.length_map]; exact h1) h2 (by rw [hV1s]; exact h3)
  rw [List.length_map] at hr
  have blk : ∀ b, b < V1.heap.size → v.ownBlock ≠ some b → W2.heap[b]? = V1.heap[b]? := fun b hb hn => h2.block b hb (Ne.symm hn)
  have hbox : v.ownBlock ≠ some w.heap.size := fun e => by have := (World.ownsRow.lt h.own.own _ e).1; omega
  have memK : ∀ y : SetV, MemS y V → v.ownBlock ≠ some y.1 → w.heap.size + 1 ≤ y.1 → MemS y (W2.setCell ⟨w.heap.size, 0, none⟩ (.slice (some ⟨g, 0, none⟩) (pre.length + 1) cap)) := fun y hy hn hw => by
    have l := (OwnI.lt hy).1
    refine OwnI.sameBlock (OwnI.below hy hbV) ?_
    exact (Below.heap_setCell _ _ _ _ (by show y.1 ≠ w.heap.size; omega)).trans (blk _ (by omega) hn)
  have own' : ∀ y ∈ pre, v.ownBlock ≠ some y.1 := fun y hy e => by
    obtain ⟨i, hi, rfl⟩ := List.mem_iff_getElem.1 hy
    exact (h.own.out i (hdS pre[i]) (by simp [hi]) ⟨pre[i].1, 0, none⟩ rfl).2 e
  have hsz : V1.heap.size ≤ W2.heap.size := h2.size
  refine ⟨fun b => b = w.heap.size ∨ b = g ∨ ∃ y ∈ pre ++ [x], b = y.1, fun b => T b ∧ b ≠ x.1 ∧ b ≠ g, ⟨.slice (some ⟨g, 0, none⟩) (pre.length + 1) cap, ?_⟩, ?_, ?_, ?_⟩
  · refine ⟨?_, ?_, ?_, fun b hb e => h.nt b hb e.1, fun q hq e => ?_, fun b => ?_, ?_, fun y hy => ?_⟩
    · exact World.cell?_setCell_same _ _ _ ((World.cell?_of_block (blk _ (by show w.heap.size < _; omega) hbox)).trans h'.r)
    · have := (World.frozen?_of_block (a := ⟨w.heap.size, 0, none⟩) (blk _ (by show w.heap.size < _; omega) hbox)).trans h'.fr
      simpa using this
    · exact (h'.bw.grown h2 (by omega) (fun k e => by have := (World.ownsRow.lt h.own.own k e).1; omega)).setCell (p := ⟨w.heap.size, 0, none⟩) (Nat.le_refl _) _
    · simp [Value.ownBlock] at hq
      exact e.2.2 hq.symm
    · simp [Value.ownBlock, eq_comm]
    · have e1 : (pre ++ [x]).map hdS = pre.map hdS ++ [(some ⟨x.1, 0, none⟩, x.2.length)] := by simp [hdS]
      have e2 : (pre ++ [x]).map Prod.snd = pre.map Prod.snd ++ [x.2] := by simp
      rw [e1, e2]
      refine hr.far ?_ (fun i y hy ad ea => ?_) _
      · intro e; simp [Value.ownBlock] at e; omega
      · rcases get_snoc hy with hy | ⟨_, rfl⟩
        · rw [List.getElem?_map] at hy
          obtain ⟨z, hz, rfl⟩ := Option.map_eq_some_iff.1 hy
          have := (h.mem z (List.mem_of_getElem? hz)).2.2
          cases ea
          show z.1 ≠ w.heap.size
          omega
        · cases ea
          show x.1 ≠ w.heap.size
          omega
    · rcases List.mem_append.1 hy with hy | hy
      · obtain ⟨m1, m2, m3⟩ := h.mem y hy
        exact ⟨memK y m1 (own' y hy) m3, fun e => m2 e.1, m3⟩
      · obtain rfl : y = x := List.mem_singleton.1 hy
        exact ⟨memK y hx hxv hxw, fun e => e.2.1 rfl, hxw⟩
  · rintro b hb hl hn
    refine ⟨hb, hn, fun e => ?_⟩
    subst e
    rcases h3 with e | e
    · exact h.nv _ e hb
    · omega
  · rintro b (rfl | rfl | ⟨y, hy, rfl⟩)
    · exact .inl ((h.cc _).2 (.inl rfl))
    · rcases h3 with e | e
      · exact .inl ((h.cc _).2 (.inr (.inl e)))
      · exact .inr (.inr (by omega))
    · rcases List.mem_append.1 hy with hy | hy
      · exact .inl ((h.cc _).2 (.inr (.inr ⟨y, hy, rfl⟩)))
      · obtain rfl : y = x := List.mem_singleton.1 hy
        exact .inr (.inl rfl)
  · refine ((turned_below hbV).trans (turned_grown (T := fun b => C b ∨ b = x.1) h2 fun r e => .inl ((h.cc r).2 (.inr (.inl e)))) fun b e => .inl e).trans (turned_set _ _ (.inl ((h.cc _).2 (.inl rfl)))) fun b e => .inl e
end Go.Proofs.Ytfkmlonhhdcfpaa
/- slices.AppendSeq over lists of ints: the contract. -/
namespace Go.Proofs.Ytfkmlonhhdcfpaa
open Go.RowKit Go.Shelf
attribute [local go_sem] Oper.semAt_some

theorem AppI.start (w : World) : AppI w (.slice none 0 0) [] (fun b => b = w.heap.size) (fun _ => False) (w.alloc (.cells #[.slice none 0 0] 22)) := by
  refine ⟨alloc_cell _ _ _ _ _ rfl, by simp, (Below.refl _ _).alloc (Nat.le_refl _) _, fun _ _ e => e, fun _ h => (own_none h).elim, fun b => ?_, HR.nil _ _, fun x hx => by cases hx⟩
  simp [Value.ownBlock]
set_option maxRecDepth 100000 in
set_option maxHeartbeats 2000000 in
theorem appendSeq_in {gf : Nat} {lb : Array Value} (eg : ∀ args w, (callFunc gf args).run Try.prog w = .ok (.enter gf args) w) {Z : List (List Int)} {need : Blk} {w wq : World} (hseq : SeqM Try.prog gf lb encS MemS ownC Prod.snd Z need wq) (hb : Below wq.heap.size wq w) (hneed : ∀ b, need b → b < w.heap.size) (hZ : Z.length ≤ 10000) :
    CallsIn Fence.wide 50 Try.prog 85 #[.slice none 0 0, .func (.func gf) #[] lb] w fun e w' => ∃ ca cc, e = .returned (.slice ca Z.length cc) ∧ Ms w' ca Z ∧ Below w.heap.size w w' := by
  have HI0 := Lib.hid (AppI.start w)
  obtain ⟨V0, hV0⟩ : ∃ V0, w.alloc (.cells #[.slice none 0 0] 22) = V0 := ⟨_, rfl⟩
  have hVs : V0.heap.size = w.heap.size + 1 := by rw [← hV0]; exact World.size_alloc _ _
  rw [hV0] at HI0
  have HVS := Lib.hid hVs
  have HSEQ := Lib.hid hseq
  have HB := Lib.hid hb
  have HNEED := Lib.hid hneed
  have HZ := Lib.hid hZ
  clear hVs hseq hb hneed hZ
  refine callsIn_of_wp_marks Try.func85 rfl trivial ?_ rfl
  simp only [Try.ntmps85, List.size_toArray, List.length_cons, List.length_nil, Nat.reduceAdd, Nat.reduceSub, Array.replicate_succ, Array.replicate_zero, List.push_toArray, List.append_toArray, List.nil_append, List.cons_append]
  gi_wp2
  clear hV0
  refine wpIn_rangeFunc_M (by omega) (gf := gf) (lb := lb) rfl eg HSEQ.out (HB.out.trans (HI0.out.bw.mono HB.out.size)) (fun _ => rfl) memS_put
    (fun pre C T W => ∃ v, AppI w v pre C T W) (fun _ _ _ _ _ => False) AppI.client (fun _ => ⟨fun h => h.elim, fun h => h.elim⟩) (fun b => b = w.heap.size) (fun _ => False) ?need (fun _ e => e.elim) ⟨_, HI0.out⟩
    (fun x => { tmps := #[.slice none 0 0, .func (.func gf) #[] lb, .pointer (some ⟨w.heap.size, 0, none⟩), undef, .slice none 0 0, .slice (some ⟨x.1, 0, none⟩) x.2.length x.2.length, .func (.func gf) #[] lb, .slice (some ⟨x.1, 0, none⟩) x.2.length x.2.length, undef, undef, undef, undef, undef], defers := [] }) ?assign ?body ?done ?stop
  case need =>
    have h2 := HVS.out
    intro b hb
    have := HNEED.out b hb
    exact ⟨by omega, by omega⟩
  case assign =>
    intro l2 x V K hK
    gi_wp2
    exact hK
  case body =>
    rintro l2 pre ⟨xb, xs⟩ C T V ⟨v, hI⟩ hmem hown ⟨rest, hrest⟩
    have HP : Hid (pre.length ≤ 100000) := by
      show _ ≤ _
      have e := congrArg List.length hrest
      have := HZ.out
      simp at e
      omega
    have HI := Lib.hid hI
    have HM := Lib.hid hmem
    have HT := Lib.hid (hown xb rfl)
    have c0 := hI.r
    have f0 := hI.fr
    have HOW : Hid ((V.alloc (.cells #[.slice (some ⟨xb, 0, none⟩) xs.length xs.length] 24)).ownsRow (w.heap.size + 1) 24 1 v pre.length (hdO (pre.map hdS) (pre.map Prod.snd))) := by
      have h := (hI.own.below ((Below.refl _ V).alloc (Nat.le_refl _) (.cells #[.slice (some ⟨xb, 0, none⟩) xs.length xs.length] 24))).own
      rw [List.length_map] at h
      exact h
    have HBS : Hid (w.heap.size + 1 ≤ V.heap.size) := cell_lt hI.r
    clear hI hmem hown hrest
    dsimp only
    gi_wp2_with (gi_at_builtin; refine wpListIn_pushH rfl (.tmp 8) (.tmp 10) rfl (w.heap.size + 1) v pre.length (hdO (pre.map hdS) (pre.map Prod.snd)) _ rfl V _ rfl rfl HOW.out HP.out HBS.out ?_; intro g cap W2 k1 k2 k3 k4; obtain ⟨c2, f2⟩ := HI.out.box2 k2; have HK1 := Lib.hid k1; have HK2 := Lib.hid k2; have HK3 := Lib.hid k3; have HK4 := Lib.hid k4; clear k1 k2 k3 k4)
    exact HI.out.push HM.out HT.out HK1.out HK2.out HK3.out HK4.out
  case done =>
    rintro D ys C T V hD hys ⟨v, hI⟩ hTD hK
    obtain ⟨ca, cc, rfl, hms⟩ := hI.ms
    rw [hys] at hI hms
    have c0 := hI.r
    have HMS := Lib.hid hms
    have HI := Lib.hid hI
    have HT := Lib.hid hTD
    have HK := Lib.hid hK
    have HYS := Lib.hid hys
    clear hI hms hys hTD hK hD
    have HKD : Hid (∀ E, E ∈ [D] → V.heap[E]? = some (.deferred (some []))) := fun E hE => List.mem_singleton.1 hE ▸ HK.out
    gi_wp2
    refine leaves_marks2 (fun W => AppI w (.slice ca Z.length cc) ys C T W) [D] ?_ ?_ [D] V (fun _ h => h) (by simp) (fun E hE => HKD.out E hE) HI.out
    · intro W E hE hW
      obtain rfl : E = D := by simpa using hE
      exact hW.keep (turned_put W _ HT.out) fun b e => .inl e
    · intro W hW
      obtain ⟨a', c', e, hm⟩ := hW.ms
      rw [HYS.out] at e hm
      cases e
      exact ⟨.slice ca Z.length cc, by simp [results, Try.results85, go_sem], ca, cc, rfl, hm, hW.bw⟩
  case stop =>
    rintro D c pre C T V hD h
    exact h.elim
end Go.Proofs.Ytfkmlonhhdcfpaa
/- slices.Collect over lists of ints; Circuits of layer 3: contracts. -/
namespace Go.Proofs.Ytfkmlonhhdcfpaa
open Go.RowKit Go.Shelf

set_option maxRecDepth 100000 in
set_option maxHeartbeats 800000 in
theorem collect_any {gf : Nat} {lb : Array Value} (eg : ∀ args w, (callFunc gf args).run Try.prog w = .ok (.enter gf args) w) {Z : List (List Int)} {need : Blk} {w wq : World} (hseq : SeqM Try.prog gf lb encS MemS ownC Prod.snd Z need wq) (hb : Below wq.heap.size wq w) (hneed : ∀ b, need b → b < w.heap.size) (hZ : Z.length ≤ 10000) :
    Calls Try.prog 43 #[.func (.func gf) #[] lb] w fun e w' => ∃ ca cc, e = .returned (.slice ca Z.length cc) ∧ Ms w' ca Z ∧ Below w.heap.size w w' := by
  have HC := Lib.hid (callsIn_wide.1 (appendSeq_in eg hseq hb hneed hZ))
  clear hseq hb hneed hZ
  go_enter Try.func43, Try.ntmps43
  go_wp2_with (go_at_call 85; refine HC.out.mono ?_; rintro e w1 ⟨ca, cc, rfl, hms, hb⟩; have HM := Lib.hid hms; have HB := Lib.hid hb; clear hms hb)
  go_ret
  exact ⟨ca, cc, rfl, HM.out, HB.out⟩
/-- What Circuits answers. -/
def circsV (m : List (List Int)) : List (List Int) × Int := if validM m = true then (circsAll m, 0) else ([], 1)
theorem len_small : ∀ n, n ≤ 10 → ∀ r, r ≤ 11 → (compl n r 0).length ≤ 300 := by decide +kernel
theorem circsTo_small {m : List (List Int)} (hc : colsM m ≤ 10) : ∀ k, k ≤ 11 → (circsTo m k).length ≤ 300 * k
  | 0, _ => by simp [circsTo]
  | k + 1, h => by
    rw [circsTo_succ, List.length_append, List.length_map]
    have h1 := circsTo_small hc k (by omega)
    have h2 := List.length_filter_le (circB m) (compl (colsM m) (k + 1) 0)
    have h3 := len_small (colsM m) hc (k + 1) h
    omega
theorem circsAll_small {m : List (List Int)} (hv : validM m = true) : (circsAll m).length ≤ 10000 := by
  obtain ⟨_, h6, _, h10, _⟩ := validM_of hv
  have hr : rankM m ≤ m.length := (basis_fin hv).pl
  have := circsTo_small h10 (rankM m + 1) (by omega)
  unfold circsAll
  omega
set_option maxRecDepth 100000 in
set_option maxHeartbeats 800000 in
theorem lcircuits_any (a : Option Addr) (m : List (List Int)) (cap : Nat) (w : World) (hm : MOk m) (hs : Ms w a m) :
    Calls Try.prog 11 #[.slice a m.length cap] w fun e w' => ∃ ca cc, e = .returned (.tuple #[.slice ca (circsV m).1.length cc, .int .i64 (circsV m).2]) ∧ Ms w' ca (circsV m).1 ∧ Below w.heap.size w w' := by
  have HV := Lib.hid (mvalid_any a m cap w hm hs)
  have HS := Lib.hid hs
  clear hs
  cases hv : validM m with
  | false =>
    rw [hv] at HV
    have HE : Hid (circsV m = ([], 1)) := by show _ = _; unfold circsV; rw [hv]; rfl
    clear hv hm
    rw [HE.out]
    go_enter Try.func11, Try.ntmps11
    go_wp2_with (go_at_call 42; refine HV.out.mono ?_; rintro e w1 ⟨rfl, hb⟩; have HB := Lib.hid hb; clear hb)
    go_ret2
    exact ⟨none, 0, rfl, fun k hk => by simp at hk, HB.out⟩
  | true =>
    rw [hv] at HV
    have HE : Hid (circsV m = (circsAll m, 0)) := by show _ = _; unfold circsV; rw [if_pos hv]
    have HVV := Lib.hid hv
    have HSM := Lib.hid (circsAll_small hv)
    clear hv hm
    rw [HE.out]
    go_enter Try.func11, Try.ntmps11
    go_wp2_with (first
      | (go_at_call 42; refine HV.out.mono ?_; rintro e w1 ⟨rfl, hb⟩; have HB := Lib.hid hb; clear hb)
      | (go_at_call 44; refine (circuits_any a m.length cap w1).mono ?_; rintro e w2 ⟨rfl, hw2⟩; have HW2 := Lib.hid hw2; clear hw2))
    have hbV : Below w1.heap.size w1 w2 := by rw [HW2.out]; exact (Below.refl _ _).alloc (Nat.le_refl _) _
    have hcB : w2.cell? ⟨w1.heap.size, 0, none⟩ = some (.slice a m.length cap) := by rw [HW2.out]; exact alloc_cell _ _ _ _ _ rfl
    have hvs : w2.heap.size = w1.heap.size + 1 := by rw [HW2.out]; exact World.size_alloc _ _
    have HBV : Hid (Below w.heap.size w w2) := HB.out.trans (hbV.mono HB.out.size)
    have HCC := Lib.hid (collect_any (enters_of Try.func86 (by kernel_rfl) rfl) (circuits1_seq (w0 := w) HVV.out HS.out HBV.out hcB) (Below.refl _ _) (by have := HB.out.size; rintro b (e | rfl) <;> omega) HSM.out)
    clear hbV hcB hvs HW2
    go_wp2_with (go_at_call 43; refine HCC.out.mono ?_; rintro e w3 ⟨ca, cc, rfl, hms, hb3⟩; have HM := Lib.hid hms; have HB3 := Lib.hid hb3; clear hms hb3)
    go_ret2
    exact ⟨ca, cc, rfl, HM.out, HBV.out.trans (HB3.out.mono HBV.out.size)⟩
end Go.Proofs.Ytfkmlonhhdcfpaa
/- All circuits, the first one, and what depends on itself: by least supports. Plain words. Speaks of no program. -/
namespace Go.Proofs.Ytfkmlonhhdcfpaa
open Go.RowKit

theorem pw_len : ∀ (s : List Int) (b n : Nat), b ≤ n → s.Pairwise (· < ·) → (∀ j ∈ s, (b : Int) ≤ j ∧ j < n) → s.length + b ≤ n
  | [], b, n, hb, _, _ => by simpa using hb
  | x :: t, b, n, hb, hp, hj => by
    have h1 := hj x List.mem_cons_self
    rw [List.pairwise_cons] at hp
    have := pw_len t (x.toNat + 1) n (by omega) hp.2 fun j h => by
      have := hp.1 j h
      have := hj j (List.mem_cons_of_mem _ h)
      omega
    rw [List.length_cons]; omega
theorem compl_of : ∀ (s : List Int) (b n : Nat), s.Pairwise (· < ·) → (∀ j ∈ s, (b : Int) ≤ j ∧ j < n) → s ∈ compl n s.length b
  | [], b, n, _, _ => by simp [compl]
  | x :: t, b, n, hp, hj => by
    have h1 := hj x List.mem_cons_self
    rw [List.pairwise_cons] at hp
    have ht : ∀ j ∈ t, ((x.toNat + 1 : Nat) : Int) ≤ j ∧ j < n := fun j h => by
      have := hp.1 j h
      have := hj j (List.mem_cons_of_mem _ h)
      omega
    have hl := pw_len t (x.toNat + 1) n (by omega) hp.2 ht
    have ih := compl_of t (x.toNat + 1) n hp.2 ht
    rw [List.length_cons]
    unfold compl
    refine List.mem_flatMap.2 ⟨x.toNat - b, List.mem_range.2 (by omega), List.mem_map.2 ⟨t, ?_, ?_⟩⟩
    · rw [show b + (x.toNat - b) + 1 = x.toNat + 1 by omega]; exact ih
    · rw [show ((b + (x.toNat - b) : Nat) : Int) = x by omega]
theorem compl_asc {n : Nat} : ∀ {r b : Nat} {s : List Int}, s ∈ compl n r b → s.Pairwise (· < ·)
  | 0, b, s, h => by
    have : s = [] := by simpa [compl] using h
    subst this; exact List.Pairwise.nil
  | r + 1, b, s, h => by
    unfold compl at h
    obtain ⟨d, _, h2⟩ := List.mem_flatMap.1 h
    obtain ⟨t, ht, rfl⟩ := List.mem_map.1 h2
    rw [List.pairwise_cons]
    exact ⟨fun j hj => by have := (compl_mem ht).2 j hj; omega, compl_asc ht⟩
theorem pw_ext : ∀ {a b : List Int}, a.Pairwise (· < ·) → b.Pairwise (· < ·) → (∀ x, x ∈ a ↔ x ∈ b) → a = b
  | [], [], _, _, _ => rfl
  | [], y :: b, _, _, h => by have := (h y).2 List.mem_cons_self; cases this
  | x :: a, [], _, _, h => by have := (h x).1 List.mem_cons_self; cases this
  | x :: a, y :: b, ha, hb, h => by
    rw [List.pairwise_cons] at ha hb
    have e : x = y := by
      rcases List.mem_cons.1 ((h x).1 List.mem_cons_self) with e | e
      · exact e
      · rcases List.mem_cons.1 ((h y).2 List.mem_cons_self) with e2 | e2
        · exact e2.symm
        · have := hb.1 x e; have := ha.1 y e2; omega
    subst e
    congr 1
    refine pw_ext ha.2 hb.2 fun z => ⟨fun hz => ?_, fun hz => ?_⟩
    · rcases List.mem_cons.1 ((h z).1 (List.mem_cons_of_mem _ hz)) with e | e
      · have := ha.1 z hz; omega
      · exact e
    · rcases List.mem_cons.1 ((h z).2 (List.mem_cons_of_mem _ hz)) with e | e
      · have := hb.1 z hz; omega
      · exact e
theorem pw_sub : ∀ {b a : List Int}, a.Pairwise (· < ·) → b.Pairwise (· < ·) → (∀ x ∈ a, x ∈ b) → a.length ≤ b.length
  | _, [], _, _, _ => Nat.zero_le _
  | [], x :: a, _, _, h => by have := h x List.mem_cons_self; cases this
  | y :: b, x :: a, ha, hb, h => by
    rw [List.pairwise_cons] at hb
    rcases List.mem_cons.1 (h x List.mem_cons_self) with e | e
    · subst e
      rw [List.pairwise_cons] at ha
      have := pw_sub (b := b) ha.2 hb.2 fun z hz => by
        rcases List.mem_cons.1 (h z (List.mem_cons_of_mem _ hz)) with e | e
        · have := ha.1 z hz; omega
        · exact e
      simpa using this
    · have := pw_sub (b := b) ha hb.2 fun z hz => by
        rcases List.mem_cons.1 (h z hz) with e2 | e2
        · have h1 := hb.1 x e
          rcases List.mem_cons.1 hz with e3 | e3
          · omega
          · rw [List.pairwise_cons] at ha
            have := ha.1 z e3; omega
        · exact e2
      simp only [List.length_cons] at this ⊢
      omega
section
variable {m : List (List Int)}
theorem compl_set {r : Nat} {s : List Int} (h : s ∈ compl (colsM m) r 0) : SetP m s := ⟨compl_asc h, fun j hj => by have := (compl_mem h).2 j hj; omega⟩
theorem SetP.compl {s : List Int} (h : SetP m s) : s ∈ compl (colsM m) s.length 0 := compl_of s 0 _ h.asc fun j hj => by have := h.ok j hj; omega
theorem circsTo_mem {k : Nat} {c : List Int} : c ∈ circsTo m k ↔ ∃ S, SetP m S ∧ 1 ≤ S.length ∧ S.length ≤ k ∧ circB m S = true ∧ c = circH m S := by
  unfold circsTo
  rw [List.mem_flatMap]
  constructor
  · rintro ⟨f, hf, h2⟩
    obtain ⟨S, hS, rfl⟩ := List.mem_map.1 h2
    rw [List.mem_filter] at hS
    have hl := (compl_mem hS.1).1
    have := List.mem_range.1 hf
    exact ⟨S, compl_set hS.1, by omega, by omega, hS.2, rfl⟩
  · rintro ⟨S, h1, h2, h3, h4, rfl⟩
    refine ⟨S.length - 1, List.mem_range.2 (by omega), List.mem_map.2 ⟨S, List.mem_filter.2 ⟨?_, h4⟩, rfl⟩⟩
    rw [show S.length - 1 + 1 = S.length by omega]
    exact h1.compl
theorem circsAll_mem (hv : validM m = true) {c : List Int} : c ∈ circsAll m ↔ ∃ S, SetP m S ∧ 1 ≤ S.length ∧ circB m S = true ∧ c = circH m S := by
  unfold circsAll
  rw [circsTo_mem]
  constructor
  · rintro ⟨S, h1, h2, _, h4, h5⟩; exact ⟨S, h1, h2, h4, h5⟩
  · rintro ⟨S, h1, h2, h4, h5⟩; exact ⟨S, h1, h2, circ_small hv h1.ok h4, h4, h5⟩
/-- The first circuit has no more pixels than any other. -/
theorem circsTo_first {S : List Int} (hS : SetP m S) (h1 : 1 ≤ S.length) (hc : circB m S = true) : ∀ k, S.length ≤ k → ∃ S0 t, circsTo m k = circH m S0 :: t ∧ SetP m S0 ∧ 1 ≤ S0.length ∧ circB m S0 = true ∧ S0.length ≤ S.length
  | 0, h => by omega
  | k + 1, h => by
    rw [circsTo_succ]
    by_cases e : S.length ≤ k
    · obtain ⟨S0, t, h2, h3⟩ := circsTo_first hS h1 hc k e
      exact ⟨S0, _, by rw [h2]; rfl, h3⟩
    · have hk : S.length = k + 1 := by omega
      cases hl : circsTo m k with
      | nil =>
        have hmem : S ∈ (compl (colsM m) (k + 1) 0).filter (circB m) := List.mem_filter.2 ⟨by rw [← hk]; exact hS.compl, hc⟩
        match hf : (compl (colsM m) (k + 1) 0).filter (circB m) with
        | [] => rw [hf] at hmem; cases hmem
        | S0 :: t =>
          have h0 : S0 ∈ (compl (colsM m) (k + 1) 0).filter (circB m) := by rw [hf]; simp
          rw [List.mem_filter] at h0
          have := (compl_mem h0.1).1
          exact ⟨S0, t.map (circH m), rfl, compl_set h0.1, by omega, h0.2, by omega⟩
      | cons c t =>
        obtain ⟨S0, h2, h3, h4, h5, rfl⟩ := circsTo_mem.1 (show c ∈ circsTo m k by rw [hl]; simp)
        exact ⟨S0, _, rfl, h2, h3, h5, by omega⟩
theorem circs_first (hv : validM m = true) {S : List Int} (hS : SetP m S) (h1 : 1 ≤ S.length) (hc : circB m S = true) : ∃ S0 t, circsAll m = circH m S0 :: t ∧ SetP m S0 ∧ 1 ≤ S0.length ∧ circB m S0 = true ∧ S0.length ≤ S.length :=
  circsTo_first hS h1 hc _ (circ_small hv hS.ok hc)
theorem nzTo_filter (xs : List Int) : ∀ k, nzTo xs k = (((List.range k).filter fun j => gt xs j != 0).length : Int)
  | 0 => rfl
  | k + 1 => by
    rw [List.range_succ, List.filter_append, List.length_append, nzTo, nzTo_filter xs k]
    by_cases e : gt xs k = 0
    · rw [if_pos e]; simp [e]
    · rw [if_neg e]; simp [e]
theorem CircP.supp_eq {S c : List Int} (hS : SetP m S) (h : CircP m S c) : suppL m (gt c) = S := by
  refine pw_ext (suppL_set _).asc hS.asc fun x => ⟨fun hx => ?_, fun hx => ?_⟩
  · have := (suppL_set (m := m) (gt c)).ok x hx
    obtain ⟨y, rfl⟩ : ∃ y : Nat, x = (y : Int) := ⟨x.toNat, by omega⟩
    have := suppL_mem.1 hx
    exact (h.supp y this.1).1 this.2
  · have := hS.ok x hx
    obtain ⟨y, rfl⟩ : ∃ y : Nat, x = (y : Int) := ⟨x.toNat, by omega⟩
    exact suppL_mem.2 ⟨by omega, (h.supp y (by omega)).2 hx⟩
theorem CircP.size {S c : List Int} (hS : SetP m S) (h : CircP m S c) : nzTo c c.length = S.length := by
  rw [nzTo_filter, h.len]
  have := congrArg List.length (h.supp_eq hS)
  unfold suppL at this
  rw [List.length_map] at this
  rw [this]
theorem kerB_iff (hv : validM m = true) {h : List Int} : kerB m h = true ↔ (h.length = colsM m ∧ allB 1000000 h = true) ∧ allZ h = false ∧ KerF m (gt h) := by
  by_cases hf : fitsV h (colsM m) 1000000 = 0
  · have hlen : h.length = colsM m ∧ allB 1000000 h = true := by
      unfold fitsV at hf
      split at hf
      · rename_i e
        split at hf
        · rename_i e2; exact ⟨by omega, e2⟩
        · cases hf
      · cases hf
    rw [kerB_ok hv hf]
    simp only [Bool.and_eq_true, Bool.not_eq_true']
    have hrow : ∀ i, i < m.length → gt (readL m h) i = sumTo (fun c => a0 m i c * gt h c) (colsM m) := fun i hi => by
      have e : gt (readL m h) i = dot (rowL m i) h := by unfold readL gt rowL; simp [hi]
      rw [e]
      unfold dot
      rw [((validM_of hv).2.2.2.2 _ (rowL_mem hi)).1]
      rfl
    constructor
    · rintro ⟨h1, h2⟩
      exact ⟨hlen, h1, fun i hi => by rw [← hrow i hi]; exact allZ_gt h2 (by simpa [readL] using hi)⟩
    · rintro ⟨_, h1, h2⟩
      exact ⟨h1, allZ_all fun i hi => by
        have hi : i < m.length := by simpa [readL] using hi
        rw [hrow i hi]; exact h2 i hi⟩
  · rw [kerB_err hv hf]
    constructor
    · intro e; cases e
    · rintro ⟨⟨h1, h2⟩, _⟩
      exact absurd (by unfold fitsV; rw [if_pos (by omega), if_pos h2]) hf
theorem CircP.kerB (hv : validM m = true) {S c : List Int} (hS : SetP m S) (h1 : 1 ≤ S.length) (h : CircP m S c) : kerB m c = true := by
  rw [kerB_iff hv]
  refine ⟨⟨h.len, allB_all fun j hj => ?_⟩, ?_, h.ker⟩
  · have := h.bd j (by rw [← h.len]; exact hj); omega
  · cases hz : allZ c with
    | false => rfl
    | true =>
      have := allZ_gt hz (c := pos S 0) (by rw [h.len]; exact hS.lt (by omega))
      have := h.first; omega
theorem CircP.primB (hv : validM m = true) {S c : List Int} (hS : SetP m S) (h1 : 1 ≤ S.length) (h : CircP m S c) : primB c = true := by
  have hb := ((kerB_iff hv).1 (h.kerB hv hS h1)).1.2
  have hk : pos S 0 < c.length := by rw [h.len]; exact hS.lt (by omega)
  have hf : fnz c = gt c (pos S 0) := by
    refine fnz_hit (k := pos S 0) (fun j hj => ?_) ?_ (by have := h.first; omega)
    · show gt c j = 0
      apply Classical.byContradiction
      intro e
      have hm := (h.supp j (by rw [← h.len]; omega)).1 e
      obtain ⟨u, hu, e2⟩ := hS.mem.1 hm
      by_cases e3 : u = 0
      · subst e3; omega
      · have h4 := pw_gt hS.asc (s := 0) (t := u) (by omega) hu
        have h5 := hS.eq (u := 0) (by omega)
        have h6 := hS.eq hu
        omega
    · unfold gt; simp [hk]
  unfold Go.Proofs.Ytfkmlonhhdcfpaa.primB
  rw [hb, h.gcd, hf]
  simpa using h.first
/-- No kernel vector's support lies within a circuit's without being it. -/
theorem CircP.least (hv : validM m = true) {S c h : List Int} (hc : CircP m S c) (hk : Go.Proofs.Ytfkmlonhhdcfpaa.kerB m h = true) (hw : ∀ j, j < colsM m → gt h j ≠ 0 → gt c j ≠ 0) : ∀ j, j < colsM m → (gt h j = 0 ↔ gt c j = 0) := by
  obtain ⟨⟨hl, _⟩, hz, hker⟩ := (kerB_iff hv).1 hk
  obtain ⟨a, b, ha, hab⟩ := hc.one (gt h) hker fun j hj e => (hc.supp j hj).1 (hw j hj e)
  have hb : b ≠ 0 := by
    intro e
    subst e
    rw [allZ_all fun j hj => ?_] at hz
    · cases hz
    · have := hab j (by omega)
      rw [Int.zero_mul] at this
      rcases Int.mul_eq_zero.1 this with q | q
      · exact absurd q ha
      · exact q
  intro j hj
  have := hab j hj
  constructor
  · intro e
    rw [e, Int.mul_zero] at this
    rcases Int.mul_eq_zero.1 this.symm with q | q
    · exact absurd q hb
    · exact q
  · intro e
    rw [e, Int.mul_zero] at this
    rcases Int.mul_eq_zero.1 this with q | q
    · exact absurd q ha
    · exact q
theorem rasc_pw {px : List Int} (h : rascB px = true) : px.Pairwise (· < ·) := by
  rw [List.pairwise_iff_getElem]
  have key : ∀ j i, i < j → j < px.length → gt px i < gt px j := by
    intro j
    induction j with
    | zero => intro i h1; omega
    | succ j ih =>
      intro i h1 h2
      have h3 := rascB_of h (j + 1) h2 (by omega)
      rw [Nat.add_sub_cancel] at h3
      by_cases e : i = j
      · subst e; exact h3
      · have := ih i (by omega) (by omega); omega
  intro i j h1 h2 h3
  have := key j i h3 h2
  unfold gt at this
  simpa [h1, h2] using this
theorem listV_set {px : List Int} (hv : validM m = true) (h : listV m px = 0) : SetP m px := by
  refine ⟨rasc_pw ?_, fun j hj => (listV_ok h hv).1 j hj⟩
  unfold listV at h
  split at h
  · rename_i e; exact e
  · cases h
/-- Columns that depend on each other hold a circuit. -/
theorem dep_circ (hv : validM m = true) {px : List Int} (hp : SetP m px) (hd : (redN m px).piv.length ≠ px.length) : ∃ S, SetP m S ∧ 1 ≤ S.length ∧ circB m S = true ∧ (∀ j ∈ S, j ∈ px) ∧ S.length ≤ px.length := by
  have hm6 := (validM_of hv).2.1
  have h := redN_fin hv hp.ok
  obtain ⟨r, hr⟩ : ∃ r, redN m px = r := ⟨_, rfl⟩
  rw [hr] at h hd
  have hcnt := h.count
  obtain ⟨x, hx⟩ : ∃ x, x ∈ freeTo r.piv px.length := List.exists_mem_of_length_pos (by omega)
  obtain ⟨f, hf, rfl, hn⟩ := (freeTo_mem _ _ _).1 hx
  have hsup : ∀ j, j < colsM m → gt (putTo (colsM m) px (kvec r px.length f) px.length) j ≠ 0 → (j : Int) ∈ px := fun j _ e => Classical.byContradiction fun e2 => e (hp.put_no e2 _ (Nat.le_refl _))
  obtain ⟨S, h1, h2, h3, h4, _⟩ := circ_in hv _ (gt (putTo (colsM m) px (kvec r px.length f) px.length)) (Nat.le_refl _) (hp.put_ker (h.kvec_ker hm6 hf hn)) ⟨pos px f, hp.lt hf, by
    rw [hp.put_at _ (Nat.le_refl _) f hf, h.kvec_free hm6 (Nat.le_refl _) hf hn]
    have := h.pos; omega⟩
  have h5 : ∀ j ∈ S, j ∈ px := fun j hj => by
    have h6 := h4 j hj
    have := (suppL_set (m := m) _).ok j h6
    obtain ⟨y, rfl⟩ : ∃ y : Nat, j = (y : Int) := ⟨j.toNat, by omega⟩
    have := suppL_mem.1 h6
    exact hsup y this.1 this.2
  exact ⟨S, h1, h2, h3, h5, pw_sub h1.asc hp.asc h5⟩
theorem spark_ok (hv : validM m = true) : (sparkV m).2 = 0 ↔ circsAll m ≠ [] := by
  unfold sparkV circuitV
  rw [if_pos hv]
  cases circsAll m with
  | nil => simp
  | cons h t => simp
/-- Fewer columns than the spark are independent. -/
theorem spark_dep (hv : validM m = true) {px : List Int} (hi : indepV m px = (false, 0)) : (sparkV m).2 = 0 ∧ (sparkV m).1 ≤ px.length := by
  unfold indepV at hi
  rw [if_pos hv] at hi
  split at hi
  · rename_i hl
    have hp := listV_set hv hl
    have hd : (redN m px).piv.length ≠ px.length := by simpa using congrArg Prod.fst hi
    obtain ⟨S, h1, h2, h3, _, h5⟩ := dep_circ hv hp hd
    obtain ⟨S0, t, h6, h7, h8, h9, h10⟩ := circs_first hv h1 h2 h3
    have hs := (circP hv h7 h8 h9).size h7
    unfold sparkV circuitV
    rw [if_pos hv, h6]
    simp only [if_true]
    exact ⟨trivial, by rw [hs]; omega⟩
  · rename_i hl
    exact absurd (congrArg Prod.snd hi) hl
end
end Go.Proofs.Ytfkmlonhhdcfpaa
/- Circuit and Spark of the answers: contracts. -/
namespace Go.Proofs.Ytfkmlonhhdcfpaa
open Go.RowKit

set_option maxRecDepth 100000 in
set_option maxHeartbeats 800000 in
theorem rcircuits_no (a : Option Addr) (m : List (List Int)) (cap : Nat) (w : World) (hv : validM m = false) (hm : MOk m) (hs : Ms w a m) :
    Calls Try.prog 108 #[.slice a m.length cap] w fun e w' => e = .returned (.tuple #[.slice none 0 0, .int .i64 1]) ∧ w = w' := by
  have HVA : Hid (Calls Try.prog 45 #[.slice a m.length cap] w fun e w' => e = .returned (.bool false) ∧ w = w') := by rw [← hv]; exact rvalid_any a m cap w hm hs
  clear hv hm hs
  go_enter Try.func108, Try.ntmps108
  go_wp2_with (go_at_call 45; refine HVA.out.mono ?_; rintro e w1 ⟨rfl, rfl⟩)
  go_ret2
  exact ⟨rfl, rfl⟩
set_option maxRecDepth 100000 in
set_option maxHeartbeats 800000 in
theorem rcircuit_any (a : Option Addr) (m : List (List Int)) (cap : Nat) (w : World) (hm : MOk m) (hs : Ms w a m) : Calls Try.prog 79 #[.slice a m.length cap] w (LPost (circuitV m) w) := by
  cases hv : validM m with
  | false =>
    have HC := Lib.hid (rcircuits_no a m cap w hv hm hs)
    have HE : Hid (circuitV m = ([], 1)) := by show _ = _; unfold circuitV; rw [hv]; rfl
    clear hv hm hs
    go_enter Try.func79, Try.ntmps79
    go_wp2_with (go_at_call 108; refine HC.out.mono ?_; rintro e w1 ⟨rfl, rfl⟩)
    go_ret2
    exact LPost.err 1 HE.out (Below.refl _ _)
  | true =>
    have h0 := rcircuits_any a m cap w hv hm hs
    rw [circs_same hv] at h0
    have HC := Lib.hid h0
    have HE : Hid (circuitV m = match circsAll m with | [] => ([], 8) | h :: _ => (h, 0)) := by show _ = _; unfold circuitV; rw [if_pos hv]; cases circsAll m <;> rfl
    obtain ⟨L, hL⟩ : ∃ L, circsAll m = L := ⟨_, rfl⟩
    rw [hL] at HC HE
    clear hv hm hs h0 hL
    cases L with
    | nil =>
      go_enter Try.func79, Try.ntmps79
      go_wp2_with (go_at_call 108; refine HC.out.mono ?_; rintro e w1 ⟨ca, cc, rfl, _, hb⟩; have HB := Lib.hid hb; clear hb)
      go_ret2
      exact LPost.err 8 HE.out HB.out
    | cons h t =>
      obtain ⟨n, hn⟩ : ∃ n, (h :: t).length = n := ⟨_, rfl⟩
      have hn1 : (0 : Int) < (n : Int) := by have : n = t.length + 1 := by rw [← hn]; rfl
                                             omega
      have hn2 : ((n : Int) == 0) = false := by simp; omega
      rw [hn] at HC
      have HN := Lib.hid hn
      clear hn
      go_enter Try.func79, Try.ntmps79
      go_wp2_with fail
      refine HC.out.mono ?_
      rintro e w1 ⟨ca, cc, rfl, hms, hb⟩
      have HB := Lib.hid hb
      obtain ⟨b, o, ah, ch, rfl, hc, hsl⟩ := hms 0 (by rw [HN.out]; omega)
      have hc : w1.cell? ⟨b, o, none⟩ = some (.slice ah h.length ch) := hc
      have hsl : Sl w1 ah h := hsl
      have HSL := Lib.hid hsl
      clear hb hms hsl
      go_wp2
      go_ret2
      exact ⟨HB.out, ah, ch, by rw [HE.out]; rfl, by rw [HE.out]; exact HSL.out⟩
set_option maxRecDepth 100000 in
set_option maxHeartbeats 800000 in
theorem rspark_any (a : Option Addr) (m : List (List Int)) (cap : Nat) (w : World) (hm : MOk m) (hs : Ms w a m) :
    Calls Try.prog 39 #[.slice a m.length cap] w fun e w' => e = .returned (.tuple #[.int .i64 (sparkV m).1, .int .i64 (sparkV m).2]) ∧ Below w.heap.size w w' := by
  have HCI : Hid (Calls Try.prog 79 #[.slice a m.length cap] w (LPost (circuitV m) w)) := rcircuit_any a m cap w hm hs
  have HL := Lib.hid (circuitV_len (m := m))
  have HSP : Hid (sparkV m = if (circuitV m).2 = 0 then (nzTo (circuitV m).1 (circuitV m).1.length, 0) else (0, (circuitV m).2)) := rfl
  clear hm hs
  obtain ⟨⟨h, e0⟩, hr⟩ : ∃ r, circuitV m = r := ⟨_, rfl⟩
  rw [hr] at HCI HL HSP
  dsimp only at HL HSP
  clear hr
  by_cases he : e0 = 0
  · subst he
    rw [if_pos rfl] at HSP
    rw [HSP.out]
    dsimp only
    clear HSP
    go_enter Try.func39, Try.ntmps39
    go_wp2_with (go_at_call 79; refine HCI.out.mono ?_; rintro e w1 ⟨hb1, ah, ch, rfl, hsl⟩; dsimp only at hsl ⊢; have HB := Lib.hid hb1; have HS := Lib.hid hsl; clear hb1 hsl)
    go_loopw [6, 19] (fun v i wr => ∃ k : Nat, k ≤ h.length ∧ i = .int .i64 k ∧ v = .int .i64 (nzTo h k) ∧ wr = w1) (fun _ i _ => h.length - (intOf i).toNat)
    case atStart => exact ⟨0, Nat.zero_le _, rfl, rfl, rfl⟩
    case round =>
      obtain ⟨k, hk, rfl, rfl, rfl⟩ := hrel
      have hl := HL.out
      by_cases hlt : k < h.length
      · obtain ⟨b, o, x, rfl, hc, hx⟩ := HS.out.at hlt
        have hgx := gt_some' hx.out
        have hin := nzTo_in h k
        by_cases h0 : x = 0
        · subst h0
          have HT : Hid (nzTo h (k + 1) = nzTo h k) := by show _ = _; rw [nzTo, if_pos hgx]
          clear hgx
          go_wp2
          go_roundw
          case rel => exact ⟨k + 1, by omega, by go_num, by rw [HT.out], by first | trivial | rfl⟩
          case measure => simp [intOf]; omega
        · have HT : Hid (nzTo h (k + 1) = nzTo h k + 1) := by show _ = _; rw [nzTo, if_neg (by rw [hgx]; exact h0)]
          clear hgx
          have hne : (x != 0) = true := by simpa using h0
          obtain ⟨n, hn⟩ : ∃ n, nzTo h k = n := ⟨_, rfl⟩
          rw [hn] at hin HT ⊢
          clear hn
          go_wp2
          go_roundw
          case rel => exact ⟨k + 1, by omega, by go_num, by rw [HT.out], by first | trivial | rfl⟩
          case measure => simp [intOf]; omega
      · obtain rfl : k = h.length := by omega
        go_wp2
        go_ret2
        exact ⟨rfl, HB.out⟩
  · rw [if_neg he] at HSP
    rw [HSP.out]
    dsimp only
    have hne : (e0 != 0) = true := by simpa using he
    clear HSP he
    go_enter Try.func39, Try.ntmps39
    go_wp2_with (go_at_call 79; refine HCI.out.mono ?_; rintro e w1 ⟨hb1, ah, ch, rfl, hsl⟩; dsimp only; have HB := Lib.hid hb1; clear hb1 hsl)
    go_ret2
    exact ⟨rfl, HB.out⟩
end Go.Proofs.Ytfkmlonhhdcfpaa
/- Light of the statements, whatever it says; Circuits of the answers, whole. -/
namespace Go.Proofs.Ytfkmlonhhdcfpaa
open Go.RowKit

set_option maxRecDepth 100000 in
set_option maxHeartbeats 800000 in
theorem light_any (a : Option Addr) (m : List (List Int)) (cap : Nat) (w : World) (hl : m.length ≤ 9223372036854775807) (hs : Ms w a m) :
    Calls Try.prog 8 #[.slice a m.length cap] w fun e w' => (∃ b, e = .returned (.bool b)) ∧ w = w' := by
  have HS := Lib.hid hs; clear hs
  go_enter Try.func8, Try.ntmps8
  go_wp2
  go_loopw [3, 8] (fun v i wr => ∃ k : Nat, k ≤ m.length ∧ i = .int .i64 k ∧ (∃ n, v = .int .i64 n) ∧ wr = w) (fun _ i _ => m.length - (intOf i).toNat)
  case atStart => exact ⟨0, Nat.zero_le _, rfl, ⟨_, rfl⟩, rfl⟩
  case round =>
    obtain ⟨k, hk, rfl, ⟨n, rfl⟩, rfl⟩ := hrel
    by_cases hlt : k < m.length
    · obtain ⟨b, o, ai, r, ci, rfl, hc, _, hr⟩ := HS.out.at hlt
      clear hr
      obtain ⟨rl, hrl⟩ : ∃ rl, r.length = rl := ⟨_, rfl⟩
      rw [hrl] at hc
      clear hrl
      by_cases h7 : (7 : Int) < rl
      · by_cases h10 : (rl : Int) ≤ 10
        · go_wp2
          go_ret
          exact ⟨⟨_, rfl⟩, rfl⟩
        · go_wp2
          go_roundw
          case rel => exact ⟨k + 1, by omega, by go_num, ⟨_, rfl⟩, by first | trivial | rfl⟩
          case measure => simp [intOf]; omega
      · go_wp2
        go_roundw
        case rel => exact ⟨k + 1, by omega, by go_num, ⟨_, rfl⟩, by first | trivial | rfl⟩
        case measure => simp [intOf]; omega
    · obtain rfl : k = m.length := by omega
      go_wp2
      go_ret
      exact ⟨⟨_, rfl⟩, rfl⟩
theorem rcircuitsV_any (a : Option Addr) (m : List (List Int)) (cap : Nat) (w : World) (hm : MOk m) (hs : Ms w a m) :
    Calls Try.prog 108 #[.slice a m.length cap] w fun e w' => ∃ ca cc, e = .returned (.tuple #[.slice ca (circsV m).1.length cc, .int .i64 (circsV m).2]) ∧ Ms w' ca (circsV m).1 ∧ Below w.heap.size w w' := by
  cases hv : validM m with
  | false =>
    have e0 : circsV m = ([], 1) := by unfold circsV; rw [hv]; rfl
    rw [e0]
    refine (rcircuits_no a m cap w hv hm hs).mono ?_
    rintro e w' ⟨rfl, rfl⟩
    exact ⟨none, 0, rfl, fun k hk => by simp at hk, Below.refl _ _⟩
  | true =>
    have e0 : circsV m = (circsAll m, 0) := by unfold circsV; rw [if_pos hv]
    rw [e0]
    have h := rcircuits_any a m cap w hv hm hs
    rw [circs_same hv] at h
    exact h
theorem circsV_bd (m : List (List Int)) : (circsV m).1.length ≤ 10000 ∧ ∀ r ∈ (circsV m).1, r.length ≤ 10 := by
  cases hv : validM m with
  | false =>
    have e0 : circsV m = ([], 1) := by unfold circsV; rw [hv]; rfl
    rw [e0]; exact ⟨by simp, fun r hr => by cases hr⟩
  | true =>
    have e0 : circsV m = (circsAll m, 0) := by unfold circsV; rw [if_pos hv]
    rw [e0]
    exact ⟨circsAll_small hv, fun r hr => by rw [circsAll_len hr]; exact (validM_of hv).2.2.2.1⟩
end Go.Proofs.Ytfkmlonhhdcfpaa
/- SameRatios of equal lists, long of two lists: contracts. -/
namespace Go.Proofs.Ytfkmlonhhdcfpaa
open Go.RowKit

set_option maxRecDepth 1000000 in
set_option maxHeartbeats 1600000 in
theorem sameRat_any (a : Option Addr) (ps : List (Int × Int)) (ca : Nat) (b : Option Addr) (cb : Nat) (w : World) (hl : ps.length ≤ 1000) (ha : Rl w a ps) (hb : Rl w b ps) :
    Calls Try.prog 67 #[.slice a ps.length ca, .slice b ps.length cb] w fun e w' => e = .returned (.bool true) ∧ ∃ n, w' = w.drewN n := by
  have HA := Lib.hid ha; clear ha
  have HB := Lib.hid hb; clear hb
  obtain ⟨n, hn⟩ : ∃ n, ps.length = n := ⟨_, rfl⟩
  have HN := Lib.hid hn
  rw [hn] at hl ⊢
  clear hn
  go_enter Try.func67, Try.ntmps67
  go_wp2
  go_loopw [13] (fun i wr => ∃ k nd : Nat, k ≤ n ∧ i = .int .i64 k ∧ wr = w.drewN nd) (fun i _ => n - (intOf i).toNat)
  case atStart => exact ⟨0, 0, Nat.zero_le _, rfl, rfl⟩
  case round =>
    obtain ⟨k, nd, hk, rfl, rfl⟩ := hrel
    by_cases hlt : k < n
    · obtain ⟨p, hp⟩ : ∃ p, ps[k]? = some p := ⟨ps[k]'(by rw [HN.out]; exact hlt), by simp [HN.out, hlt]⟩
      obtain ⟨b1, rfl, a1, a2⟩ := HA.out k p hp
      obtain ⟨b2, rfl, c1, c2⟩ := HB.out k p hp
      obtain ⟨p1, p2⟩ := p
      dsimp only at a1 a2 c1 c2
      have hk0 : (k : Int) < (n : Int) := by omega
      clear hp
      go_wp2
      go_quiet (fail)
      all_goals
        go_wp2
        go_roundw
        case rel => exact ⟨k + 1, _, by omega, by go_num, by first | rfl | exact World.drewN_drewN _ _ _⟩
        case measure => simp [intOf]; omega
    · obtain rfl : k = n := by omega
      go_wp2
      go_ret
      exact ⟨rfl, _, rfl⟩
set_option maxRecDepth 100000 in
theorem long2_any (b o : Nat) (a0 : Option Addr) (n0 c0 : Nat) (a1 : Option Addr) (n1 c1 cap : Nat) (w : World) (_h0 : n0 ≤ 9223372036854775807) (_h1 : n1 ≤ 9223372036854775807) (hc0 : w.cell? ⟨b, o, none⟩ = some (.slice a0 n0 c0)) (hc1 : w.cell? ⟨b, o + 1, none⟩ = some (.slice a1 n1 c1)) :
    Calls Try.prog 9 #[.slice (some ⟨b, o, none⟩) 2 cap] w fun e w' => ∃ q, e = .returned (.bool q) ∧ (q = false → n0 ≤ 100 ∧ n1 ≤ 100) ∧ w = w' := by
  go_enter Try.func9, Try.ntmps9
  go_wp2
  go_loopw [7] (fun i wr => ∃ k : Nat, k ≤ 2 ∧ i = .int .i64 k ∧ wr = w ∧ (1 ≤ k → n0 ≤ 100) ∧ (2 ≤ k → n1 ≤ 100)) (fun i _ => 2 - (intOf i).toNat)
  case atStart => exact ⟨0, by omega, rfl, rfl, fun h => by omega, fun h => by omega⟩
  case round =>
    obtain ⟨k, hk, rfl, rfl, q0, q1⟩ := hrel
    by_cases hlt : k < 2
    · have hcell : ∃ ak nk ck, wr.cell? ⟨b, o + k, none⟩ = some (.slice ak nk ck) ∧ (nk ≤ 100 → (1 ≤ k + 1 → n0 ≤ 100) ∧ (2 ≤ k + 1 → n1 ≤ 100)) := by
        match k, hlt with
        | 0, _ => exact ⟨a0, n0, c0, hc0, fun h => ⟨fun _ => h, fun h2 => by omega⟩⟩
        | 1, _ => exact ⟨a1, n1, c1, hc1, fun h => ⟨fun _ => q0 (by omega), fun _ => h⟩⟩
      obtain ⟨ak, nk, ck, hck, hok⟩ := hcell
      have HOK := Lib.hid hok
      clear hok hc0 hc1
      by_cases h : nk > 100
      · have hk2 : (k : Int) < 2 := by omega
        go_wp2
        go_ret
        exact ⟨true, rfl, (fun h => absurd h (by decide)), rfl⟩
      · have hk2 : (k : Int) < 2 := by omega
        go_wp2
        go_roundw
        case rel => exact ⟨k + 1, by omega, by go_num, by first | trivial | rfl, (HOK.out (by omega)).1, (HOK.out (by omega)).2⟩
        case measure => simp [intOf]; omega
    · obtain rfl : k = 2 := by omega
      go_wp2
      go_ret
      exact ⟨_, rfl, fun _ => ⟨q0 (by omega), q1 (by omega)⟩, rfl⟩
end Go.Proofs.Ytfkmlonhhdcfpaa
/- Independent of both sides, readings checked: contracts. -/
namespace Go.Proofs.Ytfkmlonhhdcfpaa
open Go.RowKit

set_option maxRecDepth 100000 in
set_option maxHeartbeats 800000 in
theorem lread_any (ma : Option Addr) (m : List (List Int)) (mc : Nat) (a : Option Addr) (y : List Int) (cap : Nat) (w : World) (hm : MOk m) (hl : y.length ≤ 9223372036854775807) (hs : Ms w ma m) (hy : Sl w a y) :
    Calls Try.prog 131 #[.slice ma m.length mc, .slice a y.length cap] w fun e w' => e = .returned (.int .i64 (readE m y)) ∧ Below w.heap.size w w' := by
  have HVA : Hid (Calls Try.prog 42 #[.slice ma m.length mc] w fun e w' => e = .returned (.bool (validM m)) ∧ Below w.heap.size w w') := mvalid_any ma m mc w hm hs
  obtain ⟨q, hq⟩ : ∃ q, allB 1000000 y = q := ⟨_, rfl⟩
  have HWI : Hid (∀ W, Below w.heap.size w W → Calls Try.prog 52 #[.slice a y.length cap, .int .i64 1000000] W fun e w' => e = .returned (.bool q) ∧ W = w') := fun W hb => by rw [← hq]; exact lwithin_any a y cap 1000000 W (by decide) (by decide) hl (hy.below hb)
  have hml := hm.1
  cases hv : validM m
  case false =>
    rw [hv] at HVA
    have HE : Hid (readE m y = 1) := by show _ = _; simp [readE, hv]
    clear hv hq hs hy hm
    go_enter Try.func131, Try.ntmps131
    go_wp2_with (go_at_call 42; refine HVA.out.mono ?_; rintro e w1 ⟨rfl, hb⟩; have HB := Lib.hid hb; clear hb)
    go_ret
    exact ⟨ret_i64 HE.out.symm, HB.out⟩
  case true =>
    rw [hv] at HVA
    by_cases hlen : (y.length : Int) = (m.length : Int)
    · have y0 : ((y.length : Int) == (m.length : Int)) = true := by simpa using hlen
      have y1 : ((y.length : Int) != (m.length : Int)) = false := by simpa using hlen
      have HE : Hid (readE m y = if q = true then 0 else 7) := by show _ = _; unfold readE fitsV; rw [if_pos hv, if_pos hlen, hq]
      clear hv hq hs hy hm hlen
      cases q
      · go_enter Try.func131, Try.ntmps131
        go_wp2_with (first | (go_at_call 42; refine HVA.out.mono ?_; rintro e w1 ⟨rfl, hb⟩; have HB := Lib.hid hb; clear hb) | (go_at_call 52; refine (HWI.out w1 HB.out).mono ?_; rintro e w2 ⟨rfl, rfl⟩))
        go_ret
        exact ⟨ret_i64 (by rw [HE.out]; rfl), HB.out⟩
      · go_enter Try.func131, Try.ntmps131
        go_wp2_with (first | (go_at_call 42; refine HVA.out.mono ?_; rintro e w1 ⟨rfl, hb⟩; have HB := Lib.hid hb; clear hb) | (go_at_call 52; refine (HWI.out w1 HB.out).mono ?_; rintro e w2 ⟨rfl, rfl⟩))
        go_ret
        exact ⟨ret_i64 (by rw [HE.out]; rfl), HB.out⟩
    · have y0 : ((y.length : Int) == (m.length : Int)) = false := by simpa using hlen
      have y1 : ((y.length : Int) != (m.length : Int)) = true := by simpa using hlen
      have HE : Hid (readE m y = 9) := by show _ = _; unfold readE fitsV; rw [if_pos hv, if_neg hlen]
      clear hv hq hs hy hm hlen
      go_enter Try.func131, Try.ntmps131
      go_wp2_with (go_at_call 42; refine HVA.out.mono ?_; rintro e w1 ⟨rfl, hb⟩; have HB := Lib.hid hb; clear hb)
      go_ret
      exact ⟨ret_i64 HE.out.symm, HB.out⟩
set_option maxRecDepth 100000 in
set_option maxHeartbeats 800000 in
theorem rreading_any (ma : Option Addr) (m : List (List Int)) (mc : Nat) (a : Option Addr) (y : List Int) (cap : Nat) (w : World) (_hml : m.length ≤ 9223372036854775807) (hl : y.length ≤ 9223372036854775807) (hy : Sl w a y) :
    Calls Try.prog 119 #[.slice ma m.length mc, .slice a y.length cap] w fun e w' => e = .returned (.int .i64 (fitsV y m.length 1000000)) ∧ w = w' := by
  have HS := Lib.hid hy; clear hy
  by_cases hlen : (y.length : Int) = (m.length : Int)
  · have y0 : ((y.length : Int) == (m.length : Int)) = true := by simpa using hlen
    have y1 : ((y.length : Int) != (m.length : Int)) = false := by simpa using hlen
    have HE : Hid (fitsV y m.length 1000000 = if allB 1000000 y = true then 0 else 7) := by show _ = _; unfold fitsV; rw [if_pos hlen]
    clear hlen
    go_enter Try.func119, Try.ntmps119
    go_wp2
    go_loopw [14] (fun i wr => ∃ k : Nat, k ≤ y.length ∧ i = .int .i64 k ∧ wr = w ∧ ∀ j, j < k → outB 1000000 (y[j]?.getD 0) = false) (fun i _ => y.length - (intOf i).toNat)
    case atStart => exact ⟨0, Nat.zero_le _, rfl, rfl, fun j h => by omega⟩
    case round =>
      obtain ⟨k, hk, rfl, rfl, hno⟩ := hrel
      have HN := Lib.hid hno; clear hno
      by_cases hlt : k < y.length
      · obtain ⟨b, o, x, rfl, hc, hx⟩ := HS.out.at hlt
        have HX := Lib.hid hx.out
        have HNO : Hid (outB 1000000 x = true → allB 1000000 y = false) := fun h => allB_no hx.out h
        have HRG : Hid (rangeB x (-1000000) 1000000 = !outB 1000000 x) := range_out
        obtain ⟨bb, hbb⟩ : ∃ bb, outB 1000000 x = bb := ⟨_, rfl⟩
        rw [hbb] at HRG HNO
        have HBB := Lib.hid hbb
        clear hx hbb
        go_wp2_with (go_at_call 91; refine (rwithin3_any x (-1000000) 1000000 _).mono ?_; rintro e w1 ⟨rfl, rfl⟩; rw [HRG.out]; cases bb)
        · go_roundw
          case rel => exact ⟨k + 1, by omega, by go_num, by first | trivial | rfl, fun j hj => by
            by_cases e : j = k
            · subst e; rw [HX.out]; exact HBB.out
            · exact HN.out j (by omega)⟩
          case measure => simp [intOf]; omega
        · go_ret
          exact ⟨ret_i64 (by rw [HE.out, HNO.out (by first | trivial | rfl)]; rfl), rfl⟩
      · go_wp2
        go_ret
        exact ⟨ret_i64 (by rw [HE.out, allB_yes (fun j hj => HN.out j (by omega))]; rfl), rfl⟩
  · have y0 : ((y.length : Int) == (m.length : Int)) = false := by simpa using hlen
    have y1 : ((y.length : Int) != (m.length : Int)) = true := by simpa using hlen
    have HE : Hid (fitsV y m.length 1000000 = 9) := by show _ = _; unfold fitsV; rw [if_neg hlen]
    clear hlen
    go_enter Try.func119, Try.ntmps119
    go_wp2
    go_ret
    exact ⟨ret_i64 HE.out.symm, rfl⟩
set_option maxRecDepth 100000 in
set_option maxHeartbeats 800000 in
theorem lindep_any (ma : Option Addr) (m : List (List Int)) (mc : Nat) (a : Option Addr) (px : List Int) (cap : Nat) (w : World) (hm : MOk m) (hl : px.length ≤ 1000) (hs : Ms w ma m) (hp : Sl w a px) :
    Calls Try.prog 15 #[.slice ma m.length mc, .slice a px.length cap] w fun e w' => e = .returned (.tuple #[.bool (indepV m px).1, .int .i64 (indepV m px).2]) ∧ Below w.heap.size w w' := by
  have HVA : Hid (Calls Try.prog 42 #[.slice ma m.length mc] w fun e w' => e = .returned (.bool (validM m)) ∧ Below w.heap.size w w') := mvalid_any ma m mc w hm hs
  cases hv : validM m
  case false =>
    rw [hv] at HVA
    have HE : Hid (indepV m px = (false, 1)) := by show _ = _; simp [indepV, hv]
    clear hv hs hp hm
    rw [HE.out]
    go_enter Try.func15, Try.ntmps15
    go_wp2_with (go_at_call 42; refine HVA.out.mono ?_; rintro e w1 ⟨rfl, hb⟩; have HB := Lib.hid hb; clear hb)
    go_ret2
    exact ⟨rfl, HB.out⟩
  case true =>
    rw [hv] at HVA
    obtain ⟨v, hvv⟩ : ∃ v, listV m px = v := ⟨_, rfl⟩
    have HNA : Hid (∀ W, Below w.heap.size w W → Calls Try.prog 55 #[.slice ma m.length mc, .slice a px.length cap] W fun e w' => e = .returned (.int .i64 v) ∧ Below W.heap.size W w') := fun W hb => by rw [← hvv]; exact llisted_any ma m mc a px cap W hv hl (hs.below hb) (hp.below hb)
    by_cases h0 : v = 0
    · subst h0
      obtain ⟨h1, h2⟩ := listV_ok hvv hv
      obtain ⟨hm1, hm6, hc1, hc10, hrows⟩ := validM_of hv
      have h64 : Hid (All64 m) := fun q hq x hx => by
        obtain ⟨c, hc, rfl⟩ := mem_gt.1 hx
        have := gt_in (hrows q hq).2 hc
        unfold In64; omega
      obtain ⟨rd, hrd⟩ : ∃ rd, redN m px = rd := ⟨_, rfl⟩
      have HRD : Hid (∀ W, Below w.heap.size w W → Calls Try.prog 56 #[.slice ma m.length mc, .slice a px.length cap, .func (.func 57) #[] #[]] W (RdPost rd W)) := fun W hb => by rw [← hrd]; exact reduce_any0 (Lib.hid hm6) (Lib.hid hm1) (Lib.hid h2) (Lib.hid h1) (Lib.hid fun r hr => (hrows r hr).1) h64 (Lib.hid (hs.below hb)) (Lib.hid (hp.below hb))
      obtain ⟨q, hq⟩ : ∃ q, decide (rd.piv.length = px.length) = q := ⟨_, rfl⟩
      have HE : Hid (indepV m px = (q, 0)) := by show _ = _; unfold indepV; rw [if_pos hv, if_pos hvv, hrd, hq]
      have y0 : decide ((rd.piv.length : Int) = (px.length : Int)) = q := by rw [← hq, decide_eq_decide]; omega
      have y1 : ((rd.piv.length : Int) == (px.length : Int)) = q := by rw [← y0]; rfl
      clear hv hs hp hm hvv h1 h2 hq hrd hrows h64 hm1 hm6 hc1 hc10
      obtain ⟨cols, rows, piv, dv⟩ := rd
      dsimp only at y0 y1
      rw [HE.out]
      go_enter Try.func15, Try.ntmps15
      go_wp2_with (first | (go_at_call 42; refine HVA.out.mono ?_; rintro e w1 ⟨rfl, hb⟩; have HB := Lib.hid hb; clear hb) | (go_at_call 55; refine (HNA.out w1 HB.out).mono ?_; rintro e w2 ⟨rfl, hb2⟩; have HB2 : Hid (Below w.heap.size w w2) := HB.out.trans (hb2.mono HB.out.size); clear hb2) | (go_at_call 56; refine (HRD.out w2 HB2.out).mono ?_; rintro e w3 ⟨hb3, g, cp, ads, pa2, pc2, rfl, hgg, si, pi⟩; unfold rdV; dsimp only; have HB3 : Hid (Below w.heap.size w w3) := HB2.out.trans (hb3.mono HB2.out.size); clear si pi hgg hb3) | (go_at_call 58; refine (rank_any cols g rows.length cp pa2 piv pc2 dv _).mono ?_; rintro e w4 ⟨rfl, hb4⟩; have HB4 : Hid (Below w.heap.size w w4) := HB3.out.trans (hb4.mono HB3.out.size); clear hb4))
      go_ret2
      exact ⟨rfl, HB4.out⟩
    · have y0 : (v == 0) = false := by simpa using h0
      have y1 : (v != 0) = true := by simpa using h0
      have HE : Hid (indepV m px = (false, v)) := by show _ = _; unfold indepV; rw [if_pos hv, hvv, if_neg h0]
      clear hv hs hp hm hvv h0
      rw [HE.out]
      go_enter Try.func15, Try.ntmps15
      go_wp2_with (first | (go_at_call 42; refine HVA.out.mono ?_; rintro e w1 ⟨rfl, hb⟩; have HB := Lib.hid hb; clear hb) | (go_at_call 55; refine (HNA.out w1 HB.out).mono ?_; rintro e w2 ⟨rfl, hb2⟩; have HB2 : Hid (Below w.heap.size w w2) := HB.out.trans (hb2.mono HB.out.size); clear hb2))
      go_ret2
      exact ⟨rfl, HB2.out⟩
end Go.Proofs.Ytfkmlonhhdcfpaa
/- LinLeast: the walk. -/
namespace Go.Proofs.Ytfkmlonhhdcfpaa.linLeast
open Go.RowKit

/-- Is the support of h within c's? And is it the same? As far as the first k. -/
def withB (h c : List Int) (k : Nat) : Bool := (List.range k).all fun j => gt h j == 0 || gt c j != 0
def sameB (h c : List Int) (k : Nat) : Bool := (List.range k).all fun j => (gt h j == 0) == (gt c j == 0)
theorem withB_succ (h c : List Int) (k : Nat) : withB h c (k + 1) = (withB h c k && (gt h k == 0 || gt c k != 0)) := by
  unfold withB; rw [List.range_succ, List.all_append]; simp
theorem sameB_succ (h c : List Int) (k : Nat) : sameB h c (k + 1) = (sameB h c k && ((gt h k == 0) == (gt c k == 0))) := by
  unfold sameB; rw [List.range_succ, List.all_append]; simp
theorem with_same {m : List (List Int)} (hv : validM m = true) {c h : List Int} (hc : c ∈ circsAll m) (hk : kerB m h = true) (hw : withB h c (colsM m) = true) : sameB h c (colsM m) = true := by
  obtain ⟨S, h1, h2, h3, rfl⟩ := (circsAll_mem hv).1 hc
  have hp := circP hv h1 h2 h3
  have hl := hp.least hv hk fun j hj e => by
    unfold withB at hw
    rw [List.all_eq_true] at hw
    have := hw j (List.mem_range.2 hj)
    simpa [e] using this
  unfold sameB
  rw [List.all_eq_true]
  intro j hj
  have := hl j (List.mem_range.1 hj)
  rw [beq_iff_eq, Bool.eq_iff_iff]
  simpa using this
set_option maxRecDepth 1000000 in
set_option maxHeartbeats 8000000 in
theorem walk (b0 : Option Addr) (m0 : List (List Int)) (c0 : Nat) (b1 : Option Addr) (xs1 : List Int) (c1 : Nat) (b2 : Option Addr) (xs2 : List Int) (c2 : Nat) (w : World) (h0 : Ms w b0 m0) (r0 : MOk m0) (h1 : Sl w b1 xs1) (l1 : xs1.length ≤ 9223372036854775807) (_r1 : ∀ x ∈ xs1, I64 x) (h2 : Sl w b2 xs2) (l2 : xs2.length ≤ 9223372036854775807) (_r2 : ∀ x ∈ xs2, I64 x) :
    Calls Try.prog 3 #[.slice b0 m0.length c0, .slice b1 xs1.length c1, .slice b2 xs2.length c2] w fun e w' => e = .returned (.bool true) ∧ Below w.heap.size w w' := by
  have HS := Lib.hid h0
  have HX := Lib.hid h1
  have HY := Lib.hid h2
  have HM := Lib.hid r0
  have hml := r0.1
  have HLI : Hid (Calls Try.prog 8 #[.slice b0 m0.length c0] w fun e w' => (∃ b, e = .returned (.bool b)) ∧ w = w') := light_any b0 m0 c0 w hml HS.out
  obtain ⟨wl, hwl⟩ : ∃ wl, (w.alloc (.cells #[.slice b1 xs1.length c1, .slice b2 xs2.length c2] 24)) = wl := ⟨_, rfl⟩
  have HLN : Hid (Calls Try.prog 9 #[.slice (some ⟨w.heap.size, 0, none⟩) 2 2] (w.alloc (.cells #[.slice b1 xs1.length c1, .slice b2 xs2.length c2] 24)) fun e w' => w' = wl ∧ (e = .returned (.bool true) ∨ e = .returned (.bool false) ∧ Hid (xs1.length ≤ 100 ∧ xs2.length ≤ 100))) := by
    have k := long2_any w.heap.size 0 b1 xs1.length c1 b2 xs2.length c2 2 (w.alloc (.cells #[.slice b1 xs1.length c1, .slice b2 xs2.length c2] 24)) l1 l2 (alloc_cell w _ _ _ _ rfl) (alloc_cell w _ _ _ _ rfl)
    exact k.mono fun e w' ⟨q, k1, k2, k3⟩ => ⟨by rw [← k3]; exact hwl, by cases q with | true => exact .inl k1 | false => exact .inr ⟨k1, k2 rfl⟩⟩
  have HB1 : Hid (Below w.heap.size w wl) := by rw [← hwl]; exact (Below.refl _ _).alloc (Nat.le_refl _) _
  clear hwl
  have HSW : Hid (∀ V, Below w.heap.size w V → Ms V b0 m0) := fun V hb => HS.out.below hb
  have HXW : Hid (∀ V, Below w.heap.size w V → Sl V b1 xs1) := fun V hb => HX.out.below hb
  have HYW : Hid (∀ V, Below w.heap.size w V → Sl V b2 xs2) := fun V hb => HY.out.below hb
  have HCI : Hid (∀ V, Below w.heap.size w V → Calls Try.prog 11 #[.slice b0 m0.length c0] V fun e w' => ∃ ca cc, e = .returned (.tuple #[.slice ca (circsV m0).1.length cc, .int .i64 (circsV m0).2]) ∧ Ms w' ca (circsV m0).1 ∧ Below V.heap.size V w') := fun V hb => lcircuits_any b0 m0 c0 V r0 (HS.out.below hb)
  cases hv : validM m0 with
  | false =>
    have e0 : circsV m0 = ([], 1) := by unfold circsV; rw [hv]; rfl
    rw [e0] at HCI
    clear h0 h1 h2 r0 hv e0
    go_enter Try.func3, Try.ntmps3
    go_wp2_with (first
      | (go_at_call 8; refine HLI.out.mono ?_; rintro e w0 ⟨⟨bb, rfl⟩, rfl⟩; cases bb)
      | (go_at_call 9; refine HLN.out.mono ?_; rintro e w1 ⟨rfl, rfl | ⟨rfl, HQ⟩⟩)
      | (go_at_call 10; refine (awake_any _).mono ?_; rintro e w9 ⟨rfl, hb9⟩)
      | (go_at_call 11; refine (HCI.out _ HB1.out).mono ?_; rintro e w2 ⟨xa, xc, rfl, hm2, hb2⟩; have HB2 := Lib.hid (HB1.out.trans (hb2.mono HB1.out.size)); clear hm2 hb2))
    all_goals go_ret
    all_goals first
      | exact ⟨rfl, HB2.out.trans (hb9.mono HB2.out.size)⟩
      | exact ⟨rfl, HB1.out.trans (hb9.mono HB1.out.size)⟩
      | exact ⟨rfl, hb9⟩
  | true =>
    have e0 : circsV m0 = (circsAll m0, 0) := by unfold circsV; rw [if_pos hv]
    have HWS : Hid (∀ c ∈ circsAll m0, kerB m0 xs1 = true → withB xs1 c (colsM m0) = true → sameB xs1 c (colsM m0) = true) := fun c hc hk hw => with_same hv hc hk hw
    have HCK : Hid (∀ c ∈ circsAll m0, c.length = colsM m0 ∧ kerB m0 c = true ∧ primB c = true) := fun c hc => by
      obtain ⟨S, k1, k2, k3, rfl⟩ := (circsAll_mem hv).1 hc
      have hp := circP hv k1 k2 k3
      exact ⟨hp.len, hp.kerB hv k1 k2, hp.primB hv k1 k2⟩
    have HSO := Lib.hid (spark_ok hv)
    have HSD := Lib.hid fun h => spark_dep (px := xs2) hv h
    have hc10 := (validM_of hv).2.2.2.1
    have hll := circsAll_small hv
    have HKL : Hid (kerB m0 xs1 = true → xs1.length = colsM m0) := fun h => ((kerB_iff hv).1 h).1.1
    have hsp : sparkV m0 = sparkV m0 := rfl
    rw [e0] at HCI
    obtain ⟨L, hL⟩ : ∃ L, circsAll m0 = L := ⟨_, rfl⟩
    obtain ⟨n, hn⟩ : ∃ n, colsM m0 = n := ⟨_, rfl⟩
    rw [hL, hn] at HWS
    rw [hL, hn] at HCK
    rw [hL] at hll
    rw [hL] at HSO HCI
    rw [hn] at HKL hc10
    obtain ⟨ker, hker⟩ : ∃ ker, kerB m0 xs1 = ker := ⟨_, rfl⟩
    rw [hker] at HWS HKL
    have HRI : Hid (∀ V, Below w.heap.size w V → xs1.length ≤ 100 → Calls Try.prog 12 #[.slice b0 m0.length c0, .slice b1 xs1.length c1] V fun e w' => e = .returned (.bool ker) ∧ Below V.heap.size V w') := fun V hb hl => by rw [← hker]; exact riskernel_any b0 m0 c0 b1 xs1 c1 V HM.out (by omega) (HSW.out V hb) (HXW.out V hb)
    have HRK : Hid (∀ V, Below w.heap.size w V → ∀ c ∈ L, ∀ vi vc, Sl V vi c → Calls Try.prog 12 #[.slice b0 m0.length c0, .slice vi n vc] V fun e w' => e = .returned (.bool true) ∧ Below V.heap.size V w') := fun V hb c hc vi vc hs => by
      obtain ⟨q1, q2, _⟩ := HCK.out c hc
      have h := riskernel_any b0 m0 c0 vi c vc V HM.out (by omega) (HSW.out V hb) hs
      rw [q2, q1] at h
      exact h
    have HLK : Hid (∀ V, Below w.heap.size w V → ∀ c ∈ L, ∀ vi vc, Sl V vi c → Calls Try.prog 13 #[.slice b0 m0.length c0, .slice vi n vc] V fun e w' => e = .returned (.bool true) ∧ Below V.heap.size V w') := fun V hb c hc vi vc hs => by
      obtain ⟨q1, q2, _⟩ := HCK.out c hc
      have h := liskernel_any b0 m0 c0 vi c vc V HM.out (by omega) (HSW.out V hb) hs
      rw [q2, q1] at h
      exact h
    have HLP : Hid (∀ V, ∀ c ∈ L, ∀ vi vc, Sl V vi c → Calls Try.prog 14 #[.slice vi n vc] V fun e w' => e = .returned (.bool true) ∧ Below V.heap.size V w') := fun V c hc vi vc hs => by
      obtain ⟨q1, _, q3⟩ := HCK.out c hc
      have h := lprimitive_any vi c vc V (by omega) hs
      rw [q3, q1] at h
      exact h
    obtain ⟨⟨fr, fe⟩, hfr⟩ : ∃ r, indepV m0 xs2 = r := ⟨_, rfl⟩
    obtain ⟨⟨sp, se⟩, hsr⟩ : ∃ r, sparkV m0 = r := ⟨_, rfl⟩
    have HIN : Hid (∀ V, Below w.heap.size w V → xs2.length ≤ 100 → Calls Try.prog 15 #[.slice b0 m0.length c0, .slice b2 xs2.length c2] V fun e w' => e = .returned (.tuple #[.bool fr, .int .i64 fe]) ∧ Below V.heap.size V w') := fun V hb hl => by
      have h := lindep_any b0 m0 c0 b2 xs2 c2 V HM.out (by omega) (HSW.out V hb) (HYW.out V hb)
      rw [hfr] at h
      exact h
    have HSP : Hid (∀ V, Below w.heap.size w V → Calls Try.prog 16 #[.slice b0 m0.length c0] V fun e w' => e = .returned (.tuple #[.int .i64 sp, .int .i64 se]) ∧ Below V.heap.size V w') := fun V hb => by
      have h := spark_any b0 m0 c0 V HM.out (HSW.out V hb)
      rw [hsr] at h
      exact h
    rw [hfr, hsr] at HSD
    rw [hsr] at HSO
    dsimp only at HSO HSD HCI
    obtain ⟨ml, hml2⟩ : ∃ ml, m0.length = ml := ⟨_, rfl⟩
    rw [hml2] at HLI HCI HRI HRK HLK HIN HSP ⊢
    clear h0 h1 h2 r0 hv e0 hsp hL hn hfr hsr hml hml2 HM HS HX HY HSW HYW
    go_enter Try.func3, Try.ntmps3
    go_wp2_with (first
      | (go_at_call 8; refine HLI.out.mono ?_; rintro e w0 ⟨⟨bb, rfl⟩, rfl⟩; cases bb)
      | (go_at_call 9; refine HLN.out.mono ?_; rintro e w1 ⟨rfl, rfl | ⟨rfl, HQ⟩⟩)
      | (go_at_call 10; refine (awake_any _).mono ?_; rintro e w9 ⟨rfl, hb9⟩)
      | (go_at_call 11; refine (HCI.out _ HB1.out).mono ?_; rintro e w2 ⟨xa, xc, rfl, hm2, hb2⟩; have HB2 := Lib.hid (HB1.out.trans (hb2.mono HB1.out.size)); have HK2 := Lib.hid hm2; clear hm2 hb2)
      | (go_at_call 12; refine (HRI.out w2 HB2.out HQ.out.1).mono ?_; rintro e w3 ⟨rfl, hb3⟩; have HB3 := Lib.hid (HB2.out.trans (hb3.mono HB2.out.size)); have HK3 := Lib.hid (HK2.out.below hb3); clear hb3))
    · go_ret
      exact ⟨rfl, hb9⟩
    · go_ret
      exact ⟨rfl, HB1.out.trans (hb9.mono HB1.out.size)⟩
    · skip
      clear HLI HLN HCI HRI HB1 HB2 HK2
      go_loopw [43] (fun i wr => ∃ k : Nat, k ≤ L.length ∧ i = .int .i64 k ∧ Below w3.heap.size w3 wr) (fun i _ => L.length - (intOf i).toNat)
      case atStart => exact ⟨0, Nat.zero_le _, rfl, Below.refl _ _⟩
      case round =>
        obtain ⟨k, hk, rfl, hb⟩ := hrel
        have HB := Lib.hid hb; clear hb
        have HBW : Hid (Below w.heap.size w wr) := HB3.out.trans (HB.out.mono HB3.out.size)
        by_cases hlt : k < L.length
        · obtain ⟨b4, o4, ri, rci, rfl, hcr0, hsr0⟩ := (HK3.out.below HB.out) k hlt
          have hvm : rowL L k ∈ L := rowL_mem hlt
          have hcr : wr.cell? ⟨b4, o4 + k, none⟩ = some (.slice ri n rci) := by rw [← (HCK.out _ hvm).1]; exact hcr0
          have HC0 : Hid (Sl wr ri (rowL L k)) := hsr0
          have HVM := Lib.hid hvm
          have HCL := Lib.hid (HCK.out _ hvm).1
          have HWC := Lib.hid (HWS.out _ hvm)
          obtain ⟨c, hc⟩ : ∃ c, rowL L k = c := ⟨_, rfl⟩
          rw [hc] at HC0 HVM HCL HWC
          clear hcr0 hsr0 hvm hc
          cases ker with
          | false =>
            go_wp2_with (first
              | (go_at_call 12; refine (HRK.out wr HBW.out c HVM.out ri rci HC0.out).mono ?_; rintro e w4 ⟨rfl, hb4⟩; have HB4 := Lib.hid (HB.out.trans (hb4.mono HB.out.size)); have HBV4 := Lib.hid (HBW.out.trans (hb4.mono HBW.out.size)); have HC4 := Lib.hid (HC0.out.below hb4); clear hb4)
              | (go_at_call 13; refine (HLK.out w4 HBV4.out c HVM.out ri rci HC4.out).mono ?_; rintro e w5 ⟨rfl, hb5⟩; have HB5 := Lib.hid (HB4.out.trans (hb5.mono HB4.out.size)); have HC5 := Lib.hid (HC4.out.below hb5); clear hb5)
              | (go_at_call 14; refine (HLP.out w5 c HVM.out ri rci HC5.out).mono ?_; rintro e w6 ⟨rfl, hb6⟩; have HB6 := Lib.hid (HB5.out.trans (hb6.mono HB5.out.size)); clear hb6))
            go_roundw
            case rel => exact ⟨k + 1, by omega, by go_num, HB6.out⟩
            case measure => simp [intOf]; omega
          | true =>
            have hxl := HKL.out rfl
            have HWS2 := Lib.hid (HWC.out rfl)
            have HXL := Lib.hid hxl
            rw [hxl]
            clear hxl
            go_wp2_with (first
              | (go_at_call 12; refine (HRK.out wr HBW.out c HVM.out ri rci HC0.out).mono ?_; rintro e w4 ⟨rfl, hb4⟩; have HB4 := Lib.hid (HB.out.trans (hb4.mono HB.out.size)); have HBV4 := Lib.hid (HBW.out.trans (hb4.mono HBW.out.size)); have HC4 := Lib.hid (HC0.out.below hb4); clear hb4)
              | (go_at_call 13; refine (HLK.out w4 HBV4.out c HVM.out ri rci HC4.out).mono ?_; rintro e w5 ⟨rfl, hb5⟩; have HB5 := Lib.hid (HB4.out.trans (hb5.mono HB4.out.size)); have HBV5 := Lib.hid (HBV4.out.trans (hb5.mono HBV4.out.size)); have HC5 := Lib.hid (HC4.out.below hb5); clear hb5)
              | (go_at_call 14; refine (HLP.out w5 c HVM.out ri rci HC5.out).mono ?_; rintro e w6 ⟨rfl, hb6⟩; have HB6 := Lib.hid (HB5.out.trans (hb6.mono HB5.out.size)); have HBV6 := Lib.hid (HBV5.out.trans (hb6.mono HBV5.out.size)); have HC6 := Lib.hid (HC5.out.below hb6); clear hb6))
            have HX6 := Lib.hid (HXW.out w6 HBV6.out)
            clear hcr
            go_loopw [12, 13, 66] (fun wi sa i wr2 => ∃ j : Nat, j ≤ n ∧ i = .int .i64 j ∧ wi = .bool (withB xs1 c j) ∧ sa = .bool (sameB xs1 c j) ∧ wr2 = w6) (fun _ _ i _ => n - (intOf i).toNat)
            case atStart => exact ⟨0, Nat.zero_le _, rfl, rfl, rfl, rfl⟩
            case round =>
              obtain ⟨j, hj, rfl, rfl, rfl, rfl⟩ := hrel
              by_cases hjn : j < n
              · have hj1 : j < xs1.length := by rw [HXL.out]; exact hjn
                have hj2 : j < c.length := by rw [HCL.out]; exact hjn
                obtain ⟨xb, xo, x, rfl, hcx, hx⟩ := HX6.out.at hj1
                obtain ⟨yb, yo, y, rfl, hcy, hy⟩ := HC6.out.at hj2
                have HW : Hid (withB xs1 c (j + 1) = (withB xs1 c j && (x == 0 || y != 0))) := by show _ = _; rw [withB_succ, gt_some' hx.out, gt_some' hy.out]
                have HSB : Hid (sameB xs1 c (j + 1) = (sameB xs1 c j && ((x == 0) == (y == 0)))) := by show _ = _; rw [sameB_succ, gt_some' hx.out, gt_some' hy.out]
                obtain ⟨wb, hwb⟩ : ∃ wb, withB xs1 c j = wb := ⟨_, rfl⟩
                obtain ⟨sb, hsb⟩ : ∃ sb, sameB xs1 c j = sb := ⟨_, rfl⟩
                rw [hwb] at HW ⊢
                rw [hsb] at HSB ⊢
                clear hx hy hj1 hj2 hwb hsb
                by_cases hx0 : x = 0
                · subst hx0
                  by_cases hy0 : y = 0
                  · subst hy0
                    cases wb <;> cases sb
                    all_goals
                      go_wp2
                      go_roundw
                      case rel => exact ⟨j + 1, by omega, by go_num, by rw [HW.out]; rfl, by rw [HSB.out]; rfl, by first | trivial | rfl⟩
                      case measure => simp [intOf]; omega
                  · have hy1 : (y == 0) = false := by simpa using hy0
                    have hy2 : (y != 0) = true := by simpa using hy0
                    cases wb <;> cases sb
                    all_goals
                      go_wp2
                      go_roundw
                      case rel => exact ⟨j + 1, by omega, by go_num, by rw [HW.out, hy2]; rfl, by rw [HSB.out, hy1]; rfl, by first | trivial | rfl⟩
                      case measure => simp [intOf]; omega
                · have hx1 : (x == 0) = false := by simpa using hx0
                  have hx2 : (x != 0) = true := by simpa using hx0
                  by_cases hy0 : y = 0
                  · subst hy0
                    cases wb <;> cases sb
                    all_goals
                      go_wp2
                      go_roundw
                      case rel => exact ⟨j + 1, by omega, by go_num, by rw [HW.out, hx1]; rfl, by rw [HSB.out, hx1]; rfl, by first | trivial | rfl⟩
                      case measure => simp [intOf]; omega
                  · have hy1 : (y == 0) = false := by simpa using hy0
                    have hy2 : (y != 0) = true := by simpa using hy0
                    cases wb <;> cases sb
                    all_goals
                      go_wp2
                      go_roundw
                      case rel => exact ⟨j + 1, by omega, by go_num, by rw [HW.out, hx1, hy2]; rfl, by rw [HSB.out, hx1, hy1]; rfl, by first | trivial | rfl⟩
                      case measure => simp [intOf]; omega
              · obtain rfl : n = j := by omega
                have hws := HWS2.out
                obtain ⟨wb, hwb⟩ : ∃ wb, withB xs1 c n = wb := ⟨_, rfl⟩
                obtain ⟨sb, hsb⟩ : ∃ sb, sameB xs1 c n = sb := ⟨_, rfl⟩
                rw [hwb, hsb] at hws
                rw [hwb, hsb]
                clear hwb hsb
                have hdone : wb = false ∨ wb = true ∧ sb = true := by
                  cases wb with
                  | false => exact .inl rfl
                  | true => exact .inr ⟨rfl, hws rfl⟩
                clear hws
                rcases hdone with rfl | ⟨rfl, rfl⟩
                all_goals
                  go_wp2
                  go_roundw
                  case rel => exact ⟨k + 1, by omega, by go_num, HB6.out⟩
                  case measure => simp [intOf]; omega
        · obtain rfl : k = L.length := by omega
          have hsd := HSD.out
          have hso := HSO.out
          by_cases hL0 : L = []
          · subst hL0
            have hse : se ≠ 0 := fun e => hso.1 e rfl
            have hse1 : (se == 0) = false := by simpa using hse
            have hse2 : (se != 0) = true := by simpa using hse
            have hfr : fr = true ∨ fe ≠ 0 := by
              by_cases e : fe = 0
              · cases fr
                · exact absurd (hsd (by rw [e])).1 hse
                · exact .inl rfl
              · exact .inr e
            clear hsd hso
            by_cases hfe : fe = 0
            · subst hfe
              obtain rfl : fr = true := hfr.elim id fun e => absurd rfl e
              go_wp2_with (first
                | (go_at_call 15; refine (HIN.out wr HBW.out HQ.out.2).mono ?_; rintro e w7 ⟨rfl, hb7⟩; have HB7 := Lib.hid (HBW.out.trans (hb7.mono HBW.out.size)); clear hb7)
                | (go_at_call 16; refine (HSP.out w7 HB7.out).mono ?_; rintro e w8 ⟨rfl, hb8⟩; have HB8 := Lib.hid (HB7.out.trans (hb8.mono HB7.out.size)); clear hb8)
                | (go_at_call 10; refine (awake_any _).mono ?_; rintro e w9 ⟨rfl, hb9⟩))
              go_ret
              exact ⟨rfl, HB8.out.trans (hb9.mono HB8.out.size)⟩
            · have hfe1 : (fe == 0) = false := by simpa using hfe
              have hfe2 : (fe != 0) = true := by simpa using hfe
              go_wp2_with (first
                | (go_at_call 15; refine (HIN.out wr HBW.out HQ.out.2).mono ?_; rintro e w7 ⟨rfl, hb7⟩; have HB7 := Lib.hid (HBW.out.trans (hb7.mono HBW.out.size)); clear hb7)
                | (go_at_call 16; refine (HSP.out w7 HB7.out).mono ?_; rintro e w8 ⟨rfl, hb8⟩; have HB8 := Lib.hid (HB7.out.trans (hb8.mono HB7.out.size)); clear hb8)
                | (go_at_call 10; refine (awake_any _).mono ?_; rintro e w9 ⟨rfl, hb9⟩))
              go_ret
              exact ⟨rfl, HB8.out.trans (hb9.mono HB8.out.size)⟩
          · have hse : se = 0 := hso.2 hL0
            subst hse
            have hL1 : (0 : Int) < (L.length : Int) := by have := List.length_pos_iff.2 hL0; omega
            clear hso hL0
            by_cases hfe : fe = 0
            · subst hfe
              cases fr with
              | true =>
                clear hsd
                go_wp2_with (first
                  | (go_at_call 15; refine (HIN.out wr HBW.out HQ.out.2).mono ?_; rintro e w7 ⟨rfl, hb7⟩; have HB7 := Lib.hid (HBW.out.trans (hb7.mono HBW.out.size)); clear hb7)
                  | (go_at_call 16; refine (HSP.out w7 HB7.out).mono ?_; rintro e w8 ⟨rfl, hb8⟩; have HB8 := Lib.hid (HB7.out.trans (hb8.mono HB7.out.size)); clear hb8)
                  | (go_at_call 10; refine (awake_any _).mono ?_; rintro e w9 ⟨rfl, hb9⟩))
                go_ret
                exact ⟨rfl, HB8.out.trans (hb9.mono HB8.out.size)⟩
              | false =>
                have hsp := (hsd rfl).2
                clear hsd
                go_wp2_with (first
                  | (go_at_call 15; refine (HIN.out wr HBW.out HQ.out.2).mono ?_; rintro e w7 ⟨rfl, hb7⟩; have HB7 := Lib.hid (HBW.out.trans (hb7.mono HBW.out.size)); clear hb7)
                  | (go_at_call 16; refine (HSP.out w7 HB7.out).mono ?_; rintro e w8 ⟨rfl, hb8⟩; have HB8 := Lib.hid (HB7.out.trans (hb8.mono HB7.out.size)); clear hb8)
                  | (go_at_call 10; refine (awake_any _).mono ?_; rintro e w9 ⟨rfl, hb9⟩))
                go_ret
                exact ⟨rfl, HB8.out.trans (hb9.mono HB8.out.size)⟩
            · have hfe1 : (fe == 0) = false := by simpa using hfe
              have hfe2 : (fe != 0) = true := by simpa using hfe
              clear hsd
              go_wp2_with (first
                | (go_at_call 15; refine (HIN.out wr HBW.out HQ.out.2).mono ?_; rintro e w7 ⟨rfl, hb7⟩; have HB7 := Lib.hid (HBW.out.trans (hb7.mono HBW.out.size)); clear hb7)
                | (go_at_call 16; refine (HSP.out w7 HB7.out).mono ?_; rintro e w8 ⟨rfl, hb8⟩; have HB8 := Lib.hid (HB7.out.trans (hb8.mono HB7.out.size)); clear hb8)
                | (go_at_call 10; refine (awake_any _).mono ?_; rintro e w9 ⟨rfl, hb9⟩))
              go_ret
              exact ⟨rfl, HB8.out.trans (hb9.mono HB8.out.size)⟩
end Go.Proofs.Ytfkmlonhhdcfpaa.linLeast
