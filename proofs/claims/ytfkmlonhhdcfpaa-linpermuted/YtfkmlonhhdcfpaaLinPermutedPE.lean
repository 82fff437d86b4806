/- Parts of the proof of LinPermuted: plain words, walks and contracts, each under its own heading. -/
import Derived.Test.YtfkmlonhhdcfpaaLinPermutedPD
import Derived.Test.YtfkmlonhhdcfpaaLinPermutedPB
import Derived.Test.YtfkmlonhhdcfpaaLinPermutedPC
import Derived.Deep.AppendLies
import Derived.OwnWalkIn
import Derived.StillTailTactics
import Derived.RegionTactic
import Derived.WalkSmall
import Derived.Laws.ResultCell
import Derived.Test.YtfkmlonhhdcfpaaLinPermutedPA
/- IsKernel of both sides: contracts. -/
namespace Go.Proofs.Ytfkmlonhhdcfpaa
open Go.RowKit

theorem kerB_no {m : List (List Int)} {h : List Int} (e : validM m = false) : kerB m h = false := by unfold kerB; rw [readV_no e]; rfl
theorem kerB_err {m : List (List Int)} {h : List Int} (e : validM m = true) (e2 : fitsV h (colsM m) 1000000 ≠ 0) : kerB m h = false := by
  unfold kerB; rw [readV_err e rfl e2]; simp [e2]
theorem kerB_ok {m : List (List Int)} {h : List Int} (e : validM m = true) (e2 : fitsV h (colsM m) 1000000 = 0) : kerB m h = (!allZ h && allZ (readL m h)) := by
  unfold kerB; rw [readV_ok e e2]; simp
set_option maxRecDepth 100000 in
set_option maxHeartbeats 800000 in
theorem liskernel_any (a : Option Addr) (m : List (List Int)) (cap : Nat) (b : Option Addr) (xs : List Int) (cb : Nat) (w : World) (hm : MOk m) (hl : xs.length ≤ 140737488351232) (hs : Ms w a m) (hx : Sl w b xs) :
    Calls Try.prog 13 #[.slice a m.length cap, .slice b xs.length cb] w fun e w' => e = .returned (.bool (kerB m xs)) ∧ Below w.heap.size w w' := by
  have HRD := Lib.hid (mread_any a m cap b xs cb w hm (by omega) hs hx)
  have HX := Lib.hid hx
  obtain ⟨r, hr⟩ : ∃ r, readV m xs = r := ⟨_, rfl⟩
  obtain ⟨z, hz⟩ : ∃ z, allZ xs = z := ⟨_, rfl⟩
  have HKB : Hid (kerB m xs = (decide (r.2 = 0) && !z && allZ r.1)) := by show _ = _; unfold kerB; rw [hr, hz]
  have hl1 : r.1.length ≤ 140737488351232 := by
    rw [← hr]
    cases hv : validM m with
    | false => rw [readV_no hv]; simp
    | true =>
      by_cases hf : fitsV xs (colsM m) 1000000 = 0
      · rw [readV_ok hv hf]
        have := (validM_of hv).2.1
        simp [readL]; omega
      · rw [readV_err hv rfl hf]; simp
  rw [hr] at HRD
  have HC1 : Hid (∀ W, Sl W b xs → Calls Try.prog 50 #[.slice b xs.length cb, .func (.func 51) #[] #[]] W fun e w' => e = .returned (.bool (!z)) ∧ W = w') := fun W h => by rw [← hz]; exact containsNZ_any b xs cb W hl h
  obtain ⟨ry, rc⟩ := r
  dsimp only at HKB hl1 HRD
  obtain ⟨y, hy⟩ : ∃ y, allZ ry = y := ⟨_, rfl⟩
  rw [hy] at HKB
  have HC2 : Hid (∀ (W : World) (c : Option Addr) (cc : Nat), Sl W c ry → Calls Try.prog 50 #[.slice c ry.length cc, .func (.func 51) #[] #[]] W fun e w' => e = .returned (.bool (!y)) ∧ W = w') := fun W c cc h => by rw [← hy]; exact containsNZ_any c ry cc W hl1 h
  obtain ⟨q, hq⟩ : ∃ q, decide (rc = 0) = q := ⟨_, rfl⟩
  rw [hq] at HKB
  have hq2 : (rc == 0) = q := by rw [← hq]; rfl
  clear hs hx hm hr hz hy
  rw [HKB.out]
  cases q <;> cases z <;> cases y
  all_goals
    go_enter Try.func13, Try.ntmps13
    go_wp2_with (first | (go_at_call 49; refine HRD.out.mono ?_; rintro e w1 ⟨hb1, ra, rcp, rfl, hry⟩; have HB1 := Lib.hid hb1; have HRY := Lib.hid hry; clear hb1 hry) | (go_at_call 50; refine (HC1.out w1 (HX.out.below HB1.out)).mono ?_; rintro e w2 ⟨rfl, rfl⟩) | (go_at_call 50; refine (HC2.out w1 ra rcp HRY.out).mono ?_; rintro e w3 ⟨rfl, rfl⟩))
    go_ret
    exact ⟨rfl, HB1.out⟩
set_option maxRecDepth 100000 in
set_option maxHeartbeats 1600000 in
theorem riskernel_any (a : Option Addr) (m : List (List Int)) (cap : Nat) (b : Option Addr) (xs : List Int) (cb : Nat) (w : World) (hm : MOk m) (hl : xs.length ≤ 140737488351232) (hs : Ms w a m) (hx : Sl w b xs) :
    Calls Try.prog 12 #[.slice a m.length cap, .slice b xs.length cb] w fun e w' => e = .returned (.bool (kerB m xs)) ∧ Below w.heap.size w w' := by
  have HVA : Hid (Calls Try.prog 45 #[.slice a m.length cap] w fun e w' => e = .returned (.bool (validM m)) ∧ w = w') := rvalid_any a m cap w hm hs
  have HX := Lib.hid hx
  have HS := Lib.hid hs
  obtain ⟨v, hv⟩ : ∃ v, validM m = v := ⟨_, rfl⟩
  rw [hv] at HVA
  clear hm
  cases v with
  | false =>
    have HK : Hid (kerB m xs = false) := kerB_no hv
    clear hv hs hx
    go_enter Try.func12, Try.ntmps12
    go_wp2_with (go_at_call 45; refine HVA.out.mono ?_; rintro e w1 ⟨rfl, rfl⟩)
    go_ret
    exact ⟨ret_bool HK.out.symm, Below.refl _ _⟩
  | true =>
    obtain ⟨hm1, hm6, hc1, hc10, hrows⟩ := validM_of hv
    obtain ⟨b1, o1, ai, ci, rfl, hcell, hsl⟩ := hs 0 hm1
    have hl0 : (m[0]?.getD []).length = colsM m := (hrows _ (by simp [List.getElem?_eq_getElem hm1])).1
    rw [hl0, Nat.add_zero] at hcell
    have HRW : Hid (∀ q ∈ m, q.length = colsM m ∧ allB 1 q = true) := fun q hq => ⟨(hrows q hq).1, (hrows q hq).2⟩
    have HC0 := Lib.hid hc10
    have HVV := Lib.hid hv
    obtain ⟨n, hn⟩ : ∃ n, m.length = n := ⟨_, rfl⟩
    have HN := Lib.hid hn
    rw [hn] at HVA hm1 hm6 ⊢
    have hm10 : (0 : Int) < (n : Int) := by omega
    obtain ⟨c, hc⟩ : ∃ c, colsM m = c := ⟨_, rfl⟩
    have HCC := Lib.hid hc
    rw [hc] at hcell HRW HC0
    clear hsl hl0 hrows hv hs hx hn hc hc1 hc10
    by_cases hlen : xs.length = c
    · have y0 : ((xs.length : Int) == (c : Int)) = true := by simp [hlen]
      have y1 : ((xs.length : Int) != (c : Int)) = false := by simp [hlen]
      have HLEN := Lib.hid hlen
      clear hlen
      obtain ⟨q, hq⟩ : ∃ q, allB 1000000 xs = q := ⟨_, rfl⟩
      have HML : Hid (Calls Try.prog 46 #[.slice b xs.length cb] w fun e w' => e = .returned (.bool q) ∧ w = w') := by rw [← hq]; exact million_any b xs cb w (by omega) HX.out
      cases q with
      | false =>
        have HK : Hid (kerB m xs = false) := kerB_err HVV.out (by unfold fitsV; rw [if_pos (by rw [HLEN.out, HCC.out]), hq]; decide)
        clear hq
        go_enter Try.func12, Try.ntmps12
        go_wp2_with (first | (go_at_call 45; refine HVA.out.mono ?_; rintro e w1 ⟨rfl, rfl⟩) | (go_at_call 46; refine HML.out.mono ?_; rintro e w2 ⟨rfl, rfl⟩))
        go_ret
        exact ⟨ret_bool HK.out.symm, Below.refl _ _⟩
      | true =>
        have HQ := Lib.hid hq
        have HKB : Hid (kerB m xs = (!allZ xs && allZ (readL m xs))) := kerB_ok HVV.out (by unfold fitsV; rw [if_pos (by rw [HLEN.out, HCC.out]), hq]; rfl)
        clear hq
        obtain ⟨z, hz⟩ : ∃ z, allZ xs = z := ⟨_, rfl⟩
        have HNO : Hid (Calls Try.prog 47 #[.slice b xs.length cb] w fun e w' => e = .returned (.bool z) ∧ w = w') := by rw [← hz]; exact nothing3_any b xs cb w (by omega) HX.out
        rw [hz] at HKB
        clear hz
        cases z with
        | true =>
          have HK : Hid (kerB m xs = false) := by show _ = _; rw [HKB.out]; rfl
          clear HKB
          go_enter Try.func12, Try.ntmps12
          go_wp2_with (first | (go_at_call 45; refine HVA.out.mono ?_; rintro e w1 ⟨rfl, rfl⟩) | (go_at_call 46; refine HML.out.mono ?_; rintro e w2 ⟨rfl, rfl⟩) | (go_at_call 47; refine HNO.out.mono ?_; rintro e w3 ⟨rfl, rfl⟩))
          go_ret
          exact ⟨ret_bool HK.out.symm, Below.refl _ _⟩
        | false =>
          have HK : Hid (kerB m xs = allZ (readL m xs)) := by show _ = _; rw [HKB.out]; rfl
          clear HKB
          have HRL : Hid ((readL m xs).length = n) := by show _ = _; rw [← HN.out]; simp [readL]
          have HAT : Hid (∀ k, k < n → (readL m xs)[k]? = some (dot (rowL m k) xs)) := fun k hk => by
            have : k < m.length := by rw [HN.out]; exact hk
            unfold readL rowL; simp [this]
          go_enter Try.func12, Try.ntmps12
          go_wp2_with (first | (go_at_call 45; refine HVA.out.mono ?_; rintro e w1 ⟨rfl, rfl⟩) | (go_at_call 46; refine HML.out.mono ?_; rintro e w2 ⟨rfl, rfl⟩) | (go_at_call 47; refine HNO.out.mono ?_; rintro e w3 ⟨rfl, rfl⟩))
          clear hcell
          go_loopw [30] (fun i wr => ∃ k : Nat, k ≤ n ∧ i = .int .i64 k ∧ (∀ j, j < k → (readL m xs)[j]?.getD 0 = 0) ∧ Below w.heap.size w wr) (fun i _ => n - (intOf i).toNat)
          case atStart => exact ⟨0, Nat.zero_le _, rfl, fun j h => by omega, Below.refl _ _⟩
          case round =>
            obtain ⟨k, hk, rfl, hno, hb⟩ := hrel
            have HZ := Lib.hid hno; clear hno
            have HB := Lib.hid hb; clear hb
            by_cases hlt : k < n
            · obtain ⟨b2, o2, ri, rci, ee, hcr0, hsr0⟩ := (HS.out.below HB.out) k (by rw [HN.out]; exact hlt)
              cases ee
              have hrm : rowL m k ∈ m := rowL_mem (by rw [HN.out]; exact hlt)
              obtain ⟨r1, r2⟩ := HRW.out _ hrm
              have hsr : Sl wr ri (rowL m k) := hsr0
              have hcr : wr.cell? ⟨b1, o1 + k, none⟩ = some (.slice ri c rci) := by rw [← r1]; exact hcr0
              clear hcr0 hsr0
              have HDT : Hid (Calls Try.prog 48 #[.slice ri c rci, .slice b xs.length cb] wr fun e w' => e = .returned (.int .i64 (dot (rowL m k) xs)) ∧ ∃ n, w' = wr.drewN n) := by
                have h := rdot_any ri (rowL m k) rci b xs cb wr (by rw [r1]; exact HC0.out) (by rw [r1, HLEN.out]; exact Nat.le_refl _) (by omega) (PB_of r2 HQ.out (by rw [r1, HLEN.out]; exact Nat.le_refl _) (by decide)) hsr (HX.out.below HB.out)
                rw [r1] at h
                exact h
              have HA := Lib.hid (HAT.out k hlt)
              obtain ⟨d, hd⟩ : ∃ d, dot (rowL m k) xs = d := ⟨_, rfl⟩
              rw [hd] at HDT HA
              clear hd hrm r1 r2 hsr
              by_cases hd0 : d = 0
              · have HD0 := Lib.hid hd0
                have y2 : (d == 0) = true := by simp [hd0]
                have y3 : (d != 0) = false := by simp [hd0]
                clear hd0
                go_wp2_with (go_at_call 48; refine HDT.out.mono ?_; rintro e w5 ⟨rfl, nd, rfl⟩)
                go_roundw
                case rel => exact ⟨k + 1, by omega, by go_num, fun j hj => by
                  by_cases e : j = k
                  · subst e; rw [HA.out]; exact HD0.out
                  · exact HZ.out j (by omega), below_drewN HB.out _⟩
                case measure => simp [intOf]; omega
              · have y2 : (d == 0) = false := by simpa using hd0
                have y3 : (d != 0) = true := by simpa using hd0
                have HAZ : Hid (allZ (readL m xs) = false) := allZ_no HA.out hd0
                go_wp2_with (go_at_call 48; refine HDT.out.mono ?_; rintro e w5 ⟨rfl, nd, rfl⟩)
                go_ret
                exact ⟨ret_bool (by rw [HK.out, HAZ.out]), below_drewN HB.out _⟩
            · obtain rfl : n = k := by omega
              have HAZ : Hid (allZ (readL m xs) = true) := allZ_yes fun j hj => HZ.out j (by rw [HRL.out] at hj; exact hj)
              go_wp2
              go_ret
              exact ⟨ret_bool (by rw [HK.out, HAZ.out]), HB.out⟩
    · have y0 : ((xs.length : Int) == (c : Int)) = false := by simpa using fun e : (xs.length : Int) = (c : Int) => hlen (by omega)
      have y1 : ((xs.length : Int) != (c : Int)) = true := by simpa using fun e : (xs.length : Int) = (c : Int) => hlen (by omega)
      have HK : Hid (kerB m xs = false) := kerB_err HVV.out (by unfold fitsV; rw [if_neg (by rw [HCC.out]; omega)]; decide)
      go_enter Try.func12, Try.ntmps12
      go_wp2_with (go_at_call 45; refine HVA.out.mono ?_; rintro e w1 ⟨rfl, rfl⟩)
      go_ret
      exact ⟨ret_bool HK.out.symm, Below.refl _ _⟩
end Go.Proofs.Ytfkmlonhhdcfpaa
/- What slices.AppendSeq keeps between two values (lists of ints in memory that the iterator made). Speaks of no function. -/
namespace Go.Proofs.Ytfkmlonhhdcfpaa
open Go.RowKit

/-- The header of a value. -/
def hdS (x : SetV) : Option Addr × Nat := (some ⟨x.1, 0, none⟩, x.2.length)
/-- The box of the slice, the slice's own block and the values. -/
structure AppI (w : World) (v : Value) (pre : List SetV) (C T : Blk) (W : World) : Prop where
  r : W.cell? ⟨w.heap.size, 0, none⟩ = some v
  fr : W.frozen? ⟨w.heap.size, 0, none⟩ = false
  bw : Below w.heap.size w W
  nt : ∀ b, b < w.heap.size + 1 → ¬ T b
  nv : ∀ g, v.ownBlock = some g → ¬ T g
  cc : ∀ b, C b ↔ b = w.heap.size ∨ v.ownBlock = some b ∨ ∃ x ∈ pre, b = x.1
  own : HR (w.heap.size + 1) v (pre.map hdS) (pre.map Prod.snd) W
  mem : ∀ x ∈ pre, MemS x W ∧ ¬ T x.1 ∧ w.heap.size + 1 ≤ x.1
theorem AppI.keep {w : World} {v : Value} {pre : List SetV} {C T T' : Blk} {W W' : World} (h : AppI w v pre C T W) (ht : Turned T W W') (hT : ∀ b, T' b → T b ∨ W.heap.size ≤ b) : AppI w v pre C T' W' := by
  have l0 := cell_lt h.r
  dsimp only at l0
  have hnt : ∀ b, b < w.heap.size + 1 → ¬ T' b := fun b hb e => (hT b e).elim (h.nt b hb) (by omega)
  have hmem : ∀ x ∈ pre, MemS x W' ∧ ¬ T' x.1 ∧ w.heap.size + 1 ≤ x.1 := fun x hx => by
    obtain ⟨m1, m2, m3⟩ := h.mem x hx
    exact ⟨memS_turned m1 ht m2, fun e => (hT _ e).elim m2 (by have := (OwnI.lt m1).1; omega), m3⟩
  refine ⟨ht.cell h.r (h.nt _ (by show w.heap.size < _; omega)), (ht.frozen l0 (h.nt _ (by show w.heap.size < _; omega))).trans h.fr, h.bw.trans (ht.below h.bw.size fun b hb => h.nt b (by omega)), hnt, fun g hg e => (hT g e).elim (h.nv g hg) (by have := (World.ownsRow.lt h.own.own g hg).2; omega), h.cc, ?_, hmem⟩
  refine ⟨h.own.len, row_same h.own.own fun b e => ht.same b (World.ownsRow.lt h.own.own b e).2 (h.nv b e), fun i x r e1 e2 => ?_, fun i x e ad ea => ⟨Nat.lt_of_lt_of_le (h.own.out i x e ad ea).1 ht.size, (h.own.out i x e ad ea).2⟩⟩
  rw [List.getElem?_map] at e1 e2
  obtain ⟨y, hy, rfl⟩ := Option.map_eq_some_iff.1 e1
  rw [hy] at e2
  cases e2
  exact OwnI.sl (hmem y (List.mem_of_getElem? hy)).1
theorem AppI.client {w : World} : Client fun pre C T W => ∃ v, AppI w v pre C T W where
  lt := by
    rintro pre C T W ⟨v, h⟩ b hb
    rcases (h.cc b).1 hb with rfl | e | ⟨x, hx, rfl⟩
    · exact ⟨cell_lt h.r, h.nt _ (by omega)⟩
    · exact ⟨(World.ownsRow.lt h.own.own b e).2, h.nv b e⟩
    · exact ⟨(OwnI.lt (h.mem x hx).1).1, (h.mem x hx).2.1⟩
  keep := fun ⟨v, h⟩ ht hT => ⟨v, h.keep ht hT⟩
theorem AppI.ms {w : World} {v : Value} {pre : List SetV} {C T : Blk} {W : World} (h : AppI w v pre C T W) : ∃ a c, v = .slice a (pre.map Prod.snd).length c ∧ Ms W a (pre.map Prod.snd) := h.own.ms
/-- A header appended, under a fence. -/
theorem wpListIn_pushH {F : Fence} {n' : Nat} {ops : Array Oper} {rest : List Oper} {o : Oper} {act : Act} {Q : Exit → Act → World → Prop} (hgd : o.guard = none) (s x : Operand)
    (ho : o.op = .call { callee := .builtin .append, args := #[s, x], argTypes := #[22, 22] }) (base : Nat) (rv : Value) (n : Nat) (xs : List Value) (hd : Value) (h1 : hd.oneCell' = true) (V : World) (t : TypeId)
    (hv : act.eval s = rv) (hx : act.eval x = .slice (some ⟨V.heap.size, 0, none⟩) 1 1) (hown : (V.alloc (.cells #[hd] t)).ownsRow base 24 1 rv n xs) (hl : n ≤ 100000) (hbase : base ≤ V.heap.size)
    (h : ∀ g cap w', w'.ownsRow base 24 1 (.slice (some ⟨g, 0, none⟩) (n + 1) cap) (n + 1) (xs ++ [hd]) → (V.alloc (.cells #[hd] t)).grownBy w' rv.ownBlock → (rv.ownBlock = some g ∨ g = V.heap.size + 1) → g < w'.heap.size → wpListIn F n' Try.prog ops Q rest (act.put o.dst (.slice (some ⟨g, 0, none⟩) (n + 1) cap)) w') : wpListIn F n' Try.prog ops Q (o :: rest) act (V.alloc (.cells #[hd] t)) := by
  obtain ⟨i0, hi, hz0, hz1, hz2⟩ := info_parts Try.infoRowL
  refine wpListIn_plain hgd fun K hK => ?_
  obtain ⟨g, cap, w', hr, k2, k3, k4, k5⟩ := run_append_lies (P := Try.prog) (w := V.alloc (.cells #[hd] t)) 22 o.type base 24 i0 (.slice none 0 0) 1 24 Try.underlying22 hi hz0 hz1 hz2 rfl (by decide) rv n xs hown ⟨V.heap.size, 0, none⟩ 1 1 [hd] rfl (by
    intro j u hj
    match j, hj with
    | 0, hj => simp at hj; subst hj; rw [addr_add]; exact alloc_cell _ _ _ _ _ rfl
    | j + 1, hj => simp at hj) (by intro u hu; simp at hu; subst hu; exact h1) (by decide) (by unfold maxLen; omega) (by omega) (by rw [World.size_alloc]; omega) (V.heap.size + 1) (World.size_alloc _ _)
  unfold Oper.wpIn
  refine ⟨?_, ?_⟩
  · simp [Oper.about, ho, resolve, Target.leads, Sem.run_pure]
  · rw [Oper.semAt_plain F _ _ (by rw [ho]; intro c hc'; cases hc')]
    simp [execOp, ho, resolve, invoke, builtin, hv, hx, hr, Result.andThen]
    exact hK _ _ (h g cap w' k2 k3 k4 k5)
/-- The box, as a round has appended. -/
theorem AppI.box2 {w : World} {v : Value} {pre : List SetV} {C T : Blk} {V W2 : World} {o : Obj} (h : AppI w v pre C T V) (h2 : (V.alloc o).grownBy W2 v.ownBlock) : W2.cell? ⟨w.heap.size, 0, none⟩ = some v ∧ W2.frozen? ⟨w.heap.size, 0, none⟩ = false := by
  have l0 : w.heap.size < V.heap.size := cell_lt h.r
  have hbV : Below V.heap.size V (V.alloc o) := (Below.refl _ _).alloc (Nat.le_refl _) _
  have hbox : v.ownBlock ≠ some w.heap.size := fun e => by have := (World.ownsRow.lt h.own.own _ e).1; omega
  have blk : W2.heap[w.heap.size]? = V.heap[w.heap.size]? := (h2.block _ (by rw [World.size_alloc]; omega) (Ne.symm hbox)).trans (hbV.block _ l0)
  exact ⟨(World.cell?_of_block (a := ⟨w.heap.size, 0, none⟩) blk).trans h.r, (World.frozen?_of_block (a := ⟨w.heap.size, 0, none⟩) blk).trans h.fr⟩
/-- A round of AppendSeq. -/
theorem AppI.push {w : World} {v : Value} {pre : List SetV} {C T : Blk} {V W2 : World} {x : SetV} {g cap : Nat} {t : TypeId} (h : AppI w v pre C T V) (hx : MemS x V) (hT : T x.1)
    (h1 : W2.ownsRow (w.heap.size + 1) 24 1 (.slice (some ⟨g, 0, none⟩) (pre.length + 1) cap) (pre.length + 1) (hdO (pre.map hdS) (pre.map Prod.snd) ++ [.slice (some ⟨x.1, 0, none⟩) x.2.length x.2.length]))
    (h2 : (V.alloc (.cells #[.slice (some ⟨x.1, 0, none⟩) x.2.length x.2.length] t)).grownBy W2 v.ownBlock) (h3 : v.ownBlock = some g ∨ g = V.heap.size + 1) (hg : g < W2.heap.size) :
    Went (fun pre C T W => ∃ v, AppI w v pre C T W) (fun y b => b = y.1) pre x C T V (W2.setCell ⟨w.heap.size, 0, none⟩ (.slice (some ⟨g, 0, none⟩) (pre.length + 1) cap)) := by
  obtain ⟨V1, hV1⟩ : ∃ V1, V.alloc (.cells #[.slice (some ⟨x.1, 0, none⟩) x.2.length x.2.length] t) = V1 := ⟨_, rfl⟩
  have hV1s : V1.heap.size = V.heap.size + 1 := by rw [← hV1]; exact World.size_alloc _ _
  have hbV : Below V.heap.size V V1 := by rw [← hV1]; exact (Below.refl _ _).alloc (Nat.le_refl _) _
  rw [hV1] at h2
  have l0 : w.heap.size < V.heap.size := cell_lt h.r
  have hxl : x.1 < V.heap.size := (OwnI.lt hx).1
  have hxw : w.heap.size + 1 ≤ x.1 := Nat.le_of_not_lt fun e => h.nt _ e hT
  have hxv : v.ownBlock ≠ some x.1 := fun e => h.nv _ e hT
  have hgw : w.heap.size + 1 ≤ g := by
    rcases h3 with e | e
    · exact (World.ownsRow.lt h.own.own g e).1
    · omega
  have hxg : x.1 ≠ g := by
    rcases h3 with e | e
    · intro e2; exact hxv (by rw [e, e2])
    · omega
  have hvg : ∀ b, v.ownBlock = some b → b = g ∨ g = V.heap.size + 1 := fun b e => by
    rcases h3 with e2 | e2
    · rw [e] at e2; exact .inl (by cases e2; rfl)
    · exact .inr e2
  have h' := h.keep (turned_below hbV) (fun b e => Or.inl e)
  have hx' : MemS x V1 := OwnI.below hx hbV
  have hr := h'.own.push (row := x.2) (a := some ⟨x.1, 0, none⟩) (c := x.2.length) (g := g) (cap := cap) (OwnI.sl hx') (fun ad e => by cases e; exact ⟨by show x.1 < _; omega, hxv⟩) (by rw [List.length_map]; exact h1) h2 (by rw [hV1s]; exact h3)
  rw [List.length_map] at hr
  have blk : ∀ b, b < V1.heap.size → v.ownBlock ≠ some b → W2.heap[b]? = V1.heap[b]? := fun b hb hn => h2.block b hb (Ne.symm hn)
  have hbox : v.ownBlock ≠ some w.heap.size := fun e => by have := (World.ownsRow.lt h.own.own _ e).1; omega
  have memK : ∀ y : SetV, MemS y V → v.ownBlock ≠ some y.1 → w.heap.size + 1 ≤ y.1 → MemS y (W2.setCell ⟨w.heap.size, 0, none⟩ (.slice (some ⟨g, 0, none⟩) (pre.length + 1) cap)) := fun y hy hn hw => by
    have l := (OwnI.lt hy).1
    refine OwnI.sameBlock (OwnI.below hy hbV) ?_
    exact (Below.heap_setCell _ _ _ _ (by show y.1 ≠ w.heap.size; omega)).trans (blk _ (by omega) hn)
  have own' : ∀ y ∈ pre, v.ownBlock ≠ some y.1 := fun y hy e => by
    obtain ⟨i, hi, rfl⟩ := List.mem_iff_getElem.1 hy
    exact (h.own.out i (hdS pre[i]) (by simp [hi]) ⟨pre[i].1, 0, none⟩ rfl).2 e
  have hsz : V1.heap.size ≤ W2.heap.size := h2.size
  refine ⟨fun b => b = w.heap.size ∨ b = g ∨ ∃ y ∈ pre ++ [x], b = y.1, fun b => T b ∧ b ≠ x.1 ∧ b ≠ g, ⟨.slice (some ⟨g, 0, none⟩) (pre.length + 1) cap, ?_⟩, ?_, ?_, ?_⟩
  · refine ⟨?_, ?_, ?_, fun b hb e => h.nt b hb e.1, fun q hq e => ?_, fun b => ?_, ?_, fun y hy => ?_⟩
    · exact World.cell?_setCell_same _ _ _ ((World.cell?_of_block (blk _ (by show w.heap.size < _; omega) hbox)).trans h'.r)
    · have := (World.frozen?_of_block (a := ⟨w.heap.size, 0, none⟩) (blk _ (by show w.heap.size < _; omega) hbox)).trans h'.fr
      simpa using this
    · exact (h'.bw.grown h2 (by omega) (fun k e => by have := (World.ownsRow.lt h.own.own k e).1; omega)).setCell (p := ⟨w.heap.size, 0, none⟩) (Nat.le_refl _) _
    · simp [Value.ownBlock] at hq
      exact e.2.2 hq.symm
    · simp [Value.ownBlock, eq_comm]
    · have e1 : (pre ++ [x]).map hdS = pre.map hdS ++ [(some ⟨x.1, 0, none⟩, x.2.length)] := by simp [hdS]
      have e2 : (pre ++ [x]).map Prod.snd = pre.map Prod.snd ++ [x.2] := by simp
      rw [e1, e2]
      refine hr.far ?_ (fun i y hy ad ea => ?_) _
      · intro e; simp [Value.ownBlock] at e; omega
      · rcases get_snoc hy with hy | ⟨_, rfl⟩
        · rw [List.getElem?_map] at hy
          obtain ⟨z, hz, rfl⟩ := Option.map_eq_some_iff.1 hy
          have := (h.mem z (List.mem_of_getElem? hz)).2.2
          cases ea
          show z.1 ≠ w.heap.size
          omega
        · cases ea
          show x.1 ≠ w.heap.size
          omega
    · rcases List.mem_append.1 hy with hy | hy
      · obtain ⟨m1, m2, m3⟩ := h.mem y hy
        exact ⟨memK y m1 (own' y hy) m3, fun e => m2 e.1, m3⟩
      · obtain rfl : y = x := List.mem_singleton.1 hy
        exact ⟨memK y hx hxv hxw, fun e => e.2.1 rfl, hxw⟩
  · rintro b hb hl hn
    refine ⟨hb, hn, fun e => ?_⟩
    subst e
    rcases h3 with e | e
    · exact h.nv _ e hb
    · omega
  · rintro b (rfl | rfl | ⟨y, hy, rfl⟩)
    · exact .inl ((h.cc _).2 (.inl rfl))
    · rcases h3 with e | e
      · exact .inl ((h.cc _).2 (.inr (.inl e)))
      · exact .inr (.inr (by omega))
    · rcases List.mem_append.1 hy with hy | hy
      · exact .inl ((h.cc _).2 (.inr (.inr ⟨y, hy, rfl⟩)))
      · obtain rfl : y = x := List.mem_singleton.1 hy
        exact .inr (.inl rfl)
  · refine ((turned_below hbV).trans (turned_grown (T := fun b => C b ∨ b = x.1) h2 fun r e => .inl ((h.cc r).2 (.inr (.inl e)))) fun b e => .inl e).trans (turned_set _ _ (.inl ((h.cc _).2 (.inl rfl)))) fun b e => .inl e
end Go.Proofs.Ytfkmlonhhdcfpaa
/- slices.AppendSeq over lists of ints: the contract. -/
namespace Go.Proofs.Ytfkmlonhhdcfpaa
open Go.RowKit Go.Shelf
attribute [local go_sem] Oper.semAt_some

theorem AppI.start (w : World) : AppI w (.slice none 0 0) [] (fun b => b = w.heap.size) (fun _ => False) (w.alloc (.cells #[.slice none 0 0] 22)) := by
  refine ⟨alloc_cell _ _ _ _ _ rfl, by simp, (Below.refl _ _).alloc (Nat.le_refl _) _, fun _ _ e => e, fun _ h => (own_none h).elim, fun b => ?_, HR.nil _ _, fun x hx => by cases hx⟩
  simp [Value.ownBlock]
set_option maxRecDepth 100000 in
set_option maxHeartbeats 2000000 in
theorem appendSeq_in {gf : Nat} {lb : Array Value} (eg : ∀ args w, (callFunc gf args).run Try.prog w = .ok (.enter gf args) w) {Z : List (List Int)} {need : Blk} {w wq : World} (hseq : SeqM Try.prog gf lb encS MemS ownC Prod.snd Z need wq) (hb : Below wq.heap.size wq w) (hneed : ∀ b, need b → b < w.heap.size) (hZ : Z.length ≤ 10000) :
    CallsIn Fence.wide 50 Try.prog 85 #[.slice none 0 0, .func (.func gf) #[] lb] w fun e w' => ∃ ca cc, e = .returned (.slice ca Z.length cc) ∧ Ms w' ca Z ∧ Below w.heap.size w w' := by
  have HI0 := Lib.hid (AppI.start w)
  obtain ⟨V0, hV0⟩ : ∃ V0, w.alloc (.cells #[.slice none 0 0] 22) = V0 := ⟨_, rfl⟩
  have hVs : V0.heap.size = w.heap.size + 1 := by rw [← hV0]; exact World.size_alloc _ _
  rw [hV0] at HI0
  have HVS := Lib.hid hVs
  have HSEQ := Lib.hid hseq
  have HB := Lib.hid hb
  have HNEED := Lib.hid hneed
  have HZ := Lib.hid hZ
  clear hVs hseq hb hneed hZ
  refine callsIn_of_wp_marks Try.func85 rfl trivial ?_ rfl
  simp only [Try.ntmps85, List.size_toArray, List.length_cons, List.length_nil, Nat.reduceAdd, Nat.reduceSub, Array.replicate_succ, Array.replicate_zero, List.push_toArray, List.append_toArray, List.nil_append, List.cons_append]
  gi_wp2
  clear hV0
  refine wpIn_rangeFunc_M (by omega) (gf := gf) (lb := lb) rfl eg HSEQ.out (HB.out.trans (HI0.out.bw.mono HB.out.size)) (fun _ => rfl) memS_put
    (fun pre C T W => ∃ v, AppI w v pre C T W) (fun _ _ _ _ _ => False) AppI.client (fun _ => ⟨fun h => h.elim, fun h => h.elim⟩) (fun b => b = w.heap.size) (fun _ => False) ?need (fun _ e => e.elim) ⟨_, HI0.out⟩
    (fun x => { tmps := #[.slice none 0 0, .func (.func gf) #[] lb, .pointer (some ⟨w.heap.size, 0, none⟩), undef, .slice none 0 0, .slice (some ⟨x.1, 0, none⟩) x.2.length x.2.length, .func (.func gf) #[] lb, .slice (some ⟨x.1, 0, none⟩) x.2.length x.2.length, undef, undef, undef, undef, undef], defers := [] }) ?assign ?body ?done ?stop
  case need =>
    have h2 := HVS.out
    intro b hb
    have := HNEED.out b hb
    exact ⟨by omega, by omega⟩
  case assign =>
    intro l2 x V K hK
    gi_wp2
    exact hK
  case body =>
    rintro l2 pre ⟨xb, xs⟩ C T V ⟨v, hI⟩ hmem hown ⟨rest, hrest⟩
    have HP : Hid (pre.length ≤ 100000) := by
      show _ ≤ _
      have e := congrArg List.length hrest
      have := HZ.out
      simp at e
      omega
    have HI := Lib.hid hI
    have HM := Lib.hid hmem
    have HT := Lib.hid (hown xb rfl)
    have c0 := hI.r
    have f0 := hI.fr
    have HOW : Hid ((V.alloc (.cells #[.slice (some ⟨xb, 0, none⟩) xs.length xs.length] 24)).ownsRow (w.heap.size + 1) 24 1 v pre.length (hdO (pre.map hdS) (pre.map Prod.snd))) := by
      have h := (hI.own.below ((Below.refl _ V).alloc (Nat.le_refl _) (.cells #[.slice (some ⟨xb, 0, none⟩) xs.length xs.length] 24))).own
      rw [List.length_map] at h
      exact h
    have HBS : Hid (w.heap.size + 1 ≤ V.heap.size) := cell_lt hI.r
    clear hI hmem hown hrest
    dsimp only
    gi_wp2_with (gi_at_builtin; refine wpListIn_pushH rfl (.tmp 8) (.tmp 10) rfl (w.heap.size + 1) v pre.length (hdO (pre.map hdS) (pre.map Prod.snd)) _ rfl V _ rfl rfl HOW.out HP.out HBS.out ?_; intro g cap W2 k1 k2 k3 k4; obtain ⟨c2, f2⟩ := HI.out.box2 k2; have HK1 := Lib.hid k1; have HK2 := Lib.hid k2; have HK3 := Lib.hid k3; have HK4 := Lib.hid k4; clear k1 k2 k3 k4)
    exact HI.out.push HM.out HT.out HK1.out HK2.out HK3.out HK4.out
  case done =>
    rintro D ys C T V hD hys ⟨v, hI⟩ hTD hK
    obtain ⟨ca, cc, rfl, hms⟩ := hI.ms
    rw [hys] at hI hms
    have c0 := hI.r
    have HMS := Lib.hid hms
    have HI := Lib.hid hI
    have HT := Lib.hid hTD
    have HK := Lib.hid hK
    have HYS := Lib.hid hys
    clear hI hms hys hTD hK hD
    have HKD : Hid (∀ E, E ∈ [D] → V.heap[E]? = some (.deferred (some []))) := fun E hE => List.mem_singleton.1 hE ▸ HK.out
    gi_wp2
    refine leaves_marks2 (fun W => AppI w (.slice ca Z.length cc) ys C T W) [D] ?_ ?_ [D] V (fun _ h => h) (by simp) (fun E hE => HKD.out E hE) HI.out
    · intro W E hE hW
      obtain rfl : E = D := by simpa using hE
      exact hW.keep (turned_put W _ HT.out) fun b e => .inl e
    · intro W hW
      obtain ⟨a', c', e, hm⟩ := hW.ms
      rw [HYS.out] at e hm
      cases e
      exact ⟨.slice ca Z.length cc, by simp [results, Try.results85, go_sem], ca, cc, rfl, hm, hW.bw⟩
  case stop =>
    rintro D c pre C T V hD h
    exact h.elim
end Go.Proofs.Ytfkmlonhhdcfpaa
/- slices.Collect over lists of ints; Circuits of layer 3: contracts. -/
namespace Go.Proofs.Ytfkmlonhhdcfpaa
open Go.RowKit Go.Shelf

set_option maxRecDepth 100000 in
set_option maxHeartbeats 800000 in
theorem collect_any {gf : Nat} {lb : Array Value} (eg : ∀ args w, (callFunc gf args).run Try.prog w = .ok (.enter gf args) w) {Z : List (List Int)} {need : Blk} {w wq : World} (hseq : SeqM Try.prog gf lb encS MemS ownC Prod.snd Z need wq) (hb : Below wq.heap.size wq w) (hneed : ∀ b, need b → b < w.heap.size) (hZ : Z.length ≤ 10000) :
    Calls Try.prog 43 #[.func (.func gf) #[] lb] w fun e w' => ∃ ca cc, e = .returned (.slice ca Z.length cc) ∧ Ms w' ca Z ∧ Below w.heap.size w w' := by
  have HC := Lib.hid (callsIn_wide.1 (appendSeq_in eg hseq hb hneed hZ))
  clear hseq hb hneed hZ
  go_enter Try.func43, Try.ntmps43
  go_wp2_with (go_at_call 85; refine HC.out.mono ?_; rintro e w1 ⟨ca, cc, rfl, hms, hb⟩; have HM := Lib.hid hms; have HB := Lib.hid hb; clear hms hb)
  go_ret
  exact ⟨ca, cc, rfl, HM.out, HB.out⟩
/-- What Circuits answers. -/
def circsV (m : List (List Int)) : List (List Int) × Int := if validM m = true then (circsAll m, 0) else ([], 1)
theorem len_small : ∀ n, n ≤ 10 → ∀ r, r ≤ 11 → (compl n r 0).length ≤ 300 := by decide +kernel
theorem circsTo_small {m : List (List Int)} (hc : colsM m ≤ 10) : ∀ k, k ≤ 11 → (circsTo m k).length ≤ 300 * k
  | 0, _ => by simp [circsTo]
  | k + 1, h => by
    rw [circsTo_succ, List.length_append, List.length_map]
    have h1 := circsTo_small hc k (by omega)
    have h2 := List.length_filter_le (circB m) (compl (colsM m) (k + 1) 0)
    have h3 := len_small (colsM m) hc (k + 1) h
    omega
theorem circsAll_small {m : List (List Int)} (hv : validM m = true) : (circsAll m).length ≤ 10000 := by
  obtain ⟨_, h6, _, h10, _⟩ := validM_of hv
  have hr : rankM m ≤ m.length := (basis_fin hv).pl
  have := circsTo_small h10 (rankM m + 1) (by omega)
  unfold circsAll
  omega
set_option maxRecDepth 100000 in
set_option maxHeartbeats 800000 in
theorem lcircuits_any (a : Option Addr) (m : List (List Int)) (cap : Nat) (w : World) (hm : MOk m) (hs : Ms w a m) :
    Calls Try.prog 11 #[.slice a m.length cap] w fun e w' => ∃ ca cc, e = .returned (.tuple #[.slice ca (circsV m).1.length cc, .int .i64 (circsV m).2]) ∧ Ms w' ca (circsV m).1 ∧ Below w.heap.size w w' := by
  have HV := Lib.hid (mvalid_any a m cap w hm hs)
  have HS := Lib.hid hs
  clear hs
  cases hv : validM m with
  | false =>
    rw [hv] at HV
    have HE : Hid (circsV m = ([], 1)) := by show _ = _; unfold circsV; rw [hv]; rfl
    clear hv hm
    rw [HE.out]
    go_enter Try.func11, Try.ntmps11
    go_wp2_with (go_at_call 42; refine HV.out.mono ?_; rintro e w1 ⟨rfl, hb⟩; have HB := Lib.hid hb; clear hb)
    go_ret2
    exact ⟨none, 0, rfl, fun k hk => by simp at hk, HB.out⟩
  | true =>
    rw [hv] at HV
    have HE : Hid (circsV m = (circsAll m, 0)) := by show _ = _; unfold circsV; rw [if_pos hv]
    have HVV := Lib.hid hv
    have HSM := Lib.hid (circsAll_small hv)
    clear hv hm
    rw [HE.out]
    go_enter Try.func11, Try.ntmps11
    go_wp2_with (first
      | (go_at_call 42; refine HV.out.mono ?_; rintro e w1 ⟨rfl, hb⟩; have HB := Lib.hid hb; clear hb)
      | (go_at_call 44; refine (circuits_any a m.length cap w1).mono ?_; rintro e w2 ⟨rfl, hw2⟩; have HW2 := Lib.hid hw2; clear hw2))
    have hbV : Below w1.heap.size w1 w2 := by rw [HW2.out]; exact (Below.refl _ _).alloc (Nat.le_refl _) _
    have hcB : w2.cell? ⟨w1.heap.size, 0, none⟩ = some (.slice a m.length cap) := by rw [HW2.out]; exact alloc_cell _ _ _ _ _ rfl
    have hvs : w2.heap.size = w1.heap.size + 1 := by rw [HW2.out]; exact World.size_alloc _ _
    have HBV : Hid (Below w.heap.size w w2) := HB.out.trans (hbV.mono HB.out.size)
    have HCC := Lib.hid (collect_any (enters_of Try.func86 (by kernel_rfl) rfl) (circuits1_seq (w0 := w) HVV.out HS.out HBV.out hcB) (Below.refl _ _) (by have := HB.out.size; rintro b (e | rfl) <;> omega) HSM.out)
    clear hbV hcB hvs HW2
    go_wp2_with (go_at_call 43; refine HCC.out.mono ?_; rintro e w3 ⟨ca, cc, rfl, hms, hb3⟩; have HM := Lib.hid hms; have HB3 := Lib.hid hb3; clear hms hb3)
    go_ret2
    exact ⟨ca, cc, rfl, HM.out, HBV.out.trans (HB3.out.mono HBV.out.size)⟩
end Go.Proofs.Ytfkmlonhhdcfpaa
/- All circuits, the first one, and what depends on itself: by least supports. Plain words. Speaks of no program. -/
namespace Go.Proofs.Ytfkmlonhhdcfpaa
open Go.RowKit

theorem pw_len : ∀ (s : List Int) (b n : Nat), b ≤ n → s.Pairwise (· < ·) → (∀ j ∈ s, (b : Int) ≤ j ∧ j < n) → s.length + b ≤ n
  | [], b, n, hb, _, _ => by simpa using hb
  | x :: t, b, n, hb, hp, hj => by
    have h1 := hj x List.mem_cons_self
    rw [List.pairwise_cons] at hp
    have := pw_len t (x.toNat + 1) n (by omega) hp.2 fun j h => by
      have := hp.1 j h
      have := hj j (List.mem_cons_of_mem _ h)
      omega
    rw [List.length_cons]; omega
theorem compl_of : ∀ (s : List Int) (b n : Nat), s.Pairwise (· < ·) → (∀ j ∈ s, (b : Int) ≤ j ∧ j < n) → s ∈ compl n s.length b
  | [], b, n, _, _ => by simp [compl]
  | x :: t, b, n, hp, hj => by
    have h1 := hj x List.mem_cons_self
    rw [List.pairwise_cons] at hp
    have ht : ∀ j ∈ t, ((x.toNat + 1 : Nat) : Int) ≤ j ∧ j < n := fun j h => by
      have := hp.1 j h
      have := hj j (List.mem_cons_of_mem _ h)
      omega
    have hl := pw_len t (x.toNat + 1) n (by omega) hp.2 ht
    have ih := compl_of t (x.toNat + 1) n hp.2 ht
    rw [List.length_cons]
    unfold compl
    refine List.mem_flatMap.2 ⟨x.toNat - b, List.mem_range.2 (by omega), List.mem_map.2 ⟨t, ?_, ?_⟩⟩
    · rw [show b + (x.toNat - b) + 1 = x.toNat + 1 by omega]; exact ih
    · rw [show ((b + (x.toNat - b) : Nat) : Int) = x by omega]
theorem compl_asc {n : Nat} : ∀ {r b : Nat} {s : List Int}, s ∈ compl n r b → s.Pairwise (· < ·)
  | 0, b, s, h => by
    have : s = [] := by simpa [compl] using h
    subst this; exact List.Pairwise.nil
  | r + 1, b, s, h => by
    unfold compl at h
    obtain ⟨d, _, h2⟩ := List.mem_flatMap.1 h
    obtain ⟨t, ht, rfl⟩ := List.mem_map.1 h2
    rw [List.pairwise_cons]
    exact ⟨fun j hj => by have := (compl_mem ht).2 j hj; omega, compl_asc ht⟩
theorem pw_ext : ∀ {a b : List Int}, a.Pairwise (· < ·) → b.Pairwise (· < ·) → (∀ x, x ∈ a ↔ x ∈ b) → a = b
  | [], [], _, _, _ => rfl
  | [], y :: b, _, _, h => by have := (h y).2 List.mem_cons_self; cases this
  | x :: a, [], _, _, h => by have := (h x).1 List.mem_cons_self; cases this
  | x :: a, y :: b, ha, hb, h => by
    rw [List.pairwise_cons] at ha hb
    have e : x = y := by
      rcases List.mem_cons.1 ((h x).1 List.mem_cons_self) with e | e
      · exact e
      · rcases List.mem_cons.1 ((h y).2 List.mem_cons_self) with e2 | e2
        · exact e2.symm
        · have := hb.1 x e; have := ha.1 y e2; omega
    subst e
    congr 1
    refine pw_ext ha.2 hb.2 fun z => ⟨fun hz => ?_, fun hz => ?_⟩
    · rcases List.mem_cons.1 ((h z).1 (List.mem_cons_of_mem _ hz)) with e | e
      · have := ha.1 z hz; omega
      · exact e
    · rcases List.mem_cons.1 ((h z).2 (List.mem_cons_of_mem _ hz)) with e | e
      · have := hb.1 z hz; omega
      · exact e
theorem pw_sub : ∀ {b a : List Int}, a.Pairwise (· < ·) → b.Pairwise (· < ·) → (∀ x ∈ a, x ∈ b) → a.length ≤ b.length
  | _, [], _, _, _ => Nat.zero_le _
  | [], x :: a, _, _, h => by have := h x List.mem_cons_self; cases this
  | y :: b, x :: a, ha, hb, h => by
    rw [List.pairwise_cons] at hb
    rcases List.mem_cons.1 (h x List.mem_cons_self) with e | e
    · subst e
      rw [List.pairwise_cons] at ha
      have := pw_sub (b := b) ha.2 hb.2 fun z hz => by
        rcases List.mem_cons.1 (h z (List.mem_cons_of_mem _ hz)) with e | e
        · have := ha.1 z hz; omega
        · exact e
      simpa using this
    · have := pw_sub (b := b) ha hb.2 fun z hz => by
        rcases List.mem_cons.1 (h z hz) with e2 | e2
        · have h1 := hb.1 x e
          rcases List.mem_cons.1 hz with e3 | e3
          · omega
          · rw [List.pairwise_cons] at ha
            have := ha.1 z e3; omega
        · exact e2
      simp only [List.length_cons] at this ⊢
      omega
section
variable {m : List (List Int)}
theorem compl_set {r : Nat} {s : List Int} (h : s ∈ compl (colsM m) r 0) : SetP m s := ⟨compl_asc h, fun j hj => by have := (compl_mem h).2 j hj; omega⟩
theorem SetP.compl {s : List Int} (h : SetP m s) : s ∈ compl (colsM m) s.length 0 := compl_of s 0 _ h.asc fun j hj => by have := h.ok j hj; omega
theorem circsTo_mem {k : Nat} {c : List Int} : c ∈ circsTo m k ↔ ∃ S, SetP m S ∧ 1 ≤ S.length ∧ S.length ≤ k ∧ circB m S = true ∧ c = circH m S := by
  unfold circsTo
  rw [List.mem_flatMap]
  constructor
  · rintro ⟨f, hf, h2⟩
    obtain ⟨S, hS, rfl⟩ := List.mem_map.1 h2
    rw [List.mem_filter] at hS
    have hl := (compl_mem hS.1).1
    have := List.mem_range.1 hf
    exact ⟨S, compl_set hS.1, by omega, by omega, hS.2, rfl⟩
  · rintro ⟨S, h1, h2, h3, h4, rfl⟩
    refine ⟨S.length - 1, List.mem_range.2 (by omega), List.mem_map.2 ⟨S, List.mem_filter.2 ⟨?_, h4⟩, rfl⟩⟩
    rw [show S.length - 1 + 1 = S.length by omega]
    exact h1.compl
theorem circsAll_mem (hv : validM m = true) {c : List Int} : c ∈ circsAll m ↔ ∃ S, SetP m S ∧ 1 ≤ S.length ∧ circB m S = true ∧ c = circH m S := by
  unfold circsAll
  rw [circsTo_mem]
  constructor
  · rintro ⟨S, h1, h2, _, h4, h5⟩; exact ⟨S, h1, h2, h4, h5⟩
  · rintro ⟨S, h1, h2, h4, h5⟩; exact ⟨S, h1, h2, circ_small hv h1.ok h4, h4, h5⟩
/-- The first circuit has no more pixels than any other. -/
theorem circsTo_first {S : List Int} (hS : SetP m S) (h1 : 1 ≤ S.length) (hc : circB m S = true) : ∀ k, S.length ≤ k → ∃ S0 t, circsTo m k = circH m S0 :: t ∧ SetP m S0 ∧ 1 ≤ S0.length ∧ circB m S0 = true ∧ S0.length ≤ S.length
  | 0, h => by omega
  | k + 1, h => by
    rw [circsTo_succ]
    by_cases e : S.length ≤ k
    · obtain ⟨S0, t, h2, h3⟩ := circsTo_first hS h1 hc k e
      exact ⟨S0, _, by rw [h2]; rfl, h3⟩
    · have hk : S.length = k + 1 := by omega
      cases hl : circsTo m k with
      | nil =>
        have hmem : S ∈ (compl (colsM m) (k + 1) 0).filter (circB m) := List.mem_filter.2 ⟨by rw [← hk]; exact hS.compl, hc⟩
        match hf : (compl (colsM m) (k + 1) 0).filter (circB m) with
        | [] => rw [hf] at hmem; cases hmem
        | S0 :: t =>
          have h0 : S0 ∈ (compl (colsM m) (k + 1) 0).filter (circB m) := by rw [hf]; simp
          rw [List.mem_filter] at h0
          have := (compl_mem h0.1).1
          exact ⟨S0, t.map (circH m), rfl, compl_set h0.1, by omega, h0.2, by omega⟩
      | cons c t =>
        obtain ⟨S0, h2, h3, h4, h5, rfl⟩ := circsTo_mem.1 (show c ∈ circsTo m k by rw [hl]; simp)
        exact ⟨S0, _, rfl, h2, h3, h5, by omega⟩
theorem circs_first (hv : validM m = true) {S : List Int} (hS : SetP m S) (h1 : 1 ≤ S.length) (hc : circB m S = true) : ∃ S0 t, circsAll m = circH m S0 :: t ∧ SetP m S0 ∧ 1 ≤ S0.length ∧ circB m S0 = true ∧ S0.length ≤ S.length :=
  circsTo_first hS h1 hc _ (circ_small hv hS.ok hc)
theorem nzTo_filter (xs : List Int) : ∀ k, nzTo xs k = (((List.range k).filter fun j => gt xs j != 0).length : Int)
  | 0 => rfl
  | k + 1 => by
    rw [List.range_succ, List.filter_append, List.length_append, nzTo, nzTo_filter xs k]
    by_cases e : gt xs k = 0
    · rw [if_pos e]; simp [e]
    · rw [if_neg e]; simp [e]
theorem CircP.supp_eq {S c : List Int} (hS : SetP m S) (h : CircP m S c) : suppL m (gt c) = S := by
  refine pw_ext (suppL_set _).asc hS.asc fun x => ⟨fun hx => ?_, fun hx => ?_⟩
  · have := (suppL_set (m := m) (gt c)).ok x hx
    obtain ⟨y, rfl⟩ : ∃ y : Nat, x = (y : Int) := ⟨x.toNat, by omega⟩
    have := suppL_mem.1 hx
    exact (h.supp y this.1).1 this.2
  · have := hS.ok x hx
    obtain ⟨y, rfl⟩ : ∃ y : Nat, x = (y : Int) := ⟨x.toNat, by omega⟩
    exact suppL_mem.2 ⟨by omega, (h.supp y (by omega)).2 hx⟩
theorem CircP.size {S c : List Int} (hS : SetP m S) (h : CircP m S c) : nzTo c c.length = S.length := by
  rw [nzTo_filter, h.len]
  have := congrArg List.length (h.supp_eq hS)
  unfold suppL at this
  rw [List.length_map] at this
  rw [this]
theorem kerB_iff (hv : validM m = true) {h : List Int} : kerB m h = true ↔ (h.length = colsM m ∧ allB 1000000 h = true) ∧ allZ h = false ∧ KerF m (gt h) := by
  by_cases hf : fitsV h (colsM m) 1000000 = 0
  · have hlen : h.length = colsM m ∧ allB 1000000 h = true := by
      unfold fitsV at hf
      split at hf
      · rename_i e
        split at hf
        · rename_i e2; exact ⟨by omega, e2⟩
        · cases hf
      · cases hf
    rw [kerB_ok hv hf]
    simp only [Bool.and_eq_true, Bool.not_eq_true']
    have hrow : ∀ i, i < m.length → gt (readL m h) i = sumTo (fun c => a0 m i c * gt h c) (colsM m) := fun i hi => by
      have e : gt (readL m h) i = dot (rowL m i) h := by unfold readL gt rowL; simp [hi]
      rw [e]
      unfold dot
      rw [((validM_of hv).2.2.2.2 _ (rowL_mem hi)).1]
      rfl
    constructor
    · rintro ⟨h1, h2⟩
      exact ⟨hlen, h1, fun i hi => by rw [← hrow i hi]; exact allZ_gt h2 (by simpa [readL] using hi)⟩
    · rintro ⟨_, h1, h2⟩
      exact ⟨h1, allZ_all fun i hi => by
        have hi : i < m.length := by simpa [readL] using hi
        rw [hrow i hi]; exact h2 i hi⟩
  · rw [kerB_err hv hf]
    constructor
    · intro e; cases e
    · rintro ⟨⟨h1, h2⟩, _⟩
      exact absurd (by unfold fitsV; rw [if_pos (by omega), if_pos h2]) hf
theorem CircP.kerB (hv : validM m = true) {S c : List Int} (hS : SetP m S) (h1 : 1 ≤ S.length) (h : CircP m S c) : kerB m c = true := by
  rw [kerB_iff hv]
  refine ⟨⟨h.len, allB_all fun j hj => ?_⟩, ?_, h.ker⟩
  · have := h.bd j (by rw [← h.len]; exact hj); omega
  · cases hz : allZ c with
    | false => rfl
    | true =>
      have := allZ_gt hz (c := pos S 0) (by rw [h.len]; exact hS.lt (by omega))
      have := h.first; omega
theorem CircP.primB (hv : validM m = true) {S c : List Int} (hS : SetP m S) (h1 : 1 ≤ S.length) (h : CircP m S c) : primB c = true := by
  have hb := ((kerB_iff hv).1 (h.kerB hv hS h1)).1.2
  have hk : pos S 0 < c.length := by rw [h.len]; exact hS.lt (by omega)
  have hf : fnz c = gt c (pos S 0) := by
    refine fnz_hit (k := pos S 0) (fun j hj => ?_) ?_ (by have := h.first; omega)
    · show gt c j = 0
      apply Classical.byContradiction
      intro e
      have hm := (h.supp j (by rw [← h.len]; omega)).1 e
      obtain ⟨u, hu, e2⟩ := hS.mem.1 hm
      by_cases e3 : u = 0
      · subst e3; omega
      · have h4 := pw_gt hS.asc (s := 0) (t := u) (by omega) hu
        have h5 := hS.eq (u := 0) (by omega)
        have h6 := hS.eq hu
        omega
    · unfold gt; simp [hk]
  unfold Go.Proofs.Ytfkmlonhhdcfpaa.primB
  rw [hb, h.gcd, hf]
  simpa using h.first
/-- No kernel vector's support lies within a circuit's without being it. -/
theorem CircP.least (hv : validM m = true) {S c h : List Int} (hc : CircP m S c) (hk : Go.Proofs.Ytfkmlonhhdcfpaa.kerB m h = true) (hw : ∀ j, j < colsM m → gt h j ≠ 0 → gt c j ≠ 0) : ∀ j, j < colsM m → (gt h j = 0 ↔ gt c j = 0) := by
  obtain ⟨⟨hl, _⟩, hz, hker⟩ := (kerB_iff hv).1 hk
  obtain ⟨a, b, ha, hab⟩ := hc.one (gt h) hker fun j hj e => (hc.supp j hj).1 (hw j hj e)
  have hb : b ≠ 0 := by
    intro e
    subst e
    rw [allZ_all fun j hj => ?_] at hz
    · cases hz
    · have := hab j (by omega)
      rw [Int.zero_mul] at this
      rcases Int.mul_eq_zero.1 this with q | q
      · exact absurd q ha
      · exact q
  intro j hj
  have := hab j hj
  constructor
  · intro e
    rw [e, Int.mul_zero] at this
    rcases Int.mul_eq_zero.1 this.symm with q | q
    · exact absurd q hb
    · exact q
  · intro e
    rw [e, Int.mul_zero] at this
    rcases Int.mul_eq_zero.1 this with q | q
    · exact absurd q ha
    · exact q
theorem rasc_pw {px : List Int} (h : rascB px = true) : px.Pairwise (· < ·) := by
  rw [List.pairwise_iff_getElem]
  have key : ∀ j i, i < j → j < px.length → gt px i < gt px j := by
    intro j
    induction j with
    | zero => intro i h1; omega
    | succ j ih =>
      intro i h1 h2
      have h3 := rascB_of h (j + 1) h2 (by omega)
      rw [Nat.add_sub_cancel] at h3
      by_cases e : i = j
      · subst e; exact h3
      · have := ih i (by omega) (by omega); omega
  intro i j h1 h2 h3
  have := key j i h3 h2
  unfold gt at this
  simpa [h1, h2] using this
theorem listV_set {px : List Int} (hv : validM m = true) (h : listV m px = 0) : SetP m px := by
  refine ⟨rasc_pw ?_, fun j hj => (listV_ok h hv).1 j hj⟩
  unfold listV at h
  split at h
  · rename_i e; exact e
  · cases h
/-- Columns that depend on each other hold a circuit. -/
theorem dep_circ (hv : validM m = true) {px : List Int} (hp : SetP m px) (hd : (redN m px).piv.length ≠ px.length) : ∃ S, SetP m S ∧ 1 ≤ S.length ∧ circB m S = true ∧ (∀ j ∈ S, j ∈ px) ∧ S.length ≤ px.length := by
  have hm6 := (validM_of hv).2.1
  have h := redN_fin hv hp.ok
  obtain ⟨r, hr⟩ : ∃ r, redN m px = r := ⟨_, rfl⟩
  rw [hr] at h hd
  have hcnt := h.count
  obtain ⟨x, hx⟩ : ∃ x, x ∈ freeTo r.piv px.length := List.exists_mem_of_length_pos (by omega)
  obtain ⟨f, hf, rfl, hn⟩ := (freeTo_mem _ _ _).1 hx
  have hsup : ∀ j, j < colsM m → gt (putTo (colsM m) px (kvec r px.length f) px.length) j ≠ 0 → (j : Int) ∈ px := fun j _ e => Classical.byContradiction fun e2 => e (hp.put_no e2 _ (Nat.le_refl _))
  obtain ⟨S, h1, h2, h3, h4, _⟩ := circ_in hv _ (gt (putTo (colsM m) px (kvec r px.length f) px.length)) (Nat.le_refl _) (hp.put_ker (h.kvec_ker hm6 hf hn)) ⟨pos px f, hp.lt hf, by
    rw [hp.put_at _ (Nat.le_refl _) f hf, h.kvec_free hm6 (Nat.le_refl _) hf hn]
    have := h.pos; omega⟩
  have h5 : ∀ j ∈ S, j ∈ px := fun j hj => by
    have h6 := h4 j hj
    have := (suppL_set (m := m) _).ok j h6
    obtain ⟨y, rfl⟩ : ∃ y : Nat, j = (y : Int) := ⟨j.toNat, by omega⟩
    have := suppL_mem.1 h6
    exact hsup y this.1 this.2
  exact ⟨S, h1, h2, h3, h5, pw_sub h1.asc hp.asc h5⟩
theorem spark_ok (hv : validM m = true) : (sparkV m).2 = 0 ↔ circsAll m ≠ [] := by
  unfold sparkV circuitV
  rw [if_pos hv]
  cases circsAll m with
  | nil => simp
  | cons h t => simp
/-- Fewer columns than the spark are independent. -/
theorem spark_dep (hv : validM m = true) {px : List Int} (hi : indepV m px = (false, 0)) : (sparkV m).2 = 0 ∧ (sparkV m).1 ≤ px.length := by
  unfold indepV at hi
  rw [if_pos hv] at hi
  split at hi
  · rename_i hl
    have hp := listV_set hv hl
    have hd : (redN m px).piv.length ≠ px.length := by simpa using congrArg Prod.fst hi
    obtain ⟨S, h1, h2, h3, _, h5⟩ := dep_circ hv hp hd
    obtain ⟨S0, t, h6, h7, h8, h9, h10⟩ := circs_first hv h1 h2 h3
    have hs := (circP hv h7 h8 h9).size h7
    unfold sparkV circuitV
    rw [if_pos hv, h6]
    simp only [if_true]
    exact ⟨trivial, by rw [hs]; omega⟩
  · rename_i hl
    exact absurd (congrArg Prod.snd hi) hl
end
end Go.Proofs.Ytfkmlonhhdcfpaa
/- Fractions in lowest terms, and the likeness of two columns of layer 2: contracts. -/
namespace Go.Proofs.Ytfkmlonhhdcfpaa
open Go.RowKit

theorem gcd_step (x y : Nat) : Nat.gcd y (x % y) = Nat.gcd x y := by
  rw [Nat.gcd_comm y (x % y), ← Nat.gcd_rec y x, Nat.gcd_comm]
/-- What a function that returns a fraction and an error returns. -/
def QPost (r : (Int × Int) × Int) (w : World) (e : Ending) (w' : World) : Prop := Below w.heap.size w w' ∧ e = .returned (.tuple #[.agg #[.int .i64 r.1.1, .int .i64 r.1.2], .int .i64 r.2])
theorem quo_in (n x : Nat) (hn : n ≤ 1000000) : wrap64 ((n : Int) / (x : Int)) = (n : Int) / (x : Int) := by
  have e : (n : Int) / (x : Int) = ((n / x : Nat) : Int) := by simp
  have l1 : n / x ≤ n := Nat.div_le_self _ _
  rw [e]; generalize n / x = q at *; exact IntWalk.wrap64_in _ ⟨by omega, by omega⟩
/-- The likeness of two columns of ones, by their products. -/
def likeC (a b : List Int) : (Int × Int) × Int :=
  if dot a a * dot b b = 0 then ((0, 0), 8) else
    ((((dot a b * dot a b).toNat / Nat.gcd (dot a b * dot a b).toNat (dot a a * dot b b).toNat : Nat), ((dot a a * dot b b).toNat / Nat.gcd (dot a b * dot a b).toNat (dot a a * dot b b).toNat : Nat)), 0)
theorem sq_nonneg (x : Int) : 0 ≤ x * x := by
  rcases Int.le_total 0 x with h | h
  · exact Int.mul_nonneg h h
  · exact Int.mul_nonneg_of_nonpos_of_nonpos h h
theorem sumTo_nonneg {f : Nat → Int} : ∀ n, (∀ i, i < n → 0 ≤ f i) → 0 ≤ sumTo f n
  | 0, _ => by simp [sumTo]
  | n + 1, h => by
    have ih := sumTo_nonneg n (fun i hi => h i (by omega))
    have := h n (by omega)
    simp only [sumTo]; omega
theorem dot_self (a : List Int) : 0 ≤ dot a a := sumTo_nonneg _ fun _ _ => sq_nonneg _
theorem dot_ones {a b : List Int} (ha : allB 1 a = true) (hb : allB 1 b = true) (hl : a.length ≤ b.length) : -(a.length : Int) ≤ dot a b ∧ dot a b ≤ a.length := by
  have := sumTo_bd (f := fun i => gt a i * gt b i) (M := 1) a.length (fun i hi => by have := mul_le (gt_in ha hi) (gt_in hb (show i < b.length by omega)); simpa using this)
  unfold dot; omega
theorem likeC_parts {a b : List Int} (ha : allB 1 a = true) (hb : allB 1 b = true) (hl : a.length = b.length) (h6 : a.length ≤ 10) :
    ∃ p s : Nat, dot a b * dot a b = p ∧ dot a a * dot b b = s ∧ p ≤ 100 ∧ s ≤ 100 ∧ likeC a b = if s = 0 then (((0 : Int), (0 : Int)), (8 : Int)) else ((((p / Nat.gcd p s : Nat) : Int), ((s / Nat.gcd p s : Nat) : Int)), (0 : Int)) := by
  have h1 := dot_ones ha hb (by omega)
  have h2 := dot_ones ha ha (by omega)
  have h3 := dot_ones hb hb (by omega)
  have h4 := dot_self a
  have h5 := dot_self b
  have h7 := sq_nonneg (dot a b)
  have h8 := Int.mul_nonneg h4 h5
  have h9 := mul_le (x := 10) (y := 10) (a := dot a b) (b := dot a b) ⟨by omega, by omega⟩ ⟨by omega, by omega⟩
  have h10 := mul_le (x := 10) (y := 10) (a := dot a a) (b := dot b b) ⟨by omega, by omega⟩ ⟨by omega, by omega⟩
  refine ⟨(dot a b * dot a b).toNat, (dot a a * dot b b).toNat, by omega, by omega, by omega, by omega, ?_⟩
  unfold likeC
  by_cases h : dot a a * dot b b = 0
  · rw [if_pos h, if_pos (by omega)]
  · rw [if_neg h, if_neg (by omega)]
end Go.Proofs.Ytfkmlonhhdcfpaa
/- Likeness of layer 2: words and a contract. -/
namespace Go.Proofs.Ytfkmlonhhdcfpaa
open Go.RowKit

def columnV (m : List (List Int)) (j : Int) : List Int × Int := if validM m = true then (if thereB m j = true then (colM m j.toNat, 0) else ([], 5)) else ([], 1)
def prodV (m : List (List Int)) (i j : Int) : Int × Int := if validM m = true then (if thereB m i = true ∧ thereB m j = true then (dot (colM m i.toNat) (colM m j.toNat), 0) else (0, 5)) else (0, 1)
def likeV (m : List (List Int)) (i j : Int) : (Int × Int) × Int := if validM m = true then (if thereB m i = true ∧ thereB m j = true then likeC (colM m i.toNat) (colM m j.toNat) else ((0, 0), 5)) else ((0, 0), 1)
def namedV (m : List (List Int)) (ps : List Int) : Int := if validM m = true then (if ps.all (thereB m) = true then 0 else 5) else 1
/-- What a function that returns a number and an error returns. -/
def NPost (r : Int × Int) (w : World) (e : Ending) (w' : World) : Prop := Below w.heap.size w w' ∧ e = .returned (.tuple #[.int .i64 r.1, .int .i64 r.2])
theorem there_nat {m : List (List Int)} {j : Int} (h : thereB m j = true) : ∃ n : Nat, j = n ∧ n < colsM m := by
  simp [thereB] at h
  exact ⟨j.toNat, by omega, by omega⟩
theorem rangeB_there {m : List (List Int)} {j : Int} : rangeB j 0 ((colsM m : Int) - 1) = thereB m j := by
  unfold rangeB thereB; congr 1; rw [decide_eq_decide]; omega
theorem sl_lit1 (V : World) (x : Int) (t : TypeId) {B : Nat} (hB : B = V.heap.size) : Sl (V.alloc (.cells #[.int .i64 x] t)) (some ⟨B, 0, none⟩) [x] := by
  subst hB
  intro k hk
  have : k = 0 := by simpa using hk
  subst this
  exact ⟨_, _, rfl, alloc_cell _ _ _ _ _ rfl⟩
theorem sl_lit2 (V : World) (x y : Int) (t : TypeId) {B : Nat} (hB : B = V.heap.size) : Sl (V.alloc (.cells #[.int .i64 x, .int .i64 y] t)) (some ⟨B, 0, none⟩) [x, y] := by
  subst hB
  intro k hk
  have : k = 0 ∨ k = 1 := by simp at hk; omega
  rcases this with rfl | rfl
  · exact ⟨_, _, rfl, alloc_cell _ _ _ _ _ rfl⟩
  · exact ⟨_, _, rfl, alloc_cell _ _ _ _ _ rfl⟩

/-- The cell of a fraction that is to be returned, still zero. -/
structure RC (B : Nat) (w : World) : Prop where
  c0 : w.cell? ⟨B, 0, none⟩ = some (.int .i64 0)
  c1 : w.cell? ⟨B, 1, none⟩ = some (.int .i64 0)
  f0 : w.frozen? ⟨B, 0, none⟩ = false
  f1 : w.frozen? ⟨B, 1, none⟩ = false
  lt : B < w.heap.size
theorem RC.mk0 (w : World) (t : TypeId) : RC w.heap.size (w.alloc (.cells #[.int .i64 0, .int .i64 0] t)) :=
  ⟨alloc_cell _ _ _ _ _ rfl, alloc_cell _ _ _ _ _ rfl, by simp, by simp, by simp⟩
theorem RC.next {B : Nat} {w w' : World} (h : RC B w) (hb : Below w.heap.size w w') : RC B w' :=
  ⟨(hb.cell (p := ⟨B, 0, none⟩) h.lt).trans h.c0, (hb.cell (p := ⟨B, 1, none⟩) h.lt).trans h.c1, (hb.frozen (p := ⟨B, 0, none⟩) h.lt).trans h.f0, (hb.frozen (p := ⟨B, 1, none⟩) h.lt).trans h.f1, Nat.lt_of_lt_of_le h.lt hb.size⟩
theorem set2_below {w V : World} {B : Nat} (h : Below w.heap.size w V) (hB : w.heap.size ≤ B) (x y : Value) : Below w.heap.size w ((V.setCell ⟨B, 0, none⟩ x).setCell ⟨B, 1, none⟩ y) := (h.setCell hB _).setCell hB _
theorem prodV_ok {m : List (List Int)} {i j : Nat} (h : validM m = true) (hi : thereB m i = true) (hj : thereB m j = true) : prodV m i j = (dot (colM m i) (colM m j), 0) := by
  unfold prodV; rw [h, hi, hj]; rfl
theorem likeV_ok {m : List (List Int)} {i j : Nat} (h : validM m = true) (hi : thereB m i = true) (hj : thereB m j = true) : likeV m i j = likeC (colM m i) (colM m j) := by
  unfold likeV; rw [h, hi, hj]; rfl

end Go.Proofs.Ytfkmlonhhdcfpaa
/- Column, Product and Likeness of layer 2 and of its answers: contracts. -/
namespace Go.Proofs.Ytfkmlonhhdcfpaa
open Go.RowKit

set_option maxRecDepth 100000 in
theorem named_any (a : Option Addr) (m : List (List Int)) (cap : Nat) (b : Option Addr) (ps : List Int) (cb : Nat) (w : World) (hm : MOk m) (hl : ps.length ≤ 9223372036854775807) (hs : Ms w a m) (hp : Sl w b ps) :
    Calls Try.prog 60 #[.slice a m.length cap, .slice b ps.length cb] w fun e w' => e = .returned (.int .i64 (namedV m ps)) ∧ w = w' := by
  have HM := Lib.hid hm; clear hm
  have HS := Lib.hid hs; clear hs
  have HP := Lib.hid hp; clear hp
  cases hv : validM m
  · have HV : Hid (namedV m ps = 1) := by show namedV m ps = 1; unfold namedV; rw [hv]; rfl
    go_enter Try.func60, Try.ntmps60
    go_wp2_with (go_at_call 45; refine (rvalid_any _ _ _ _ HM.out HS.out).mono ?_; rintro e w' ⟨rfl, rfl⟩)
    go_ret
    exact ⟨ret_i64 HV.out.symm, rfl⟩
  · obtain ⟨hm1, hm6, hc1, hc10, _⟩ := validM_of hv
    have HV : Hid (namedV m ps = if ps.all (thereB m) = true then 0 else 5) := by show namedV m ps = _; unfold namedV; rw [hv]; rfl
    obtain ⟨b0, o0, a0, c0, rfl, hcell⟩ := row0 HS.out hm1
    go_enter Try.func60, Try.ntmps60
    go_wp2_with (go_at_call 45; refine (rvalid_any _ _ _ _ HM.out HS.out).mono ?_; rintro e w' ⟨rfl, rfl⟩)
    clear hv
    go_loop [12] (fun i => ∃ k : Nat, k ≤ ps.length ∧ i = .int .i64 k ∧ ∀ j, j < k → thereB m (ps[j]?.getD 0) = true) (fun i => ps.length - (intOf i).toNat)
    case atStart => exact ⟨0, Nat.zero_le _, rfl, fun j h => by omega⟩
    case round =>
      obtain ⟨k, hk, rfl, hno⟩ := hrel
      have HO := Lib.hid hno; clear hno
      by_cases hlt : k < ps.length
      · obtain ⟨b1, o1, x, rfl, hcx, HX⟩ := HP.out.at hlt
        cases ht : thereB m x
        · have HT := Lib.hid ht; clear ht
          go_wp2_with (go_at_call 90; refine (mwithin_any _ _ _ _).mono ?_; rintro e w' ⟨rfl, rfl⟩; rw [rangeB_there, HT.out])
          go_ret
          refine ⟨ret_i64 ?_, rfl⟩
          rw [HV.out, if_neg]
          rw [List.all_eq_true]; intro h
          have := h x (List.mem_of_getElem? HX.out)
          rw [HT.out] at this; cases this
        · have HT := Lib.hid ht; clear ht
          go_wp2_with (go_at_call 90; refine (mwithin_any _ _ _ _).mono ?_; rintro e w' ⟨rfl, rfl⟩; rw [rangeB_there, HT.out])
          go_round
          case rel => exact ⟨k + 1, by omega, by go_num, fun j hj => by
              by_cases hj' : j = k
              · subst hj'; rw [HX.out]; exact HT.out
              · exact HO.out j (by omega)⟩
          case measure => simp [intOf]; omega
      · go_wp2
        go_ret
        refine ⟨ret_i64 ?_, rfl⟩
        rw [HV.out, if_pos]
        rw [List.all_eq_true]; intro x hx
        obtain ⟨i, hi, rfl⟩ := List.mem_iff_getElem.1 hx
        have := HO.out i (by omega)
        simpa [hi] using this
theorem namedV_no {m : List (List Int)} {ps : List Int} (h : validM m = false) : namedV m ps = 1 := by unfold namedV; rw [h]; rfl

end Go.Proofs.Ytfkmlonhhdcfpaa
/- Permuted of layer 2's answers: a contract. -/
namespace Go.Proofs.Ytfkmlonhhdcfpaa
open Go.RowKit

/-- One row appended to a mask, operation by operation. -/
theorem wpList_pushRowM {ops : Array Oper} {rest : List Oper} {o : Oper} {act : Act} {Q : Exit → Act → World → Prop} (hgd : o.guard = none) (s x : Operand)
    (ho : o.op = .call { callee := .builtin .append, args := #[s, x], argTypes := #[23, 23] }) (base : Nat) (rv : Value) (ads : List (Nat × Nat)) (M : List (List Int)) (row : List Int) (rl : Nat) (hrl : row.length = rl) (nb nc : Nat) (V : World) (t : TypeId) (A : Nat)
    (hv : act.eval s = rv) (hx : act.eval x = .slice (some ⟨A, 0, none⟩) 1 1) (hA : A = V.heap.size) (hown : RS base rv ads M V) (hrow : OwnI V base (.slice (some ⟨nb, 0, none⟩) row.length nc) row)
    (hap : ∀ (i : Nat) (x : Nat × Nat), ads[i]? = some x → x.1 ≠ nb) (hne : rv.ownBlock ≠ some nb) (hl : M.length ≤ 100000) (hbase : base ≤ V.heap.size)
    (h : ∀ g cap w', RS base (.slice (some ⟨g, 0, none⟩) (M.length + 1) cap) (ads ++ [(nb, nc)]) (M ++ [row]) w' → Below base V w' → wpList Try.prog ops Q rest (act.put o.dst (.slice (some ⟨g, 0, none⟩) (M.length + 1) cap)) w') : wpList Try.prog ops Q (o :: rest) act (V.alloc (.cells #[.slice (some ⟨nb, 0, none⟩) rl nc] t)) := by
  subst hrl
  obtain ⟨i0, hi, hz0, hz1, hz2⟩ := info_parts Try.infoRowL
  subst hA
  have hb1 : Below V.heap.size V (V.alloc (.cells #[.slice (some ⟨nb, 0, none⟩) row.length nc] t)) := (Below.refl _ _).alloc (Nat.le_refl _) _
  have hown' := hown.below hb1
  refine wpList_append_lies _ hgd s x 23 ho base 24 i0 (.slice none 0 0) 1 24 Try.underlying23 hi hz0 hz1 hz2 rfl (by decide) rv M.length (hdrs ads M) hv hown'.own ⟨V.heap.size, 0, none⟩ 1 1 [.slice (some ⟨nb, 0, none⟩) row.length nc] hx rfl ?_ ?_ (by decide) (by unfold maxLen; omega) (by omega) (by rw [World.size_alloc]; omega) _ rfl ?_
  · intro j u hj
    match j, hj with
    | 0, hj =>
      simp at hj; subst hj
      rw [addr_add]; exact alloc_cell _ _ _ _ _ rfl
    | j + 1, hj => simp at hj
  · intro u hu; simp at hu; subst hu; rfl
  · intro g cap w' h1 h2 h3 _
    exact h g cap w' (hown'.push (hrow.below hb1) hap hne h1 h2 h3) (((Below.refl base V).alloc hbase _).grown h2 (by rw [World.size_alloc]; omega) (fun k e => (World.ownsRow.lt hown.own k e).1))
set_option maxRecDepth 1000000 in
set_option maxHeartbeats 1600000 in
theorem picked_any (ma : Option Addr) (m : List (List Int)) (mc : Nat) (pxa : Option Addr) (px : List Int) (pxc : Nat) (w : World) (hm : m.length ≤ 100) (hp : px.length ≤ 100) (hp1 : 1 ≤ px.length) (hin : ∀ j ∈ px, 0 ≤ j ∧ j < colsM m) (hrl : ∀ r ∈ m, r.length = colsM m) (hms : Ms w ma m) (hps : Sl w pxa px) :
    Calls Try.prog 61 #[.slice ma m.length mc, .slice pxa px.length pxc] w fun e w' => ∃ rv ads, e = .returned rv ∧ RS w.heap.size rv ads (pixM px m) w' ∧ Below w.heap.size w w' := by
  have HMS := Lib.hid hms; clear hms
  have HPS := Lib.hid hps; clear hps
  have HIN := Lib.hid hin; clear hin
  have HRL := Lib.hid hrl; clear hrl
  have HP1 := Lib.hid hp1; clear hp1
  have HPM : Hid ((pixM px m).length = m.length) := by show _ = _; simp [pixM]
  go_enter Try.func61, Try.ntmps61
  go_wp2
  go_loopw [5, 13] (fun v i wr => ∃ (k : Nat) (ads : List (Nat × Nat)), k ≤ m.length ∧ i = .int .i64 k ∧ RS w.heap.size v ads ((pixM px m).take k) wr ∧ Below w.heap.size w wr) (fun _ i _ => m.length - (intOf i).toNat)
  case atStart => exact ⟨0, [], Nat.zero_le _, rfl, ⟨rfl, World.ownsRow_nil _ _ _ _, fun i x r h => by simp at h, fun i j x y h => by simp at h, fun i x h => by simp at h⟩, Below.refl _ _⟩
  case round =>
    obtain ⟨k, ads, hk, rfl, hO, hB⟩ := hrel
    have HO := Lib.hid hO; clear hO
    have HB := Lib.hid hB; clear hB
    by_cases hlt : k < m.length
    · obtain ⟨b1, o1, ai, r, ci, rfl, hcell, hsl, HR⟩ := (HMS.out.below HB.out).at hlt
      have HSL := Lib.hid hsl; clear hsl
      have HRC : Hid (r.length = colsM m) := HRL.out r (List.mem_of_getElem? HR.out)
      have HT : Hid ((pixM px m).take (k + 1) = (pixM px m).take k ++ [pixR px r]) := by
        show _ = _
        have e := List.getElem?_eq_some_iff.1 HR.out
        rw [List.take_succ_eq_append_getElem (by rw [HPM.out]; exact hlt)]
        congr 1
        unfold pixM; simp [e.2]
      go_wp2
      obtain ⟨wk, hwk⟩ : ∃ wk, wk = wr := ⟨_, rfl⟩
      subst hwk
      go_loopw [8, 19] (fun v i wq => ∃ j : Nat, j ≤ px.length ∧ i = .int .i64 j ∧ OwnI wq wk.heap.size v ((pixR px r).take j) ∧ Below wk.heap.size wk wq ∧ (v = .slice none 0 0 ∧ j = 0 ∨ ∃ b c, v = .slice (some ⟨b, 0, none⟩) j c)) (fun _ i _ => px.length - (intOf i).toNat)
      case atStart => exact ⟨0, Nat.zero_le _, rfl, OwnI.nil _ _, Below.refl _ _, .inl ⟨rfl, rfl⟩⟩
      case round =>
        obtain ⟨j, hj, rfl, hO2, hB2, hvv⟩ := hrel
        have HO2 := Lib.hid hO2; clear hO2
        have HB2 := Lib.hid hB2; clear hB2
        have HBq : Hid (Below w.heap.size w wr) := HB.out.trans (HB2.out.mono HB.out.size)
        by_cases hlj : j < px.length
        · obtain ⟨pb, po, v, rfl, hcv, HV⟩ := (HPS.out.below HBq.out).at hlj
          have hvr := HIN.out v (List.mem_of_getElem? HV.out)
          obtain ⟨q, rfl⟩ := Int.eq_ofNat_of_zero_le hvr.1
          have hq : q < r.length := by have := HRC.out; omega
          obtain ⟨rb, ro, x, rfl, hcx, HX⟩ := (HSL.out.below HB2.out).at hq
          have HT2 : Hid ((pixR px r).take (j + 1) = (pixR px r).take j ++ [x]) := by show _ = _; rw [pixR_succ HV.out, Int.toNat_natCast, gt_some' HX.out]
          have HTL : Hid (((pixR px r).take j).length = j) := by show _ = _; rw [List.length_take, pixR_len]; omega
          have hq0 : (q : Int) < (r.length : Int) := by omega
          obtain ⟨T, hT⟩ : ∃ T, (pixR px r).take j = T := ⟨_, rfl⟩
          rw [hT] at HO2 HT2 HTL
          clear hvr hT hvv
          go_wp2_with (at_builtin; go_must (refine wpList_pushG rfl (.tmp 23) (.tmp 28) rfl wk.heap.size _ T x _ _ _ rfl rfl rfl HO2.out (by rw [HTL.out]; omega) HB2.out.size ?_); intro g cap w9 ho' _ hb' _)
          go_roundw
          case rel => exact ⟨j + 1, by omega, by go_num, by rw [HT2.out]; exact ho', HB2.out.trans hb', .inr ⟨g, cap, by rw [HTL.out]⟩⟩
          case measure => simp [intOf]; omega
        · obtain rfl : j = px.length := by omega
          obtain ⟨vb, vc, hvv⟩ : ∃ b c, u8 = .slice (some ⟨b, 0, none⟩) px.length c := by
            rcases hvv with ⟨_, e⟩ | e
            · have := HP1.out; omega
            · exact e
          subst hvv
          have HT3 : Hid ((pixR px r).take px.length = pixR px r) := by show _ = _; rw [List.take_of_length_le]; rw [pixR_len]; exact Nat.le_refl _
          have HO3 : Hid (OwnI wr w.heap.size (.slice (some ⟨vb, 0, none⟩) (pixR px r).length vc) (pixR px r)) := by
            have h := HO2.out
            rw [HT3.out] at h
            show OwnI _ _ _ _
            rw [pixR_len]; exact h.mono HB.out.size
          have HGE : Hid (wk.heap.size ≤ vb) := (OwnI.lt HO2.out).2
          have HR3 : Hid (RS w.heap.size u5 ads ((pixM px m).take k) wr) := HO.out.below HB2.out
          have HFA : Hid ((∀ (i : Nat) (x : Nat × Nat), ads[i]? = some x → x.1 ≠ vb) ∧ u5.ownBlock ≠ some vb) := ⟨fun i x e h => by have h1 := (HO.out.out i x e).2.1; have h2 := HGE.out; omega, fun h => by have h1 := (World.ownsRow.lt HO.out.own _ h).2; have h2 := HGE.out; omega⟩
          obtain ⟨Mk, hMk⟩ : ∃ Mk, (pixM px m).take k = Mk := ⟨_, rfl⟩
          have HTL : Hid (((pixM px m).take k).length ≤ 100000) := by show _ ≤ _; rw [List.length_take, HPM.out]; omega
          rw [hMk] at HR3 HTL HT
          clear hMk
          go_wp2_with (at_builtin; go_must (refine wpList_pushRowM rfl (.tmp 31) (.tmp 33) rfl w.heap.size _ ads Mk (pixR px r) px.length (pixR_len px r) vb vc _ _ _ rfl rfl rfl HR3.out HO3.out HFA.out.1 HFA.out.2 HTL.out HBq.out.size ?_); intro g2 cap2 w9 ho' hb')
          go_roundw
          case rel => exact ⟨k + 1, _, by omega, by go_num, by rw [HT.out]; exact ho', HBq.out.trans hb'⟩
          case measure => simp [intOf]; omega
    · obtain rfl : k = m.length := by omega
      have HE : Hid ((pixM px m).take m.length = pixM px m) := by show _ = _; rw [List.take_of_length_le]; rw [HPM.out]; exact Nat.le_refl _
      have HO4 : Hid (RS w.heap.size u5 ads (pixM px m) wr) := by have h := HO.out; rw [HE.out] at h; exact h
      go_wp2
      go_ret
      exact ⟨_, _, rfl, HO4.out, HB.out⟩
/-- What a permuted mask is made of. -/
def PermP (m : List (List Int)) (ps : List Int) : Prop := validM m = true ∧ ps.length = colsM m ∧ pxOk m ps ∧ ∀ i j, i < j → j < ps.length → gt ps i ≠ gt ps j
set_option maxRecDepth 1000000 in
set_option maxHeartbeats 1600000 in
theorem rpermuted_any (a : Option Addr) (m : List (List Int)) (cap : Nat) (b : Option Addr) (ps : List Int) (cb : Nat) (w : World) (hm : MOk m) (hl : ps.length ≤ 9223372036854775807) (hcb : ps.length ≤ cb) (ha : Ms w a m) (hs : Sl w b ps) :
    Calls Try.prog 17 #[.slice a m.length cap, .slice b ps.length cb] w fun e w' => Below w.heap.size w w' ∧ ((∃ e0, e0 ≠ 0 ∧ e = .returned (.tuple #[.slice none 0 0, .int .i64 e0])) ∨ (PermP m ps ∧ ∃ pa pc, e = .returned (.tuple #[.slice pa m.length pc, .int .i64 0]) ∧ Ms w' pa (pixM ps m))) := by
  have HVA : Hid (Calls Try.prog 45 #[.slice a m.length cap] w fun e w' => e = .returned (.bool (validM m)) ∧ w = w') := rvalid_any a m cap w hm ha
  have HNA : Hid (Calls Try.prog 60 #[.slice a m.length cap, .slice b ps.length cb] w fun e w' => e = .returned (.int .i64 (namedV m ps)) ∧ w = w') := named_any a m cap b ps cb w hm hl ha hs
  cases hv : validM m with
  | false =>
    rw [hv] at HVA
    clear hm ha hs hv HNA
    go_enter Try.func17, Try.ntmps17
    go_wp2_with (go_at_call 45; refine HVA.out.mono ?_; rintro e w' ⟨rfl, rfl⟩)
    go_ret2
    exact ⟨Below.refl _ _, .inl ⟨1, by decide, rfl⟩⟩
  | true =>
    rw [hv] at HVA
    obtain ⟨hm1, hm6, hc1, hc10, hrows⟩ := validM_of hv
    obtain ⟨b0, o0, a0, c0, rfl, hcell⟩ := row0 ha hm1
    have HS := Lib.hid hs
    have HV := Lib.hid hv
    obtain ⟨n, hn⟩ : ∃ n, colsM m = n := ⟨_, rfl⟩
    rw [hn] at hcell
    have hz : (0 : Int) < (m.length : Int) := by omega
    by_cases hlen : ps.length = n
    · have HNV : Hid (namedV m ps = if ps.all (thereB m) = true then 0 else 5) := by show namedV m ps = _; unfold namedV; rw [hv]; rfl
      obtain ⟨nv, hnv⟩ : ∃ nv, namedV m ps = nv := ⟨_, rfl⟩
      rw [hnv] at HNA HNV
      have e1 : ((ps.length : Int) == (n : Int)) = true := by simp [hlen]
      have e2 : ((ps.length : Int) != (n : Int)) = false := by simp [hlen]
      by_cases hnv0 : nv = 0
      · subst hnv0
        have HOK : Hid (pxOk m ps) := fun j hj => by
          have h1 := HNV.out
          split at h1
          · rename_i h2
            rw [List.all_eq_true] at h2
            have := h2 j hj
            unfold thereB at this
            simpa [Bool.and_eq_true] using this
          · cases h1
        have HPK : Hid (∀ W, Below w.heap.size w W → Calls Try.prog 61 #[.slice (some ⟨b0, o0, none⟩) m.length cap, .slice b ps.length cb] W fun e w' => ∃ rv ads, e = .returned rv ∧ RS W.heap.size rv ads (pixM ps m) w' ∧ Below W.heap.size W w') := fun W hW => picked_any _ m cap b ps cb W (by omega) (by omega) (by omega) HOK.out (fun r hr => (hrows r hr).1) (ha.below hW) (HS.out.below hW)
        have HLEN : Hid (ps.length = colsM m) := hlen.trans hn.symm
        have HPL : Hid ((pixM ps m).length = m.length) := by show _ = _; simp [pixM]
        have hpl : ps.length ≤ 10 := by omega
        obtain ⟨q, hq⟩ : ∃ q, ps.length = q := ⟨_, rfl⟩
        have HQ := Lib.hid hq
        rw [hq] at HNA HPK hl hcb e1 e2 hpl ⊢
        clear hm ha hs hv hnv hlen hn hrows hm1 hm6 hc1 hc10 hq
        go_enter Try.func17, Try.ntmps17
        go_wp2_with (first | (go_at_call 45; refine HVA.out.mono ?_; rintro e w' ⟨rfl, rfl⟩) | (go_at_call 60; refine HNA.out.mono ?_; rintro e w' ⟨rfl, rfl⟩))
        clear hcell
        go_loopw [29] (fun i wr => ∃ k : Nat, k ≤ q ∧ i = .int .i64 k ∧ wr = w ∧ ∀ x y, x < y → y < k → gt ps x ≠ gt ps y) (fun i _ => q - (intOf i).toNat)
        case atStart => exact ⟨0, Nat.zero_le _, rfl, rfl, fun x y h1 h2 => by omega⟩
        case round =>
          obtain ⟨k, hk, rfl, rfl, hap⟩ := hrel
          have HAP := Lib.hid hap; clear hap
          by_cases hlt : k < q
          · obtain ⟨pb, po, v, rfl, hcv, HVK⟩ := HS.out.at (k := k) (by rw [HQ.out]; exact hlt)
            have hkq : (k : Int) < (q : Int) := by omega
            have hkc : (k : Int) ≤ (cb : Int) := by omega
            have hkc2 : k ≤ cb := by omega
            go_wp2
            clear hcv
            go_loopw [38] (fun i wr2 => ∃ j : Nat, j ≤ k ∧ i = .int .i64 j ∧ wr2 = wr ∧ ∀ x, x < j → gt ps x ≠ v) (fun i _ => k - (intOf i).toNat)
            case atStart => exact ⟨0, Nat.zero_le _, rfl, rfl, fun x h => by omega⟩
            case round =>
              obtain ⟨j, hj, rfl, rfl, hne⟩ := hrel
              have HNE := Lib.hid hne; clear hne
              by_cases hlj : j < k
              · obtain ⟨jb, jo, u, ejo, hcu, HU⟩ := HS.out.at (k := j) (by rw [HQ.out]; omega)
                obtain ⟨rfl, rfl⟩ : pb = jb ∧ po = jo := by simpa using ejo
                by_cases huv : v = u
                · have y1 : (v == u) = true := by simpa using huv
                  have y2 : decide (v = u) = true := by simpa using huv
                  go_wp2
                  go_ret2
                  exact ⟨Below.refl _ _, .inl ⟨7, by decide, rfl⟩⟩
                · have y1 : (v == u) = false := by simpa using huv
                  have y2 : decide (v = u) = false := by simpa using huv
                  have HUV := Lib.hid huv
                  clear huv
                  go_wp2
                  go_roundw
                  case rel => exact ⟨j + 1, by omega, by go_num, by first | trivial | rfl, fun x hx => by
                    by_cases e : x = j
                    · subst e; rw [gt_some' HU.out]; exact fun e => HUV.out e.symm
                    · exact HNE.out x (by omega)⟩
                  case measure => simp [intOf]; omega
              · obtain rfl : j = k := by omega
                go_wp2
                go_roundw
                case rel => exact ⟨j + 1, by omega, by go_num, by first | trivial | rfl, fun x y h1 h2 => by
                  by_cases e : y = j
                  · subst e; rw [gt_some' HVK.out]; exact HNE.out x h1
                  · exact HAP.out x y h1 (by omega)⟩
                case measure => simp [intOf]; omega
          · obtain rfl : k = q := by omega
            go_wp2_with (go_at_call 61; refine (HPK.out _ (Below.refl _ _)).mono ?_; rintro e w2 ⟨rv, ads, rfl, hrs, hb2⟩; obtain ⟨ra, rc, rfl, hms⟩ := hrs.ms; have HMS := Lib.hid hms; have HB2 := Lib.hid hb2; clear hms hb2 hrs)
            rw [HPL.out]
            go_ret2
            exact ⟨HB2.out, .inr ⟨⟨HV.out, HLEN.out, HOK.out, fun i j h1 h2 => HAP.out i j h1 (by rw [HQ.out] at h2; exact h2)⟩, ra, rc, rfl, HMS.out⟩⟩
      · have y1 : (nv == 0) = false := by simpa using hnv0
        have y2 : (nv != 0) = true := by simpa using hnv0
        have HNZ := Lib.hid hnv0
        clear hm ha hs hv hnv hlen hn hrows hnv0
        go_enter Try.func17, Try.ntmps17
        go_wp2_with (first | (go_at_call 45; refine HVA.out.mono ?_; rintro e w' ⟨rfl, rfl⟩) | (go_at_call 60; refine HNA.out.mono ?_; rintro e w' ⟨rfl, rfl⟩))
        go_ret2
        exact ⟨Below.refl _ _, .inl ⟨_, HNZ.out, rfl⟩⟩
    · have e1 : ((ps.length : Int) == (n : Int)) = false := by simpa using fun e : (ps.length : Int) = (n : Int) => hlen (by omega)
      have e2 : ((ps.length : Int) != (n : Int)) = true := by simpa using fun e : (ps.length : Int) = (n : Int) => hlen (by omega)
      clear hm ha hs hv hlen hn hrows HNA
      go_enter Try.func17, Try.ntmps17
      go_wp2_with (go_at_call 45; refine HVA.out.mono ?_; rintro e w' ⟨rfl, rfl⟩)
      go_ret2
      exact ⟨Below.refl _ _, .inl ⟨9, by decide, rfl⟩⟩
end Go.Proofs.Ytfkmlonhhdcfpaa
/- Independent of both sides, readings checked: contracts. -/
namespace Go.Proofs.Ytfkmlonhhdcfpaa
open Go.RowKit

set_option maxRecDepth 100000 in
set_option maxHeartbeats 800000 in
theorem lread_any (ma : Option Addr) (m : List (List Int)) (mc : Nat) (a : Option Addr) (y : List Int) (cap : Nat) (w : World) (hm : MOk m) (hl : y.length ≤ 9223372036854775807) (hs : Ms w ma m) (hy : Sl w a y) :
    Calls Try.prog 131 #[.slice ma m.length mc, .slice a y.length cap] w fun e w' => e = .returned (.int .i64 (readE m y)) ∧ Below w.heap.size w w' := by
  have HVA : Hid (Calls Try.prog 42 #[.slice ma m.length mc] w fun e w' => e = .returned (.bool (validM m)) ∧ Below w.heap.size w w') := mvalid_any ma m mc w hm hs
  obtain ⟨q, hq⟩ : ∃ q, allB 1000000 y = q := ⟨_, rfl⟩
  have HWI : Hid (∀ W, Below w.heap.size w W → Calls Try.prog 52 #[.slice a y.length cap, .int .i64 1000000] W fun e w' => e = .returned (.bool q) ∧ W = w') := fun W hb => by rw [← hq]; exact lwithin_any a y cap 1000000 W (by decide) (by decide) hl (hy.below hb)
  have hml := hm.1
  cases hv : validM m
  case false =>
    rw [hv] at HVA
    have HE : Hid (readE m y = 1) := by show _ = _; simp [readE, hv]
    clear hv hq hs hy hm
    go_enter Try.func131, Try.ntmps131
    go_wp2_with (go_at_call 42; refine HVA.out.mono ?_; rintro e w1 ⟨rfl, hb⟩; have HB := Lib.hid hb; clear hb)
    go_ret
    exact ⟨ret_i64 HE.out.symm, HB.out⟩
  case true =>
    rw [hv] at HVA
    by_cases hlen : (y.length : Int) = (m.length : Int)
    · have y0 : ((y.length : Int) == (m.length : Int)) = true := by simpa using hlen
      have y1 : ((y.length : Int) != (m.length : Int)) = false := by simpa using hlen
      have HE : Hid (readE m y = if q = true then 0 else 7) := by show _ = _; unfold readE fitsV; rw [if_pos hv, if_pos hlen, hq]
      clear hv hq hs hy hm hlen
      cases q
      · go_enter Try.func131, Try.ntmps131
        go_wp2_with (first | (go_at_call 42; refine HVA.out.mono ?_; rintro e w1 ⟨rfl, hb⟩; have HB := Lib.hid hb; clear hb) | (go_at_call 52; refine (HWI.out w1 HB.out).mono ?_; rintro e w2 ⟨rfl, rfl⟩))
        go_ret
        exact ⟨ret_i64 (by rw [HE.out]; rfl), HB.out⟩
      · go_enter Try.func131, Try.ntmps131
        go_wp2_with (first | (go_at_call 42; refine HVA.out.mono ?_; rintro e w1 ⟨rfl, hb⟩; have HB := Lib.hid hb; clear hb) | (go_at_call 52; refine (HWI.out w1 HB.out).mono ?_; rintro e w2 ⟨rfl, rfl⟩))
        go_ret
        exact ⟨ret_i64 (by rw [HE.out]; rfl), HB.out⟩
    · have y0 : ((y.length : Int) == (m.length : Int)) = false := by simpa using hlen
      have y1 : ((y.length : Int) != (m.length : Int)) = true := by simpa using hlen
      have HE : Hid (readE m y = 9) := by show _ = _; unfold readE fitsV; rw [if_pos hv, if_neg hlen]
      clear hv hq hs hy hm hlen
      go_enter Try.func131, Try.ntmps131
      go_wp2_with (go_at_call 42; refine HVA.out.mono ?_; rintro e w1 ⟨rfl, hb⟩; have HB := Lib.hid hb; clear hb)
      go_ret
      exact ⟨ret_i64 HE.out.symm, HB.out⟩
set_option maxRecDepth 100000 in
set_option maxHeartbeats 800000 in
theorem rreading_any (ma : Option Addr) (m : List (List Int)) (mc : Nat) (a : Option Addr) (y : List Int) (cap : Nat) (w : World) (_hml : m.length ≤ 9223372036854775807) (hl : y.length ≤ 9223372036854775807) (hy : Sl w a y) :
    Calls Try.prog 119 #[.slice ma m.length mc, .slice a y.length cap] w fun e w' => e = .returned (.int .i64 (fitsV y m.length 1000000)) ∧ w = w' := by
  have HS := Lib.hid hy; clear hy
  by_cases hlen : (y.length : Int) = (m.length : Int)
  · have y0 : ((y.length : Int) == (m.length : Int)) = true := by simpa using hlen
    have y1 : ((y.length : Int) != (m.length : Int)) = false := by simpa using hlen
    have HE : Hid (fitsV y m.length 1000000 = if allB 1000000 y = true then 0 else 7) := by show _ = _; unfold fitsV; rw [if_pos hlen]
    clear hlen
    go_enter Try.func119, Try.ntmps119
    go_wp2
    go_loopw [14] (fun i wr => ∃ k : Nat, k ≤ y.length ∧ i = .int .i64 k ∧ wr = w ∧ ∀ j, j < k → outB 1000000 (y[j]?.getD 0) = false) (fun i _ => y.length - (intOf i).toNat)
    case atStart => exact ⟨0, Nat.zero_le _, rfl, rfl, fun j h => by omega⟩
    case round =>
      obtain ⟨k, hk, rfl, rfl, hno⟩ := hrel
      have HN := Lib.hid hno; clear hno
      by_cases hlt : k < y.length
      · obtain ⟨b, o, x, rfl, hc, hx⟩ := HS.out.at hlt
        have HX := Lib.hid hx.out
        have HNO : Hid (outB 1000000 x = true → allB 1000000 y = false) := fun h => allB_no hx.out h
        have HRG : Hid (rangeB x (-1000000) 1000000 = !outB 1000000 x) := range_out
        obtain ⟨bb, hbb⟩ : ∃ bb, outB 1000000 x = bb := ⟨_, rfl⟩
        rw [hbb] at HRG HNO
        have HBB := Lib.hid hbb
        clear hx hbb
        go_wp2_with (go_at_call 91; refine (rwithin3_any x (-1000000) 1000000 _).mono ?_; rintro e w1 ⟨rfl, rfl⟩; rw [HRG.out]; cases bb)
        · go_roundw
          case rel => exact ⟨k + 1, by omega, by go_num, by first | trivial | rfl, fun j hj => by
            by_cases e : j = k
            · subst e; rw [HX.out]; exact HBB.out
            · exact HN.out j (by omega)⟩
          case measure => simp [intOf]; omega
        · go_ret
          exact ⟨ret_i64 (by rw [HE.out, HNO.out (by first | trivial | rfl)]; rfl), rfl⟩
      · go_wp2
        go_ret
        exact ⟨ret_i64 (by rw [HE.out, allB_yes (fun j hj => HN.out j (by omega))]; rfl), rfl⟩
  · have y0 : ((y.length : Int) == (m.length : Int)) = false := by simpa using hlen
    have y1 : ((y.length : Int) != (m.length : Int)) = true := by simpa using hlen
    have HE : Hid (fitsV y m.length 1000000 = 9) := by show _ = _; unfold fitsV; rw [if_neg hlen]
    clear hlen
    go_enter Try.func119, Try.ntmps119
    go_wp2
    go_ret
    exact ⟨ret_i64 HE.out.symm, rfl⟩
set_option maxRecDepth 100000 in
set_option maxHeartbeats 800000 in
theorem lindep_any (ma : Option Addr) (m : List (List Int)) (mc : Nat) (a : Option Addr) (px : List Int) (cap : Nat) (w : World) (hm : MOk m) (hl : px.length ≤ 1000) (hs : Ms w ma m) (hp : Sl w a px) :
    Calls Try.prog 15 #[.slice ma m.length mc, .slice a px.length cap] w fun e w' => e = .returned (.tuple #[.bool (indepV m px).1, .int .i64 (indepV m px).2]) ∧ Below w.heap.size w w' := by
  have HVA : Hid (Calls Try.prog 42 #[.slice ma m.length mc] w fun e w' => e = .returned (.bool (validM m)) ∧ Below w.heap.size w w') := mvalid_any ma m mc w hm hs
  cases hv : validM m
  case false =>
    rw [hv] at HVA
    have HE : Hid (indepV m px = (false, 1)) := by show _ = _; simp [indepV, hv]
    clear hv hs hp hm
    rw [HE.out]
    go_enter Try.func15, Try.ntmps15
    go_wp2_with (go_at_call 42; refine HVA.out.mono ?_; rintro e w1 ⟨rfl, hb⟩; have HB := Lib.hid hb; clear hb)
    go_ret2
    exact ⟨rfl, HB.out⟩
  case true =>
    rw [hv] at HVA
    obtain ⟨v, hvv⟩ : ∃ v, listV m px = v := ⟨_, rfl⟩
    have HNA : Hid (∀ W, Below w.heap.size w W → Calls Try.prog 55 #[.slice ma m.length mc, .slice a px.length cap] W fun e w' => e = .returned (.int .i64 v) ∧ Below W.heap.size W w') := fun W hb => by rw [← hvv]; exact llisted_any ma m mc a px cap W hv hl (hs.below hb) (hp.below hb)
    by_cases h0 : v = 0
    · subst h0
      obtain ⟨h1, h2⟩ := listV_ok hvv hv
      obtain ⟨hm1, hm6, hc1, hc10, hrows⟩ := validM_of hv
      have h64 : Hid (All64 m) := fun q hq x hx => by
        obtain ⟨c, hc, rfl⟩ := mem_gt.1 hx
        have := gt_in (hrows q hq).2 hc
        unfold In64; omega
      obtain ⟨rd, hrd⟩ : ∃ rd, redN m px = rd := ⟨_, rfl⟩
      have HRD : Hid (∀ W, Below w.heap.size w W → Calls Try.prog 56 #[.slice ma m.length mc, .slice a px.length cap, .func (.func 57) #[] #[]] W (RdPost rd W)) := fun W hb => by rw [← hrd]; exact reduce_any0 (Lib.hid hm6) (Lib.hid hm1) (Lib.hid h2) (Lib.hid h1) (Lib.hid fun r hr => (hrows r hr).1) h64 (Lib.hid (hs.below hb)) (Lib.hid (hp.below hb))
      obtain ⟨q, hq⟩ : ∃ q, decide (rd.piv.length = px.length) = q := ⟨_, rfl⟩
      have HE : Hid (indepV m px = (q, 0)) := by show _ = _; unfold indepV; rw [if_pos hv, if_pos hvv, hrd, hq]
      have y0 : decide ((rd.piv.length : Int) = (px.length : Int)) = q := by rw [← hq, decide_eq_decide]; omega
      have y1 : ((rd.piv.length : Int) == (px.length : Int)) = q := by rw [← y0]; rfl
      clear hv hs hp hm hvv h1 h2 hq hrd hrows h64 hm1 hm6 hc1 hc10
      obtain ⟨cols, rows, piv, dv⟩ := rd
      dsimp only at y0 y1
      rw [HE.out]
      go_enter Try.func15, Try.ntmps15
      go_wp2_with (first | (go_at_call 42; refine HVA.out.mono ?_; rintro e w1 ⟨rfl, hb⟩; have HB := Lib.hid hb; clear hb) | (go_at_call 55; refine (HNA.out w1 HB.out).mono ?_; rintro e w2 ⟨rfl, hb2⟩; have HB2 : Hid (Below w.heap.size w w2) := HB.out.trans (hb2.mono HB.out.size); clear hb2) | (go_at_call 56; refine (HRD.out w2 HB2.out).mono ?_; rintro e w3 ⟨hb3, g, cp, ads, pa2, pc2, rfl, hgg, si, pi⟩; unfold rdV; dsimp only; have HB3 : Hid (Below w.heap.size w w3) := HB2.out.trans (hb3.mono HB2.out.size); clear si pi hgg hb3) | (go_at_call 58; refine (rank_any cols g rows.length cp pa2 piv pc2 dv _).mono ?_; rintro e w4 ⟨rfl, hb4⟩; have HB4 : Hid (Below w.heap.size w w4) := HB3.out.trans (hb4.mono HB3.out.size); clear hb4))
      go_ret2
      exact ⟨rfl, HB4.out⟩
    · have y0 : (v == 0) = false := by simpa using h0
      have y1 : (v != 0) = true := by simpa using h0
      have HE : Hid (indepV m px = (false, v)) := by show _ = _; unfold indepV; rw [if_pos hv, hvv, if_neg h0]
      clear hv hs hp hm hvv h0
      rw [HE.out]
      go_enter Try.func15, Try.ntmps15
      go_wp2_with (first | (go_at_call 42; refine HVA.out.mono ?_; rintro e w1 ⟨rfl, hb⟩; have HB := Lib.hid hb; clear hb) | (go_at_call 55; refine (HNA.out w1 HB.out).mono ?_; rintro e w2 ⟨rfl, hb2⟩; have HB2 : Hid (Below w.heap.size w w2) := HB.out.trans (hb2.mono HB.out.size); clear hb2))
      go_ret2
      exact ⟨rfl, HB2.out⟩
end Go.Proofs.Ytfkmlonhhdcfpaa
/- Solve of both sides: contracts. -/
namespace Go.Proofs.Ytfkmlonhhdcfpaa
open Go.RowKit

/-- What Solve answers. -/
def solveV (m : List (List Int)) (px y : List Int) : List (Int × Int) × Int :=
  if readE m y = 0 then (if listV m px = 0 then (if possB (redB m px (oneB y)).rows (redB m px (oneB y)).piv.length px.length = true then (if (redB m px (oneB y)).piv.length < px.length then ([], 11) else (solL px.length (redB m px (oneB y)).rows (redB m px (oneB y)).piv (redB m px (oneB y)).dv (redB m px (oneB y)).piv.length, 0)) else ([], 8)) else ([], listV m px)) else ([], readE m y)
/-- What a function that returns fractions and an error returns. -/
def RLPost (r : List (Int × Int) × Int) (w : World) (e : Ending) (w' : World) : Prop := Below w.heap.size w w' ∧ ∃ a cap, e = .returned (.tuple #[.slice a r.1.length cap, .int .i64 r.2]) ∧ Rl w' a r.1
theorem RLPost.err {w w' : World} {n : Int} (hb : Below w.heap.size w w') : RLPost ([], n) w (.returned (.tuple #[.slice none 0 0, .int .i64 n])) w' := ⟨hb, none, 0, rfl, fun j p h => by simp at h⟩
theorem readE_ok {m : List (List Int)} {y : List Int} (h : readE m y = 0) : validM m = true ∧ y.length = m.length ∧ allB 1000000 y = true := by
  unfold readE at h
  split at h
  · rename_i hv
    obtain ⟨h1, h2⟩ := fitsV_0 h
    exact ⟨hv, by omega, h2⟩
  · cases h
theorem pixB_row {px : List Int} {m : List (List Int)} {y : List Int} : ∀ q ∈ pixB px m (oneB y), q.length = px.length + 1 := fun q hq => by
  obtain ⟨i, _, rfl⟩ := List.mem_map.1 hq
  rw [List.length_append, pixR_len]; rfl
theorem pixB_at {px : List Int} {m : List (List Int)} {y : List Int} {i c : Nat} (hi : i < m.length) : a0 (pixB px m (oneB y)) i c = if c < px.length then gt (rowL m i) (gt px c).toNat else if c = px.length then gt y i else 0 := by
  unfold a0
  have e : rowL (pixB px m (oneB y)) i = pixR px (rowL m i) ++ [gt y i] := by unfold pixB rowL; simp [hi]; rfl
  rw [e, gt_snoc, pixR_len]
  split
  · rename_i h; rw [gt_pixR h]
  · rfl
theorem pixB_bd {m : List (List Int)} {px y : List Int} (hv : validM m = true) (hpx : ∀ j ∈ px, 0 ≤ j ∧ j < (colsM m : Int)) (hy : y.length = m.length) (hb : allB 1000000 y = true) :
    (∀ i, i < m.length → ∀ c, c < px.length → -1 ≤ a0 (pixB px m (oneB y)) i c ∧ a0 (pixB px m (oneB y)) i c ≤ 1) ∧ ∀ i, i < m.length → ∀ c, c < px.length + 1 → -1000000 ≤ a0 (pixB px m (oneB y)) i c ∧ a0 (pixB px m (oneB y)) i c ≤ 1000000 := by
  obtain ⟨_, _, _, _, hrows⟩ := validM_of hv
  have h1 : ∀ i, i < m.length → ∀ c, c < px.length → -1 ≤ a0 (pixB px m (oneB y)) i c ∧ a0 (pixB px m (oneB y)) i c ≤ 1 := fun i hi c hc => by
    rw [pixB_at hi, if_pos hc]
    have hr := hrows _ (rowL_mem hi)
    have := hpx _ (mem_gt.2 ⟨c, hc, rfl⟩)
    exact gt_in hr.2 (by rw [hr.1]; omega)
  refine ⟨h1, fun i hi c hc => ?_⟩
  by_cases e : c < px.length
  · have := h1 i hi c e; omega
  · rw [pixB_at hi, if_neg e, if_pos (by omega)]
    exact gt_in hb (by omega)
theorem redB_fin {m : List (List Int)} {px y : List Int} (hv : validM m = true) (hpx : ∀ j ∈ px, 0 ≤ j ∧ j < (colsM m : Int)) (hy : y.length = m.length) (hb : allB 1000000 y = true) :
    RFin m.length (px.length + 1) px.length (a0 (pixB px m (oneB y))) (redB m px (oneB y)) := by
  obtain ⟨b1, b2⟩ := pixB_bd hv hpx hy hb
  exact rd_fin (pixB_len _ _ _) pixB_row (validM_of hv).2.1 (Nat.le_succ _) b1 b2
theorem redB_cols (m : List (List Int)) (px : List Int) (bh : Nat → List Int) : (redB m px bh).cols = px.length := clearN_cols _ _
theorem box_cells {w3 W4 : World} {a b c d : Value} {t : TypeId} (h : w3.alloc (.cells #[a, b, c, d] t) = W4) : ∀ W, Below W4.heap.size W4 W → W.cell? ⟨w3.heap.size, 0, none⟩ = some a ∧ W.cell? ⟨w3.heap.size, 1, none⟩ = some b ∧ W.cell? ⟨w3.heap.size, 2, none⟩ = some c ∧ W.cell? ⟨w3.heap.size, 3, none⟩ = some d := by
  subst h
  intro W hb
  have hl : w3.heap.size < (w3.alloc (.cells #[a, b, c, d] t)).heap.size := by rw [World.size_alloc]; omega
  exact ⟨(hb.cell (p := ⟨w3.heap.size, 0, none⟩) hl).trans (alloc_cell _ _ _ _ _ rfl), (hb.cell (p := ⟨w3.heap.size, 1, none⟩) hl).trans (alloc_cell _ _ _ _ _ rfl), (hb.cell (p := ⟨w3.heap.size, 2, none⟩) hl).trans (alloc_cell _ _ _ _ _ rfl), (hb.cell (p := ⟨w3.heap.size, 3, none⟩) hl).trans (alloc_cell _ _ _ _ _ rfl)⟩
set_option maxRecDepth 1000000 in
set_option maxHeartbeats 3200000 in
theorem lsolve_any (ma : Option Addr) (m : List (List Int)) (mc : Nat) (a : Option Addr) (px : List Int) (cap : Nat) (ya : Option Addr) (y : List Int) (yc : Nat) (w : World) (hm : MOk m) (hl : px.length ≤ 1000) (hly : y.length ≤ 1000) (hs : Ms w ma m) (hp : Sl w a px) (hy : Sl w ya y) :
    Calls Try.prog 124 #[.slice ma m.length mc, .slice a px.length cap, .slice ya y.length yc] w (RLPost (solveV m px y) w) := by
  obtain ⟨rv, hrv⟩ : ∃ rv, readE m y = rv := ⟨_, rfl⟩
  have HRE : Hid (Calls Try.prog 131 #[.slice ma m.length mc, .slice ya y.length yc] w fun e w' => e = .returned (.int .i64 rv) ∧ Below w.heap.size w w') := by rw [← hrv]; exact lread_any ma m mc ya y yc w hm (by omega) hs hy
  by_cases hr0 : rv = 0
  · subst hr0
    obtain ⟨hv, hyl, hyb⟩ := readE_ok hrv
    obtain ⟨v, hvv⟩ : ∃ v, listV m px = v := ⟨_, rfl⟩
    have HNA : Hid (∀ W, Below w.heap.size w W → Calls Try.prog 55 #[.slice ma m.length mc, .slice a px.length cap] W fun e w' => e = .returned (.int .i64 v) ∧ Below W.heap.size W w') := fun W hb => by rw [← hvv]; exact llisted_any ma m mc a px cap W hv hl (hs.below hb) (hp.below hb)
    by_cases h0 : v = 0
    · subst h0
      obtain ⟨h1, h2⟩ := listV_ok hvv hv
      obtain ⟨hm1, hm6, hc1, hc10, hrows⟩ := validM_of hv
      have h64 : Hid (All64 m) := fun q hq x hx => by
        obtain ⟨c, hc, rfl⟩ := mem_gt.1 hx
        have := gt_in (hrows q hq).2 hc
        unfold In64; omega
      have hy64 : ∀ x ∈ y, In64 x := fun x hx => by
        obtain ⟨c, hc, rfl⟩ := mem_gt.1 hx
        have := gt_in hyb hc
        unfold In64; omega
      have HF := Lib.hid (redB_fin hv h1 hyl hyb)
      have hco := redB_cols m px (oneB y)
      obtain ⟨rd, hrd⟩ : ∃ rd, redB m px (oneB y) = rd := ⟨_, rfl⟩
      have HRD : Hid (∀ W, Below w.heap.size w W → Calls Try.prog 56 #[.slice ma m.length mc, .slice a px.length cap, .func (.func 140) #[] #[.pointer (some ⟨W.heap.size, 0, none⟩)]] (W.alloc (.cells #[.slice ya y.length yc] 24)) (RdPost rd (W.alloc (.cells #[.slice ya y.length yc] 24)))) := fun W hb => by
        have hb2 : Below w.heap.size w (W.alloc (.cells #[.slice ya y.length yc] 24)) := hb.alloc hb.size _
        rw [← hrd]
        exact reduce_any0One (Lib.hid (one_beh (Nat.le_of_eq hyl.symm) hly (alloc_cell _ _ _ _ _ rfl) (hy.below hb2))) ⟨Nat.le_refl _, by decide⟩ (Lib.hid (oneB_ok hy64)) (Lib.hid hm6) (Lib.hid hm1) (Lib.hid h2) (Lib.hid h1) (Lib.hid fun r hr => (hrows r hr).1) h64 (Lib.hid (hs.below hb2)) (Lib.hid (hp.below hb2))
      have HSV : Hid (solveV m px y = if possB rd.rows rd.piv.length px.length = true then (if rd.piv.length < px.length then ([], 11) else (solL px.length rd.rows rd.piv rd.dv rd.piv.length, 0)) else ([], 8)) := by show _ = _; unfold solveV; rw [if_pos hrv, if_pos hvv, hrd]
      rw [hrd] at HF hco
      obtain ⟨pl, hpl⟩ : ∃ pl, px.length = pl := ⟨_, rfl⟩
      rw [hpl] at HF hco HSV HRD h2 HNA ⊢
      obtain ⟨cols, rows, piv, dv⟩ := rd
      dsimp only at hco HSV
      subst hco
      have hlen := HF.out.len
      have hrow := HF.out.row
      have hplr := HF.out.pl
      dsimp only at hlen hrow hplr
      have hpos := HF.out.pos
      dsimp only at hpos
      have hmid : ∀ t, t < piv.length → Mid (gt (rowL rows t) cols) := fun t ht => by
        have := HF.out.bdN t (by omega) cols (by omega)
        dsimp only at this
        unfold Mid; omega
      have hpz : ∀ t, t < piv.length → 0 ≤ gt piv t ∧ gt piv t < cols := fun t ht => HF.out.pz t ht
      obtain ⟨z, hz⟩ : ∃ z, possB rows piv.length cols = z := ⟨_, rfl⟩
      rw [hz] at HSV
      have HPO : Hid (∀ (g cp : Nat) (ads : List (Nat × Nat)) (pa : Option Addr) (pc base : Nat) (W : World), SI W base g ads rows → Calls Try.prog 133 #[.agg #[.int .i64 (cols : Int), .slice (some ⟨g, 0, none⟩) rows.length cp, .slice pa piv.length pc, .int .i64 dv]] W fun e w' => e = .returned (.bool z) ∧ Below W.heap.size W w') := fun g cp ads pa pc base W h => by rw [← hz]; exact possible_any cols g cp (cols + 1) ads rows pa piv.length pc piv dv base W rfl (by omega) (by omega) hrow (by omega) (by omega) h
      have HSO : Hid (∀ (g cp : Nat) (ads : List (Nat × Nat)) (pa : Option Addr) (pc base : Nat) (W : World), SI W base g ads rows → Sl W pa piv → Calls Try.prog 135 #[.agg #[.int .i64 (cols : Int), .slice (some ⟨g, 0, none⟩) rows.length cp, .slice pa piv.length pc, .int .i64 dv]] W fun e w' => ∃ b c, e = .returned (.slice (some ⟨b, 0, none⟩) cols c) ∧ OwnR w' W.heap.size (.slice (some ⟨b, 0, none⟩) cols c) (solL cols rows piv dv piv.length) ∧ Below W.heap.size W w') := fun g cp ads pa pc base W h h2 => solved_any cols g cp (cols + 1) ads rows pa piv pc dv base W (by omega) (by omega) hrow (by omega) (by omega) h h2 hpz hmid (by unfold Mid; omega) (by omega)
      clear hv hs hp hm hvv h1 hrd hrows h64 hm1 hm6 hc1 hc10 hrv hyl hyb hy64 hy hpl hlen hrow hplr hpos hmid hpz hz HF
      have HLS := solL_len cols rows piv dv piv.length
      cases z with
      | false =>
        rw [HSV.out]
        clear HSV
        go_enter Try.func124, Try.ntmps124
        go_wp2_with (first | (go_at_call 131; refine HRE.out.mono ?_; rintro e w1 ⟨rfl, hb⟩; have HB := Lib.hid hb; clear hb) | (go_at_call 55; refine (HNA.out w1 HB.out).mono ?_; rintro e w2 ⟨rfl, hb2⟩; have HB2 : Hid (Below w.heap.size w w2) := HB.out.trans (hb2.mono HB.out.size); clear hb2) | (go_at_call 132; refine (oneOf_any ya y.length yc w2).mono ?_; rintro e w9 ⟨rfl, rfl⟩) | (go_at_call 56; refine (HRD.out w2 HB2.out).mono ?_; rintro e w3 ⟨hb3, g, cp, ads, pa2, pc2, rfl, hgg, si, pi⟩; unfold rdV; dsimp only at si pi ⊢; obtain ⟨W4, hW4⟩ : ∃ W4, w3.alloc (.cells #[.int .i64 (cols : Int), .slice (some ⟨g, 0, none⟩) rows.length cp, .slice pa2 piv.length pc2, .int .i64 dv] 71) = W4 := ⟨_, rfl⟩; have HCW : Hid (∀ W, Below W4.heap.size W4 W → W.cell? ⟨w3.heap.size, 0, none⟩ = some (.int .i64 (cols : Int)) ∧ W.cell? ⟨w3.heap.size, 1, none⟩ = some (.slice (some ⟨g, 0, none⟩) rows.length cp) ∧ W.cell? ⟨w3.heap.size, 2, none⟩ = some (.slice pa2 piv.length pc2) ∧ W.cell? ⟨w3.heap.size, 3, none⟩ = some (.int .i64 dv)) := box_cells hW4; obtain ⟨k0, k1, k2, k3⟩ := HCW.out W4 (Below.refl _ _); have HB4 : Hid (Below w3.heap.size w3 W4) := hW4 ▸ (Below.refl _ _).alloc (Nat.le_refl _) _; have HSI := Lib.hid si; have HPI := Lib.hid (OwnI.sl pi); have HB3 := Lib.hid hb3; have HSI4 := Lib.hid (HSI.out.below HB4.out); have HPI4 := Lib.hid (HPI.out.below HB4.out); have HBW4 : Hid (Below w.heap.size w W4) := (HB2.out.alloc HB2.out.size _).trans ((HB3.out.mono (by rw [World.size_alloc]; have := HB2.out.size; omega)).trans (HB4.out.mono (by have h1 := HB3.out.size; rw [World.size_alloc] at h1; have := HB2.out.size; omega))); clear si pi hgg hb3) | (go_at_call 133; refine (HPO.out _ _ _ _ _ _ _ HSI4.out).mono ?_; rintro e w5 ⟨rfl, hb5⟩; have HB5 := Lib.hid hb5; obtain ⟨j0, j1, j2, j3⟩ := HCW.out w5 hb5; clear hb5) | (go_at_call 58; refine (rank_any cols g rows.length cp pa2 piv pc2 dv _).mono ?_; rintro e w6 ⟨rfl, hb6⟩; have HB6 : Hid (Below W4.heap.size W4 w6) := HB5.out.trans (hb6.mono HB5.out.size); obtain ⟨i0, i1, i2, i3⟩ := HCW.out w6 HB6.out; clear hb6) | (go_at_call 135; refine (HSO.out _ _ _ _ _ _ _ (HSI4.out.below HB6.out) (HPI4.out.below HB6.out)).mono ?_; rintro e w7 ⟨sb, sc, rfl, ho7, hb7⟩; have HO7 := Lib.hid ho7; have HB7 : Hid (Below W4.heap.size W4 w7) := HB6.out.trans (hb7.mono HB6.out.size); clear ho7 hb7))
        go_ret2
        exact RLPost.err (HBW4.out.trans (HB5.out.mono HBW4.out.size))
      | true =>
        by_cases hlt : piv.length < cols
        · have y0 : decide (piv.length < cols) = true := by simpa using hlt
          have HS2 : Hid (solveV m px y = ([], 11)) := by show _ = _; rw [HSV.out, if_pos rfl, if_pos hlt]
          rw [HS2.out]
          clear HSV
          go_enter Try.func124, Try.ntmps124
          go_wp2_with (first | (go_at_call 131; refine HRE.out.mono ?_; rintro e w1 ⟨rfl, hb⟩; have HB := Lib.hid hb; clear hb) | (go_at_call 55; refine (HNA.out w1 HB.out).mono ?_; rintro e w2 ⟨rfl, hb2⟩; have HB2 : Hid (Below w.heap.size w w2) := HB.out.trans (hb2.mono HB.out.size); clear hb2) | (go_at_call 132; refine (oneOf_any ya y.length yc w2).mono ?_; rintro e w9 ⟨rfl, rfl⟩) | (go_at_call 56; refine (HRD.out w2 HB2.out).mono ?_; rintro e w3 ⟨hb3, g, cp, ads, pa2, pc2, rfl, hgg, si, pi⟩; unfold rdV; dsimp only at si pi ⊢; obtain ⟨W4, hW4⟩ : ∃ W4, w3.alloc (.cells #[.int .i64 (cols : Int), .slice (some ⟨g, 0, none⟩) rows.length cp, .slice pa2 piv.length pc2, .int .i64 dv] 71) = W4 := ⟨_, rfl⟩; have HCW : Hid (∀ W, Below W4.heap.size W4 W → W.cell? ⟨w3.heap.size, 0, none⟩ = some (.int .i64 (cols : Int)) ∧ W.cell? ⟨w3.heap.size, 1, none⟩ = some (.slice (some ⟨g, 0, none⟩) rows.length cp) ∧ W.cell? ⟨w3.heap.size, 2, none⟩ = some (.slice pa2 piv.length pc2) ∧ W.cell? ⟨w3.heap.size, 3, none⟩ = some (.int .i64 dv)) := box_cells hW4; obtain ⟨k0, k1, k2, k3⟩ := HCW.out W4 (Below.refl _ _); have HB4 : Hid (Below w3.heap.size w3 W4) := hW4 ▸ (Below.refl _ _).alloc (Nat.le_refl _) _; have HSI := Lib.hid si; have HPI := Lib.hid (OwnI.sl pi); have HB3 := Lib.hid hb3; have HSI4 := Lib.hid (HSI.out.below HB4.out); have HPI4 := Lib.hid (HPI.out.below HB4.out); have HBW4 : Hid (Below w.heap.size w W4) := (HB2.out.alloc HB2.out.size _).trans ((HB3.out.mono (by rw [World.size_alloc]; have := HB2.out.size; omega)).trans (HB4.out.mono (by have h1 := HB3.out.size; rw [World.size_alloc] at h1; have := HB2.out.size; omega))); clear si pi hgg hb3) | (go_at_call 133; refine (HPO.out _ _ _ _ _ _ _ HSI4.out).mono ?_; rintro e w5 ⟨rfl, hb5⟩; have HB5 := Lib.hid hb5; obtain ⟨j0, j1, j2, j3⟩ := HCW.out w5 hb5; clear hb5) | (go_at_call 58; refine (rank_any cols g rows.length cp pa2 piv pc2 dv _).mono ?_; rintro e w6 ⟨rfl, hb6⟩; have HB6 : Hid (Below W4.heap.size W4 w6) := HB5.out.trans (hb6.mono HB5.out.size); obtain ⟨i0, i1, i2, i3⟩ := HCW.out w6 HB6.out; clear hb6) | (go_at_call 135; refine (HSO.out _ _ _ _ _ _ _ (HSI4.out.below HB6.out) (HPI4.out.below HB6.out)).mono ?_; rintro e w7 ⟨sb, sc, rfl, ho7, hb7⟩; have HO7 := Lib.hid ho7; have HB7 : Hid (Below W4.heap.size W4 w7) := HB6.out.trans (hb7.mono HB6.out.size); clear ho7 hb7))
          go_ret2
          exact RLPost.err (HBW4.out.trans (HB6.out.mono HBW4.out.size))
        · have y0 : decide (piv.length < cols) = false := by simpa using hlt
          have HS2 : Hid (solveV m px y = (solL cols rows piv dv piv.length, 0)) := by show _ = _; rw [HSV.out, if_pos rfl, if_neg hlt]
          rw [HS2.out]
          clear HSV
          go_enter Try.func124, Try.ntmps124
          go_wp2_with (first | (go_at_call 131; refine HRE.out.mono ?_; rintro e w1 ⟨rfl, hb⟩; have HB := Lib.hid hb; clear hb) | (go_at_call 55; refine (HNA.out w1 HB.out).mono ?_; rintro e w2 ⟨rfl, hb2⟩; have HB2 : Hid (Below w.heap.size w w2) := HB.out.trans (hb2.mono HB.out.size); clear hb2) | (go_at_call 132; refine (oneOf_any ya y.length yc w2).mono ?_; rintro e w9 ⟨rfl, rfl⟩) | (go_at_call 56; refine (HRD.out w2 HB2.out).mono ?_; rintro e w3 ⟨hb3, g, cp, ads, pa2, pc2, rfl, hgg, si, pi⟩; unfold rdV; dsimp only at si pi ⊢; obtain ⟨W4, hW4⟩ : ∃ W4, w3.alloc (.cells #[.int .i64 (cols : Int), .slice (some ⟨g, 0, none⟩) rows.length cp, .slice pa2 piv.length pc2, .int .i64 dv] 71) = W4 := ⟨_, rfl⟩; have HCW : Hid (∀ W, Below W4.heap.size W4 W → W.cell? ⟨w3.heap.size, 0, none⟩ = some (.int .i64 (cols : Int)) ∧ W.cell? ⟨w3.heap.size, 1, none⟩ = some (.slice (some ⟨g, 0, none⟩) rows.length cp) ∧ W.cell? ⟨w3.heap.size, 2, none⟩ = some (.slice pa2 piv.length pc2) ∧ W.cell? ⟨w3.heap.size, 3, none⟩ = some (.int .i64 dv)) := box_cells hW4; obtain ⟨k0, k1, k2, k3⟩ := HCW.out W4 (Below.refl _ _); have HB4 : Hid (Below w3.heap.size w3 W4) := hW4 ▸ (Below.refl _ _).alloc (Nat.le_refl _) _; have HSI := Lib.hid si; have HPI := Lib.hid (OwnI.sl pi); have HB3 := Lib.hid hb3; have HSI4 := Lib.hid (HSI.out.below HB4.out); have HPI4 := Lib.hid (HPI.out.below HB4.out); have HBW4 : Hid (Below w.heap.size w W4) := (HB2.out.alloc HB2.out.size _).trans ((HB3.out.mono (by rw [World.size_alloc]; have := HB2.out.size; omega)).trans (HB4.out.mono (by have h1 := HB3.out.size; rw [World.size_alloc] at h1; have := HB2.out.size; omega))); clear si pi hgg hb3) | (go_at_call 133; refine (HPO.out _ _ _ _ _ _ _ HSI4.out).mono ?_; rintro e w5 ⟨rfl, hb5⟩; have HB5 := Lib.hid hb5; obtain ⟨j0, j1, j2, j3⟩ := HCW.out w5 hb5; clear hb5) | (go_at_call 58; refine (rank_any cols g rows.length cp pa2 piv pc2 dv _).mono ?_; rintro e w6 ⟨rfl, hb6⟩; have HB6 : Hid (Below W4.heap.size W4 w6) := HB5.out.trans (hb6.mono HB5.out.size); obtain ⟨i0, i1, i2, i3⟩ := HCW.out w6 HB6.out; clear hb6) | (go_at_call 135; refine (HSO.out _ _ _ _ _ _ _ (HSI4.out.below HB6.out) (HPI4.out.below HB6.out)).mono ?_; rintro e w7 ⟨sb, sc, rfl, ho7, hb7⟩; have HO7 := Lib.hid ho7; have HB7 : Hid (Below W4.heap.size W4 w7) := HB6.out.trans (hb7.mono HB6.out.size); clear ho7 hb7))
          go_ret2
          refine ⟨HBW4.out.trans (HB7.out.mono HBW4.out.size), _, sc, by (rw [HLS]; rfl), OwnR.rl (cap := sc) (base := w6.heap.size) ?_⟩
          rw [HLS]; exact HO7.out
    · have y0 : (v == 0) = false := by simpa using h0
      have y1 : (v != 0) = true := by simpa using h0
      have HSV : Hid (solveV m px y = ([], v)) := by show _ = _; unfold solveV; rw [if_pos hrv, hvv, if_neg h0]
      rw [HSV.out]
      clear hv hs hp hm hvv h0 hrv hy hyl hyb HSV
      go_enter Try.func124, Try.ntmps124
      go_wp2_with (first | (go_at_call 131; refine HRE.out.mono ?_; rintro e w1 ⟨rfl, hb⟩; have HB := Lib.hid hb; clear hb) | (go_at_call 55; refine (HNA.out w1 HB.out).mono ?_; rintro e w2 ⟨rfl, hb2⟩; have HB2 : Hid (Below w.heap.size w w2) := HB.out.trans (hb2.mono HB.out.size); clear hb2))
      go_ret2
      exact RLPost.err HB2.out
  · have y0 : (rv == 0) = false := by simpa using hr0
    have y1 : (rv != 0) = true := by simpa using hr0
    have HSV : Hid (solveV m px y = ([], rv)) := by show _ = _; unfold solveV; rw [hrv, if_neg hr0]
    rw [HSV.out]
    clear hs hp hm hr0 hrv hy HSV
    go_enter Try.func124, Try.ntmps124
    go_wp2_with (go_at_call 131; refine HRE.out.mono ?_; rintro e w1 ⟨rfl, hb⟩; have HB := Lib.hid hb; clear hb)
    go_ret2
    exact RLPost.err HB.out
end Go.Proofs.Ytfkmlonhhdcfpaa
/- Solve of the answers, and fractions compared: contracts. -/
namespace Go.Proofs.Ytfkmlonhhdcfpaa
open Go.RowKit

set_option maxRecDepth 1000000 in
set_option maxHeartbeats 3200000 in
theorem rsolve_any (ma : Option Addr) (m : List (List Int)) (mc : Nat) (a : Option Addr) (px : List Int) (cap : Nat) (ya : Option Addr) (y : List Int) (yc : Nat) (w : World) (hm : MOk m) (hl : px.length ≤ 1000) (hly : y.length ≤ 1000) (hs : Ms w ma m) (hp : Sl w a px) (hy : Sl w ya y) :
    Calls Try.prog 134 #[.slice ma m.length mc, .slice a px.length cap, .slice ya y.length yc] w (RLPost (solveV m px y) w) := by
  have HVA : Hid (Calls Try.prog 45 #[.slice ma m.length mc] w fun e w' => e = .returned (.bool (validM m)) ∧ w = w') := rvalid_any ma m mc w hm hs
  obtain ⟨rv, hrv⟩ : ∃ rv, fitsV y m.length 1000000 = rv := ⟨_, rfl⟩
  have HRE : Hid (Calls Try.prog 119 #[.slice ma m.length mc, .slice ya y.length yc] w fun e w' => e = .returned (.int .i64 rv) ∧ w = w') := by rw [← hrv]; exact rreading_any ma m mc ya y yc w hm.1 (by omega) hy
  cases hv : validM m
  case false =>
    rw [hv] at HVA
    have HSV : Hid (solveV m px y = ([], 1)) := by
      show _ = _
      have e : readE m y = 1 := by simp [readE, hv]
      unfold solveV; rw [e]; rfl
    rw [HSV.out]
    clear hv hs hp hm hy HSV hrv
    go_enter Try.func134, Try.ntmps134
    go_wp2_with (go_at_call 45; refine HVA.out.mono ?_; rintro e w1 ⟨rfl, rfl⟩)
    go_ret2
    exact RLPost.err (Below.refl _ _)
  case true =>
    rw [hv] at HVA
    have hrE : readE m y = rv := by unfold readE; rw [if_pos hv, hrv]
    by_cases hlen : (y.length : Int) = (m.length : Int)
    · have y2 : ((y.length : Int) == (m.length : Int)) = true := by simpa using hlen
      have y3 : ((y.length : Int) != (m.length : Int)) = false := by simpa using hlen
      by_cases hr0 : rv = 0
      · subst hr0
        obtain ⟨_, hyl, hyb⟩ := readE_ok hrE
        obtain ⟨v, hvv⟩ : ∃ v, listV m px = v := ⟨_, rfl⟩
        have HNA : Hid (Calls Try.prog 142 #[.slice ma m.length mc, .slice a px.length cap] w fun e w' => e = .returned (.int .i64 v) ∧ Below w.heap.size w w') := by rw [← hvv]; exact rnamed_any ma m mc a px cap w hv hl hs hp
        by_cases h0 : v = 0
        · subst h0
          obtain ⟨h1, h2⟩ := listV_ok hvv hv
          obtain ⟨hm1, hm6, hc1, hc10, hrows⟩ := validM_of hv
          obtain ⟨b1, b2⟩ := pixB_bd hv h1 hyl hyb
          have hfin := redB_fin hv h1 hyl hyb
          obtain ⟨s1, s2⟩ := sol_same (pixB_len px m (oneB y)) pixB_row hm6 b1 b2 hfin
          obtain ⟨p1, p2⟩ := red_pre (pixB_len px m (oneB y)) pixB_row hm6 (Nat.le_refl _) b1 b2
          have hsf := sf_of (pixB_len px m (oneB y)) pixB_row hm6 b1 b2
          have HSO : Hid (∀ W, Below w.heap.size w W → Calls Try.prog 143 #[.slice ma m.length mc, .slice a px.length cap, .slice ya y.length yc] W fun e w' => Below W.heap.size W w' ∧ if (px.length : Int) ∈ (redR (pixB px m (oneB y)) (px.length + 1)).piv then e = .returned (.tuple #[.slice none 0 0, .int .i64 0, .bool false]) else
              ∃ b c, e = .returned (.tuple #[.slice (some ⟨b, 0, none⟩) px.length c, .int .i64 ((px.length : Int) - ((redR (pixB px m (oneB y)) (px.length + 1)).piv.length : Int)), .bool true]) ∧ OwnR w' W.heap.size (.slice (some ⟨b, 0, none⟩) px.length c) (solRT (redR (pixB px m (oneB y)) (px.length + 1)) px.length (redR (pixB px m (oneB y)) (px.length + 1)).piv.length)) := fun W hb => rsolved_any ma m mc a px cap ya y yc W _ hm1 hm6 h2 h1 (fun r hr => (hrows r hr).1) hyl (hs.below hb) (hp.below hb) (hy.below hb) rfl p1 p2 hsf
          have HSV : Hid (solveV m px y = if possB (redB m px (oneB y)).rows (redB m px (oneB y)).piv.length px.length = true then (if (redB m px (oneB y)).piv.length < px.length then ([], 11) else (solL px.length (redB m px (oneB y)).rows (redB m px (oneB y)).piv (redB m px (oneB y)).dv (redB m px (oneB y)).piv.length, 0)) else ([], 8)) := by show _ = _; unfold solveV; rw [if_pos hrE, if_pos hvv]
          cases hz : possB (redB m px (oneB y)).rows (redB m px (oneB y)).piv.length px.length with
          | false =>
            have hin := s1 hz
            simp only [if_pos hin] at HSO
            rw [HSV.out, hz]
            clear hv hs hp hm hvv hrv hrE hy hyl hyb HSV s1 s2 p1 p2 b1 b2 hfin hsf hin hz h1 hrows hlen
            go_enter Try.func134, Try.ntmps134
            go_wp2_with (first | (go_at_call 45; refine HVA.out.mono ?_; rintro e w1 ⟨rfl, rfl⟩) | (go_at_call 119; refine HRE.out.mono ?_; rintro e w1 ⟨rfl, rfl⟩) | (go_at_call 142; refine HNA.out.mono ?_; rintro e w2 ⟨rfl, hb2⟩; have HB2 := Lib.hid hb2; clear hb2) | (go_at_call 143; refine (HSO.out w2 HB2.out).mono ?_; rintro e w3 ⟨hb3, rfl⟩; have HB3 : Hid (Below w.heap.size w w3) := HB2.out.trans (hb3.mono HB2.out.size); clear hb3))
            go_ret2
            exact RLPost.err HB3.out
          | true =>
            obtain ⟨t1, t2, t3⟩ := s2 hz
            simp only [if_neg t1] at HSO
            rw [t3, t2] at HSO
            rw [hz] at HSV
            obtain ⟨kn, hkn⟩ : ∃ kn, (redB m px (oneB y)).piv.length = kn := ⟨_, rfl⟩
            obtain ⟨L, hL⟩ : ∃ L, solL px.length (redB m px (oneB y)).rows (redB m px (oneB y)).piv (redB m px (oneB y)).dv (redB m px (oneB y)).piv.length = L := ⟨_, rfl⟩
            have HLL : Hid (L.length = px.length) := by show _ = _; rw [← hL]; exact solL_len _ _ _ _ _
            have hkn6 : kn ≤ 6 := by rw [← hkn]; have := hfin.pl; omega
            rw [hL, hkn] at HSO HSV
            obtain ⟨pl, hpl⟩ : ∃ pl, px.length = pl := ⟨_, rfl⟩
            rw [hpl] at HSO HSV HLL h2 HNA ⊢
            have hpl1 : pl ≤ 10 := h2
            clear hv hs hp hm hvv hrv hrE hy hyl hyb s1 s2 p1 p2 b1 b2 hfin hsf hz h1 hrows t1 t2 t3 hkn hL hpl hlen h2
            by_cases hlt : kn < pl
            · have y0 : decide ((0 : Int) < (pl : Int) - (kn : Int)) = true := by simp; omega
              have hq : (0 : Int) < (pl : Int) - (kn : Int) := by omega
              have HS2 : Hid (solveV m px y = ([], 11)) := by show _ = _; rw [HSV.out, if_pos rfl, if_pos hlt]
              rw [HS2.out]
              clear HSV
              obtain ⟨D, hD⟩ : ∃ D, (pl : Int) - (kn : Int) = D := ⟨_, rfl⟩
              rw [hD] at HSO y0 hq
              clear hD
              go_enter Try.func134, Try.ntmps134
              go_wp2_with (first | (go_at_call 45; refine HVA.out.mono ?_; rintro e w1 ⟨rfl, rfl⟩) | (go_at_call 119; refine HRE.out.mono ?_; rintro e w1 ⟨rfl, rfl⟩) | (go_at_call 142; refine HNA.out.mono ?_; rintro e w2 ⟨rfl, hb2⟩; have HB2 := Lib.hid hb2; clear hb2) | (go_at_call 143; refine (HSO.out w2 HB2.out).mono ?_; rintro e w3 ⟨hb3, sb, sc, rfl, ho⟩; have HO := Lib.hid ho; have HB3 : Hid (Below w.heap.size w w3) := HB2.out.trans (hb3.mono HB2.out.size); clear hb3 ho))
              go_ret2
              exact RLPost.err HB3.out
            · have y0 : decide ((0 : Int) < (pl : Int) - (kn : Int)) = false := by simp; omega
              have hq : ¬ (0 : Int) < (pl : Int) - (kn : Int) := by omega
              have HS2 : Hid (solveV m px y = (L, 0)) := by show _ = _; rw [HSV.out, if_pos rfl, if_neg hlt]
              rw [HS2.out]
              clear HSV
              obtain ⟨D, hD⟩ : ∃ D, (pl : Int) - (kn : Int) = D := ⟨_, rfl⟩
              rw [hD] at HSO y0 hq
              clear hD
              go_enter Try.func134, Try.ntmps134
              go_wp2_with (first | (go_at_call 45; refine HVA.out.mono ?_; rintro e w1 ⟨rfl, rfl⟩) | (go_at_call 119; refine HRE.out.mono ?_; rintro e w1 ⟨rfl, rfl⟩) | (go_at_call 142; refine HNA.out.mono ?_; rintro e w2 ⟨rfl, hb2⟩; have HB2 := Lib.hid hb2; clear hb2) | (go_at_call 143; refine (HSO.out w2 HB2.out).mono ?_; rintro e w3 ⟨hb3, sb, sc, rfl, ho⟩; have HO := Lib.hid ho; have HB3 : Hid (Below w.heap.size w w3) := HB2.out.trans (hb3.mono HB2.out.size); clear hb3 ho))
              go_ret2
              refine ⟨HB3.out, _, sc, by (rw [HLL.out]; rfl), OwnR.rl (cap := sc) (w := w3) (base := w2.heap.size) ?_⟩
              rw [HLL.out]; exact HO.out
        · have y0 : (v == 0) = false := by simpa using h0
          have y1 : (v != 0) = true := by simpa using h0
          have HSV : Hid (solveV m px y = ([], v)) := by show _ = _; unfold solveV; rw [if_pos hrE, hvv, if_neg h0]
          rw [HSV.out]
          clear hv hs hp hm hvv h0 hrv hrE hy hyl hyb HSV hlen
          go_enter Try.func134, Try.ntmps134
          go_wp2_with (first | (go_at_call 45; refine HVA.out.mono ?_; rintro e w1 ⟨rfl, rfl⟩) | (go_at_call 119; refine HRE.out.mono ?_; rintro e w1 ⟨rfl, rfl⟩) | (go_at_call 142; refine HNA.out.mono ?_; rintro e w2 ⟨rfl, hb2⟩; have HB2 := Lib.hid hb2; clear hb2))
          go_ret2
          exact RLPost.err HB2.out
      · have y0 : (rv == 0) = false := by simpa using hr0
        have y1 : (rv != 0) = true := by simpa using hr0
        have HSV : Hid (solveV m px y = ([], rv)) := by show _ = _; unfold solveV; rw [hrE, if_neg hr0]
        rw [HSV.out]
        clear hv hs hp hm hr0 hrv hrE hy HSV hlen
        go_enter Try.func134, Try.ntmps134
        go_wp2_with (first | (go_at_call 45; refine HVA.out.mono ?_; rintro e w1 ⟨rfl, rfl⟩) | (go_at_call 119; refine HRE.out.mono ?_; rintro e w1 ⟨rfl, rfl⟩))
        go_ret2
        exact RLPost.err (Below.refl _ _)
    · have y2 : ((y.length : Int) == (m.length : Int)) = false := by simpa using hlen
      have y3 : ((y.length : Int) != (m.length : Int)) = true := by simpa using hlen
      have HSV : Hid (solveV m px y = ([], 9)) := by
        show _ = _
        have e : readE m y = 9 := by unfold readE fitsV; rw [if_pos hv, if_neg hlen]
        unfold solveV; rw [e]; rfl
      rw [HSV.out]
      clear hv hs hp hm hrv hrE hy HSV hlen
      go_enter Try.func134, Try.ntmps134
      go_wp2_with (go_at_call 45; refine HVA.out.mono ?_; rintro e w1 ⟨rfl, rfl⟩)
      go_ret2
      exact RLPost.err (Below.refl _ _)
end Go.Proofs.Ytfkmlonhhdcfpaa
/- every and known of the answers: contracts. -/
namespace Go.Proofs.Ytfkmlonhhdcfpaa
open Go.RowKit

/-- No vector of the basis has a number but 0 at a pixel. -/
def rknownB (m : List (List Int)) (j : Nat) : Bool := (basisM m).all fun h => gt h j == 0
end Go.Proofs.Ytfkmlonhhdcfpaa
/- known of a reduction: a contract. -/
namespace Go.Proofs.Ytfkmlonhhdcfpaa
open Go.RowKit

/-- All free columns of a row are 0. -/
def loneR (M : List (List Int)) (pz : List Int) (cols i : Nat) : Bool := (freeTo pz cols).all fun f => gt (rowL M i) f.toNat == 0
/-- The row in which a column stands alone, or -1. -/
def knownV (M : List (List Int)) (pz : List Int) (cols : Nat) (v : Int) : Int := if indexV pz v < 0 then -1 else if loneR M pz cols (indexV pz v).toNat = true then indexV pz v else -1
theorem indexV_at (pz : List Int) (v : Int) : indexV pz v = -1 ∨ ∃ i : Nat, indexV pz v = (i : Int) ∧ i < pz.length ∧ gt pz i = v := by
  have hm := indexV_mem (xs := pz) (v := v)
  by_cases h : v ∈ pz
  · have hex : ∃ k, k < pz.length ∧ gt pz k = v ∧ ∀ j, j < k → gt pz j ≠ v := by
      obtain ⟨k, hk, e⟩ := mem_gt.1 h
      induction k using Nat.strongRecOn with
      | _ k ih =>
        by_cases hj : ∃ j, j < k ∧ gt pz j = v
        · obtain ⟨j, j1, j2⟩ := hj
          exact ih j j1 (by omega) j2
        · exact ⟨k, hk, e, fun j j1 j2 => hj ⟨j, j1, j2⟩⟩
    obtain ⟨k, k1, k2, k3⟩ := hex
    exact .inr ⟨k, indexV_hit k1 k3 k2, k1, k2⟩
  · exact .inl (indexV_miss fun j hj e => h (mem_gt.2 ⟨j, hj, e⟩))
set_option maxRecDepth 1000000 in
set_option maxHeartbeats 1600000 in
theorem known_any (cols g cap N : Nat) (ads : List (Nat × Nat)) (M : List (List Int)) (pa : Option Addr) (pz : List Int) (pc : Nat) (dv : Int) (v : Int) (base : Nat) (w : World) (hpM : pz.length ≤ M.length) (hM : M.length ≤ 100) (hN : ∀ q ∈ M, q.length = N) (hc : cols ≤ N) (hN1 : N ≤ 100) (hs : SI w base g ads M) (hps : Sl w pa pz) :
    Calls Try.prog 63 #[RdV cols g M.length cap (.slice pa pz.length pc) dv, .int .i64 v] w fun e w' => e = .returned (.int .i64 (knownV M pz cols v)) ∧ Below w.heap.size w w' := by
  have HS := Lib.hid hs; clear hs
  have HPS := Lib.hid hps; clear hps
  have HN := Lib.hid hN; clear hN
  obtain ⟨pn, hpn⟩ : ∃ pn, pz.length = pn := ⟨_, rfl⟩
  have HPN := Lib.hid hpn
  have HIX : Hid (∀ W, Below w.heap.size w W → Calls Try.prog 97 #[.slice pa pn pc, .int .i64 v] W fun e w' => e = .returned (.int .i64 (indexV pz v)) ∧ W = w') := fun W hb => by rw [← hpn]; exact index_any pa pz pc v W (by omega) (HPS.out.below hb)
  have HFR : Hid (∀ W, Below w.heap.size w W → Calls Try.prog 80 #[.agg #[.int .i64 (cols : Int), .slice (some ⟨g, 0, none⟩) M.length cap, .slice pa pn pc, .int .i64 dv]] W fun e w' => Below W.heap.size W w' ∧ ∃ a k, e = .returned (.slice a (freeTo pz cols).length k) ∧ Sl w' a (freeTo pz cols)) := fun W hb => by rw [← hpn]; exact free_any cols g M.length cap pa pz pc dv W (by omega) (by omega) (HPS.out.below hb)
  have HFM : Hid (∀ c, c ∈ freeTo pz cols ↔ ∃ j : Nat, j < cols ∧ c = (j : Int) ∧ (j : Int) ∉ pz) := freeTo_mem pz cols
  have hat := indexV_at pz v
  obtain ⟨n, hn⟩ : ∃ n, M.length = n := ⟨_, rfl⟩
  have HNL := Lib.hid hn
  rw [hpn] at hpM hat ⊢
  rw [hn] at hpM hM HFR ⊢
  clear hn hpn
  unfold RdV
  obtain ⟨V, hV⟩ : ∃ V, w.alloc (.cells #[.int .i64 (cols : Int), .slice (some ⟨g, 0, none⟩) n cap, .slice pa pn pc, .int .i64 dv] 71) = V := ⟨_, rfl⟩
  have HBV : Hid (Below w.heap.size w V) := by rw [← hV]; exact (Below.refl _ _).alloc (Nat.le_refl _) _
  have HCV : Hid (∀ W, Below V.heap.size V W → W.cell? ⟨w.heap.size, 0, none⟩ = some (.int .i64 (cols : Int)) ∧ W.cell? ⟨w.heap.size, 1, none⟩ = some (.slice (some ⟨g, 0, none⟩) n cap) ∧ W.cell? ⟨w.heap.size, 2, none⟩ = some (.slice pa pn pc) ∧ W.cell? ⟨w.heap.size, 3, none⟩ = some (.int .i64 dv)) := box_cells hV
  obtain ⟨c0, c1, c2, c3⟩ := HCV.out V (Below.refl _ _)
  rcases hat with hi | ⟨i, hi, hip, _⟩
  · have HK : Hid (knownV M pz cols v = -1) := by show _ = _; unfold knownV; rw [hi]; rfl
    rw [hi] at HIX
    go_enter Try.func63, Try.ntmps63
    go_wp2_with (go_at_call 97; refine (HIX.out V HBV.out).mono ?_; rintro e w1 ⟨rfl, rfl⟩)
    go_ret
    exact ⟨ret_i64 HK.out.symm, HBV.out⟩
  · have HK : Hid (knownV M pz cols v = if loneR M pz cols i = true then (i : Int) else -1) := by show _ = _; unfold knownV; rw [hi, if_neg (by omega), Int.toNat_natCast]
    rw [hi] at HIX
    have hin : i < n := by omega
    have hi0 : (i : Int) < (n : Int) := by omega
    have hi1 : ¬ (i : Int) < 0 := by omega
    have HIM : Hid (i < M.length) := by show _ < _; rw [HNL.out]; exact hin
    go_enter Try.func63, Try.ntmps63
    go_wp2_with (first | (go_at_call 97; refine (HIX.out V HBV.out).mono ?_; rintro e w1 ⟨rfl, rfl⟩) | (go_at_call 80; refine (HFR.out V HBV.out).mono ?_; rintro e w2 ⟨hb2, fa, fk, rfl, hf⟩; have HF := Lib.hid hf; have HB2 := Lib.hid hb2; clear hf hb2))
    clear c0 c1 c2 c3 hV
    obtain ⟨fz, hfz⟩ : ∃ fz, freeTo pz cols = fz := ⟨_, rfl⟩
    have HLO : Hid (loneR M pz cols i = fz.all fun f => gt (rowL M i) f.toNat == 0) := by show _ = _; unfold loneR; rw [hfz]
    have HFL : Hid (fz.length ≤ 100) := by show _ ≤ _; have := freeTo_len pz cols; rw [hfz] at this; omega
    have hfl : fz.length ≤ 100 := HFL.out
    rw [hfz] at HFM HF ⊢
    clear hfz
    go_loopw [17] (fun j wr => ∃ k : Nat, k ≤ fz.length ∧ j = .int .i64 k ∧ wr = w2 ∧ ∀ t, t < k → gt (rowL M i) (gt fz t).toNat = 0) (fun j _ => fz.length - (intOf j).toNat)
    case atStart => exact ⟨0, Nat.zero_le _, rfl, rfl, fun t h => by omega⟩
    case round =>
      obtain ⟨k, hk, rfl, rfl, hno⟩ := hrel
      have HNO := Lib.hid hno; clear hno
      have HBW : Hid (Below w.heap.size w wr) := HBV.out.trans (HB2.out.mono HBV.out.size)
      by_cases hlt : k < fz.length
      · obtain ⟨fb, fo, u, hfa, hfc, HU⟩ := HF.out.at hlt
        subst hfa
        obtain ⟨f, hf, rfl, _⟩ := (HFM.out u).1 (List.mem_of_getElem? HU.out)
        have HGU := Lib.hid (gt_some' HU.out)
        have e1 : ads[i]? = some (ads[i]'(by rw [HS.out.len]; exact HIM.out)) := List.getElem?_eq_getElem _
        have e2 : M[i]? = some (rowL M i) := by unfold rowL; have := HIM.out; simp [this]
        obtain ⟨hh, hro⟩ := (HS.out.below HBW.out).row i _ _ e1 e2
        obtain ⟨xb, hxb⟩ : ∃ xb, (ads[i]'(by rw [HS.out.len]; exact HIM.out)).1 = xb := ⟨_, rfl⟩
        obtain ⟨xc, hxc⟩ : ∃ xc, (ads[i]'(by rw [HS.out.len]; exact HIM.out)).2 = xc := ⟨_, rfl⟩
        rw [hxb, hxc] at hh hro
        have hrn := HN.out _ (rowL_mem HIM.out)
        have hcx : wr.cell? ⟨xb, f, none⟩ = some (.int .i64 (gt (rowL M i) f)) := (OwnI.cell hro (j := f) (by rw [hrn]; omega)).1
        rw [hrn] at hh
        obtain ⟨x, hx⟩ : ∃ x, gt (rowL M i) f = x := ⟨_, rfl⟩
        rw [hx] at hcx
        have HX := Lib.hid hx
        obtain ⟨c0, c1, c2, c3⟩ := HCV.out wr HB2.out
        have hf0 : (f : Int) < (N : Int) := by omega
        clear hro hrn hx e1 e2 hxb hxc HU
        by_cases hx0 : x = 0
        · have HX0 := Lib.hid hx0
          have y0 : (x == 0) = true := by simp [hx0]
          have y1 : (x != 0) = false := by simp [hx0]
          clear hx0
          go_wp2
          go_roundw
          case rel => exact ⟨k + 1, by omega, by go_num, by first | trivial | rfl, fun t ht => by
            by_cases e : t = k
            · rw [e, HGU.out, Int.toNat_natCast, HX.out]; exact HX0.out
            · exact HNO.out t (by omega)⟩
          case measure => simp [intOf]; omega
        · have y0 : (x == 0) = false := by simpa using hx0
          have y1 : (x != 0) = true := by simpa using hx0
          have HF2 : Hid (knownV M pz cols v = -1) := by
            show _ = _
            rw [HK.out, if_neg]
            rw [HLO.out, List.all_eq_true]
            intro h
            have := h _ (mem_gt.2 ⟨k, hlt, HGU.out⟩)
            rw [Int.toNat_natCast, HX.out] at this
            exact hx0 (by simpa using this)
          go_wp2
          go_ret
          exact ⟨ret_i64 HF2.out.symm, HBW.out⟩
      · obtain rfl : k = fz.length := by omega
        have HF2 : Hid (knownV M pz cols v = (i : Int)) := by
          show _ = _
          rw [HK.out, if_pos]
          rw [HLO.out, List.all_eq_true]
          intro f hf
          obtain ⟨t, ht, e⟩ := mem_gt.1 hf
          have := HNO.out t ht
          rw [e] at this
          rw [this]; rfl
        go_wp2
        go_ret
        exact ⟨ret_i64 HF2.out.symm, HBW.out⟩
end Go.Proofs.Ytfkmlonhhdcfpaa
/- What is known: the two sides agree. Plain words. Speaks of no program. -/
namespace Go.Proofs.Ytfkmlonhhdcfpaa
open Go.RowKit

theorem short_zero {v : List Int} {c : Nat} (hc : c < v.length) (hg : gcdL v ≠ 0) : gt (shortL v) c = 0 ↔ gt v c = 0 := by
  have e := gt_short hc
  constructor
  · intro h; rw [e, h]; simp
  · intro h
    rw [h] at e
    rcases Int.mul_eq_zero.mp e.symm with e2 | e2
    · omega
    · exact e2
theorem known_same {m : List (List Int)} (hv : validM m = true) {j : Nat} (hj : j < colsM m) :
    (decide (0 ≤ knownV (redN m (upTo (colsM m))).rows (redN m (upTo (colsM m))).piv (colsM m) (j : Int)) = rknownB m j) := by
  obtain ⟨_, hm6, _, _, _⟩ := validM_of hv
  have h := basis_fin hv
  unfold rknownB basisM
  obtain ⟨r, hr⟩ : ∃ r, redN m (upTo (colsM m)) = r := ⟨_, rfl⟩
  rw [hr] at h ⊢
  obtain ⟨N, hN⟩ : ∃ N, colsM m = N := ⟨_, rfl⟩
  rw [hN] at h hj ⊢
  rw [Bool.eq_iff_iff, decide_eq_true_eq, List.all_eq_true]
  have hz : ∀ f, f < N → (f : Int) ∉ r.piv → (gt (shortL (kvec r N f)) j = 0 ↔ gt (kvec r N f) j = 0) := fun f hf hn => short_zero (by rw [kvec_len]; exact hj) (h.kvec_gcd hm6 (Nat.le_refl _) hf hn)
  have all : (∀ x ∈ (freeTo r.piv N).map (fun c => shortL (kvec r N c.toNat)), (gt x j == 0) = true) ↔ ∀ f, f < N → (f : Int) ∉ r.piv → gt (kvec r N f) j = 0 := by
    constructor
    · intro ha f hf hn
      have := ha _ (List.mem_map.2 ⟨(f : Int), (freeTo_mem _ _ _).2 ⟨f, hf, rfl, hn⟩, rfl⟩)
      rw [Int.toNat_natCast] at this
      exact (hz f hf hn).1 (by simpa using this)
    · intro ha x hx
      obtain ⟨c, hc, rfl⟩ := List.mem_map.1 hx
      obtain ⟨f, hf, rfl, hn⟩ := (freeTo_mem _ _ _).1 hc
      rw [Int.toNat_natCast]
      simpa using (hz f hf hn).2 (ha f hf hn)
  rw [all]
  rcases indexV_at r.piv (j : Int) with e | ⟨i, e, hi, hp⟩
  · have hn : (j : Int) ∉ r.piv := by
      have hm := indexV_mem (xs := r.piv) (v := (j : Int))
      rw [e] at hm
      intro hin
      rw [decide_eq_true hin] at hm
      exact absurd hm (by decide)
    unfold knownV
    rw [e, if_pos (by decide)]
    constructor
    · intro hh; omega
    · intro ha
      have := ha j hj hn
      rw [h.kvec_free hm6 (Nat.le_refl _) hj hn] at this
      have := h.pos; omega
  · have hpj : pivN r i = j := by have := h.pivN_eq hi; omega
    unfold knownV
    rw [e, if_neg (by omega), Int.toNat_natCast]
    have hl : loneR r.rows r.piv N i = true ↔ ∀ f, f < N → (f : Int) ∉ r.piv → gt (rowL r.rows i) f = 0 := by
      unfold loneR
      rw [List.all_eq_true]
      constructor
      · intro ha f hf hn
        have := ha _ ((freeTo_mem _ _ _).2 ⟨f, hf, rfl, hn⟩)
        rw [Int.toNat_natCast] at this
        simpa using this
      · intro ha x hx
        obtain ⟨f, hf, rfl, hn⟩ := (freeTo_mem _ _ _).1 hx
        rw [Int.toNat_natCast]
        simpa using ha f hf hn
    have hk : (∀ f, f < N → (f : Int) ∉ r.piv → gt (kvec r N f) j = 0) ↔ ∀ f, f < N → (f : Int) ∉ r.piv → gt (rowL r.rows i) f = 0 := by
      constructor <;> intro ha f hf hn <;> have h1 := h.kvec_piv hm6 (Nat.le_refl _) hf hn hi <;> rw [hpj] at h1 <;> have h2 := ha f hf hn <;> omega
    rw [hk, ← hl]
    cases loneR r.rows r.piv N i
    · simp
    · simp
end Go.Proofs.Ytfkmlonhhdcfpaa
/- Known of the answers: a contract. -/
namespace Go.Proofs.Ytfkmlonhhdcfpaa
open Go.RowKit

/-- The known pixels below j. -/
def knTo (m : List (List Int)) : Nat → List Int
  | 0 => []
  | j + 1 => if rknownB m j = true then knTo m j ++ [(j : Int)] else knTo m j
theorem knTo_len (m : List (List Int)) : ∀ j, (knTo m j).length ≤ j
  | 0 => Nat.le_refl _
  | j + 1 => by
    have := knTo_len m j
    unfold knTo; split
    · rw [List.length_append, List.length_singleton]; omega
    · omega
def knownLV (m : List (List Int)) : List Int × Int := if validM m = true then (knTo m (colsM m), 0) else ([], 1)
end Go.Proofs.Ytfkmlonhhdcfpaa
/- What is known does not hang on the numbers behind the rows; the row of a pivot as a sum of rows. Plain words. Speaks of no program. -/
namespace Go.Proofs.Ytfkmlonhhdcfpaa
open Go.RowKit

variable {R N cols : Nat} {A0 : Nat → Nat → Int} {r : Rd}
theorem sum_cut {f w : Nat → Int} {cols N : Nat} (hc : cols ≤ N) : sumTo (fun c => f c * (if c < cols then w c else 0)) N = sumTo (fun c => f c * w c) cols := by
  obtain ⟨d, rfl⟩ : ∃ d, N = cols + d := ⟨N - cols, by omega⟩
  rw [sumTo_split, sumZ d fun c _ => by rw [if_neg (by omega), Int.mul_zero], Int.add_zero]
  exact sumTo_congr cols fun c hc => by rw [if_pos hc]
theorem RFin.ker_cols (h : RFin R N cols A0 r) (hc : cols ≤ N) (w : Nat → Int) : (∀ i, i < R → sumTo (fun c => A0 i c * w c) cols = 0) ↔ (∀ t, t < r.piv.length → sumTo (fun c => gt (rowL r.rows t) c * w c) cols = 0) := by
  have hk := h.ker (fun c => if c < cols then w c else 0)
  have hl := h.pl
  constructor
  · intro hw t ht
    have := hk.mp (fun i hi => by rw [sum_cut hc]; exact hw i hi) t (by omega)
    rwa [sum_cut hc] at this
  · intro hw i hi
    have := hk.mpr (fun x hx => by
      rw [sum_cut hc]
      by_cases e : x < r.piv.length
      · exact hw x e
      · exact sumZ cols fun c hc => by rw [h.low x (by omega) hx c hc, Int.zero_mul]) i hi
    rwa [sum_cut hc] at this
theorem RFin.kvec_cols (h : RFin R N cols A0 r) (hR : R ≤ 6) (hN : cols ≤ N) {f : Nat} (hf : f < cols) (hn : (f : Int) ∉ r.piv) : ∀ t, t < r.piv.length → sumTo (fun c => gt (rowL r.rows t) c * gt (kvec r cols f) c) cols = 0 := by
  intro t ht
  have hp := h.pivN_lt ht
  have hne : f ≠ pivN r t := fun e => hn (h.mem.mpr ⟨t, ht, e.symm⟩)
  have e0 : ∀ c, c < cols → c ≠ f → c ≠ pivN r t → gt (rowL r.rows t) c * gt (kvec r cols f) c = 0 := fun c hc e1 e2 => by
    by_cases hm : (c : Int) ∈ r.piv
    · obtain ⟨s, hs, e⟩ := h.mem.mp hm
      have := h.self s t hs ht
      rw [e, if_neg (fun e3 => e2 (by rw [e3]; exact e.symm))] at this
      rw [this, Int.zero_mul]
    · rw [h.kvec_else hR hN hf hn hc e1 hm, Int.mul_zero]
  have hs := h.self t t ht ht
  rw [if_pos rfl] at hs
  have goal : gt (rowL r.rows t) f * gt (kvec r cols f) f + gt (rowL r.rows t) (pivN r t) * gt (kvec r cols f) (pivN r t) = 0 := by
    rw [hs, h.kvec_free hR hN hf hn, h.kvec_piv hR hN hf hn ht]; grind
  rcases Nat.lt_or_ge f (pivN r t) with h1 | h1
  · rw [sumPair h1 cols (by omega) fun c hc a b => e0 c hc a b]; exact goal
  · rw [sumPair (s := pivN r t) (t := f) (by omega) cols (by omega) fun c hc a b => e0 c hc b a]; omega
theorem loneR_iff (M : List (List Int)) (pz : List Int) (cols i : Nat) : loneR M pz cols i = true ↔ ∀ f, f < cols → (f : Int) ∉ pz → gt (rowL M i) f = 0 := by
  unfold loneR
  rw [List.all_eq_true]
  constructor
  · intro ha f hf hn
    have := ha _ ((freeTo_mem _ _ _).2 ⟨f, hf, rfl, hn⟩)
    rw [Int.toNat_natCast] at this
    simpa using this
  · intro ha x hx
    obtain ⟨f, hf, rfl, hn⟩ := (freeTo_mem _ _ _).1 hx
    rw [Int.toNat_natCast]
    simpa using ha f hf hn
/-- Where a pixel is known, its row is 0 everywhere else. -/
theorem RFin.known_row (h : RFin R N cols A0 r) {v : Int} (hk : 0 ≤ knownV r.rows r.piv cols v) : ∃ i : Nat, knownV r.rows r.piv cols v = (i : Int) ∧ i < r.piv.length ∧ gt r.piv i = v ∧ ∀ c, c < cols → gt (rowL r.rows i) c = if (c : Int) = v then r.dv else 0 := by
  unfold knownV at hk ⊢
  rcases indexV_at r.piv v with e | ⟨i, e, hi, hp⟩
  · rw [e, if_pos (by decide)] at hk; exact absurd hk (by decide)
  · rw [e, if_neg (by omega), Int.toNat_natCast] at hk ⊢
    by_cases hl : loneR r.rows r.piv cols i = true
    · rw [if_pos hl]
      refine ⟨i, rfl, hi, hp, fun c hc => ?_⟩
      have hpe := h.pivN_eq hi
      by_cases hm : (c : Int) ∈ r.piv
      · obtain ⟨s, hs, e2⟩ := h.mem.mp hm
        have h1 := h.self s i hs hi
        rw [e2] at h1
        rw [h1]
        by_cases e3 : i = s
        · subst e3; rw [if_pos rfl, if_pos (by omega)]
        · rw [if_neg e3, if_neg]
          intro e4
          exact e3 (h.inj hi hs (by omega))
      · rw [(loneR_iff _ _ _ _).1 hl c hc hm, if_neg]
        intro e4
        exact hm (h.mem.mpr ⟨i, hi, by omega⟩)
    · rw [if_neg hl] at hk; exact absurd hk (by decide)
theorem RFin.known_iff (h : RFin R N cols A0 r) (hR : R ≤ 6) (hN : cols ≤ N) {j : Nat} (hj : j < cols) :
    0 ≤ knownV r.rows r.piv cols (j : Int) ↔ ∀ w : Nat → Int, (∀ i, i < R → sumTo (fun c => A0 i c * w c) cols = 0) → w j = 0 := by
  constructor
  · intro hk w hw
    obtain ⟨i, _, hi, _, hrow⟩ := h.known_row hk
    have hs := (h.ker_cols hN w).mp hw i hi
    rw [sumOne (s := j) cols hj fun c hc e => by rw [hrow c hc, if_neg (by omega), Int.zero_mul], hrow j hj, if_pos rfl] at hs
    have := h.pos
    rcases Int.mul_eq_zero.mp hs with e | e
    · omega
    · exact e
  · intro ha
    have hz : ∀ f, f < cols → (f : Int) ∉ r.piv → gt (kvec r cols f) j = 0 := fun f hf hn => ha _ ((h.ker_cols hN _).mpr (h.kvec_cols hR hN hf hn))
    rcases indexV_at r.piv (j : Int) with e | ⟨i, e, hi, hp⟩
    · have hn : (j : Int) ∉ r.piv := by
        have hm := indexV_mem (xs := r.piv) (v := (j : Int))
        rw [e] at hm
        intro hin
        rw [decide_eq_true hin] at hm
        exact absurd hm (by decide)
      have := hz j hj hn
      rw [h.kvec_free hR hN hj hn] at this
      have := h.pos; omega
    · have hpj : pivN r i = j := by have := h.pivN_eq hi; omega
      unfold knownV
      rw [e, if_neg (by omega), Int.toNat_natCast, if_pos]
      · omega
      · rw [loneR_iff]
        intro f hf hn
        have h1 := h.kvec_piv hR hN hf hn hi
        rw [hpj] at h1
        have h2 := hz f hf hn
        omega
/-- Two reductions of rows that begin alike know the same pixels. -/
theorem known_alike {N2 : Nat} {B0 : Nat → Nat → Int} {s : Rd} (h : RFin R N cols A0 r) (g : RFin R N2 cols B0 s) (hR : R ≤ 6) (hN : cols ≤ N) (hN2 : cols ≤ N2) (he : ∀ i, i < R → ∀ c, c < cols → A0 i c = B0 i c) {j : Nat} (hj : j < cols) :
    0 ≤ knownV r.rows r.piv cols (j : Int) ↔ 0 ≤ knownV s.rows s.piv cols (j : Int) := by
  rw [h.known_iff hR hN hj, g.known_iff hR hN2 hj]
  constructor <;> intro ha w hw <;> refine ha w fun i hi => ?_ <;> rw [← hw i hi] <;> refine sumTo_congr cols fun c hc => ?_ <;> rw [he i hi c hc]
/-- The numbers behind a row tell of which rows it is the sum. -/
theorem RFin.behind (h : RFin R N cols A0 r) {n : Nat} (hN : N = cols + n) (hR : R = n) (hw : ∀ i, i < R → ∀ k, k < n → A0 i (cols + k) = if k = i then 1 else 0) {x : Nat} (hx : x < R) {c : Nat} (hc : c < cols) :
    gt (rowL r.rows x) c = sumTo (fun k => gt (rowL r.rows x) (cols + k) * A0 k c) n := by
  subst hN hR
  have hk := (h.ker (fun q => if q < cols then (if q = c then 1 else 0) else -A0 (q - cols) c)).mp (fun i hi => by
    rw [sumTo_split, sumOne (s := c) cols hc fun q hq e => by rw [if_pos hq, if_neg e, Int.mul_zero], if_pos hc, if_pos rfl, sumOne (s := i) R hi fun q hq e => by rw [hw i hi q hq, if_neg e, Int.zero_mul], if_neg (by omega), hw i hi i hi, if_pos rfl, show cols + i - cols = i by omega]
    omega) x hx
  rw [sumTo_split, sumOne (s := c) cols hc fun q hq e => by rw [if_pos hq, if_neg e, Int.mul_zero], if_pos hc, if_pos rfl] at hk
  have e : sumTo (fun i => gt (rowL r.rows x) (cols + i) * (if cols + i < cols then (if cols + i = c then 1 else 0) else -A0 (cols + i - cols) c)) R = -1 * sumTo (fun k => gt (rowL r.rows x) (cols + k) * A0 k c) R := by
    rw [← sumTo_mul]
    refine sumTo_congr R fun k _ => ?_
    rw [if_neg (by omega), show cols + k - cols = k by omega]
    grind
  rw [e] at hk
  omega
/-- A solution's number at a pivot. -/
theorem RFin.sol_at (h : RFin R N cols A0 r) {i : Nat} (hi : i < r.piv.length) : (solL cols r.rows r.piv r.dv r.piv.length)[pivN r i]? = some (lowR (gt (rowL r.rows i) cols) r.dv) := by
  have key : ∀ t, t ≤ r.piv.length → i < t → (solL cols r.rows r.piv r.dv t)[pivN r i]? = some (lowR (gt (rowL r.rows i) cols) r.dv) := by
    intro t
    induction t with
    | zero => intro _ h0; omega
    | succ t ih =>
      intro ht hit
      unfold solL
      have hlen := solL_len cols r.rows r.piv r.dv t
      by_cases e : t = i
      · subst e
        show ((solL cols r.rows r.piv r.dv t).set (pivN r t) _)[pivN r t]? = _
        rw [List.getElem?_set_self (by rw [hlen]; exact h.pivN_lt hi)]
      · show ((solL cols r.rows r.piv r.dv t).set (pivN r t) _)[pivN r i]? = _
        rw [List.getElem?_set_ne (fun e2 => e (h.inj (by omega) hi e2))]
        exact ih (by omega) (by omega)
  exact key _ (Nat.le_refl _) hi
end Go.Proofs.Ytfkmlonhhdcfpaa
/- A permuted mask's circuits and what it knows: those of the mask, moved. Plain words. Speaks of no program. -/
namespace Go.Proofs.Ytfkmlonhhdcfpaa
open Go.RowKit

/-- Two masks whose columns are the same, moved by f, and back by g. -/
structure Mv (m p : List (List Int)) (f g : Nat → Nat) : Prop where
  vm : validM m = true
  vp : validM p = true
  len : p.length = m.length
  cols : colsM p = colsM m
  fl : ∀ k, k < colsM m → f k < colsM m
  gl : ∀ k, k < colsM m → g k < colsM m
  gf : ∀ k, k < colsM m → g (f k) = k
  fg : ∀ k, k < colsM m → f (g k) = k
  at_ : ∀ i, i < m.length → ∀ k, k < colsM m → a0 p i k = a0 m i (f k)
theorem Mv.symm {m p : List (List Int)} {f g : Nat → Nat} (h : Mv m p f g) : Mv p m g f :=
  ⟨h.vp, h.vm, h.len.symm, h.cols.symm, fun k hk => by rw [h.cols] at hk ⊢; exact h.gl k hk, fun k hk => by rw [h.cols] at hk ⊢; exact h.fl k hk, fun k hk => by rw [h.cols] at hk; exact h.fg k hk, fun k hk => by rw [h.cols] at hk; exact h.gf k hk, fun i hi k hk => by
    rw [h.len] at hi
    rw [h.cols] at hk
    rw [h.at_ i hi _ (h.gl k hk), h.fg k hk]⟩
section
variable {m p : List (List Int)} {f g : Nat → Nat}
/-- A kernel vector, moved. -/
theorem Mv.ker (h : Mv m p f g) {v : Nat → Int} (hk : KerF m v) : KerF p fun k => v (f k) := by
  intro i hi
  rw [h.len] at hi
  rw [h.cols, ← hk i hi]
  have e := sum_push f (fun u => v (f u)) (fun c => a0 m i c) (colsM m) (colsM m) h.fl
  have e2 : sumTo (fun c => a0 m i c * pushW f (fun u => v (f u)) (colsM m) c) (colsM m) = sumTo (fun c => a0 m i c * v c) (colsM m) := by
    refine sumTo_congr _ fun c hc => ?_
    congr 1
    have e3 := pushW_at (p := f) (w := fun u => v (f u)) (u := g c) (k := colsM m) (fun s hs e => by rw [← h.gf s hs, e, h.fg c hc]) (h.gl c hc)
    rw [h.fg c hc] at e3
    exact e3
  rw [← e2, e]
  exact sumTo_congr _ fun k hk => by rw [h.at_ i hi k hk]
/-- The circuit of m that a circuit of p is, moved: on its support. -/
theorem Mv.circ (h : Mv m p f g) {S : List Int} (hS : SetP p S) (h1 : 1 ≤ S.length) (hc : circB p S = true) :
    ∃ T, SetP m T ∧ 1 ≤ T.length ∧ circB m T = true ∧ (∀ k, k < colsM m → ((f k : Int) ∈ T ↔ (k : Int) ∈ S)) ∧ ∃ s : Int, (s = 1 ∨ s = -1) ∧ ∀ k, k < colsM m → gt (circH p S) k = s * gt (circH m T) (f k) := by
  have hC := circP h.vp hS h1 hc
  have hv := h.symm.ker hC.ker
  have hsup : ∀ j, j < colsM m → ((j : Int) ∈ suppL m (fun k => gt (circH p S) (g k)) ↔ (g j : Int) ∈ S) := fun j hj => by
    rw [suppL_mem]
    have := hC.supp (g j) (by rw [h.cols]; exact h.gl j hj)
    exact ⟨fun q => this.1 q.2, fun q => ⟨hj, this.2 q⟩⟩
  have hT := suppL_set (m := m) fun k => gt (circH p S) (g k)
  obtain ⟨T, hTe⟩ : ∃ T, suppL m (fun k => gt (circH p S) (g k)) = T := ⟨_, rfl⟩
  rw [hTe] at hsup hT
  have hs0 := hS.lt (u := 0) (by omega)
  have hmem : ((f (pos S 0) : Nat) : Int) ∈ T := (hsup _ (h.fl _ (by rw [← h.cols]; exact hs0))).2 (by rw [h.gf _ (by rw [← h.cols]; exact hs0)]; exact hS.mem.2 ⟨0, by omega, rfl⟩)
  have hT1 : 1 ≤ T.length := List.length_pos_of_mem hmem
  have hTc : circB m T = true := by
    refine circ_of h.vm hT hT1 (v := fun k => gt (circH p S) (g k)) hv (fun j hj => ?_) fun v' hk' hs' he' j hj hjT => ?_
    · rw [hsup j hj]
      exact hC.supp (g j) (by rw [h.cols]; exact h.gl j hj)
    · have hk2 := h.ker hk'
      have hs2 : ∀ k, k < colsM p → v' (f k) ≠ 0 → (k : Int) ∈ S := fun k hk e => by
        rw [h.cols] at hk
        have := (hsup _ (h.fl k hk)).1 (hs' _ (h.fl k hk) e)
        rwa [h.gf k hk] at this
      obtain ⟨a, b, ha, hab⟩ := hC.one _ hk2 hs2
      obtain ⟨j0, hj0, hv0⟩ := he'
      have e0 := hab (g j0) (by rw [h.cols]; exact h.gl j0 hj0)
      rw [h.fg j0 hj0] at e0
      have hb : b ≠ 0 := fun e => by
        rw [e, Int.zero_mul] at e0
        rcases Int.mul_eq_zero.1 e0 with q | q
        · exact ha q
        · exact hv0 q
      have e1 := hab (g j) (by rw [h.cols]; exact h.gl j hj)
      rw [h.fg j hj] at e1
      intro e
      rw [e, Int.mul_zero] at e1
      rcases Int.mul_eq_zero.1 e1.symm with q | q
      · exact hb q
      · exact (hC.supp (g j) (by rw [h.cols]; exact h.gl j hj)).2 ((hsup j hj).1 hjT) q
  have hD := circP h.vm hT hT1 hTc
  refine ⟨T, hT, hT1, hTc, fun k hk => by rw [hsup _ (h.fl k hk), h.gf k hk], ?_⟩
  obtain ⟨a, b, ha, hab⟩ := hD.one _ hv fun j hj e => (hsup j hj).2 ((hC.supp (g j) (by rw [h.cols]; exact h.gl j hj)).1 e)
  have hkk : ∀ k, k < colsM m → a * gt (circH p S) k = b * gt (circH m T) (f k) := fun k hk => by
    have := hab (f k) (h.fl k hk)
    rwa [h.gf k hk] at this
  -- a and b divide each other
  have d1 : a ∣ b * ((gcdL (circH m T) : Nat) : Int) := dvd_gcdTo _ _ _ _ fun c hc => by
    rw [hD.len] at hc
    have := hkk (g c) (h.gl c hc)
    rw [h.fg c hc] at this
    rw [← this]; exact Int.dvd_mul_right _ _
  have d2 : b ∣ a * ((gcdL (circH p S) : Nat) : Int) := dvd_gcdTo _ _ _ _ fun c hc => by
    rw [hC.len, h.cols] at hc
    rw [hkk c hc]; exact Int.dvd_mul_right _ _
  rw [hD.gcd] at d1
  rw [hC.gcd] at d2
  have d3 : a ∣ b := by simpa using d1
  have d4 : b ∣ a := by simpa using d2
  have hab2 : a.natAbs = b.natAbs := Nat.dvd_antisymm (Int.natAbs_dvd_natAbs.2 d3) (Int.natAbs_dvd_natAbs.2 d4)
  have hcase : b = a ∨ b = -a := by omega
  rcases hcase with rfl | rfl
  · exact ⟨1, .inl rfl, fun k hk => by rw [Int.one_mul]; exact Int.eq_of_mul_eq_mul_left ha (hkk k hk)⟩
  · exact ⟨-1, .inr rfl, fun k hk => Int.eq_of_mul_eq_mul_left ha (by rw [hkk k hk]; grind)⟩
/-- The sets of the circuits. -/
def csetsM (m : List (List Int)) : List (List Int) := (List.range (rankM m + 1)).flatMap fun f => (compl (colsM m) (f + 1) 0).filter (circB m)
theorem circs_sets (m : List (List Int)) : (circsAll m).length = (csetsM m).length := by
  unfold circsAll circsTo csetsM
  generalize List.range (rankM m + 1) = l
  induction l with
  | nil => rfl
  | cons a l ih => rw [List.flatMap_cons, List.flatMap_cons, List.length_append, List.length_append, ih, List.length_map]
theorem csets_mem (hv : validM m = true) {S : List Int} : S ∈ csetsM m ↔ SetP m S ∧ 1 ≤ S.length ∧ circB m S = true := by
  unfold csetsM
  rw [List.mem_flatMap]
  constructor
  · rintro ⟨f, hf, hS⟩
    rw [List.mem_filter] at hS
    have hl := (compl_mem hS.1).1
    exact ⟨compl_set hS.1, by omega, hS.2⟩
  · rintro ⟨h1, h2, h3⟩
    have hs := circ_small hv h1.ok h3
    refine ⟨S.length - 1, List.mem_range.2 (by omega), List.mem_filter.2 ⟨?_, h3⟩⟩
    rw [show S.length - 1 + 1 = S.length by omega]
    exact h1.compl
theorem compl_nodup (n : Nat) : ∀ r b, (compl n r b).Nodup
  | 0, _ => by simp [compl]
  | r + 1, b => by
    unfold compl
    rw [List.nodup_iff_pairwise_ne, List.pairwise_flatMap]
    constructor
    · intro d _
      rw [List.pairwise_map]
      exact (compl_nodup n r (b + d + 1)).imp fun h e => h (List.cons.inj e).2
    · refine List.pairwise_lt_range.imp fun hlt x hx y hy e => ?_
      obtain ⟨s, _, rfl⟩ := List.mem_map.1 hx
      obtain ⟨t, _, rfl⟩ := List.mem_map.1 hy
      have := (List.cons.inj e).1
      omega
theorem csets_nodup (m : List (List Int)) : (csetsM m).Nodup := by
  unfold csetsM
  rw [List.nodup_iff_pairwise_ne, List.pairwise_flatMap]
  constructor
  · intro f _
    exact (compl_nodup _ _ _).filter _
  · refine List.pairwise_lt_range.imp fun hlt x hx y hy e => ?_
    rw [List.mem_filter] at hx hy
    have h1 := (compl_mem hx.1).1
    have h2 := (compl_mem hy.1).1
    rw [e] at h1
    omega
theorem nodup_sub : ∀ {α : Type} [DecidableEq α] {a b : List α}, a.Nodup → (∀ x ∈ a, x ∈ b) → a.length ≤ b.length
  | _, _, [], _, _, _ => Nat.zero_le _
  | _, _, x :: a, b, hn, h => by
    rw [List.nodup_cons] at hn
    have hx := h x List.mem_cons_self
    have h2 : ∀ y ∈ a, y ∈ b.erase x := fun y hy => (List.mem_erase_of_ne fun e => hn.1 (by rw [← e]; exact hy)).2 (h y (List.mem_cons_of_mem _ hy))
    have ih := nodup_sub hn.2 h2
    have hl := List.length_erase_of_mem hx
    have := List.length_pos_of_mem hx
    rw [List.length_cons]; omega
theorem inj_le {α β : Type} [DecidableEq β] {a : List α} {b : List β} {F : α → β} (hn : a.Nodup) (hm : ∀ x ∈ a, F x ∈ b) (hi : ∀ x ∈ a, ∀ y ∈ a, F x = F y → x = y) : a.length ≤ b.length := by
  have h1 : (a.map F).Nodup := by
    rw [List.nodup_iff_pairwise_ne, List.pairwise_map]
    exact (List.nodup_iff_pairwise_ne.1 hn).imp_of_mem fun hx hy hne e => hne (hi _ hx _ hy e)
  have := nodup_sub h1 fun y hy => by
    obtain ⟨x, hx, rfl⟩ := List.mem_map.1 hy
    exact hm x hx
  rwa [List.length_map] at this
theorem Mv.sets_le (h : Mv m p f g) : (csetsM p).length ≤ (csetsM m).length := by
  have hex : ∀ S, S ∈ csetsM p → ∃ T, T ∈ csetsM m ∧ ∀ k, k < colsM m → ((f k : Int) ∈ T ↔ (k : Int) ∈ S) := fun S hS => by
    obtain ⟨h1, h2, h3⟩ := (csets_mem h.vp).1 hS
    obtain ⟨T, t1, t2, t3, t4, _⟩ := h.circ h1 h2 h3
    exact ⟨T, (csets_mem h.vm).2 ⟨t1, t2, t3⟩, t4⟩
  let F : List Int → List Int := fun S => if hS : S ∈ csetsM p then Classical.choose (hex S hS) else []
  refine inj_le (F := F) (csets_nodup p) (fun S hS => ?_) fun S hS S' hS' e => ?_
  · show (if hS : S ∈ csetsM p then Classical.choose (hex S hS) else []) ∈ _
    rw [dif_pos hS]
    exact (Classical.choose_spec (hex S hS)).1
  · have e : (if hS : S ∈ csetsM p then Classical.choose (hex S hS) else []) = (if hS : S' ∈ csetsM p then Classical.choose (hex S' hS) else []) := e
    rw [dif_pos hS, dif_pos hS'] at e
    have k1 := (Classical.choose_spec (hex S hS)).2
    have k2 := (Classical.choose_spec (hex S' hS')).2
    rw [← e] at k2
    have a1 := ((csets_mem h.vp).1 hS).1
    have a2 := ((csets_mem h.vp).1 hS').1
    refine pw_ext a1.asc a2.asc fun x => ⟨fun hx => ?_, fun hx => ?_⟩
    · have := a1.ok x hx
      obtain ⟨y, rfl⟩ : ∃ y : Nat, x = (y : Int) := ⟨x.toNat, by omega⟩
      have hy : y < colsM m := by rw [← h.cols]; omega
      exact (k2 y hy).1 ((k1 y hy).2 hx)
    · have := a2.ok x hx
      obtain ⟨y, rfl⟩ : ∃ y : Nat, x = (y : Int) := ⟨x.toNat, by omega⟩
      have hy : y < colsM m := by rw [← h.cols]; omega
      exact (k1 y hy).1 ((k2 y hy).2 hx)
/-- A permuted mask has as many circuits. -/
theorem Mv.count (h : Mv m p f g) : (circsAll p).length = (circsAll m).length := by
  rw [circs_sets, circs_sets]
  exact Nat.le_antisymm h.sets_le h.symm.sets_le
/-- A permuted mask's circuit is one of the mask, moved, up to its sign. -/
theorem Mv.one (h : Mv m p f g) {c : List Int} (hc : c ∈ circsAll p) : ∃ d ∈ circsAll m, d.length = colsM m ∧ c.length = colsM m ∧ ∃ s : Int, (s = 1 ∨ s = -1) ∧ ∀ k, k < colsM m → gt c k = s * gt d (f k) := by
  obtain ⟨S, h1, h2, h3, rfl⟩ := (circsAll_mem h.vp).1 hc
  obtain ⟨T, t1, t2, t3, _, s, hs, hat⟩ := h.circ h1 h2 h3
  exact ⟨circH m T, (circsAll_mem h.vm).2 ⟨T, t1, t2, t3, rfl⟩, (circP h.vm t1 t2 t3).len, by rw [(circP h.vp h1 h2 h3).len, h.cols], s, hs, hat⟩
theorem knTo_filter (m : List (List Int)) : ∀ n, (knTo m n).length = ((List.range n).filter (rknownB m)).length
  | 0 => rfl
  | n + 1 => by
    rw [List.range_succ, List.filter_append, List.length_append, knTo, ← knTo_filter m n]
    cases e : rknownB m n
    · simp [e]
    · simp [e]
theorem known_ker (hv : validM m = true) {j : Nat} (hj : j < colsM m) : rknownB m j = true ↔ ∀ v, KerF m v → v j = 0 := by
  rw [← known_same hv hj, decide_eq_true_eq]
  exact (basis_fin hv).known_iff (validM_of hv).2.1 (Nat.le_refl _) hj
theorem Mv.known (h : Mv m p f g) {k : Nat} (hk : k < colsM m) (hp : rknownB p k = true) : rknownB m (f k) = true := by
  rw [known_ker h.vm (h.fl k hk)]
  intro v hv
  exact (known_ker h.vp (by rw [h.cols]; exact hk)).1 hp _ (h.ker hv)
theorem Mv.kn_le (h : Mv m p f g) : (knTo p (colsM p)).length ≤ (knTo m (colsM m)).length := by
  rw [knTo_filter, knTo_filter, h.cols]
  refine inj_le (F := f) (List.nodup_range.filter _) (fun k hk => ?_) fun x hx y hy e => ?_
  · rw [List.mem_filter, List.mem_range] at hk ⊢
    exact ⟨h.fl k hk.1, h.known hk.1 hk.2⟩
  · rw [List.mem_filter, List.mem_range] at hx hy
    rw [← h.gf x hx.1, e, h.gf y hy.1]
/-- A permuted mask knows as many pixels. -/
theorem Mv.kn (h : Mv m p f g) : (knTo p (colsM p)).length = (knTo m (colsM m)).length := Nat.le_antisymm h.kn_le h.symm.kn_le
theorem pix_valid {ps : List Int} (hv : validM m = true) (hl : ps.length = colsM m) (hok : pxOk m ps) : validM (pixM ps m) = true ∧ colsM (pixM ps m) = colsM m := by
  obtain ⟨h1, h2, h3, h4, h5⟩ := validM_of hv
  have hc : colsM (pixM ps m) = colsM m := by
    have e := rowL_pixM (m := m) (px := ps) (i := 0) (by omega)
    unfold rowL at e
    unfold colsM
    rw [e, pixR_len, hl]; rfl
  refine ⟨validM_yes (by rw [pixM_len]; unfold rangeB; simp; omega) fun i hi => ?_, hc⟩
  rw [pixM_len] at hi
  have e := rowL_pixM (m := m) (px := ps) hi
  unfold rowL at e
  rw [e, hc, pixR_len]
  have hr := h5 _ (rowL_mem hi)
  have hb : allB 1 (pixR ps (m[i]?.getD [])) = true := allB_all fun c hc => by
    rw [pixR_len] at hc
    rw [gt_pixR hc]
    have := hok _ (mem_gt.2 ⟨c, hc, rfl⟩)
    exact gt_in hr.2 (by rw [hr.1]; omega)
  unfold rowB rangeB
  rw [hb, pixR_len]
  simp
  omega
/-- The mask with its columns in another order. -/
theorem perm_mv {ps : List Int} (h : PermP m ps) : ∃ g, Mv m (pixM ps m) (pos ps) g := by
  obtain ⟨hv, hl, hok, hd⟩ := h
  obtain ⟨hp, hc⟩ := pix_valid hv hl hok
  have hfl : ∀ k, k < colsM m → pos ps k < colsM m := fun k hk => by
    have := hok _ (mem_gt.2 ⟨k, by omega, rfl⟩)
    unfold pos; omega
  have heq : ∀ k, k < colsM m → gt ps k = (pos ps k : Int) := fun k hk => by
    have := hok _ (mem_gt.2 ⟨k, by omega, rfl⟩)
    unfold pos; omega
  have hinj : ∀ x, x < colsM m → ∀ y, y < colsM m → pos ps x = pos ps y → x = y := fun x hx y hy e => by
    have e1 := heq x hx
    have e2 := heq y hy
    rcases Nat.lt_trichotomy x y with q | q | q
    · exact absurd (by omega) (hd x y q (by omega))
    · exact q
    · exact absurd (by omega) (hd y x q (by omega))
  have hsur : ∀ j, j < colsM m → ∃ k, k < colsM m ∧ pos ps k = j := fun j hj => by
    apply Classical.byContradiction
    intro hno
    have := inj_le (F := pos ps) (a := List.range (colsM m)) (b := (List.range (colsM m)).erase j) List.nodup_range (fun k hk => by
      have hk := List.mem_range.1 hk
      exact (List.mem_erase_of_ne fun e => hno ⟨k, hk, e⟩).2 (List.mem_range.2 (hfl k hk))) fun x hx y hy e => hinj x (List.mem_range.1 hx) y (List.mem_range.1 hy) e
    rw [List.length_erase_of_mem (List.mem_range.2 hj), List.length_range] at this
    omega
  refine ⟨fun j => if hj : j < colsM m then Classical.choose (hsur j hj) else 0, hv, hp, pixM_len _ _, hc, hfl, fun j hj => ?_, fun k hk => ?_, fun j hj => ?_, fun i hi k hk => ?_⟩
  · rw [dif_pos hj]
    exact (Classical.choose_spec (hsur j hj)).1
  · rw [dif_pos (hfl k hk)]
    have := Classical.choose_spec (hsur _ (hfl k hk))
    exact hinj _ this.1 _ hk this.2
  · rw [dif_pos hj]
    exact (Classical.choose_spec (hsur j hj)).2
  · exact a0_pix hi (by omega)
end
end Go.Proofs.Ytfkmlonhhdcfpaa
/- Circuit and Spark of the answers: contracts. -/
namespace Go.Proofs.Ytfkmlonhhdcfpaa
open Go.RowKit

set_option maxRecDepth 100000 in
set_option maxHeartbeats 800000 in
theorem rcircuits_no (a : Option Addr) (m : List (List Int)) (cap : Nat) (w : World) (hv : validM m = false) (hm : MOk m) (hs : Ms w a m) :
    Calls Try.prog 108 #[.slice a m.length cap] w fun e w' => e = .returned (.tuple #[.slice none 0 0, .int .i64 1]) ∧ w = w' := by
  have HVA : Hid (Calls Try.prog 45 #[.slice a m.length cap] w fun e w' => e = .returned (.bool false) ∧ w = w') := by rw [← hv]; exact rvalid_any a m cap w hm hs
  clear hv hm hs
  go_enter Try.func108, Try.ntmps108
  go_wp2_with (go_at_call 45; refine HVA.out.mono ?_; rintro e w1 ⟨rfl, rfl⟩)
  go_ret2
  exact ⟨rfl, rfl⟩
set_option maxRecDepth 100000 in
set_option maxHeartbeats 800000 in
theorem rcircuit_any (a : Option Addr) (m : List (List Int)) (cap : Nat) (w : World) (hm : MOk m) (hs : Ms w a m) : Calls Try.prog 79 #[.slice a m.length cap] w (LPost (circuitV m) w) := by
  cases hv : validM m with
  | false =>
    have HC := Lib.hid (rcircuits_no a m cap w hv hm hs)
    have HE : Hid (circuitV m = ([], 1)) := by show _ = _; unfold circuitV; rw [hv]; rfl
    clear hv hm hs
    go_enter Try.func79, Try.ntmps79
    go_wp2_with (go_at_call 108; refine HC.out.mono ?_; rintro e w1 ⟨rfl, rfl⟩)
    go_ret2
    exact LPost.err 1 HE.out (Below.refl _ _)
  | true =>
    have h0 := rcircuits_any a m cap w hv hm hs
    rw [circs_same hv] at h0
    have HC := Lib.hid h0
    have HE : Hid (circuitV m = match circsAll m with | [] => ([], 8) | h :: _ => (h, 0)) := by show _ = _; unfold circuitV; rw [if_pos hv]; cases circsAll m <;> rfl
    obtain ⟨L, hL⟩ : ∃ L, circsAll m = L := ⟨_, rfl⟩
    rw [hL] at HC HE
    clear hv hm hs h0 hL
    cases L with
    | nil =>
      go_enter Try.func79, Try.ntmps79
      go_wp2_with (go_at_call 108; refine HC.out.mono ?_; rintro e w1 ⟨ca, cc, rfl, _, hb⟩; have HB := Lib.hid hb; clear hb)
      go_ret2
      exact LPost.err 8 HE.out HB.out
    | cons h t =>
      obtain ⟨n, hn⟩ : ∃ n, (h :: t).length = n := ⟨_, rfl⟩
      have hn1 : (0 : Int) < (n : Int) := by have : n = t.length + 1 := by rw [← hn]; rfl
                                             omega
      have hn2 : ((n : Int) == 0) = false := by simp; omega
      rw [hn] at HC
      have HN := Lib.hid hn
      clear hn
      go_enter Try.func79, Try.ntmps79
      go_wp2_with fail
      refine HC.out.mono ?_
      rintro e w1 ⟨ca, cc, rfl, hms, hb⟩
      have HB := Lib.hid hb
      obtain ⟨b, o, ah, ch, rfl, hc, hsl⟩ := hms 0 (by rw [HN.out]; omega)
      have hc : w1.cell? ⟨b, o, none⟩ = some (.slice ah h.length ch) := hc
      have hsl : Sl w1 ah h := hsl
      have HSL := Lib.hid hsl
      clear hb hms hsl
      go_wp2
      go_ret2
      exact ⟨HB.out, ah, ch, by rw [HE.out]; rfl, by rw [HE.out]; exact HSL.out⟩
set_option maxRecDepth 100000 in
set_option maxHeartbeats 800000 in
theorem rspark_any (a : Option Addr) (m : List (List Int)) (cap : Nat) (w : World) (hm : MOk m) (hs : Ms w a m) :
    Calls Try.prog 39 #[.slice a m.length cap] w fun e w' => e = .returned (.tuple #[.int .i64 (sparkV m).1, .int .i64 (sparkV m).2]) ∧ Below w.heap.size w w' := by
  have HCI : Hid (Calls Try.prog 79 #[.slice a m.length cap] w (LPost (circuitV m) w)) := rcircuit_any a m cap w hm hs
  have HL := Lib.hid (circuitV_len (m := m))
  have HSP : Hid (sparkV m = if (circuitV m).2 = 0 then (nzTo (circuitV m).1 (circuitV m).1.length, 0) else (0, (circuitV m).2)) := rfl
  clear hm hs
  obtain ⟨⟨h, e0⟩, hr⟩ : ∃ r, circuitV m = r := ⟨_, rfl⟩
  rw [hr] at HCI HL HSP
  dsimp only at HL HSP
  clear hr
  by_cases he : e0 = 0
  · subst he
    rw [if_pos rfl] at HSP
    rw [HSP.out]
    dsimp only
    clear HSP
    go_enter Try.func39, Try.ntmps39
    go_wp2_with (go_at_call 79; refine HCI.out.mono ?_; rintro e w1 ⟨hb1, ah, ch, rfl, hsl⟩; dsimp only at hsl ⊢; have HB := Lib.hid hb1; have HS := Lib.hid hsl; clear hb1 hsl)
    go_loopw [6, 19] (fun v i wr => ∃ k : Nat, k ≤ h.length ∧ i = .int .i64 k ∧ v = .int .i64 (nzTo h k) ∧ wr = w1) (fun _ i _ => h.length - (intOf i).toNat)
    case atStart => exact ⟨0, Nat.zero_le _, rfl, rfl, rfl⟩
    case round =>
      obtain ⟨k, hk, rfl, rfl, rfl⟩ := hrel
      have hl := HL.out
      by_cases hlt : k < h.length
      · obtain ⟨b, o, x, rfl, hc, hx⟩ := HS.out.at hlt
        have hgx := gt_some' hx.out
        have hin := nzTo_in h k
        by_cases h0 : x = 0
        · subst h0
          have HT : Hid (nzTo h (k + 1) = nzTo h k) := by show _ = _; rw [nzTo, if_pos hgx]
          clear hgx
          go_wp2
          go_roundw
          case rel => exact ⟨k + 1, by omega, by go_num, by rw [HT.out], by first | trivial | rfl⟩
          case measure => simp [intOf]; omega
        · have HT : Hid (nzTo h (k + 1) = nzTo h k + 1) := by show _ = _; rw [nzTo, if_neg (by rw [hgx]; exact h0)]
          clear hgx
          have hne : (x != 0) = true := by simpa using h0
          obtain ⟨n, hn⟩ : ∃ n, nzTo h k = n := ⟨_, rfl⟩
          rw [hn] at hin HT ⊢
          clear hn
          go_wp2
          go_roundw
          case rel => exact ⟨k + 1, by omega, by go_num, by rw [HT.out], by first | trivial | rfl⟩
          case measure => simp [intOf]; omega
      · obtain rfl : k = h.length := by omega
        go_wp2
        go_ret2
        exact ⟨rfl, HB.out⟩
  · rw [if_neg he] at HSP
    rw [HSP.out]
    dsimp only
    have hne : (e0 != 0) = true := by simpa using he
    clear HSP he
    go_enter Try.func39, Try.ntmps39
    go_wp2_with (go_at_call 79; refine HCI.out.mono ?_; rintro e w1 ⟨hb1, ah, ch, rfl, hsl⟩; dsimp only; have HB := Lib.hid hb1; clear hb1 hsl)
    go_ret2
    exact ⟨rfl, HB.out⟩
end Go.Proofs.Ytfkmlonhhdcfpaa
/- Light of the statements, whatever it says; Circuits of the answers, whole. -/
namespace Go.Proofs.Ytfkmlonhhdcfpaa
open Go.RowKit

set_option maxRecDepth 100000 in
set_option maxHeartbeats 800000 in
theorem light_any (a : Option Addr) (m : List (List Int)) (cap : Nat) (w : World) (hl : m.length ≤ 9223372036854775807) (hs : Ms w a m) :
    Calls Try.prog 8 #[.slice a m.length cap] w fun e w' => (∃ b, e = .returned (.bool b)) ∧ w = w' := by
  have HS := Lib.hid hs; clear hs
  go_enter Try.func8, Try.ntmps8
  go_wp2
  go_loopw [3, 8] (fun v i wr => ∃ k : Nat, k ≤ m.length ∧ i = .int .i64 k ∧ (∃ n, v = .int .i64 n) ∧ wr = w) (fun _ i _ => m.length - (intOf i).toNat)
  case atStart => exact ⟨0, Nat.zero_le _, rfl, ⟨_, rfl⟩, rfl⟩
  case round =>
    obtain ⟨k, hk, rfl, ⟨n, rfl⟩, rfl⟩ := hrel
    by_cases hlt : k < m.length
    · obtain ⟨b, o, ai, r, ci, rfl, hc, _, hr⟩ := HS.out.at hlt
      clear hr
      obtain ⟨rl, hrl⟩ : ∃ rl, r.length = rl := ⟨_, rfl⟩
      rw [hrl] at hc
      clear hrl
      by_cases h7 : (7 : Int) < rl
      · by_cases h10 : (rl : Int) ≤ 10
        · go_wp2
          go_ret
          exact ⟨⟨_, rfl⟩, rfl⟩
        · go_wp2
          go_roundw
          case rel => exact ⟨k + 1, by omega, by go_num, ⟨_, rfl⟩, by first | trivial | rfl⟩
          case measure => simp [intOf]; omega
      · go_wp2
        go_roundw
        case rel => exact ⟨k + 1, by omega, by go_num, ⟨_, rfl⟩, by first | trivial | rfl⟩
        case measure => simp [intOf]; omega
    · obtain rfl : k = m.length := by omega
      go_wp2
      go_ret
      exact ⟨⟨_, rfl⟩, rfl⟩
theorem rcircuitsV_any (a : Option Addr) (m : List (List Int)) (cap : Nat) (w : World) (hm : MOk m) (hs : Ms w a m) :
    Calls Try.prog 108 #[.slice a m.length cap] w fun e w' => ∃ ca cc, e = .returned (.tuple #[.slice ca (circsV m).1.length cc, .int .i64 (circsV m).2]) ∧ Ms w' ca (circsV m).1 ∧ Below w.heap.size w w' := by
  cases hv : validM m with
  | false =>
    have e0 : circsV m = ([], 1) := by unfold circsV; rw [hv]; rfl
    rw [e0]
    refine (rcircuits_no a m cap w hv hm hs).mono ?_
    rintro e w' ⟨rfl, rfl⟩
    exact ⟨none, 0, rfl, fun k hk => by simp at hk, Below.refl _ _⟩
  | true =>
    have e0 : circsV m = (circsAll m, 0) := by unfold circsV; rw [if_pos hv]
    rw [e0]
    have h := rcircuits_any a m cap w hv hm hs
    rw [circs_same hv] at h
    exact h
theorem circsV_bd (m : List (List Int)) : (circsV m).1.length ≤ 10000 ∧ ∀ r ∈ (circsV m).1, r.length ≤ 10 := by
  cases hv : validM m with
  | false =>
    have e0 : circsV m = ([], 1) := by unfold circsV; rw [hv]; rfl
    rw [e0]; exact ⟨by simp, fun r hr => by cases hr⟩
  | true =>
    have e0 : circsV m = (circsAll m, 0) := by unfold circsV; rw [if_pos hv]
    rw [e0]
    exact ⟨circsAll_small hv, fun r hr => by rw [circsAll_len hr]; exact (validM_of hv).2.2.2.1⟩
end Go.Proofs.Ytfkmlonhhdcfpaa
/- Known of the program: a contract. -/
namespace Go.Proofs.Ytfkmlonhhdcfpaa
open Go.RowKit

set_option maxRecDepth 1000000 in
set_option maxHeartbeats 1600000 in
theorem lknowns_any (ma : Option Addr) (m : List (List Int)) (mc : Nat) (w : World) (hm : MOk m) (hs : Ms w ma m) :
    Calls Try.prog 19 #[.slice ma m.length mc] w (LPost (knownLV m) w) := by
  have HVA : Hid (Calls Try.prog 42 #[.slice ma m.length mc] w fun e w' => e = .returned (.bool (validM m)) ∧ Below w.heap.size w w') := mvalid_any ma m mc w hm hs
  cases hv : validM m
  case false =>
    rw [hv] at HVA
    have HK : Hid (knownLV m = ([], 1)) := by show _ = _; simp [knownLV, hv]
    clear hv hs hm
    rw [HK.out]
    go_enter Try.func19, Try.ntmps19
    go_wp2_with (go_at_call 42; refine HVA.out.mono ?_; rintro e w1 ⟨rfl, hb⟩; have HB := Lib.hid hb; clear hb)
    go_ret2
    exact LPost.err 1 rfl HB.out
  case true =>
    rw [hv] at HVA
    obtain ⟨hm1, hm6, hc1, hc10, hrows⟩ := validM_of hv
    have h64 : Hid (All64 m) := fun q hq x hx => by
      obtain ⟨c, hc, rfl⟩ := mem_gt.1 hx
      have := gt_in (hrows q hq).2 hc
      unfold In64; omega
    have HRA : Hid (∀ w1 : World, Below w.heap.size w w1 → Calls Try.prog 62 #[.slice ma m.length mc, .func (.func 57) #[] #[]] w1 (RdPost (redN m (upTo (colsM m))) w1)) := fun w1 hb => reduceAll_any (Lib.hid hm6) (Lib.hid hm1) (Lib.hid ⟨hc1, hc10⟩) (Lib.hid fun r hr => (hrows r hr).1) h64 (Lib.hid (hs.below hb))
    have HF := Lib.hid (basis_fin hv)
    have HKS : Hid (∀ j, j < colsM m → decide (0 ≤ knownV (redN m (upTo (colsM m))).rows (redN m (upTo (colsM m))).piv (colsM m) (j : Int)) = rknownB m j) := fun j hj => known_same hv hj
    have hco : (redN m (upTo (colsM m))).cols = colsM m := by rw [redN_cols, upTo_len]
    obtain ⟨rd, hrd⟩ : ∃ rd, redN m (upTo (colsM m)) = rd := ⟨_, rfl⟩
    rw [hrd] at HF HRA HKS hco
    obtain ⟨cols, rows, piv, dv⟩ := rd
    dsimp only at HKS hco
    subst hco
    have hlen := HF.out.len
    have hrow := HF.out.row
    have hplr := HF.out.pl
    dsimp only at hlen hrow hplr
    have HKV : Hid (∀ (g cp : Nat) (ads : List (Nat × Nat)) (pa : Option Addr) (pc base : Nat) (j : Nat) (W : World), SI W base g ads rows → Sl W pa piv → Calls Try.prog 63 #[.agg #[.int .i64 (colsM m : Int), .slice (some ⟨g, 0, none⟩) rows.length cp, .slice pa piv.length pc, .int .i64 dv], .int .i64 (j : Int)] W fun e w' => e = .returned (.int .i64 (knownV rows piv (colsM m) (j : Int))) ∧ Below W.heap.size W w') := fun g cp ads pa pc base j W h h2 => known_any (colsM m) g cp (colsM m) ads rows pa piv pc dv (j : Int) base W (by omega) (by omega) hrow (Nat.le_refl _) (by omega) h h2
    obtain ⟨bm, om, ai, ci, rfl, hcell, _⟩ := hs 0 hm1
    obtain ⟨c, hc⟩ : ∃ c, colsM m = c := ⟨_, rfl⟩
    have hl0 : (m[0]?.getD []).length = c := by rw [← hc]; rfl
    rw [hl0, Nat.add_zero] at hcell
    have HM0 : Hid (∀ W, Below w.heap.size w W → W.cell? ⟨bm, om, none⟩ = some (.slice ai c ci)) := fun W hW => (hW.cell (p := ⟨bm, om, none⟩) (cell_lt hcell)).trans hcell
    have HK : Hid (knownLV m = (knTo m c, 0)) := by show _ = _; simp [knownLV, hv, hc]
    rw [hc] at hc10 HKV HKS HRA
    rw [HK.out]
    obtain ⟨n, hn⟩ : ∃ n, m.length = n := ⟨_, rfl⟩
    rw [hn] at hm1 HVA HRA ⊢
    have hn0 : (0 : Int) < (n : Int) := by omega
    clear hs hl0 hrows hn hc hc1 hv hm HF hcell hlen hrow hplr hrd h64 hm6
    go_enter Try.func19, Try.ntmps19
    go_wp2_with (first | (go_at_call 42; refine HVA.out.mono ?_; rintro e w1 ⟨rfl, hb⟩; have HB := Lib.hid hb; clear hb) | (go_at_call 62; refine (HRA.out w1 HB.out).mono ?_; rintro e w3 ⟨hb3, g, cp, ads, pa2, pc2, rfl, hgg, si, pi⟩; unfold rdV; dsimp only at si pi ⊢; obtain ⟨W4, hW4⟩ : ∃ W4, w3.alloc (.cells #[.int .i64 (c : Int), .slice (some ⟨g, 0, none⟩) rows.length cp, .slice pa2 piv.length pc2, .int .i64 dv] 71) = W4 := ⟨_, rfl⟩; have HCW : Hid (∀ W, Below W4.heap.size W4 W → W.cell? ⟨w3.heap.size, 0, none⟩ = some (.int .i64 (c : Int)) ∧ W.cell? ⟨w3.heap.size, 1, none⟩ = some (.slice (some ⟨g, 0, none⟩) rows.length cp) ∧ W.cell? ⟨w3.heap.size, 2, none⟩ = some (.slice pa2 piv.length pc2) ∧ W.cell? ⟨w3.heap.size, 3, none⟩ = some (.int .i64 dv)) := box_cells hW4; have HB4 : Hid (Below w3.heap.size w3 W4) := hW4 ▸ (Below.refl _ _).alloc (Nat.le_refl _) _; have HSI4 := Lib.hid (si.below HB4.out); have HPI4 := Lib.hid ((OwnI.sl pi).below HB4.out); have HBW4 : Hid (Below w.heap.size w W4) := HB.out.trans ((hb3.mono HB.out.size).trans (HB4.out.mono (Nat.le_trans HB.out.size hb3.size))); have km := HM0.out W4 HBW4.out; clear si pi hgg hb3))
    clear hW4 km
    go_loopw [5, 16] (fun v i wr => ∃ j : Nat, j ≤ c ∧ i = .int .i64 j ∧ OwnI wr W4.heap.size v (knTo m j) ∧ Below W4.heap.size W4 wr) (fun _ i _ => c - (intOf i).toNat)
    case atStart => exact ⟨0, Nat.zero_le _, rfl, OwnI.nil _ _, Below.refl _ _⟩
    case round =>
      obtain ⟨j, hj, rfl, hO, hB⟩ := hrel
      have HO := Lib.hid hO; clear hO
      have HBB := Lib.hid hB; clear hB
      by_cases hlt : j < c
      · have HSU : Hid (knTo m (j + 1) = if rknownB m j = true then knTo m j ++ [(j : Int)] else knTo m j) := rfl
        have hks := HKS.out j hlt
        have HKJ := Lib.hid (HKV.out g cp ads pa2 pc2 _ j wr (HSI4.out.below HBB.out) (HPI4.out.below HBB.out))
        have hlk := knTo_len m j
        obtain ⟨k0, k1, k2, k3⟩ := HCW.out wr HBB.out
        obtain ⟨q, hq⟩ : ∃ q, rknownB m j = q := ⟨_, rfl⟩
        rw [hq] at HSU hks
        obtain ⟨T, hT⟩ : ∃ T, knTo m j = T := ⟨_, rfl⟩
        rw [hT] at HO HSU hlk
        obtain ⟨kv, hkv⟩ : ∃ kv, knownV rows piv c (j : Int) = kv := ⟨_, rfl⟩
        rw [hkv] at HKJ hks
        clear hT hq hkv
        cases q with
        | false =>
          have hkn : ¬ (0 : Int) ≤ kv := of_decide_eq_false hks
          go_wp2_with (go_at_call 63; refine HKJ.out.mono ?_; rintro e w5 ⟨rfl, hb5⟩)
          go_roundw
          case rel => exact ⟨j + 1, by omega, by go_num, by rw [HSU.out]; exact OwnI.below HO.out hb5, HBB.out.trans (hb5.mono HBB.out.size)⟩
          case measure => simp [intOf]; omega
        | true =>
          have hkn : (0 : Int) ≤ kv := of_decide_eq_true hks
          go_wp2_with (first | (go_at_call 63; refine HKJ.out.mono ?_; rintro e w5 ⟨rfl, hb5⟩; have HO5 := Lib.hid (OwnI.below HO.out hb5); have HB5 : Hid (Below W4.heap.size W4 w5) := HBB.out.trans (hb5.mono HBB.out.size); clear hb5) | (at_builtin; refine wpList_push rfl (.tmp 23) (.tmp 25) rfl W4.heap.size _ T _ _ _ _ rfl rfl rfl HO5.out (by omega) HB5.out.size ?_; intro v' w9 ho' hb'))
          go_roundw
          case rel => exact ⟨j + 1, by omega, by go_num, by rw [HSU.out]; exact ho', HB5.out.trans hb'⟩
          case measure => simp [intOf]; omega
      · obtain rfl : j = c := by omega
        obtain ⟨pa, pc, rfl, hps⟩ := HO.out.any
        have HPS := Lib.hid hps; clear hps
        go_wp2
        go_ret2
        exact ⟨HBW4.out.trans (HBB.out.mono HBW4.out.size), _, _, rfl, HPS.out⟩
end Go.Proofs.Ytfkmlonhhdcfpaa
/- LinPermuted: the walk. -/
namespace Go.Proofs.Ytfkmlonhhdcfpaa.linPermuted
open Go.RowKit

theorem put_inj {n : Nat} {ps part : List Int} (hl : ∀ u, u < n → pos ps u < n) (hi : ∀ x, x < n → ∀ y, y < n → pos ps x = pos ps y → x = y) : ∀ k, k ≤ n → ∀ u, u < k → gt (putTo n ps part k) (pos ps u) = gt part u
  | 0, _, u, hu => by omega
  | k + 1, hk, u, hu => by
    show gt ((putTo n ps part k).set (pos ps k) (gt part k)) (pos ps u) = _
    rw [gt_set (by rw [putTo_len]; exact hl k (by omega))]
    by_cases e : pos ps u = pos ps k
    · rw [if_pos e, hi u (by omega) k (by omega) e]
    · rw [if_neg e]
      exact put_inj hl hi k (by omega) u (by
        have : u ≠ k := fun e2 => e (by rw [e2])
        omega)
/-- A circuit of the permuted mask, its numbers put back: a circuit of the mask, or its opposite. -/
theorem perm_in {m : List (List Int)} {ps : List Int} (h : PermP m ps) {c : List Int} (hc : c ∈ circsAll (pixM ps m)) : ∃ d ∈ circsAll m, d = putTo (colsM m) ps c (colsM m) ∨ d = putTo (colsM m) ps (negL c) (colsM m) := by
  obtain ⟨g, hm⟩ := perm_mv h
  obtain ⟨d, hd, hdl, hcl, s, hs, hat⟩ := hm.one hc
  have hbd : ∀ k, k < colsM m → -720 ≤ gt c k ∧ gt c k ≤ 720 := fun k hk => by
    obtain ⟨S, h1, h2, h3, rfl⟩ := (circsAll_mem hm.vp).1 hc
    exact (circP hm.vp h1 h2 h3).bd k (by rw [hm.cols]; exact hk)
  have hi : ∀ x, x < colsM m → ∀ y, y < colsM m → pos ps x = pos ps y → x = y := fun x hx y hy e => by rw [← hm.gf x hx, e, hm.gf y hy]
  have key : ∀ part : List Int, (∀ k, k < colsM m → gt part k = gt d (pos ps k)) → d = putTo (colsM m) ps part (colsM m) := fun part hp => by
    refine list_ext_gt (by rw [hdl, putTo_len]) fun j hj => ?_
    rw [hdl] at hj
    have e := put_inj (part := part) hm.fl hi (colsM m) (Nat.le_refl _) (g j) (hm.gl j hj)
    rw [hm.fg j hj] at e
    rw [e, hp _ (hm.gl j hj), hm.fg j hj]
  refine ⟨d, hd, ?_⟩
  rcases hs with rfl | rfl
  · exact .inl (key c fun k hk => by rw [hat k hk]; omega)
  · refine .inr (key (negL c) fun k hk => ?_)
    have := hbd k hk
    have e := hat k hk
    rw [gt_neg, show IntKind.i64.wrap (-gt c k) = -gt c k from wrap_id (by omega) (by omega)]
    omega
/-- Is one of the first k lists the one or the other? -/
def anyB (L : List (List Int)) (x y : List Int) (k : Nat) : Bool := (L.take k).any fun d => decide (d = x) || decide (d = y)
theorem anyB_succ {L : List (List Int)} {x y d : List Int} {k : Nat} (h : rowL L k = d) (hk : k < L.length) : anyB L x y (k + 1) = (anyB L x y k || decide (d = x) || decide (d = y)) := by
  unfold anyB
  rw [List.take_succ_eq_append_getElem hk, List.any_append]
  have : L[k] = d := by rw [← h]; unfold rowL; simp [hk]
  rw [this]
  simp [Bool.or_assoc]
theorem anyB_all {L : List (List Int)} {x y d : List Int} (hd : d ∈ L) (h : d = x ∨ d = y) : anyB L x y L.length = true := by
  unfold anyB
  rw [List.take_length, List.any_eq_true]
  exact ⟨d, hd, by rcases h with h | h <;> simp [h]⟩
theorem neg_len (c : List Int) : (negL c).length = c.length := by simp [negL]
set_option maxRecDepth 1000000 in
set_option maxHeartbeats 8000000 in
theorem walk (b0 : Option Addr) (m0 : List (List Int)) (c0 : Nat) (b1 : Option Addr) (xs1 : List Int) (c1 : Nat) (w : World) (h0 : Ms w b0 m0) (r0 : MOk m0) (h1 : Sl w b1 xs1) (l1 : xs1.length ≤ 9223372036854775807) (_r1 : ∀ x ∈ xs1, I64 x) (g1 : xs1.length ≤ c1) (_gg1 : c1 ≤ 9223372036854775807) :
    Calls Try.prog 4 #[.slice b0 m0.length c0, .slice b1 xs1.length c1] w fun e w' => e = .returned (.bool true) ∧ Below w.heap.size w w' := by
  have HS := Lib.hid h0
  have HX := Lib.hid h1
  have HM := Lib.hid r0
  have hml := r0.1
  have HLI : Hid (Calls Try.prog 8 #[.slice b0 m0.length c0] w fun e w' => (∃ b, e = .returned (.bool b)) ∧ w = w') := light_any b0 m0 c0 w hml HS.out
  obtain ⟨wl, hwl⟩ : ∃ wl, (w.alloc (.cells #[.slice b1 xs1.length c1] 24)) = wl := ⟨_, rfl⟩
  have HLN : Hid (Calls Try.prog 9 #[.slice (some ⟨w.heap.size, 0, none⟩) 1 1] (w.alloc (.cells #[.slice b1 xs1.length c1] 24)) fun e w' => e = .returned (.bool (decide (100 < xs1.length))) ∧ w' = wl) := by
    have k := long1_any w.heap.size 0 b1 xs1.length c1 1 (w.alloc (.cells #[.slice b1 xs1.length c1] 24)) l1 (alloc_cell w _ _ _ _ rfl)
    exact k.mono fun e w' ⟨k1, k2⟩ => ⟨k1, by rw [← k2]; exact hwl⟩
  have HB1 : Hid (Below w.heap.size w wl) := by rw [← hwl]; exact (Below.refl _ _).alloc (Nat.le_refl _) _
  clear hwl
  have HPE : Hid (Calls Try.prog 17 #[.slice b0 m0.length c0, .slice b1 xs1.length c1] wl fun e w' => (∃ e0 : Int, (e0 != 0) = true ∧ (e0 == 0) = false ∧ e = .returned (.tuple #[.slice none 0 0, .int .i64 e0]) ∧ Hid (Below w.heap.size w w')) ∨ (PermP m0 xs1 ∧ ∃ pa pc, e = .returned (.tuple #[.slice pa m0.length pc, .int .i64 0]) ∧ Hid (Below w.heap.size w w') ∧ Hid (Ms w' pa (pixM xs1 m0)))) := by
    refine (rpermuted_any b0 m0 c0 b1 xs1 c1 wl r0 l1 g1 (HS.out.below HB1.out) (HX.out.below HB1.out)).mono ?_
    rintro e w' ⟨hb, ⟨e0, he, rfl⟩ | ⟨hp, pa, pc, rfl, hm⟩⟩
    · exact .inl ⟨e0, by simpa using he, by simpa using he, rfl, HB1.out.trans (hb.mono HB1.out.size)⟩
    · exact .inr ⟨hp, pa, pc, rfl, HB1.out.trans (hb.mono HB1.out.size), hm⟩
  by_cases hpp : PermP m0 xs1
  case neg =>
    have HPE2 : Hid (Calls Try.prog 17 #[.slice b0 m0.length c0, .slice b1 xs1.length c1] wl fun e w' => (∃ e0 : Int, (e0 != 0) = true ∧ (e0 == 0) = false ∧ e = .returned (.tuple #[.slice none 0 0, .int .i64 e0]) ∧ Hid (Below w.heap.size w w'))) := HPE.out.mono fun e w' h => h.elim id fun h => absurd h.1 hpp
    obtain ⟨lb, hlb⟩ : ∃ lb, decide (100 < xs1.length) = lb := ⟨_, rfl⟩
    rw [hlb] at HLN
    clear h0 h1 r0 hpp HPE hlb
    cases lb
    all_goals
      go_enter Try.func4, Try.ntmps4
      go_wp2_with (first
        | (go_at_call 8; refine HLI.out.mono ?_; rintro e w0 ⟨⟨bb, rfl⟩, rfl⟩; cases bb)
        | (go_at_call 9; refine HLN.out.mono ?_; rintro e w1 ⟨rfl, rfl⟩)
        | (go_at_call 10; refine (awake_any _).mono ?_; rintro e w9 ⟨rfl, hb9⟩)
        | (go_at_call 17; refine HPE2.out.mono ?_; rintro e w2 ⟨e0, y1, y2, rfl, HB2⟩))
      all_goals go_ret
      all_goals first
        | exact ⟨rfl, HB2.out.trans (hb9.mono HB2.out.size)⟩
        | exact ⟨rfl, HB1.out.trans (hb9.mono HB1.out.size)⟩
        | exact ⟨rfl, hb9⟩
  case pos =>
    obtain ⟨i0, hi, hz0, hz1, hz2⟩ := info_parts Try.infoInt
    obtain ⟨gg, hmv⟩ := perm_mv hpp
    have HIN : Hid (∀ c ∈ circsAll (pixM xs1 m0), ∃ d ∈ circsAll m0, d = putTo (colsM m0) xs1 c (colsM m0) ∨ d = putTo (colsM m0) xs1 (negL c) (colsM m0)) := fun c hc => perm_in hpp hc
    have HCN := hmv.count
    have HKN := hmv.kn
    have HDL : Hid (∀ d ∈ circsAll m0, d.length = colsM m0) := fun d hd => circsAll_len hd
    have HCL : Hid (∀ c ∈ circsAll (pixM xs1 m0), c.length = colsM m0) := fun c hc => by rw [circsAll_len hc, hmv.cols]
    have hll := circsAll_small hmv.vm
    have hc10 := (validM_of hmv.vm).2.2.2.1
    have hxl := hpp.2.1
    have HOK : Hid (pxOk m0 xs1) := hpp.2.2.1
    have e0 : circsV m0 = (circsAll m0, 0) := by unfold circsV; rw [if_pos hmv.vm]
    have e1 : circsV (pixM xs1 m0) = (circsAll (pixM xs1 m0), 0) := by unfold circsV; rw [if_pos hmv.vp]
    have e2 : knownLV m0 = (knTo m0 (colsM m0), 0) := by unfold knownLV; rw [if_pos hmv.vm]
    have e3 : knownLV (pixM xs1 m0) = (knTo (pixM xs1 m0) (colsM (pixM xs1 m0)), 0) := by unfold knownLV; rw [if_pos hmv.vp]
    have HCM : Hid (∀ V, Below w.heap.size w V → Calls Try.prog 11 #[.slice b0 m0.length c0] V fun e w' => ∃ ca cc, e = .returned (.tuple #[.slice ca (circsAll m0).length cc, .int .i64 0]) ∧ Ms w' ca (circsAll m0) ∧ Below V.heap.size V w') := fun V hb => by
      have h := lcircuits_any b0 m0 c0 V HM.out (HS.out.below hb)
      rw [e0] at h; exact h
    have HCP : Hid (∀ V pa pc, Ms V pa (pixM xs1 m0) → Calls Try.prog 11 #[.slice pa m0.length pc] V fun e w' => ∃ ca cc, e = .returned (.tuple #[.slice ca (circsAll m0).length cc, .int .i64 0]) ∧ Ms w' ca (circsAll (pixM xs1 m0)) ∧ Below V.heap.size V w') := fun V pa pc hm => by
      have h := lcircuits_any pa (pixM xs1 m0) pc V (mok_of hmv.vp) hm
      rw [e1] at h
      dsimp only at h
      rw [HCN, hmv.len] at h; exact h
    have HKM : Hid (∀ V, Below w.heap.size w V → Calls Try.prog 19 #[.slice b0 m0.length c0] V fun e w' => Below V.heap.size V w' ∧ ∃ a cap, e = .returned (.tuple #[.slice a (knTo m0 (colsM m0)).length cap, .int .i64 0])) := fun V hb => by
      refine (lknowns_any b0 m0 c0 V HM.out (HS.out.below hb)).mono ?_
      rintro e w' ⟨k1, a, cap, k2, _⟩
      rw [e2] at k2
      exact ⟨k1, a, cap, k2⟩
    have HKP : Hid (∀ V pa pc, Ms V pa (pixM xs1 m0) → Calls Try.prog 19 #[.slice pa m0.length pc] V fun e w' => Below V.heap.size V w' ∧ ∃ a cap, e = .returned (.tuple #[.slice a (knTo m0 (colsM m0)).length cap, .int .i64 0])) := fun V pa pc hm => by
      have h := lknowns_any pa (pixM xs1 m0) pc V (mok_of hmv.vp) hm
      rw [hmv.len] at h
      refine h.mono ?_
      rintro e w' ⟨k1, a, cap, k2, _⟩
      rw [e3] at k2
      dsimp only at k2
      rw [HKN] at k2
      exact ⟨k1, a, cap, k2⟩
    have HPE2 : Hid (Calls Try.prog 17 #[.slice b0 m0.length c0, .slice b1 xs1.length c1] wl fun e w' => (∃ e0 : Int, (e0 != 0) = true ∧ (e0 == 0) = false ∧ e = .returned (.tuple #[.slice none 0 0, .int .i64 e0]) ∧ Hid (Below w.heap.size w w')) ∨ (∃ pa pc, e = .returned (.tuple #[.slice pa m0.length pc, .int .i64 0]) ∧ Hid (Below w.heap.size w w') ∧ Hid (Ms w' pa (pixM xs1 m0)))) := HPE.out.mono fun e w' h => h.elim .inl fun h => .inr h.2
    have HLN2 : Hid (Calls Try.prog 9 #[.slice (some ⟨w.heap.size, 0, none⟩) 1 1] (w.alloc (.cells #[.slice b1 xs1.length c1] 24)) fun e w' => e = .returned (.bool false) ∧ w' = wl) := HLN.out.mono fun e w' ⟨k1, k2⟩ => ⟨by rw [k1, decide_eq_false (by omega)], k2⟩
    obtain ⟨p, hp⟩ : ∃ p, pixM xs1 m0 = p := ⟨_, rfl⟩
    obtain ⟨L, hL⟩ : ∃ L, circsAll m0 = L := ⟨_, rfl⟩
    obtain ⟨K, hK⟩ : ∃ K, circsAll p = K := ⟨_, rfl⟩
    obtain ⟨n, hn⟩ : ∃ n, colsM m0 = n := ⟨_, rfl⟩
    obtain ⟨kn, hkn⟩ : ∃ kn, (knTo m0 n).length = kn := ⟨_, rfl⟩
    obtain ⟨ml, hml2⟩ : ∃ ml, m0.length = ml := ⟨_, rfl⟩
    obtain ⟨q, hq⟩ : ∃ q, L.length = q := ⟨_, rfl⟩
    rw [hp, hK, hL, hn] at HIN
    rw [hp, hK, hL] at HCN
    rw [hL, hn] at HDL
    rw [hp, hK, hn] at HCL
    rw [hL, hq] at hll
    rw [hn] at hc10 hxl
    rw [hL, hq, hml2] at HCM
    rw [hp, hK, hL, hq, hml2] at HCP
    rw [hn, hkn, hml2] at HKM
    rw [hp, hn, hkn, hml2] at HKP
    rw [hp, hml2] at HPE2
    rw [hxl] at HPE2 HLN2
    rw [hml2] at HLI ⊢
    rw [hxl]
    have HOK2 : Hid (∀ j ∈ xs1, 0 ≤ j ∧ j < (n : Int)) := fun j hj => by have := HOK.out j hj; rw [hn] at this; exact this
    have HXL := Lib.hid hxl
    have HQ := Lib.hid hq
    have HKQ : Hid (K.length = q) := HCN.trans hq
    clear h0 h1 r0 hpp HPE HLN hmv e0 e1 e2 e3 HCN HKN hp hL hK hn hkn hml2 hq hxl hml HOK HM HS l1 g1
    go_enter Try.func4, Try.ntmps4
    go_wp2_with (first
      | (go_at_call 8; refine HLI.out.mono ?_; rintro e w0 ⟨⟨bb, rfl⟩, rfl⟩; cases bb)
      | (go_at_call 9; refine HLN2.out.mono ?_; rintro e w1 ⟨rfl, rfl⟩)
      | (go_at_call 10; refine (awake_any _).mono ?_; rintro e w9 ⟨rfl, hb9⟩)
      | (go_at_call 17; refine HPE2.out.mono ?_; rintro e w2 (⟨e0, y1, y2, rfl, HB2⟩ | ⟨pa, pc, rfl, HB2, HP2⟩))
      | (go_at_call 11; with_reducible refine (HCM.out w2 HB2.out).mono ?_; rintro e w3 ⟨xa, xc, rfl, hm3, hb3⟩; have HA3 := Lib.hid hm3; have HB3 := Lib.hid (HB2.out.trans (hb3.mono HB2.out.size)); have HP3 := Lib.hid (HP2.out.below hb3); clear hm3 hb3)
      | (go_at_call 11; with_reducible refine (HCP.out w3 pa pc HP3.out).mono ?_; rintro e w4 ⟨ya, yc, rfl, hm4, hb4⟩; have HK4 := Lib.hid hm4; have HB4 := Lib.hid (HB3.out.trans (hb4.mono HB3.out.size)); have HP4 := Lib.hid (HP3.out.below hb4); have HA4 := Lib.hid (HA3.out.below hb4); clear hm4 hb4))
    · go_ret
      exact ⟨rfl, hb9⟩
    · go_ret
      exact ⟨rfl, HB2.out.trans (hb9.mono HB2.out.size)⟩
    · skip
      clear HLI HLN2 HPE2 HCM HCP HB1 HB2 HB3 HP2 HP3 HA3
      go_loopw [67] (fun i wr => ∃ k : Nat, k ≤ q ∧ i = .int .i64 k ∧ Below w4.heap.size w4 wr) (fun i _ => q - (intOf i).toNat)
      case atStart => exact ⟨0, Nat.zero_le _, rfl, Below.refl _ _⟩
      case round =>
        obtain ⟨k, hk, rfl, hb⟩ := hrel
        have HB := Lib.hid hb; clear hb
        have HBW : Hid (Below w.heap.size w wr) := HB4.out.trans (HB.out.mono HB4.out.size)
        by_cases hlt : k < q
        · have hkK : k < K.length := by rw [HKQ.out]; exact hlt
          obtain ⟨b4, o4, ri, rci, rfl, hcr0, hsr0⟩ := (HK4.out.below HB.out) k hkK
          have hvm : rowL K k ∈ K := rowL_mem hkK
          have hcr : wr.cell? ⟨b4, o4 + k, none⟩ = some (.slice ri n rci) := by rw [← HCL.out _ hvm]; exact hcr0
          have HC0 : Hid (Sl wr ri (rowL K k)) := hsr0
          have HCLK := Lib.hid (HCL.out _ hvm)
          have HINK := Lib.hid (HIN.out _ hvm)
          obtain ⟨c, hc⟩ : ∃ c, rowL K k = c := ⟨_, rfl⟩
          rw [hc] at HC0 HCLK HINK
          clear hcr0 hsr0 hvm hc
          obtain ⟨wk, hwk⟩ : ∃ wk, wk = wr := ⟨_, rfl⟩
          subst hwk
          go_wp2_with (with_reducible refine wpList_make_full _ rfl (.tmp 72) (.tmp 72) 24 rfl wk.heap.size 3 i0 (.int .i64 0) 1 Try.underlying24 hi hz0 hz1 .i64 .i64 (n : Int) (n : Int) n rfl rfl rfl rfl (by rw [hz2]; omega) (by unfold maxLen; omega) (Nat.le_refl _) ?_)
          rotate_left
          intro w5 hown hgrow
          have hb5 : Below wk.heap.size wk w5 := (Below.refl _ _).grown hgrow (Nat.le_refl _) (fun k e => by cases e)
          have HO5 : Hid (OwnI w5 wk.heap.size (.slice (some ⟨wk.heap.size, 0, none⟩) n n) (putTo n xs1 c 0)) := by
            have z := zeros_are n
            rw [Nat.mul_one] at z
            show OwnI w5 _ _ (List.replicate n 0)
            show w5.ownsRow _ _ _ _ _ _
            rw [List.length_replicate, ← z]; exact hown
          have HB5 := Lib.hid hb5
          have HC5 : Hid (Sl w5 ri c) := HC0.out.below hb5
          clear hown hgrow hb5 hcr
          go_wp2_with (with_reducible refine wpList_make_full _ rfl (.tmp 75) (.tmp 75) 24 rfl w5.heap.size 3 i0 (.int .i64 0) 1 Try.underlying24 hi hz0 hz1 .i64 .i64 (n : Int) (n : Int) n rfl rfl rfl rfl (by rw [hz2]; omega) (by unfold maxLen; omega) (Nat.le_refl _) ?_)
          rotate_left
          intro w6 hown hgrow
          have hb6 : Below w5.heap.size w5 w6 := (Below.refl _ _).grown hgrow (Nat.le_refl _) (fun k e => by cases e)
          have HM6 : Hid (OwnI w6 w5.heap.size (.slice (some ⟨w5.heap.size, 0, none⟩) n n) (putTo n xs1 (negL c) 0)) := by
            have z := zeros_are n
            rw [Nat.mul_one] at z
            show OwnI w6 _ _ (List.replicate n 0)
            show w6.ownsRow _ _ _ _ _ _
            rw [List.length_replicate, ← z]; exact hown
          have HO6 : Hid (OwnI w6 wk.heap.size (.slice (some ⟨wk.heap.size, 0, none⟩) n n) (putTo n xs1 c 0)) := HO5.out.below hb6
          have HB6 : Hid (Below wk.heap.size wk w6) := HB5.out.trans (hb6.mono HB5.out.size)
          have HLT : Hid (wk.heap.size < w5.heap.size) := (OwnI.lt HO5.out).1
          clear hown hgrow hb6
          go_wp2
          obtain ⟨B2, hB2⟩ : ∃ B2, w5.heap.size = B2 := ⟨_, rfl⟩
          rw [hB2] at HM6 HLT ⊢
          clear hB2 HC5 HO5 HB5
          go_loopw [79] (fun i wr2 => ∃ t : Nat, t ≤ n ∧ i = .int .i64 t ∧ OwnI wr2 wk.heap.size (.slice (some ⟨wk.heap.size, 0, none⟩) n n) (putTo n xs1 c t) ∧ OwnI wr2 B2 (.slice (some ⟨B2, 0, none⟩) n n) (putTo n xs1 (negL c) t) ∧ Below wk.heap.size wk wr2) (fun i _ => n - (intOf i).toNat)
          case atStart => exact ⟨0, Nat.zero_le _, rfl, HO6.out, HM6.out, HB6.out⟩
          case round =>
            clear HO6 HM6 HB6
            obtain ⟨t, ht, rfl, hO7, hM7, hB7⟩ := hrel
            have HO7 := Lib.hid hO7; clear hO7
            have HM7 := Lib.hid hM7; clear hM7
            have HB7 := Lib.hid hB7; clear hB7
            have HBW7 : Hid (Below w.heap.size w wr) := HBW.out.trans (HB7.out.mono HBW.out.size)
            by_cases hlt2 : t < n
            · obtain ⟨sb, so, v, rfl, hcv, HV2⟩ := (HX.out.below HBW7.out).at (k := t) (by rw [HXL.out]; exact hlt2)
              obtain ⟨hv0, hvN⟩ := HOK2.out v (List.mem_of_getElem? HV2.out)
              obtain ⟨j, rfl⟩ := Int.eq_ofNat_of_zero_le hv0
              have hgv := gt_some' HV2.out
              obtain ⟨xb, xo, x, rfl, hcx0, HX2⟩ := HC0.out.at (k := t) (by rw [HCLK.out]; exact hlt2)
              have hgx := gt_some' HX2.out
              have hlx := cell_lt hcx0
              have hcx := (HB7.out.cell (p := ⟨xb, xo + t, none⟩) hlx).trans hcx0
              have hcx2 : (wr.setCell ⟨wk.heap.size, j, none⟩ (.int .i64 x)).cell? ⟨xb, xo + t, none⟩ = _ := (cell_other _ _ _ _ (show xb ≠ wk.heap.size by exact Nat.ne_of_lt hlx)).trans hcx
              have hjn : j < n := by omega
              obtain ⟨cz, fz⟩ := HO7.out.cell (j := j) (by rw [putTo_len]; exact hjn)
              have HST1 : Hid (OwnI (wr.setCell ⟨wk.heap.size, j, none⟩ (.int .i64 x)) wk.heap.size (.slice (some ⟨wk.heap.size, 0, none⟩) n n) (putTo n xs1 c (t + 1))) := by
                have h := HO7.out.stored j x
                have e : putTo n xs1 c (t + 1) = (putTo n xs1 c t).set j x := by
                  show (putTo n xs1 c t).set (gt xs1 t).toNat (gt c t) = _
                  rw [hgv, hgx]; rfl
                rw [e]; exact h
              have HM8 : Hid (OwnI (wr.setCell ⟨wk.heap.size, j, none⟩ (.int .i64 x)) B2 (.slice (some ⟨B2, 0, none⟩) n n) (putTo n xs1 (negL c) t)) := HM7.out.setBelow (p := ⟨wk.heap.size, j, none⟩) HLT.out _
              obtain ⟨cz2, fz2⟩ := HM8.out.cell (j := j) (by rw [putTo_len]; exact hjn)
              obtain ⟨nx, hnx⟩ : ∃ nx, IntKind.i64.wrap (-x) = nx := ⟨_, rfl⟩
              have HST2 : Hid (OwnI ((wr.setCell ⟨wk.heap.size, j, none⟩ (.int .i64 x)).setCell ⟨B2, j, none⟩ (.int .i64 nx)) B2 (.slice (some ⟨B2, 0, none⟩) n n) (putTo n xs1 (negL c) (t + 1))) := by
                have h := HM8.out.stored j nx
                have e : putTo n xs1 (negL c) (t + 1) = (putTo n xs1 (negL c) t).set j nx := by
                  show (putTo n xs1 (negL c) t).set (gt xs1 t).toNat (gt (negL c) t) = _
                  rw [hgv, gt_neg, hgx, hnx]; rfl
                rw [e]; exact h
              have HST3 : Hid (OwnI ((wr.setCell ⟨wk.heap.size, j, none⟩ (.int .i64 x)).setCell ⟨B2, j, none⟩ (.int .i64 nx)) wk.heap.size (.slice (some ⟨wk.heap.size, 0, none⟩) n n) (putTo n xs1 c (t + 1))) := HST1.out.sameBlock (Below.heap_setCell _ _ _ _ (show wk.heap.size ≠ B2 by have := HLT.out; omega))
              have HB8 : Hid (Below wk.heap.size wk ((wr.setCell ⟨wk.heap.size, j, none⟩ (.int .i64 x)).setCell ⟨B2, j, none⟩ (.int .i64 nx))) := (HB7.out.setCell (p := ⟨wk.heap.size, j, none⟩) (Nat.le_refl _) _).setCell (p := ⟨B2, j, none⟩) (Nat.le_of_lt HLT.out) _
              have ht0 : (t : Int) < (n : Int) := by omega
              have hj0 : (j : Int) < (n : Int) := by omega
              clear hgv hgx hv0 hvN hlx hcx0 HO7 HM7 HST1 HM8
              go_wp2
              go_roundw
              case rel => exact ⟨t + 1, by omega, by go_num, HST3.out, HST2.out, HB8.out⟩
              case measure => simp [intOf]; omega
            · obtain rfl : n = t := by omega
              obtain ⟨H, hH⟩ : ∃ H, putTo n xs1 c n = H := ⟨_, rfl⟩
              obtain ⟨M, hM⟩ : ∃ M, putTo n xs1 (negL c) n = M := ⟨_, rfl⟩
              have HHL : Hid (H.length = n) := by show _ = _; rw [← hH, putTo_len]
              have HML : Hid (M.length = n) := by show _ = _; rw [← hM, putTo_len]
              have HALL : Hid (anyB L H M q = true) := by
                obtain ⟨d, hd, hdd⟩ := HINK.out
                rw [hH, hM] at hdd
                show _ = _
                rw [← HQ.out]
                exact anyB_all hd hdd
              have HSH : Hid (Sl wr (some ⟨wk.heap.size, 0, none⟩) H) := by have := HO7.out; rw [hH] at this; exact this.sl
              have HSM : Hid (Sl wr (some ⟨B2, 0, none⟩) M) := by have := HM7.out; rw [hM] at this; exact this.sl
              clear hH hM HO7 HM7 HINK
              obtain ⟨wv, hwv⟩ : ∃ wv, wv = wr := ⟨_, rfl⟩
              subst hwv
              go_wp2
              go_loopw [17, 112] (fun fv i wr3 => ∃ u : Nat, u ≤ q ∧ i = .int .i64 u ∧ fv = .bool (anyB L H M u) ∧ Below wv.heap.size wv wr3) (fun _ i _ => q - (intOf i).toNat)
              case atStart => exact ⟨0, Nat.zero_le _, rfl, rfl, Below.refl _ _⟩
              case round =>
                obtain ⟨u, hu, rfl, rfl, hb9⟩ := hrel
                have HB9 := Lib.hid hb9; clear hb9
                have HBW9 : Hid (Below w4.heap.size w4 wr) := HB.out.trans ((HB7.out.trans (HB9.out.mono HB7.out.size)).mono HB.out.size)
                by_cases hlt3 : u < q
                · have huL : u < L.length := by rw [HQ.out]; exact hlt3
                  obtain ⟨b5, o5, di, dci, rfl, hcd0, hsd0⟩ := (HA4.out.below HBW9.out) u huL
                  have hdm : rowL L u ∈ L := rowL_mem huL
                  have hcd : wr.cell? ⟨b5, o5 + u, none⟩ = some (.slice di n dci) := by rw [← HDL.out _ hdm]; exact hcd0
                  have HD0 : Hid (Sl wr di (rowL L u)) := hsd0
                  have HDLK := Lib.hid (HDL.out _ hdm)
                  have HAS : Hid (anyB L H M (u + 1) = (anyB L H M u || decide (rowL L u = H) || decide (rowL L u = M))) := anyB_succ rfl huL
                  obtain ⟨d, hd⟩ : ∃ d, rowL L u = d := ⟨_, rfl⟩
                  rw [hd] at HD0 HDLK HAS
                  obtain ⟨x1, hx1⟩ : ∃ x1, decide (d = H) = x1 := ⟨_, rfl⟩
                  obtain ⟨x2, hx2⟩ : ∃ x2, decide (d = M) = x2 := ⟨_, rfl⟩
                  obtain ⟨x0, hx0⟩ : ∃ x0, anyB L H M u = x0 := ⟨_, rfl⟩
                  have HS1 : Hid (∀ V, Below wr.heap.size wr V → Calls Try.prog 18 #[.slice di n dci, .slice (some ⟨wk.heap.size, 0, none⟩) n n] V fun e w' => e = .returned (.bool x1) ∧ Below wr.heap.size wr w') := fun V hb => by
                    have k := sameInts_any di d dci (some ⟨wk.heap.size, 0, none⟩) H n V (by rw [HDLK.out]; omega) (by rw [HHL.out]; omega) (HD0.out.below hb) ((HSH.out.below HB9.out).below hb)
                    rw [HDLK.out, HHL.out, hx1] at k
                    exact k.mono fun e w' ⟨k1, nd, k2⟩ => ⟨k1, by rw [k2]; exact below_drewN hb _⟩
                  have HS2 : Hid (∀ V, Below wr.heap.size wr V → Calls Try.prog 18 #[.slice di n dci, .slice (some ⟨B2, 0, none⟩) n n] V fun e w' => e = .returned (.bool x2) ∧ Below wr.heap.size wr w') := fun V hb => by
                    have k := sameInts_any di d dci (some ⟨B2, 0, none⟩) M n V (by rw [HDLK.out]; omega) (by rw [HML.out]; omega) (HD0.out.below hb) ((HSM.out.below HB9.out).below hb)
                    rw [HDLK.out, HML.out, hx2] at k
                    exact k.mono fun e w' ⟨k1, nd, k2⟩ => ⟨k1, by rw [k2]; exact below_drewN hb _⟩
                  rw [hx0, hx1, hx2] at HAS
                  rw [hx0]
                  clear hcd0 hsd0 hdm hd hx1 hx2 hx0 huL
                  cases x0 <;> cases x1 <;> cases x2
                  all_goals
                    go_wp2_with (first
                      | (go_at_call 18; with_reducible refine (HS1.out wr (Below.refl _ _)).mono ?_; rintro e w7 ⟨rfl, hb7⟩; have HB10 := Lib.hid hb7; clear hb7)
                      | (go_at_call 18; with_reducible refine (HS2.out w7 HB10.out).mono ?_; rintro e w8 ⟨rfl, hb8⟩; have HB11 := Lib.hid hb8; clear hb8))
                    go_roundw
                    case rel => exact ⟨u + 1, by omega, by go_num, by rw [HAS.out]; rfl, by first | exact HB9.out.trans (HB11.out.mono HB9.out.size) | exact HB9.out.trans (HB10.out.mono HB9.out.size) | exact HB9.out⟩
                    case measure => simp [intOf]; omega
                · obtain rfl : q = u := by omega
                  rw [HALL.out]
                  go_wp2
                  go_roundw
                  case rel => exact ⟨k + 1, by omega, by go_num, HBW9.out⟩
                  case measure => simp [intOf]; omega
        · obtain rfl : q = k := by omega
          have HPW := Lib.hid (HP4.out.below HB.out)
          go_wp2_with (first
            | (go_at_call 19; with_reducible refine (HKM.out wr HBW.out).mono ?_; rintro e w7 ⟨hb7, ka, kc, rfl⟩; have HB7 := Lib.hid (HBW.out.trans (hb7.mono HBW.out.size)); have HP7 := Lib.hid (HPW.out.below hb7); clear hb7)
            | (go_at_call 19; with_reducible refine (HKP.out w7 pa pc HP7.out).mono ?_; rintro e w8 ⟨hb8, la, lc, rfl⟩; have HB8 := Lib.hid (HB7.out.trans (hb8.mono HB7.out.size)); clear hb8)
            | (go_at_call 10; refine (awake_any _).mono ?_; rintro e w9 ⟨rfl, hb9⟩))
          go_ret
          exact ⟨rfl, HB8.out.trans (hb9.mono HB8.out.size)⟩
end Go.Proofs.Ytfkmlonhhdcfpaa.linPermuted
/- How an argument that is an array of three ints is opened. Speaks of no function. -/
namespace Go.Proofs.Ytfkmlonhhdcfpaa
open Go.ChangeShapes Go.WideShapes Go.ChangeAt Go.RowKit Go.Joins

theorem array3' {cs : Array Value} (h : cs.size = 3) : ∃ c0 c1 c2, cs = #[c0, c1, c2] := by
  obtain ⟨l⟩ := cs
  match l, h with
  | [a, b, c], _ => exact ⟨a, b, c, rfl⟩
section
variable {H : Type} {enc : TypeId × Value → H} {P : Program} {w : World} {base : Nat} {held : Bool}
theorem in_triple {k e : TypeId} {r : Reach} {b0 : Nat} {v : Value} {d : DataW H} {p : List MemPlace} {spare : Nat → Bool} (hk : P.underlying k = some (.array 3 e)) (he : P.underlying e = some (.int .i64)) (hce : P.cellsOf e = 1) (hck : P.cellsOf k = 3)
    (hv : Value.okWide P w r b0 k v) (h : DataW.Trod enc P w base spare held k v d p) : ∃ m n q, v = .agg #[.int .i64 m, .int .i64 n, .int .i64 q] ∧ I64 m ∧ I64 n ∧ I64 q := by
  simp only [Value.okWide, hk] at hv
  obtain ⟨cs, rfl, hsz, _⟩ := hv
  obtain ⟨c0, c1, c2, rfl⟩ := array3' (hsz.trans hck)
  obtain ⟨fuel, hf⟩ := h
  obtain ⟨xs, m, _, _, _, hx, hi⟩ := DataW.trod_array hk hf
  have h0 := hi 0 (by omega)
  have h1 := hi 1 (by omega)
  have h2 := hi 2 (by omega)
  rw [hce] at h0 h1 h2
  obtain ⟨y0, e0⟩ : ∃ y, xs[0]? = some y := ⟨xs[0], by simp [hx]⟩
  obtain ⟨y1, e1⟩ : ∃ y, xs[1]? = some y := ⟨xs[1], by simp [hx]⟩
  obtain ⟨y2, e2⟩ : ∃ y, xs[2]? = some y := ⟨xs[2], by simp [hx]⟩
  rw [e0] at h0
  rw [e1] at h1
  rw [e2] at h2
  simp [Value.cells] at h0 h1 h2
  obtain ⟨a, rfl, ha⟩ := in_int he h0
  obtain ⟨b, rfl, hb⟩ := in_int he h1
  obtain ⟨c, rfl, hc⟩ := in_int he h2
  exact ⟨a, b, c, rfl, ha, hb, hc⟩
theorem in_ints_cap {t e : TypeId} {fuel : Nat} {v : Value} {x : DataW H × List MemPlace} (ht : P.underlying t = some (.slice e)) (he : P.underlying e = some (.int .i64)) (hc : P.cellsOf e = 1)
    (h : DataW.trod enc P w base (fun _ => true) held fuel t [v] = some x) : ∃ a xs cap, InInts w v a xs cap ∧ xs.length ≤ cap ∧ cap ≤ 9223372036854775807 := by
  obtain ⟨a, xs, cap, hin⟩ := in_ints ht he hc h
  refine ⟨a, xs, cap, hin, ?_⟩
  rcases open_ints ht he hc h with ⟨hcs, _⟩ | ⟨ad, len, cap', zs, hcs, _, hl, hm, _⟩
  · simp only [List.cons.injEq, and_true] at hcs
    have e1 := hin.1
    rw [hcs] at e1
    have h1 : (0 : Nat) = xs.length := by simpa using congrArg (fun v => match v with | .slice _ n _ => n | _ => 0) e1
    have h2 : (0 : Nat) = cap := by simpa using congrArg (fun v => match v with | .slice _ _ c => c | _ => 0) e1
    omega
  · simp only [List.cons.injEq, and_true] at hcs
    have e1 := hin.1
    rw [hcs] at e1
    have h1 : len = xs.length := by simpa using congrArg (fun v => match v with | .slice _ n _ => n | _ => 0) e1
    have h2 : cap' = cap := by simpa using congrArg (fun v => match v with | .slice _ _ c => c | _ => 0) e1
    unfold maxLen at hm
    omega
end
end Go.Proofs.Ytfkmlonhhdcfpaa
