/- Parts of the proof of SparseFits: plain words, walks and contracts, each under its own heading. -/
import Derived.Test.YtfnomiingelfaaaGreatSparseFitsPA
import Derived.Test.YtfnomiingelfaaaGreatProg
import Derived.BigQuiet
import Derived.Deep.QuietTactic
import Derived.Test.YtfnomiingelfaaaGreatSparseFitsPC
import Derived.Test.YtfnomiingelfaaaGreatSparseFitsPB
import Derived.Deep.RegionHeldLaw
import Derived.Laws.ResultCell
import Derived.Laws.OwnMore
/- SameInts of the answers of layer 1: a contract. -/
namespace Go.Proofs.YtfnomiingelfaaaGreat
open Go.RowKit

theorem sameInts_any (a : Option Addr) (xs : List Int) (ca : Nat) (b : Option Addr) (ys : List Int) (cb : Nat) (w : World) (hx : xs.length ≤ 140737488351232) (hy : ys.length ≤ 140737488351232) (ha : Sl w a xs) (hb : Sl w b ys) :
    Calls Tryz.prog 54 #[.slice a xs.length ca, .slice b ys.length cb] w fun e w' => e = .returned (.bool (decide (xs = ys))) ∧ ∃ n, w' = w.drewN n := by
  have HA := Lib.hid ha; clear ha
  have HB := Lib.hid hb; clear hb
  by_cases hl : xs.length = ys.length
  · have hb : ((xs.length : Int) == (ys.length : Int)) = true := by simp [hl]
    have hb' : ((xs.length : Int) != (ys.length : Int)) = false := by simp [hl]
    have HL := Lib.hid hl; clear hl
    go_enter Tryz.func54, Tryz.ntmps54
    go_wp2
    go_loopw [13] (fun i wr => ∃ k nd : Nat, k ≤ xs.length ∧ i = .int .i64 k ∧ wr = w.drewN nd ∧ ∀ j, j < k → xs[j]?.getD 0 = ys[j]?.getD 0) (fun i _ => xs.length - (intOf i).toNat)
    case atStart => exact ⟨0, 0, Nat.zero_le _, rfl, rfl, fun j h => by omega⟩
    case round =>
      obtain ⟨k, nd, hk, rfl, rfl, hno⟩ := hrel
      have HN := Lib.hid hno; clear hno
      by_cases hlt : k < xs.length
      · have hly : k < ys.length := by rw [← HL.out]; exact hlt
        obtain ⟨b1, o1, x, rfl, hc1, HX⟩ := HA.out.at hlt
        obtain ⟨b2, o2, y, rfl, hc2, HY⟩ := HB.out.at hly
        by_cases he : x = y
        · subst he
          go_wp2
          go_quiet (fail)
          go_wp2
          go_roundw
          case rel => exact ⟨k + 1, _, by omega, by go_num, rfl, fun j hj => by
              by_cases hj' : j = k
              · subst hj'; rw [HX.out, HY.out]
              · exact HN.out j (by omega)⟩
          case measure => simp [intOf]; omega
        · have hne : (x == y) = false := by simpa using he
          have hne' : (x != y) = true := by simpa using he
          have HE : Hid (decide (xs = ys) = false) := by
            show decide (xs = ys) = false
            rw [decide_eq_false_iff_not]
            rintro rfl
            have h1 := HX.out
            have h2 := HY.out
            rw [h1] at h2
            exact he (by simpa using h2)
          clear he
          go_wp2
          go_quiet (fail)
          go_wp2
          go_ret
          exact ⟨ret_bool HE.out.symm, _, World.drewN_drewN _ _ _⟩
      · have HE : Hid (decide (xs = ys) = true) := by
          show decide (xs = ys) = true
          rw [decide_eq_true_iff]
          refine List.ext_getElem HL.out (fun j h1 h2 => ?_)
          have := HN.out j (by omega)
          simpa [h1, h2] using this
        go_wp2
        go_ret
        exact ⟨ret_bool HE.out.symm, _, rfl⟩
  · have hb : ((xs.length : Int) == (ys.length : Int)) = false := by simp; omega
    have hb' : ((xs.length : Int) != (ys.length : Int)) = true := by simp; omega
    have HX : Hid (decide (xs = ys) = false) := by
      show decide (xs = ys) = false
      rw [decide_eq_false_iff_not]; rintro rfl; exact hl rfl
    clear hl
    go_enter Tryz.func54, Tryz.ntmps54
    go_wp2
    go_ret
    exact ⟨ret_bool HX.out.symm, 0, rfl⟩

theorem Sl.below' {w w' : World} {a : Option Addr} {xs : List Int} (h : Sl w a xs) {B : Nat} (hb : Below B w w') (hB : w.heap.size ≤ B) : Sl w' a xs := h.below (hb.mono hB)
end Go.Proofs.YtfnomiingelfaaaGreat
/- Primitive and IsKernel of both sides, Rank, Kernel of the answers: contracts. -/
namespace Go.Proofs.YtfnomiingelfaaaGreat
open Go.RowKit

/-- The place of the first number that is not 0, or -1. -/
def ixN (xs : List Int) : Int := if allZ xs = true then -1 else (xs.findIdx (fun x => x != 0) : Int)
/-- The first number that is not 0, or 0. -/
def fnz (xs : List Int) : Int := gt xs (xs.findIdx fun x => x != 0)
theorem find_at {xs : List Int} {k : Nat} {x : Int} (h : ∀ j, j < k → xs[j]?.getD 0 = 0) (hx : xs[k]? = some x) (h0 : x ≠ 0) : xs.findIdx (fun x => x != 0) = k := by
  obtain ⟨hk, e⟩ := List.getElem?_eq_some_iff.1 hx
  rw [List.findIdx_eq hk]
  refine ⟨by rw [e]; simpa using h0, fun j hj => ?_⟩
  have := h j hj
  rw [List.getElem?_eq_getElem (by omega)] at this
  have e2 : xs[j] = 0 := by simpa using this
  rw [e2]; rfl
theorem ixN_hit {xs : List Int} {k : Nat} {x : Int} (h : ∀ j, j < k → xs[j]?.getD 0 = 0) (hx : xs[k]? = some x) (h0 : x ≠ 0) : ixN xs = k := by
  unfold ixN; rw [allZ_no hx h0, if_neg (by decide), find_at h hx h0]
theorem fnz_hit {xs : List Int} {k : Nat} {x : Int} (h : ∀ j, j < k → xs[j]?.getD 0 = 0) (hx : xs[k]? = some x) (h0 : x ≠ 0) : fnz xs = x := by
  unfold fnz; rw [find_at h hx h0]; unfold gt; rw [hx]; rfl
theorem first_at {xs : List Int} (h : allZ xs = false) : ∃ k x, k < xs.length ∧ xs[k]? = some x ∧ x ≠ 0 ∧ ixN xs = k ∧ fnz xs = x := by
  unfold allZ at h
  rw [List.all_eq_false] at h
  obtain ⟨x, hx, h0⟩ := h
  have hf : xs.findIdx (fun x => x != 0) < xs.length := List.findIdx_lt_length_of_exists ⟨x, hx, by simpa using h0⟩
  have hx2 : xs[xs.findIdx (fun x => x != 0)]? = some (xs[xs.findIdx (fun x => x != 0)]'hf) := List.getElem?_eq_getElem hf
  have h2 : xs[xs.findIdx (fun x => x != 0)]'hf ≠ 0 := by simpa using List.findIdx_getElem (w := hf)
  refine ⟨_, _, hf, hx2, h2, ?_, ?_⟩
  · unfold ixN; rw [allZ_no hx2 h2, if_neg (by decide)]
  · unfold fnz gt; rw [hx2]; rfl
theorem nonzero_any (n : Int) (w : World) : Calls Tryz.prog 131 #[.int .i64 n] w fun e w' => e = .returned (.bool (n != 0)) ∧ w = w' := by
  go_enter Tryz.func131, Tryz.ntmps131
  go_wp2
  go_ret
  exact ⟨rfl, rfl⟩
set_option maxRecDepth 100000 in
theorem indexNZ_any (a : Option Addr) (xs : List Int) (cap : Nat) (w : World) (hl : xs.length ≤ 140737488351232) (hs : Sl w a xs) :
    Calls Tryz.prog 149 #[.slice a xs.length cap, .func (.func 131) #[] #[]] w fun e w' => e = .returned (.int .i64 (ixN xs)) ∧ w = w' := by
  have HS := Lib.hid hs; clear hs
  go_enter Tryz.func149, Tryz.ntmps149
  go_wp2
  go_loop [8] (fun i => ∃ k : Nat, k ≤ xs.length ∧ i = .int .i64 k ∧ ∀ j, j < k → xs[j]?.getD 0 = 0) (fun i => xs.length - (intOf i).toNat)
  case atStart => exact ⟨0, Nat.zero_le _, rfl, fun j h => by omega⟩
  case round =>
    obtain ⟨k, hk, rfl, hno⟩ := hrel
    have HN := Lib.hid hno; clear hno
    by_cases hlt : k < xs.length
    · obtain ⟨b, off, x, rfl, hcell, HX⟩ := HS.out.at hlt
      obtain ⟨bb, hbb⟩ : ∃ bb, (x != 0) = bb := ⟨_, rfl⟩
      have HNZ : Hid (∀ W, Calls Tryz.prog 131 #[.int .i64 x] W fun e w' => e = .returned (.bool bb) ∧ W = w') := fun W => by rw [← hbb]; exact nonzero_any x W
      have HBB := Lib.hid hbb; clear hbb
      cases bb with
      | false =>
        go_wp2_with (go_at_call 131; refine (HNZ.out _).mono ?_; rintro e w' ⟨rfl, rfl⟩)
        go_round
        case rel => exact ⟨k + 1, by omega, by go_num, fun j hj => by
            by_cases hj' : j = k
            · subst hj'; rw [HX.out]; simpa using HBB.out
            · exact HN.out j (by omega)⟩
        case measure => simp [intOf]; omega
      | true =>
        go_wp2_with (go_at_call 131; refine (HNZ.out _).mono ?_; rintro e w' ⟨rfl, rfl⟩)
        go_ret
        exact ⟨ret_i64 (ixN_hit HN.out HX.out (by simpa using HBB.out)).symm, rfl⟩
    · have HE : Hid (ixN xs = -1) := by show _ = _; unfold ixN; rw [allZ_yes fun j hj => HN.out j (by omega)]; rfl
      go_wp2
      go_ret
      exact ⟨ret_i64 HE.out.symm, rfl⟩
theorem containsNZ_any (a : Option Addr) (xs : List Int) (cap : Nat) (w : World) (hl : xs.length ≤ 140737488351232) (hs : Sl w a xs) :
    Calls Tryz.prog 129 #[.slice a xs.length cap, .func (.func 131) #[] #[]] w fun e w' => e = .returned (.bool (!allZ xs)) ∧ w = w' := by
  have HI := Lib.hid (indexNZ_any a xs cap w hl hs); clear hs
  have HE : Hid (decide (0 ≤ ixN xs) = !allZ xs) := by
    show _ = _
    unfold ixN
    cases allZ xs
    · simp
    · simp
  go_enter Tryz.func129, Tryz.ntmps129
  go_wp2_with (go_at_call 149; refine HI.out.mono ?_; rintro e w' ⟨rfl, rfl⟩)
  go_ret
  exact ⟨ret_bool (by rw [← HE.out]), rfl⟩
/-- What tells a primitive list. -/
def primB (h : List Int) : Bool := allB 1000000 h && decide (gcdL h = 1) && decide (0 < fnz h)
theorem gcdL_zero {h : List Int} : gcdL h = 0 ↔ allZ h = true := by
  constructor
  · intro e; exact allZ_all fun c hc => gcdTo_zero _ e c hc
  · intro e
    have : ∀ k, k ≤ h.length → gcdTo h k = 0 := by
      intro k
      induction k with
      | zero => intro _; rfl
      | succ k ih => intro hk; rw [gcdTo_succ, ih (by omega), allZ_gt e (c := k) (by omega)]; rfl
    exact this _ (Nat.le_refl _)
theorem primR_id {h : List Int} (hz : allZ h = false) : decide (primR h = h) = decide (gcdL h = 1) := by
  rw [decide_eq_decide]
  constructor
  · intro e
    obtain ⟨k, x, hk, hx, h0, _, _⟩ := first_at hz
    have h1 := gt_primR (q := h) (c := k) hk
    rw [e] at h1
    have hgx : gt h k = x := by unfold gt; rw [hx]; rfl
    rw [hgx] at h1
    have hg : gcdL h ≠ 0 := fun e => by rw [gcdL_zero] at e; rw [e] at hz; cases hz
    have h2 : (((max (gcdL h) 1 : Nat) : Int) - 1) * x = 0 := by rw [Int.sub_mul, Int.one_mul]; omega
    rcases Int.mul_eq_zero.mp h2 with e2 | e2
    · omega
    · exact absurd e2 h0
  · intro e
    unfold primR
    rw [e]
    show h.map (fun n => n.tdiv 1) = h
    conv => rhs; rw [← List.map_id h]
    exact List.map_congr_left fun x _ => Int.tdiv_one x
theorem allB_mid {h : List Int} (e : allB 1000000 h = true) : ∀ x ∈ h, Mid x := by
  intro x hx
  obtain ⟨c, hc, rfl⟩ := mem_gt.mp hx
  have := gt_in e hc
  unfold Mid; omega
end Go.Proofs.YtfnomiingelfaaaGreat
/- Primitive of the answers, IsKernel of both sides, Rank, Kernel of the answers, long: contracts. -/
namespace Go.Proofs.YtfnomiingelfaaaGreat
open Go.RowKit

/-- What Rank answers. -/
def rankV (m : List (List Int)) : Int × Int := if validM m = true then (((redN m (upTo (colsM m))).piv.length : Int), 0) else (0, 1)
set_option maxRecDepth 100000 in
set_option maxHeartbeats 800000 in
theorem lrank_any (a : Option Addr) (m : List (List Int)) (cap : Nat) (w : World) (hm : MOk m) (hs : Ms w a m) : Calls Tryz.prog 68 #[.slice a m.length cap] w fun e w' => e = .returned (.tuple #[.int .i64 (rankV m).1, .int .i64 (rankV m).2]) ∧ Below w.heap.size w w' := by
  have HVA : Hid (Calls Tryz.prog 45 #[.slice a m.length cap] w fun e w' => e = .returned (.bool (validM m)) ∧ Below w.heap.size w w') := mvalid_any a m cap w hm hs
  have HS := Lib.hid hs
  clear hm hs
  cases hv : validM m
  case false =>
    rw [hv] at HVA
    have HK : Hid (rankV m = (0, 1)) := by show _ = _; simp [rankV, hv]
    clear hv
    go_enter Tryz.func68, Tryz.ntmps68
    go_wp2_with (go_at_call 45; refine HVA.out.mono ?_; rintro e w1 ⟨rfl, hb⟩; have HB := Lib.hid hb; clear hb)
    go_ret2
    rw [HK.out]
    exact ⟨rfl, HB.out⟩
  case true =>
    rw [hv] at HVA
    obtain ⟨hm1, hm6, hc1, hc10, hrows⟩ := validM_of hv
    have h64 : Hid (All64 m) := fun q hq x hx => by
      obtain ⟨c, hc, rfl⟩ := mem_gt.1 hx
      have := gt_in (hrows q hq).2 hc
      unfold In64; omega
    have HRA : Hid (∀ w1 : World, Below w.heap.size w w1 → Calls Tryz.prog 99 #[.slice a m.length cap, .func (.func 91) #[] #[]] w1 (RdPost (redN m (upTo (colsM m))) w1)) := fun w1 hb => reduceAll_any (Lib.hid hm6) (Lib.hid hm1) (Lib.hid ⟨hc1, hc10⟩) (Lib.hid fun r hr => (hrows r hr).1) h64 (Lib.hid (HS.out.below hb))
    obtain ⟨rd, hrd⟩ : ∃ rd, redN m (upTo (colsM m)) = rd := ⟨_, rfl⟩
    have HK : Hid (rankV m = ((rd.piv.length : Int), 0)) := by show _ = _; simp [rankV, hv, hrd]
    rw [hrd] at HRA
    clear hv hm1 hm6 hc1 hc10 hrows hrd h64
    obtain ⟨cols, rows, piv, dv⟩ := rd
    dsimp only at HK
    go_enter Tryz.func68, Tryz.ntmps68
    go_wp2_with (first | (go_at_call 45; refine HVA.out.mono ?_; rintro e w1 ⟨rfl, hb⟩; have HB := Lib.hid hb; clear hb) | (go_at_call 99; refine (HRA.out w1 HB.out).mono ?_; rintro e w2 ⟨hb2, g, cp, ads, pa2, pc2, rfl, hgg, si, pi⟩; unfold rdV; dsimp only; have HB2 := Lib.hid (HB.out.trans (hb2.mono HB.out.size)); clear si pi hgg hb2) | (go_at_call 92; refine (rank_any cols g rows.length cp pa2 piv pc2 dv _).mono ?_; rintro e w3 ⟨rfl, hb3⟩; have HB3 := Lib.hid (HB2.out.trans (hb3.mono HB2.out.size)); clear hb3))
    go_ret2
    rw [HK.out]
    exact ⟨rfl, HB3.out⟩
end Go.Proofs.YtfnomiingelfaaaGreat
/- Rows with more numbers behind them: words and laws for reduce. -/
namespace Go.Proofs.YtfnomiingelfaaaGreat
open Go.RowKit

/-- The rows of some columns with more numbers behind each. -/
def pixB (px : List Int) (m : List (List Int)) (bh : Nat → List Int) : List (List Int) := (List.range m.length).map fun i => pixR px (rowL m i) ++ bh i
theorem pixB_len (px : List Int) (m : List (List Int)) (bh : Nat → List Int) : (pixB px m bh).length = m.length := by simp [pixB]
theorem pixB_succ (px : List Int) {m : List (List Int)} (bh : Nat → List Int) {k : Nat} {r : List Int} (hr : m[k]? = some r) : (pixB px m bh).take k ++ [pixR px r ++ bh k] = (pixB px m bh).take (k + 1) := by
  have hk := (List.getElem?_eq_some_iff.1 hr).1
  rw [List.take_succ_eq_append_getElem (by rw [pixB_len]; exact hk)]
  congr 1
  unfold pixB rowL
  simp [hr]
def redBM (m : List (List Int)) (px : List Int) (bh : Nat → List Int) : Rd := { cols := px.length, rows := pixB px m bh, piv := [], dv := 1 }
def redB (m : List (List Int)) (px : List Int) (bh : Nat → List Int) : Rd := clearN (redBM m px bh) px.length
theorem redBM_ok {m : List (List Int)} {px : List Int} {bh : Nat → List Int} {bn : Nat} (hm : m.length ≤ 6) (hp : px.length ≤ 10) (hn : bn ≤ 6) (h64 : All64 m) (hb : ∀ i, i < m.length → (bh i).length = bn ∧ ∀ x ∈ bh i, In64 x) : RdOk (px.length + bn) (redBM m px bh) ∧ All64 (redBM m px bh).rows := by
  refine ⟨⟨?_, ?_, by omega, ?_, by simp [redBM]⟩, ?_⟩
  · show (pixB px m bh).length ≤ 100; rw [pixB_len]; omega
  · intro q hq
    obtain ⟨i, hi, rfl⟩ := List.mem_map.1 hq
    rw [List.length_append, pixR_len, (hb i (List.mem_range.1 hi)).1]
  · exact Nat.zero_le _
  · intro q hq x hx
    obtain ⟨i, hi, rfl⟩ := List.mem_map.1 hq
    have hi := List.mem_range.1 hi
    rcases List.mem_append.1 hx with hx | hx
    · obtain ⟨j, _, rfl⟩ := List.mem_map.1 hx
      exact gt_in64 (h64 _ (rowL_mem hi)) _
    · exact (hb i hi).2 x hx
/-- What tells the numbers behind a row. -/
def BehF (f : Nat) (cap : Value) (bh : Nat → List Int) (bn n base : Nat) (w0 : World) : Prop := ∀ (W : World) (k : Nat), Below base w0 W → k < n → Calls Tryz.prog f #[.int .i64 (k : Int), cap] W fun e w' => ∃ bb bo bc, e = .returned (.slice (some ⟨bb, bo, none⟩) bn bc) ∧ Sl w' (some ⟨bb, bo, none⟩) (bh k) ∧ Below W.heap.size W w'
/-- A list appended in a region that draws its order, and where the new slice lies. -/
theorem step_pushL {ops : Array Oper} {o : Oper} {a : Act} {K : Act → World → Prop} {Q : Exit → Act → World → Prop} {E : Prop} (hgd : o.guard = none) (s x : Operand)
    (ho : o.op = .call { callee := .builtin .append, args := #[s, x], argTypes := #[24, 24] }) (base : Nat) (v : Value) (zs ys : List Int) (W : World) (bb bo bn bc : Nat)
    (hs : a.eval s = v) (hx : a.eval x = .slice (some ⟨bb, bo, none⟩) bn bc) (hbn : ys.length = bn) (hpos : 1 ≤ bn ∧ bn ≤ 100) (hnew : Sl W (some ⟨bb, bo, none⟩) ys) (hown : OwnI W base v zs) (hl : zs.length ≤ 100000) (hbase : base ≤ W.heap.size)
    (h : ∀ g cap w', OwnI w' base (.slice (some ⟨g, 0, none⟩) (zs.length + bn) cap) (zs ++ ys) → W.grownBy w' v.ownBlock → (v.ownBlock = some g ∨ g = W.heap.size) → K (a.put o.dst (.slice (some ⟨g, 0, none⟩) (zs.length + bn) cap)) w') : if Region.wanted o (yielded ops a.tmps) = true then Oper.wp Tryz.prog o a W K Q else E := by
  obtain ⟨i0, hi, hz0, hz1, hz2⟩ := info_parts Tryz.infoInt
  refine step_append_lies W hgd s x 24 ho base 3 i0 (.int .i64 0) 1 8 Tryz.underlying24 hi hz0 hz1 hz2 rfl (by decide) v zs.length (zs.map (Value.int .i64)) hs hown ⟨bb, bo, none⟩ bn bc (ys.map (Value.int .i64)) hx (by simp [hbn]) ?_ ?_ (by omega) (by unfold maxLen; omega) (by omega) hbase W.heap.size rfl ?_
  · exact hnew.news
  · intro u hu; obtain ⟨y, _, rfl⟩ := List.mem_map.1 hu; rfl
  · intro g cap w' h1 h2 h3 _
    refine h g cap w' ?_ h2 h3
    show w'.ownsRow _ _ _ _ _ _
    rw [List.length_append, List.map_append, hbn]; exact h1
theorem grown_drew {V w' : World} {ob : Option Nat} (h : V.grownBy w' ob) : V.drew.grownBy w' ob := ⟨h.os, h.tape, h.output, h.size, h.block⟩
end Go.Proofs.YtfnomiingelfaaaGreat
/- The rows of a reduction laid, with more numbers behind them: the first loop of reduce. -/
namespace Go.Proofs.YtfnomiingelfaaaGreat
open Go.RowKit

set_option maxRecDepth 100000 in
set_option maxHeartbeats 4000000 in
theorem reduce_t2One {bh : Nat → List Int} {bn Cb : Nat} {base B T : Nat} {ma : Option Addr} {m : List (List Int)} {mc : Nat} {pxa : Option Addr} {px : List Int} {pxc : Nat} {w w0 : World} (HBH : Hid (BehF 128 (.pointer (some ⟨Cb, 0, none⟩)) bh bn m.length base w0)) (hbn : 1 ≤ bn ∧ bn ≤ 6) (HBV : Hid (∀ i, i < m.length → (bh i).length = bn ∧ ∀ x ∈ bh i, In64 x)) (hbB : base ≤ B) (hm : Hid (m.length ≤ 6)) (hpx : Hid (px.length ≤ 10)) (hin : Hid (∀ j ∈ px, 0 ≤ j ∧ j < colsM m)) (hrl : Hid (∀ r ∈ m, r.length = colsM m))
    (hms : Hid (∀ {W : World}, Below base w0 W → Ms W ma m)) (hps : Hid (∀ {W : World}, Below base w0 W → Sl W pxa px)) (hB : B < w.heap.size)
    (hbx : Hid (RB B (px.length : Int) (.slice none 0 0) w)) (hb0 : Hid (Below base w0 w)) (hm1 : Hid (1 ≤ m.length)) (h64 : Hid (All64 m)) (hT : T < base) (hTw : T < w0.heap.size) (hTx : Hid (∀ k, k < 4 → (∃ u, w0.cell? ⟨T, k, none⟩ = some u) ∧ w0.frozen? ⟨T, k, none⟩ = false)) (u3 u4 u5 u8 u9 u10 u11 u12 u13 u14 u15 u16 u17 u18 u19 u20 u21 u22 u23 u24 u25 u26 u27 u28 u29 u30 u31 u32 u33 u34 u35 u36 u37 u38 u39 u40 u41 u42 u43 u44 u45 u46 u47 u48 u49 u50 u51 u52 u53 u54 u55 u56 u57 u58 : Value) (R : Ending → World → Prop)
    (hR : Hid (∀ (g cap : Nat) (ads' : List (Nat × Nat)) (pa : Option Addr) (pc : Nat) (W : World), RdW base B g cap ads' (.slice pa (redB m px bh).piv.length pc) (redB m px bh) W → Below base w0 W → R (.returned (rdV g cap pa pc (redB m px bh))) (rdBox T g cap pa pc (redB m px bh) W))) :
    Code.wp Tryz.prog (seqTail 2 ((Tryz.f90.body).getD .skip)) (bodyPost Tryz.prog Tryz.f90 R) { tmps := #[.slice ma m.length mc, .slice pxa px.length pxc, .func (.func 128) #[] #[.pointer (some ⟨Cb, 0, none⟩)], u3, u4, u5, .pointer (some ⟨T, 0, none⟩), .pointer (some ⟨B, 0, none⟩), u8, u9, u10, u11, u12, u13, u14, u15, u16, u17, u18, u19, u20, u21, u22, u23, u24, u25, u26, u27, u28, u29, u30, u31, u32, u33, u34, u35, u36, u37, u38, u39, u40, u41, u42, u43, u44, u45, u46, u47, u48, u49, u50, u51, u52, u53, u54, u55, u56, u57, u58], defers := [] } w := by
  conv => arg 2; whnf
  refine wp_seq_k (fun K hK => ?_)
  have HK := Lib.hid hK; clear hK
  obtain ⟨i0, hi, hz0, hz1, hz2⟩ := info_parts Tryz.infoInt
  go_wp2
  go_loopw [19] (fun i wr => ∃ (k : Nat) (rv : Value) (ads : List (Nat × Nat)), k ≤ m.length ∧ i = .int .i64 k ∧ Hid (RS base rv ads ((pixB px m bh).take k) wr) ∧ Hid (RB B (px.length : Int) rv wr) ∧ Hid (rv.ownBlock ≠ some B ∧ ∀ (i : Nat) (x : Nat × Nat), ads[i]? = some x → x.1 ≠ B) ∧ Below base w0 wr ∧ B < wr.heap.size) (fun i _ => m.length - (intOf i).toNat)
  case atStart => exact ⟨0, _, [], Nat.zero_le _, rfl, ⟨rfl, World.ownsRow_nil _ _ _ _, fun i x r h => by simp at h, fun i j x y h => by simp at h, fun i x h => by simp at h⟩, hbx, ⟨by simp [Value.ownBlock], fun i x h => by simp at h⟩, hb0.out, hB⟩
  case round =>
    obtain ⟨k, rv, ads, hk, rfl, HRS, HBX, HNE, hbl, hBl⟩ := hrel
    have HBL := Lib.hid hbl; clear hbl
    by_cases hlt : k < m.length
    · obtain ⟨b1, o1, ai, r, ci, rfl, hcell, hsl, HR⟩ := (hms.out HBL.out).at hlt
      have HSL := Lib.hid hsl; clear hsl
      have hbw : base ≤ wr.heap.size := by omega
      go_wp2_with (with_reducible refine wpList_make_own _ rfl (.const (.int .i64 0)) (.const (.int .i64 20)) 24 rfl wr.heap.size 3 i0 (.int .i64 0) 1 Tryz.underlying24 hi hz0 hz1 .i64 .i64 20 20 rfl rfl rfl (by rw [hz2]; omega) (by unfold maxLen; omega) (Nat.le_refl _) ?_)
      rotate_left
      intro w4 hown hgrow
      have HO4 : Hid (OwnI w4 wr.heap.size (.slice (some ⟨wr.heap.size, 0, none⟩) 0 20) []) := hown
      have HB4 : Hid (Below wr.heap.size wr w4) := (Below.refl _ _).grown hgrow (Nat.le_refl _) (fun k e => by cases e)
      clear hown hgrow
      obtain ⟨G, hG⟩ : ∃ G, wr.heap.size = G := ⟨_, rfl⟩
      rw [hG] at HO4 HB4
      have HGB : Hid (∀ {W : World}, Below G wr W → Below wr.heap.size wr W) := fun h => by rw [hG]; exact h
      rw [hG]
      have HGS : Hid (∀ {W : World}, Below G wr W → G ≤ W.heap.size) := fun h => by have := h.size; omega
      have hGb : base ≤ G := by omega
      have HGE := Lib.hid hG
      clear hG
      have hpx10 : px.length ≤ 10 := hpx.out
      go_wp2
      obtain ⟨wo, hwo⟩ : ∃ wo, wo = wr := ⟨_, rfl⟩
      subst hwo
      go_loopw [10, 27] (fun v i wq => ∃ j : Nat, j ≤ px.length ∧ i = .int .i64 j ∧ OwnI wq G v ((pixR px r).take j) ∧ Below G wo wq ∧ ∃ b c, v = .slice (some ⟨b, 0, none⟩) j c) (fun _ i _ => px.length - (intOf i).toNat)
      case atStart => exact ⟨0, Nat.zero_le _, rfl, HO4.out, HB4.out, _, _, rfl⟩
      case round =>
        clear HO4 HB4
        obtain ⟨j, hj, rfl, hO, hB, nb, nc, hvv⟩ := hrel
        subst hvv
        have HO := Lib.hid hO; clear hO
        have HB := Lib.hid hB; clear hB
        have HBq : Hid (Below base w0 wr) := HBL.out.trans (HB.out.mono hGb)
        by_cases hlj : j < px.length
        · obtain ⟨pb, po, v, rfl, hcv, HV⟩ := (hps.out HBq.out).at hlj
          have hvr := hin.out v (List.mem_of_getElem? HV.out)
          have HRC : Hid (r.length = colsM m) := hrl.out r (List.mem_of_getElem? HR.out)
          obtain ⟨q, rfl⟩ := Int.eq_ofNat_of_zero_le hvr.1
          have hq : q < r.length := by have := HRC.out; omega
          obtain ⟨rb, ro, x, rfl, hcx, HX⟩ := (HSL.out.below (HGB.out HB.out)).at hq
          have HT : Hid ((pixR px r).take (j + 1) = (pixR px r).take j ++ [x]) := by show _ = _; rw [pixR_succ HV.out, Int.toNat_natCast, gt_some' HX.out]
          have HTL : Hid (((pixR px r).take j).length = j) := by show _ = _; rw [List.length_take, pixR_len]; omega
          obtain ⟨TT, hTT⟩ : ∃ TT, (pixR px r).take j = TT := ⟨_, rfl⟩
          rw [hTT] at HO HT HTL
          clear hvr hTT
          go_wp2_with (at_builtin; go_must (refine wpList_pushG0 rfl (.tmp 31) (.tmp 36) rfl G _ TT _ _ _ _ rfl rfl rfl HO.out (by rw [HTL.out]; omega) (HGS.out HB.out) ?_); intro g7 c7 w9 ho' _ hb' _)
          go_roundw
          case rel => exact ⟨j + 1, by omega, by go_num, by rw [HT.out]; exact ho', HB.out.trans hb', g7, c7, by rw [HTL.out]⟩
          case measure => simp [intOf]; omega
        · obtain rfl : j = px.length := by omega
          rw [List.take_of_length_le (by rw [pixR_len]; exact Nat.le_refl _)] at HO
          have HPXL : Hid (px.length = (pixR px r).length) := (pixR_len px r).symm
          rw [HPXL.out] at HO
          rw [show Value.slice (some ⟨nb, 0, none⟩) px.length nc = Value.slice (some ⟨nb, 0, none⟩) (pixR px r).length nc by rw [pixR_len]]
          have hBG : B < G := by have := HGE.out; omega
          have HCB : Hid (∀ {W : World}, Below G wo W → W.cell? ⟨B, 1, none⟩ = some rv ∧ W.frozen? ⟨B, 1, none⟩ = false ∧ RB B (px.length : Int) rv W ∧ RS base rv ads ((pixB px m bh).take k) W ∧ B < W.heap.size) := fun h => ⟨(h.cell (p := ⟨B, 1, none⟩) hBG).trans HBX.out.c1, (h.frozen (p := ⟨B, 1, none⟩) hBG).trans HBX.out.f1, HBX.out.kept (h.block B hBG), HRS.out.below (HGB.out h), Nat.lt_of_lt_of_le hBG (HGS.out h)⟩
          have HKK : Hid (((pixB px m bh).take k).length = k) := by show _ = _; rw [List.length_take, pixB_len]; omega
          obtain ⟨Mk, hMk⟩ : ∃ Mk, (pixB px m bh).take k = Mk := ⟨_, rfl⟩
          have HMT : Hid (Mk ++ [pixR px r ++ bh k] = (pixB px m bh).take (k + 1)) := by show _ = _; rw [← hMk]; exact pixB_succ px bh HR.out
          rw [hMk] at HCB HKK
          have HMK := Lib.hid hMk
          clear hMk
          have cB := (HCB.out HB.out).1
          have fB := (HCB.out HB.out).2.1
          have HBQ : Hid (Below base w0 wr) := HBL.out.trans (HB.out.mono hGb)
          have HBR := Lib.hid (HBV.out k hlt)
          have HCA : Hid (∀ W, Below base w0 W → Calls Tryz.prog 128 #[.int .i64 (k : Int), .pointer (some ⟨Cb, 0, none⟩)] W fun e w' => ∃ bb bo bc, e = .returned (.slice (some ⟨bb, bo, none⟩) bn bc) ∧ Sl w' (some ⟨bb, bo, none⟩) (bh k) ∧ Below W.heap.size W w') := fun W hW => HBH.out W k hW hlt
          go_wp2
          have hk6 : m.length ≤ 6 := hm.out
          have hMk : Mk.length ≤ 1000 := by rw [HKK.out]; omega
          have hp10 : (pixR px r).length ≤ 100000 := by rw [pixR_len]; omega
          have HLE : Hid ((pixR px r ++ bh k).length = (pixR px r).length + bn) := by show _ = _; rw [List.length_append, HBR.out.1]
          have HFAR : Hid (∀ g2, G ≤ g2 → (∀ (i : Nat) (x : Nat × Nat), ads[i]? = some x → x.1 ≠ g2) ∧ rv.ownBlock ≠ some g2 ∧ B < g2) := fun g2 hg2 => by
            have e1 := HGE.out
            refine ⟨fun i x e => ?_, fun e => ?_, by omega⟩
            · have := (HRS.out.out i x e).2.1; omega
            · have := (World.ownsRow.lt HRS.out.own g2 e).2; omega
          go_region_law (first | (go_simp; go_at_call 128; refine (HCA.out _ HBQ.out.drew).mono ?_; rintro e wz ⟨bb, bo, bc, rfl, hsz, hbz⟩; have HBZ : Hid (Below G wo wz) := HB.out.drew.trans (hbz.mono (HGS.out HB.out.drew)); have HSZ := Lib.hid hsz; have HOZ := Lib.hid (OwnI.below (OwnI.drew HO.out) hbz); have cz := (HCB.out HBZ.out).1; have fz := (HCB.out HBZ.out).2.1; clear hsz hbz) | (refine step_pushL rfl (.tmp 41) (.tmp 44) rfl G (.slice (some ⟨nb, 0, none⟩) (pixR px r).length nc) (pixR px r) (bh k) wz bb bo bn bc (by rfl) (by rfl) HBR.out.1 (by omega) HSZ.out HOZ.out hp10 (HGS.out HBZ.out) ?_; intro g2 cp2 w8 ho8 hg8 hat8; have HG2 : Hid (G ≤ g2) := (OwnI.lt ho8).2; have HB8 : Hid (Below G wo w8) := HBZ.out.grown hg8 (HGS.out HBZ.out) (fun k e => (World.ownsRow.lt HOZ.out k e).1); have HR8 : Hid (OwnI w8 base (.slice (some ⟨g2, 0, none⟩) (pixR px r ++ bh k).length cp2) (pixR px r ++ bh k)) := HLE.out.symm ▸ ho8.mono hGb; have c8 := (HCB.out HB8.out).1; have f8 := (HCB.out HB8.out).2.1; have ca8 : ∀ o, (w8.alloc o).cell? ⟨B, 1, none⟩ = some rv := fun o => (HCB.out (HB8.out.alloc (HGS.out HB8.out) o)).1; clear ho8 hg8 hat8) | (refine step_pushRow rfl (.tmp 40) (.tmp 46) rfl base rv ads Mk (pixR px r ++ bh k) g2 cp2 _ _ (by rfl) (by rfl) (by rw [HLE.out]; go_simp) ((HCB.out HB8.out).2.2.2.1.below ((Below.refl _ _).alloc (Nat.le_refl _) _)) (HR8.out.below ((Below.refl _ _).alloc (Nat.le_refl _) _)) (HFAR.out g2 HG2.out).1 (HFAR.out g2 HG2.out).2.1 hMk (by simp; have := HGS.out HB8.out; omega) ?_; intro G2 cp3 w9 ho9 hg9 hat9; have hk9 := (hg9.block B (by simp; have := (HCB.out HB8.out).2.2.2.2; omega) (fun e => HNE.out.1 e.symm)).trans (((Below.refl w8.heap.size w8).alloc (Nat.le_refl _) _).block B (HCB.out HB8.out).2.2.2.2); have c9 := (cell_of_block hk9 1).trans c8; have f9 := (frozen_of_block' hk9 1).trans f8; have HB9 := Lib.hid ((HCB.out HB8.out).2.2.1.kept hk9)))
          all_goals
            have hgd := grown_drew hg9
            have key := rs_pushed (HBL.out.trans (HB8.out.mono hGb)) hbB (HCB.out HB8.out).2.2.2.2 (HCB.out HB8.out).2.2.2.1 HNE.out (HFAR.out g2 HG2.out).2.2 ho9 hgd hat9 HB9.out
            have KEY := Lib.hid key
            clear key ho9 hg9 hat9 hk9 c9 f9 hgd ca8 c8 f8 cz fz cB fB
            go_wp2
            go_roundw
            case rel => exact ⟨k + 1, _, ads ++ [(g2, cp2)], hlt, by go_num, HMT.out ▸ KEY.out.1, KEY.out.2.1, KEY.out.2.2.1, KEY.out.2.2.2.1, KEY.out.2.2.2.2⟩
            case measure => simp [intOf]; omega
    · obtain rfl : k = m.length := by omega
      have HOK := Lib.hid (redBM_ok hm.out hpx.out hbn.2 h64.out HBV.out)
      have hRS := HRS.out
      rw [List.take_of_length_le (by rw [pixB_len]; exact Nat.le_refl _)] at hRS
      obtain ⟨g, cap, rfl, hgc, hW⟩ := hRS.reduction (by rw [pixB_len]; exact hm1.out) hbB HNE.out HBX.out
      have HWW : Hid (RdW base B g cap ads (.slice none 0 0) (redBM m px bh) wr) := hW
      have HGC := Lib.hid hgc
      clear hW hRS hgc
      go_wp2
      refine HK.out _ _ ?_
      refine reduce_t3 (N := px.length + bn) (r := redBM m px bh) hT hTw HOK.out.1 HOK.out.2 (Nat.le_add_right _ _) (by have := hpx.out; omega) HGC.out hTx HWW HBL _ _ _ _ _ _ _ _ _ _ _ _ _ _ _ _ _ _ _ _ _ _ _ _ _ _ _ _ _ _ _ _ _ _ _ _ _ _ _ _ _ _ _ _ _ _ _ _ _ _ _ _ _ _ _ _ R (hR.out g cap)
end Go.Proofs.YtfnomiingelfaaaGreat
/- reduce and reduceAll with more numbers behind the rows: contracts. -/
namespace Go.Proofs.YtfnomiingelfaaaGreat
open Go.RowKit

set_option maxRecDepth 100000 in
theorem reduce_any0One {bh : Nat → List Int} {bn Cb : Nat} {ma : Option Addr} {m : List (List Int)} {mc : Nat} {pxa : Option Addr} {px : List Int} {pxc : Nat} {w : World} (HBH : Hid (BehF 128 (.pointer (some ⟨Cb, 0, none⟩)) bh bn m.length w.heap.size w)) (hbn : 1 ≤ bn ∧ bn ≤ 6) (HBV : Hid (∀ i, i < m.length → (bh i).length = bn ∧ ∀ x ∈ bh i, In64 x)) (hm : Hid (m.length ≤ 6)) (hm1 : Hid (1 ≤ m.length)) (hpx : Hid (px.length ≤ 10)) (hin : Hid (∀ j ∈ px, 0 ≤ j ∧ j < colsM m)) (hrl : Hid (∀ r ∈ m, r.length = colsM m)) (h64 : Hid (All64 m))
    (hms : Hid (Ms w ma m)) (hps : Hid (Sl w pxa px)) :
    Calls Tryz.prog 90 #[.slice ma m.length mc, .slice pxa px.length pxc, .func (.func 128) #[] #[.pointer (some ⟨Cb, 0, none⟩)]] w (RdPost (redB m px bh) w) := by
  go_enter Tryz.func90, Tryz.ntmps90
  refine wp_seq_k (fun K hK => ?_)
  have HK := Lib.hid hK; clear hK
  go_wp2
  refine HK.out _ _ ?_
  clear HK
  refine wp_seq_k (fun K hK => ?_)
  have HK := Lib.hid hK; clear hK
  go_wp2
  refine HK.out _ _ ?_
  clear HK
  refine reduce_t2One (bh := bh) (bn := bn) (base := w.heap.size + 1) (T := w.heap.size) ?_ hbn HBV (Nat.le_refl _) hm hpx hin hrl ?_ ?_ ?_ ?_ (Below.refl _ _) hm1 h64 (Nat.lt_succ_self _) ?_ ?_ _ _ _ _ _ _ _ _ _ _ _ _ _ _ _ _ _ _ _ _ _ _ _ _ _ _ _ _ _ _ _ _ _ _ _ _ _ _ _ _ _ _ _ _ _ _ _ _ _ _ _ _ _ _ _ ?_
  · exact fun W k hb hk => HBH.out W k ((two_new w _ _).trans (hb.mono (Nat.le_succ _))) hk
  · exact fun hb => hms.out.below ((two_new w _ _).trans (hb.mono (Nat.le_succ _)))
  · exact fun hb => hps.out.below ((two_new w _ _).trans (hb.mono (Nat.le_succ _)))
  · rw [World.size_alloc, World.size_alloc]; omega
  · exact rb_new w _ _ _
  · rw [World.size_alloc, World.size_alloc]; omega
  · exact rt_new w _ _ _ _ _ _
  · exact fun g cap ads pa pc W h hb => rdPost_of (two_new w _ _) h hb
set_option maxRecDepth 100000 in
theorem reduceAll_anyOne {bh : Nat → List Int} {bn Cb : Nat} {ma : Option Addr} {m : List (List Int)} {mc : Nat} {w : World} (HBH : Hid (BehF 128 (.pointer (some ⟨Cb, 0, none⟩)) bh bn m.length w.heap.size w)) (hbn : 1 ≤ bn ∧ bn ≤ 6) (HBV : Hid (∀ i, i < m.length → (bh i).length = bn ∧ ∀ x ∈ bh i, In64 x)) (hm : Hid (m.length ≤ 6)) (hm1 : Hid (1 ≤ m.length)) (hc : Hid (1 ≤ colsM m ∧ colsM m ≤ 10)) (hrl : Hid (∀ r ∈ m, r.length = colsM m)) (h64 : Hid (All64 m)) (hms : Hid (Ms w ma m)) :
    Calls Tryz.prog 99 #[.slice ma m.length mc, .func (.func 128) #[] #[.pointer (some ⟨Cb, 0, none⟩)]] w (RdPost (redB m (upTo (colsM m)) bh) w) := by
  obtain ⟨n, hn⟩ : ∃ n, colsM m = n := ⟨_, rfl⟩
  have HN := Lib.hid hn
  rw [hn] at hc hrl
  clear hn
  go_enter Tryz.func99, Tryz.ntmps99
  have HB0 : Hid (∀ o, Below (w.heap.size + 1) (w.alloc o) (w.alloc o)) := fun o => Below.refl _ _
  have HBA : Hid (∀ o, Below w.heap.size w (w.alloc o)) := fun o => (Below.refl _ _).alloc (Nat.le_refl _) _
  have h0 : 0 < m.length := hm1.out
  obtain ⟨b1, o1, ai, r, ci, rfl, hcell, hsl, HR⟩ := hms.out.at h0
  have hcell' : ∀ o, (w.alloc o).cell? ⟨b1, o1, none⟩ = some (.slice ai r.length ci) := fun o => ((HBA.out o).cell (p := ⟨b1, o1, none⟩) (cell_lt hcell)).trans hcell
  have hrn : r.length = n := hrl.out r (List.mem_of_getElem? HR.out)
  rw [hrn] at hcell'
  clear hcell
  have hn10 := hc.out.2
  go_wp2
  go_loopw [5, 11] (fun v i wr => ∃ j : Nat, j ≤ n ∧ i = .int .i64 j ∧ OwnI wr (w.heap.size + 1) v (upTo j) ∧ Below (w.heap.size + 1) (w.alloc (.cells #[.int .i64 0, .slice none 0 0, .slice none 0 0, .int .i64 0] 113)) wr) (fun _ i _ => n - (intOf i).toNat)
  case atStart => exact ⟨0, Nat.zero_le _, rfl, OwnI.nil _ _, Below.refl _ _⟩
  case round =>
    obtain ⟨j, hj, rfl, hO, hB⟩ := hrel
    have HO := Lib.hid hO; clear hO
    have HB := Lib.hid hB; clear hB
    have hsz : (w.alloc (.cells #[.int .i64 0, .slice none 0 0, .slice none 0 0, .int .i64 0] 113)).heap.size = w.heap.size + 1 := World.size_alloc _ _
    have HSZ : Hid (w.heap.size + 1 ≤ wr.heap.size) := by have := HB.out.size; show _ ≤ _; omega
    clear hsz hcell'
    by_cases hlt : j < n
    · go_wp2_with (at_builtin; go_must (refine wpList_push rfl (.tmp 14) (.tmp 16) rfl (w.heap.size + 1) _ (upTo j) _ _ _ _ rfl rfl rfl HO.out (by rw [upTo_len]; omega) HSZ.out ?_); intro v' w9 ho' hb')
      go_roundw
      case rel => exact ⟨j + 1, by omega, by go_num, by rw [upTo_succ]; exact ho', HB.out.trans hb'⟩
      case measure => simp [intOf]; omega
    · obtain rfl : j = n := by omega
      have HBW : Hid (Below w.heap.size w wr) := (HBA.out _).trans (HB.out.mono (Nat.le_succ _))
      obtain ⟨pa, pc, rfl, hps⟩ := HO.out.any
      have HPS := Lib.hid hps; clear hps
      have HMS : Hid (Ms wr (some ⟨b1, o1, none⟩) m) := hms.out.below HBW.out
      have HT0 : Hid (wr.cell? ⟨w.heap.size, 0, none⟩ = some (.int .i64 0) ∧ wr.frozen? ⟨w.heap.size, 0, none⟩ = false) := ⟨(HB.out.cell (p := ⟨w.heap.size, 0, none⟩) (Nat.lt_succ_self _)).trans (alloc_cell w _ _ _ _ rfl), (HB.out.frozen (p := ⟨w.heap.size, 0, none⟩) (Nat.lt_succ_self _)).trans (by simp)⟩
      have HT1 : Hid (wr.cell? ⟨w.heap.size, 1, none⟩ = some (.slice none 0 0) ∧ wr.frozen? ⟨w.heap.size, 1, none⟩ = false) := ⟨(HB.out.cell (p := ⟨w.heap.size, 1, none⟩) (Nat.lt_succ_self _)).trans (alloc_cell w _ _ _ _ rfl), (HB.out.frozen (p := ⟨w.heap.size, 1, none⟩) (Nat.lt_succ_self _)).trans (by simp)⟩
      have HT2 : Hid (wr.cell? ⟨w.heap.size, 2, none⟩ = some (.slice none 0 0) ∧ wr.frozen? ⟨w.heap.size, 2, none⟩ = false) := ⟨(HB.out.cell (p := ⟨w.heap.size, 2, none⟩) (Nat.lt_succ_self _)).trans (alloc_cell w _ _ _ _ rfl), (HB.out.frozen (p := ⟨w.heap.size, 2, none⟩) (Nat.lt_succ_self _)).trans (by simp)⟩
      have HT3 : Hid (wr.cell? ⟨w.heap.size, 3, none⟩ = some (.int .i64 0) ∧ wr.frozen? ⟨w.heap.size, 3, none⟩ = false) := ⟨(HB.out.cell (p := ⟨w.heap.size, 3, none⟩) (Nat.lt_succ_self _)).trans (alloc_cell w _ _ _ _ rfl), (HB.out.frozen (p := ⟨w.heap.size, 3, none⟩) (Nat.lt_succ_self _)).trans (by simp)⟩
      have hlw : Hid (w.heap.size < wr.heap.size) := HSZ.out
      have HBC : Hid (BehF 128 (.pointer (some ⟨Cb, 0, none⟩)) bh bn m.length wr.heap.size wr) := fun W k hb hk => HBH.out W k (HBW.out.trans (hb.mono HBW.out.size)) hk
      have HPX : Hid (1 ≤ (upTo j).length ∧ (upTo j).length ≤ 10) := by rw [upTo_len]; exact hc.out
      have HIN : Hid (∀ q ∈ upTo j, 0 ≤ q ∧ q < colsM m) := fun q hq => by rw [HN.out]; exact upTo_in hq
      have HRL : Hid (∀ r ∈ m, r.length = colsM m) := fun r hr => by rw [HN.out]; exact hrl.out r hr
      go_wp2_with (go_at_call 90; refine (reduce_any0One HBC hbn HBV hm hm1 (Lib.hid HPX.out.2) HIN HRL h64 HMS HPS).mono ?_; rintro e w2 ⟨hb2, g, cap, ads, pa2, pc2, rfl, hgg, si, pi⟩; unfold rdV; have t0 := (hb2.cell (p := ⟨w.heap.size, 0, none⟩) hlw.out).trans HT0.out.1; have z0 := (hb2.frozen (p := ⟨w.heap.size, 0, none⟩) hlw.out).trans HT0.out.2; have t1 := (hb2.cell (p := ⟨w.heap.size, 1, none⟩) hlw.out).trans HT1.out.1; have z1 := (hb2.frozen (p := ⟨w.heap.size, 1, none⟩) hlw.out).trans HT1.out.2; have t2 := (hb2.cell (p := ⟨w.heap.size, 2, none⟩) hlw.out).trans HT2.out.1; have z2 := (hb2.frozen (p := ⟨w.heap.size, 2, none⟩) hlw.out).trans HT2.out.2; have t3 := (hb2.cell (p := ⟨w.heap.size, 3, none⟩) hlw.out).trans HT3.out.1; have z3 := (hb2.frozen (p := ⟨w.heap.size, 3, none⟩) hlw.out).trans HT3.out.2)
      refine bodyPost_ret_by (v := rdV g cap pa2 pc2 (redB m (upTo j) bh)) ?_ rfl (by rw [HN.out]; exact rdPost_box rfl hlw.out HBW.out hb2 hgg si pi)
      rw [results_cell_one' rfl]
      unfold rdV
      go_simp
end Go.Proofs.YtfnomiingelfaaaGreat
/- oneOf, and reduceAll with it: contracts. -/
namespace Go.Proofs.YtfnomiingelfaaaGreat
open Go.RowKit

def oneB (y : List Int) (i : Nat) : List Int := [gt y i]
theorem oneB_ok {y : List Int} {n : Nat} (h64 : ∀ x ∈ y, In64 x) : ∀ i, i < n → (oneB y i).length = 1 ∧ ∀ x ∈ oneB y i, In64 x := by
  intro i _
  refine ⟨rfl, fun x hx => ?_⟩
  rw [List.mem_singleton.1 hx]
  exact gt_in64 h64 i
theorem oneOf_any (ya : Option Addr) (n yc : Nat) (w : World) :
    Calls Tryz.prog 94 #[.slice ya n yc] w fun e w' => e = .returned (.func (.func 128) #[] #[.pointer (some ⟨w.heap.size, 0, none⟩)]) ∧ w' = w.alloc (.cells #[.slice ya n yc] 24) := by
  go_enter Tryz.func94, Tryz.ntmps94
  go_wp2
  go_ret
  exact ⟨rfl, rfl⟩
theorem oneOf1_any (Cb : Nat) (ya : Option Addr) (y : List Int) (yc k : Nat) (w : World) (hk : k < y.length) (_hl : y.length ≤ 1000) (hc : w.cell? ⟨Cb, 0, none⟩ = some (.slice ya y.length yc)) (hs : Sl w ya y) :
    Calls Tryz.prog 128 #[.int .i64 (k : Int), .pointer (some ⟨Cb, 0, none⟩)] w fun e w' => ∃ bb bo bc, e = .returned (.slice (some ⟨bb, bo, none⟩) 1 bc) ∧ Sl w' (some ⟨bb, bo, none⟩) (oneB y k) ∧ Below w.heap.size w w' := by
  obtain ⟨b, o, x, rfl, hcx, hx⟩ := hs.at hk
  have HG := Lib.hid (gt_some' hx.out)
  have hk0 : (k : Int) < (y.length : Int) := by omega
  go_enter Tryz.func128, Tryz.ntmps128
  go_wp2
  go_ret
  refine ⟨_, _, _, rfl, fun j hj => ?_, (Below.refl _ _).alloc (Nat.le_refl _) _⟩
  obtain rfl : j = 0 := by simp [oneB] at hj; omega
  refine ⟨w.heap.size, 0, rfl, ?_⟩
  rw [show (oneB y k)[0]?.getD 0 = x from HG.out]
  exact alloc_cell _ _ _ _ _ rfl
theorem one_beh {Cb : Nat} {ya : Option Addr} {y : List Int} {yc n : Nat} {w : World} (hn : n ≤ y.length) (hl : y.length ≤ 1000) (hc : w.cell? ⟨Cb, 0, none⟩ = some (.slice ya y.length yc)) (hs : Sl w ya y) :
    BehF 128 (.pointer (some ⟨Cb, 0, none⟩)) (oneB y) 1 n w.heap.size w := fun W k hb hk =>
  oneOf1_any Cb ya y yc k W (by omega) hl ((hb.cell (p := ⟨Cb, 0, none⟩) (cell_lt hc)).trans hc) (hs.below hb)
end Go.Proofs.YtfnomiingelfaaaGreat
/- The methods of a reduction that look behind its rows: contracts. -/
namespace Go.Proofs.YtfnomiingelfaaaGreat
open Go.RowKit

theorem sl_drop {w : World} {b : Nat} {xs : List Int} (h : Sl w (some ⟨b, 0, none⟩) xs) (c : Nat) : Sl w (some ⟨b, c, none⟩) (xs.drop c) := by
  intro k hk
  have hk2 : c + k < xs.length := by rw [List.length_drop] at hk; omega
  obtain ⟨b', o', e, hc⟩ := h (c + k) hk2
  cases e
  refine ⟨b, c, rfl, ?_⟩
  rw [Nat.zero_add] at hc
  rw [hc, List.getElem?_drop]
set_option maxRecDepth 1000000 in
set_option maxHeartbeats 1600000 in
theorem behind_any (cols g cap N : Nat) (ads : List (Nat × Nat)) (M : List (List Int)) (pa : Option Addr) (pn pc : Nat) (dv : Int) (row base : Nat) (w : World) (hrow : row < M.length) (hN : (rowL M row).length = N) (hc : cols < N) (hs : SI w base g ads M) :
    Calls Tryz.prog 130 #[RdV cols g M.length cap (.slice pa pn pc) dv, .int .i64 (row : Int)] w fun e w' => Below w.heap.size w w' ∧ ∃ b c, e = .returned (.slice (some b) (N - cols) c) ∧ Sl w' (some b) ((rowL M row).drop cols) := by
  have hx : M[row]? = some (rowL M row) := by unfold rowL; simp [hrow]
  obtain ⟨x, hxa⟩ : ∃ x, ads[row]? = some x := ⟨ads[row]'(by rw [hs.len]; exact hrow), by simp [hs.len, hrow]⟩
  obtain ⟨xb, xc⟩ := x
  obtain ⟨hh, hro⟩ := hs.row row (xb, xc) _ hxa hx
  dsimp only at hh hro
  have hcap := OwnI.cap_le hro
  rw [hN] at hh hcap
  have HSR := Lib.hid hro.sl
  have hgl : g < w.heap.size := cell_lt hh
  have hne : xc ≠ cols := by omega
  have hrow0 : (row : Int) < (M.length : Int) := by omega
  have HD : Hid (((rowL M row).drop cols).length = N - cols) := by show _ = _; rw [List.length_drop, hN]
  have HNN := Lib.hid hN
  obtain ⟨n, hn⟩ : ∃ n, M.length = n := ⟨_, rfl⟩
  rw [hn] at hrow0 hrow ⊢
  clear hs hx hxa hro hN hn
  unfold RdV
  have HB0 : Hid (∀ o, Below w.heap.size w (w.alloc o)) := fun o => (Below.refl _ _).alloc (Nat.le_refl _) o
  obtain ⟨V, hV⟩ : ∃ V, w.alloc (.cells #[.int .i64 (cols : Int), .slice (some ⟨g, 0, none⟩) n cap, .slice pa pn pc, .int .i64 dv] 113) = V := ⟨_, rfl⟩
  have HBV : Hid (Below w.heap.size w V) := by rw [← hV]; exact HB0.out _
  have c0 : V.cell? ⟨w.heap.size, 0, none⟩ = some (.int .i64 (cols : Int)) := by rw [← hV]; exact alloc_cell _ _ _ _ _ rfl
  have c1 : V.cell? ⟨w.heap.size, 1, none⟩ = some (.slice (some ⟨g, 0, none⟩) n cap) := by rw [← hV]; exact alloc_cell _ _ _ _ _ rfl
  have hh2 : V.cell? ⟨g, row, none⟩ = some (.slice (some ⟨xb, 0, none⟩) N xc) := (HBV.out.cell (p := ⟨g, row, none⟩) hgl).trans hh
  go_enter Tryz.func130, Tryz.ntmps130
  go_wp2
  clear hV
  go_region_held_law (fun w' => w'.cell? ⟨w.heap.size, 0, none⟩ = some (.int .i64 (cols : Int)) ∧ w'.cell? ⟨w.heap.size, 1, none⟩ = some (.slice (some ⟨g, 0, none⟩) n cap) ∧ w'.cell? ⟨g, row, none⟩ = some (.slice (some ⟨xb, 0, none⟩) N xc)) (first | exact ⟨by assumption, by assumption, by assumption⟩ | go_keep) (fail)
  go_wp2
  go_ret
  exact ⟨HBV.out.drew, _, _, rfl, (sl_drop HSR.out cols).below HBV.out.drew⟩
/-- Nothing stands behind the rows from k on. -/
def possB (M : List (List Int)) (k cols : Nat) : Bool := (List.range M.length).all fun x => decide (x < k) || allZ ((rowL M x).drop cols)
theorem possB_no {M : List (List Int)} {k cols x : Nat} (h1 : k ≤ x) (h2 : x < M.length) (h : allZ ((rowL M x).drop cols) = false) : possB M k cols = false := by
  unfold possB
  rw [List.all_eq_false]
  exact ⟨x, List.mem_range.2 h2, by simp [h]; omega⟩
theorem possB_yes {M : List (List Int)} {k cols : Nat} (h : ∀ x, k ≤ x → x < M.length → allZ ((rowL M x).drop cols) = true) : possB M k cols = true := by
  unfold possB
  rw [List.all_eq_true]
  intro x hx
  by_cases e : x < k
  · simp [e]
  · rw [h x (by omega) (List.mem_range.1 hx), Bool.or_true]
set_option maxRecDepth 1000000 in
set_option maxHeartbeats 1600000 in
theorem possible_any (cols g cap N : Nat) (ads : List (Nat × Nat)) (M : List (List Int)) (pa : Option Addr) (pn pc : Nat) (pz : List Int) (dv : Int) (base : Nat) (w : World) (hpn : pz.length = pn) (hpM : pn ≤ M.length) (hM : M.length ≤ 100) (hN : ∀ q ∈ M, q.length = N) (hc : cols < N) (hN1 : N ≤ 100) (hs : SI w base g ads M) :
    Calls Tryz.prog 95 #[RdV cols g M.length cap (.slice pa pn pc) dv] w fun e w' => e = .returned (.bool (possB M pn cols)) ∧ Below w.heap.size w w' := by
  have HS := Lib.hid hs; clear hs
  have HBE : Hid (∀ W k, Below w.heap.size w W → k < M.length → Calls Tryz.prog 130 #[.agg #[.int .i64 (cols : Int), .slice (some ⟨g, 0, none⟩) M.length cap, .slice pa pn pc, .int .i64 dv], .int .i64 (k : Int)] W fun e w' => Below W.heap.size W w' ∧ ∃ b c, e = .returned (.slice (some b) (N - cols) c) ∧ Sl w' (some b) ((rowL M k).drop cols)) := fun W k hb hk => behind_any cols g cap N ads M pa pn pc dv k base W hk (hN _ (rowL_mem hk)) hc (HS.out.below hb)
  have HCN : Hid (∀ (W : World) k b c, k < M.length → Sl W (some b) ((rowL M k).drop cols) → Calls Tryz.prog 129 #[.slice (some b) (N - cols) c, .func (.func 131) #[] #[]] W fun e w' => e = .returned (.bool (!allZ ((rowL M k).drop cols))) ∧ W = w') := fun W k b c hk h => by
    have hl : ((rowL M k).drop cols).length = N - cols := by rw [List.length_drop, hN _ (rowL_mem hk)]
    have h := containsNZ_any (some b) ((rowL M k).drop cols) c W (by rw [hl]; omega) h
    rw [hl] at h
    exact h
  have HRA : Hid (∀ W, Calls Tryz.prog 92 #[.agg #[.int .i64 (cols : Int), .slice (some ⟨g, 0, none⟩) M.length cap, .slice pa pn pc, .int .i64 dv]] W fun e w' => e = .returned (.int .i64 (pn : Int)) ∧ Below W.heap.size W w') := fun W => by
    have h := rank_any cols g M.length cap pa pz pc dv W
    unfold RdV at h
    rw [hpn] at h
    exact h
  obtain ⟨n, hn⟩ : ∃ n, M.length = n := ⟨_, rfl⟩
  have HNL := Lib.hid hn
  rw [hn] at hpM hM HBE HCN HRA ⊢
  clear hn hN hpn
  unfold RdV
  have HB0 : Hid (∀ o, Below w.heap.size w (w.alloc o)) := fun o => (Below.refl _ _).alloc (Nat.le_refl _) o
  obtain ⟨V, hV⟩ : ∃ V, w.alloc (.cells #[.int .i64 (cols : Int), .slice (some ⟨g, 0, none⟩) n cap, .slice pa pn pc, .int .i64 dv] 113) = V := ⟨_, rfl⟩
  have HBV : Hid (Below w.heap.size w V) := by rw [← hV]; exact HB0.out _
  have hsz : w.heap.size < V.heap.size := by rw [← hV, World.size_alloc]; omega
  have C0 : Hid (V.cell? ⟨w.heap.size, 0, none⟩ = some (.int .i64 (cols : Int))) := by rw [← hV]; exact alloc_cell _ _ _ _ _ rfl
  have C1 : Hid (V.cell? ⟨w.heap.size, 1, none⟩ = some (.slice (some ⟨g, 0, none⟩) n cap)) := by rw [← hV]; exact alloc_cell _ _ _ _ _ rfl
  have C2 : Hid (V.cell? ⟨w.heap.size, 2, none⟩ = some (.slice pa pn pc)) := by rw [← hV]; exact alloc_cell _ _ _ _ _ rfl
  have C3 : Hid (V.cell? ⟨w.heap.size, 3, none⟩ = some (.int .i64 dv)) := by rw [← hV]; exact alloc_cell _ _ _ _ _ rfl
  have c0 := C0.out
  have c1 := C1.out
  have c2 := C2.out
  have c3 := C3.out
  go_enter Tryz.func95, Tryz.ntmps95
  go_wp2_with (go_at_call 92; refine (HRA.out _).mono ?_; rintro e w1 ⟨rfl, hb1⟩)
  clear hV c0 c1 c2 c3
  go_loopw [3] (fun i wr => ∃ k : Nat, pn ≤ k ∧ k ≤ n ∧ i = .int .i64 k ∧ (∀ x, pn ≤ x → x < k → allZ ((rowL M x).drop cols) = true) ∧ Below V.heap.size V wr) (fun i _ => n - (intOf i).toNat)
  case atStart => exact ⟨pn, Nat.le_refl _, hpM, rfl, fun x h1 h2 => by omega, hb1⟩
  case round =>
    clear hb1
    obtain ⟨k, hk1, hk, rfl, hz, hb⟩ := hrel
    have HZ := Lib.hid hz; clear hz
    have HB := Lib.hid hb; clear hb
    have HBW : Hid (Below w.heap.size w wr) := HBV.out.trans (HB.out.mono HBV.out.size)
    have c0 := (HB.out.cell (p := ⟨w.heap.size, 0, none⟩) hsz).trans C0.out
    have c1 := (HB.out.cell (p := ⟨w.heap.size, 1, none⟩) hsz).trans C1.out
    have c2 := (HB.out.cell (p := ⟨w.heap.size, 2, none⟩) hsz).trans C2.out
    have c3 := (HB.out.cell (p := ⟨w.heap.size, 3, none⟩) hsz).trans C3.out
    by_cases hlt : k < n
    · have HB1 := Lib.hid (HBE.out wr k HBW.out hlt)
      obtain ⟨z, hzz⟩ : ∃ z, allZ ((rowL M k).drop cols) = z := ⟨_, rfl⟩
      have HC1 : Hid (∀ (W : World) b c, Sl W (some b) ((rowL M k).drop cols) → Calls Tryz.prog 129 #[.slice (some b) (N - cols) c, .func (.func 131) #[] #[]] W fun e w' => e = .returned (.bool (!z)) ∧ W = w') := fun W b c h => by rw [← hzz]; exact HCN.out W k b c hlt h
      have HZZ := Lib.hid hzz; clear hzz
      cases z with
      | true =>
        go_wp2_with (first | (go_at_call 130; refine HB1.out.mono ?_; rintro e w5 ⟨hb5, bb, bc, rfl, hs5⟩) | (go_at_call 129; refine (HC1.out w5 bb bc hs5).mono ?_; rintro e w6 ⟨rfl, rfl⟩))
        go_roundw
        case rel => exact ⟨k + 1, by omega, by omega, by go_num, fun x h1 h2 => by
          by_cases e : x = k
          · rw [e]; exact HZZ.out
          · exact HZ.out x h1 (by omega), HB.out.trans (hb5.mono HB.out.size)⟩
        case measure => simp [intOf]; omega
      | false =>
        have HP : Hid (possB M pn cols = false) := possB_no hk1 (by rw [HNL.out]; exact hlt) HZZ.out
        go_wp2_with (first | (go_at_call 130; refine HB1.out.mono ?_; rintro e w5 ⟨hb5, bb, bc, rfl, hs5⟩) | (go_at_call 129; refine (HC1.out w5 bb bc hs5).mono ?_; rintro e w6 ⟨rfl, rfl⟩))
        go_ret
        exact ⟨ret_bool HP.out.symm, HBW.out.trans (hb5.mono HBW.out.size)⟩
    · obtain rfl : n = k := by omega
      have HP : Hid (possB M pn cols = true) := possB_yes fun x h1 h2 => HZ.out x h1 (by rw [HNL.out] at h2; exact h2)
      go_wp2
      go_ret
      exact ⟨ret_bool HP.out.symm, HBW.out⟩
end Go.Proofs.YtfnomiingelfaaaGreat
/- Spark of layer 3: a contract. -/
namespace Go.Proofs.YtfnomiingelfaaaGreat
open Go.RowKit

/-- How many of the first k numbers are not 0. -/
def nzTo (xs : List Int) : Nat → Int
  | 0 => 0
  | k + 1 => if gt xs k = 0 then nzTo xs k else nzTo xs k + 1
theorem nzTo_in (xs : List Int) : ∀ k, 0 ≤ nzTo xs k ∧ nzTo xs k ≤ k
  | 0 => by simp [nzTo]
  | k + 1 => by have := nzTo_in xs k; unfold nzTo; split <;> omega
def sparkV (m : List (List Int)) : Int × Int := if (circuitV m).2 = 0 then (nzTo (circuitV m).1 (circuitV m).1.length, 0) else (0, (circuitV m).2)
theorem circH_len (m : List (List Int)) (px : List Int) : (circH m px).length = colsM m := putTo_len _ _ _ _
theorem circsAll_len {m : List (List Int)} {h : List Int} (hh : h ∈ circsAll m) : h.length = colsM m := by
  unfold circsAll circsTo at hh
  obtain ⟨f, _, h2⟩ := List.mem_flatMap.1 hh
  obtain ⟨px, _, rfl⟩ := List.mem_map.1 h2
  exact circH_len m px
theorem circuitV_len {m : List (List Int)} : (circuitV m).1.length ≤ 10 := by
  unfold circuitV
  split
  · rename_i hv
    split
    · exact Nat.zero_le _
    · rename_i h t e
      show h.length ≤ 10
      rw [circsAll_len (m := m) (by rw [e]; simp)]
      exact (validM_of hv).2.2.2.1
  · exact Nat.zero_le _
set_option maxRecDepth 100000 in
set_option maxHeartbeats 800000 in
theorem spark_any (a : Option Addr) (m : List (List Int)) (cap : Nat) (w : World) (hm : MOk m) (hs : Ms w a m) :
    Calls Tryz.prog 41 #[.slice a m.length cap] w fun e w' => e = .returned (.tuple #[.int .i64 (sparkV m).1, .int .i64 (sparkV m).2]) ∧ Below w.heap.size w w' := by
  have HCI : Hid (Calls Tryz.prog 71 #[.slice a m.length cap] w (LPost (circuitV m) w)) := circuit_any a m cap w hm hs
  have HL := Lib.hid (circuitV_len (m := m))
  have HSP : Hid (sparkV m = if (circuitV m).2 = 0 then (nzTo (circuitV m).1 (circuitV m).1.length, 0) else (0, (circuitV m).2)) := rfl
  clear hm hs
  obtain ⟨⟨h, e0⟩, hr⟩ : ∃ r, circuitV m = r := ⟨_, rfl⟩
  rw [hr] at HCI HL HSP
  dsimp only at HL HSP
  clear hr
  by_cases he : e0 = 0
  · subst he
    rw [if_pos rfl] at HSP
    rw [HSP.out]
    dsimp only
    clear HSP
    go_enter Tryz.func41, Tryz.ntmps41
    go_wp2_with (go_at_call 71; refine HCI.out.mono ?_; rintro e w1 ⟨hb1, ah, ch, rfl, hsl⟩; dsimp only at hsl ⊢; have HB := Lib.hid hb1; have HS := Lib.hid hsl; clear hb1 hsl)
    go_loopw [6, 19] (fun v i wr => ∃ k : Nat, k ≤ h.length ∧ i = .int .i64 k ∧ v = .int .i64 (nzTo h k) ∧ wr = w1) (fun _ i _ => h.length - (intOf i).toNat)
    case atStart => exact ⟨0, Nat.zero_le _, rfl, rfl, rfl⟩
    case round =>
      obtain ⟨k, hk, rfl, rfl, rfl⟩ := hrel
      have hl := HL.out
      by_cases hlt : k < h.length
      · obtain ⟨b, o, x, rfl, hc, hx⟩ := HS.out.at hlt
        have hgx := gt_some' hx.out
        have hin := nzTo_in h k
        by_cases h0 : x = 0
        · subst h0
          have HT : Hid (nzTo h (k + 1) = nzTo h k) := by show _ = _; rw [nzTo, if_pos hgx]
          clear hgx
          go_wp2
          go_roundw
          case rel => exact ⟨k + 1, by omega, by go_num, by rw [HT.out], by first | trivial | rfl⟩
          case measure => simp [intOf]; omega
        · have HT : Hid (nzTo h (k + 1) = nzTo h k + 1) := by show _ = _; rw [nzTo, if_neg (by rw [hgx]; exact h0)]
          clear hgx
          have hne : (x != 0) = true := by simpa using h0
          obtain ⟨n, hn⟩ : ∃ n, nzTo h k = n := ⟨_, rfl⟩
          rw [hn] at hin HT ⊢
          clear hn
          go_wp2
          go_roundw
          case rel => exact ⟨k + 1, by omega, by go_num, by rw [HT.out], by first | trivial | rfl⟩
          case measure => simp [intOf]; omega
      · obtain rfl : k = h.length := by omega
        go_wp2
        go_ret2
        exact ⟨rfl, HB.out⟩
  · rw [if_neg he] at HSP
    rw [HSP.out]
    dsimp only
    have hne : (e0 != 0) = true := by simpa using he
    clear HSP he
    go_enter Tryz.func41, Tryz.ntmps41
    go_wp2_with (go_at_call 71; refine HCI.out.mono ?_; rintro e w1 ⟨hb1, ah, ch, rfl, hsl⟩; dsimp only; have HB := Lib.hid hb1; clear hb1 hsl)
    go_ret2
    exact ⟨rfl, HB.out⟩
end Go.Proofs.YtfnomiingelfaaaGreat
/- SameLists of the answers of layer 1: a contract. -/
namespace Go.Proofs.YtfnomiingelfaaaGreat
open Go.RowKit

theorem lists_eq {m m' : List (List Int)} (hl : m.length = m'.length) (h : ∀ j, j < m.length → m[j]?.getD [] = m'[j]?.getD []) : m = m' := by
  refine List.ext_getElem hl (fun j h1 h2 => ?_)
  have := h j h1
  simpa [h1, h2] using this
end Go.Proofs.YtfnomiingelfaaaGreat
/- The sanity check of layer 3: the document's example. -/
namespace Go.Proofs.YtfnomiingelfaaaGreat
open Go.RowKit

def twoM : List (List Int) := [[1, 1, 0], [0, 1, 1]]
theorem two_valid : validM twoM = true := by decide
theorem two_kernel : kernelV twoM = ([[1, -1, 1]], 0) := by decide +kernel
theorem two_spark : sparkV twoM = (3, 0) := by decide +kernel
/-- Ints in a new block. -/
theorem sl_new (w : World) (xs : List Int) (t : TypeId) : Sl (w.alloc (.cells ((xs.map (Value.int .i64)).toArray) t)) (some ⟨w.heap.size, 0, none⟩) xs := by
  intro k hk
  refine ⟨w.heap.size, 0, rfl, ?_⟩
  rw [Nat.zero_add]
  refine alloc_cell _ _ _ _ _ ?_
  simp [hk]
/-- One list in a new slice of lists. -/
theorem ms_one (w : World) : Ms ((w.alloc (.cells #[.int .i64 1, .int .i64 (-1), .int .i64 1] 3)).alloc (.cells #[.slice (some ⟨w.heap.size, 0, none⟩) 3 3] 24)) (some ⟨w.heap.size + 1, 0, none⟩) [[1, -1, 1]] := by
  have e1 : (w.alloc (.cells #[.int .i64 1, .int .i64 (-1), .int .i64 1] 3)).heap.size = w.heap.size + 1 := World.size_alloc _ _
  have s1 : Sl (w.alloc (.cells #[.int .i64 1, .int .i64 (-1), .int .i64 1] 3)) (some ⟨w.heap.size, 0, none⟩) [1, -1, 1] := sl_new w [1, -1, 1] _
  intro i hi
  match i, hi with
  | 0, _ =>
    refine ⟨_, 0, _, 3, rfl, ?_, s1.below ((Below.refl _ _).alloc (Nat.le_refl _) _)⟩
    rw [← e1]; exact alloc_cell _ _ _ _ _ rfl
end Go.Proofs.YtfnomiingelfaaaGreat
/- Fractions in lowest terms, and the value behind a row: contracts. -/
namespace Go.Proofs.YtfnomiingelfaaaGreat
open Go.RowKit

/-- The common divisor of two numbers. -/
def gcd2 (n d : Int) : Int := ((Nat.gcd n.natAbs d.natAbs : Nat) : Int)
theorem gcdL_two (n d : Int) : ((gcdL [n, d] : Nat) : Int) = gcd2 n d := by
  unfold gcdL gcd2
  show ((Nat.gcd (Nat.gcd 0 n.natAbs) d.natAbs : Nat) : Int) = _
  rw [Nat.gcd_zero_left]
def ratV (n d : Int) : Value := .agg #[.int .i64 n, .int .i64 d]
set_option maxRecDepth 1000000 in
set_option maxHeartbeats 1600000 in
theorem lowest_any (n d : Int) (w : World) (hn : Mid n) (hd : Mid d) (h0 : 0 < d) :
    Calls Tryz.prog 132 #[.int .i64 n, .int .i64 d] w fun e w' => e = .returned (ratV (n.tdiv (gcd2 n d)) (d.tdiv (gcd2 n d))) ∧ Below w.heap.size w w' := by
  obtain ⟨G, hG⟩ : ∃ G, gcd2 n d = G := ⟨_, rfl⟩
  have hG1 : 0 < G := by
    rw [← hG]; unfold gcd2
    have := Nat.gcd_pos_of_pos_right n.natAbs (show 0 < d.natAbs by omega)
    omega
  have HDV : Hid (∀ W b cap, Sl W (some ⟨b, 0, none⟩) [n, d] → Calls Tryz.prog 150 #[.slice (some ⟨b, 0, none⟩) 2 cap] W fun e w' => e = .returned (.int .i64 G) ∧ ∃ nd, w' = W.drewN nd) := fun W b cap h => by
    have h := divisor_any (some ⟨b, 0, none⟩) [n, d] cap W (by simp) (fun x hx => by
      rcases List.mem_cons.1 hx with e | hx
      · rw [e]; exact hn
      · rw [List.mem_singleton.1 hx]; exact hd) h
    rw [gcdL_two, hG] at h
    exact h
  obtain ⟨a, ha⟩ : ∃ a, n.tdiv G = a := ⟨_, rfl⟩
  obtain ⟨c, hc⟩ : ∃ c, d.tdiv G = c := ⟨_, rfl⟩
  have ba : Mid a := by
    have h1 := Int.natAbs_tdiv_le_natAbs n G
    rw [ha] at h1
    unfold Mid at hn ⊢; omega
  have bc : Mid c := by
    have h1 := Int.natAbs_tdiv_le_natAbs d G
    rw [hc] at h1
    unfold Mid at hd ⊢; omega
  obtain ⟨a1, a2⟩ := ba
  obtain ⟨c1, c2⟩ := bc
  have g0 : ¬ G = 0 := by omega
  have g1 : (G == 0) = false := by simpa using g0
  have wa : IntKind.i64.wrap a = a := wrap_id (by omega) (by omega)
  have wc : IntKind.i64.wrap c = c := wrap_id (by omega) (by omega)
  rw [hG, ha, hc]
  clear hG
  go_enter Tryz.func132, Tryz.ntmps132
  go_wp2_with (go_at_call 150; refine (HDV.out _ _ _ ?_).mono ?_; rotate_left; rintro e w1 ⟨rfl, nd, rfl⟩)
  · go_region_law (fail)
    all_goals
      go_wp2
      refine bodyPost_ret_by (v := ratV a c) ?_ rfl ⟨rfl, ((below_drewN (((Below.refl _ _).alloc (Nat.le_refl _) _).alloc (by rw [World.size_alloc]; omega) _) _).setCell (p := ⟨w.heap.size, 0, none⟩) (Nat.le_refl _) _).setCell (p := ⟨w.heap.size, 1, none⟩) (Nat.le_refl _) _⟩
      rw [results_cell_one' rfl]
      unfold ratV
      go_simp
  · have e1 : (w.alloc (.cells #[.int .i64 0, .int .i64 0] 52)).heap.size = w.heap.size + 1 := World.size_alloc _ _
    rw [← e1]
    exact sl_new _ [n, d] _
set_option maxRecDepth 1000000 in
set_option maxHeartbeats 1600000 in
theorem value_any (cols g cap N : Nat) (ads : List (Nat × Nat)) (M : List (List Int)) (pa : Option Addr) (pn pc : Nat) (dv : Int) (row base : Nat) (w : World) (hrow : row < M.length) (hN : (rowL M row).length = N) (hc : cols < N) (hs : SI w base g ads M) (hm : Mid (gt (rowL M row) cols)) (hd : Mid dv) (h0 : 0 < dv) :
    Calls Tryz.prog 133 #[RdV cols g M.length cap (.slice pa pn pc) dv, .int .i64 (row : Int)] w fun e w' => e = .returned (ratV ((gt (rowL M row) cols).tdiv (gcd2 (gt (rowL M row) cols) dv)) (dv.tdiv (gcd2 (gt (rowL M row) cols) dv))) ∧ Below w.heap.size w w' := by
  have HS := Lib.hid hs; clear hs
  have HBE : Hid (∀ W, Below w.heap.size w W → Calls Tryz.prog 130 #[.agg #[.int .i64 (cols : Int), .slice (some ⟨g, 0, none⟩) M.length cap, .slice pa pn pc, .int .i64 dv], .int .i64 (row : Int)] W fun e w' => Below W.heap.size W w' ∧ ∃ b c, e = .returned (.slice (some b) (N - cols) c) ∧ Sl w' (some b) ((rowL M row).drop cols)) := fun W hb => behind_any cols g cap N ads M pa pn pc dv row base W hrow hN hc (HS.out.below hb)
  obtain ⟨z, hz⟩ : ∃ z, gt (rowL M row) cols = z := ⟨_, rfl⟩
  have HZ : Hid (((rowL M row).drop cols)[0]? = some z) := by
    show _ = _
    rw [List.getElem?_drop, Nat.add_zero, List.getElem?_eq_getElem (by omega), ← hz]
    unfold gt; simp [hN, hc]
  have HDL : Hid (((rowL M row).drop cols).length = N - cols) := by show _ = _; rw [List.length_drop, hN]
  rw [hz] at hm ⊢
  obtain ⟨R, hR⟩ : ∃ R, ratV (z.tdiv (gcd2 z dv)) (dv.tdiv (gcd2 z dv)) = R := ⟨_, rfl⟩
  obtain ⟨ra, rc, hrr⟩ : ∃ ra rc, R = .agg #[.int .i64 ra, .int .i64 rc] := ⟨_, _, hR.symm⟩
  have HLO : Hid (∀ W, Calls Tryz.prog 132 #[.int .i64 z, .int .i64 dv] W fun e w' => e = .returned (.agg #[.int .i64 ra, .int .i64 rc]) ∧ Below W.heap.size W w') := fun W => by rw [← hrr, ← hR]; exact lowest_any z dv W hm hd h0
  rw [hR, hrr]
  clear hz hR hrr hN
  have hd0 : 0 < N - cols := by omega
  have hd1 : (0 : Int) < ((N - cols : Nat) : Int) := by omega
  generalize N - cols = nd at *
  unfold RdV
  obtain ⟨n, hn⟩ : ∃ n, M.length = n := ⟨_, rfl⟩
  rw [hn] at HBE ⊢
  clear hn hrow
  obtain ⟨A, hA⟩ : ∃ A, w.alloc (.cells #[.int .i64 (cols : Int), .slice (some ⟨g, 0, none⟩) n cap, .slice pa pn pc, .int .i64 dv] 113) = A := ⟨_, rfl⟩
  have hAs : A.heap.size = w.heap.size + 1 := by rw [← hA, World.size_alloc]
  have a0 : A.cell? ⟨w.heap.size, 0, none⟩ = some (.int .i64 (cols : Int)) := by rw [← hA]; exact alloc_cell _ _ _ _ _ rfl
  have a1 : A.cell? ⟨w.heap.size, 1, none⟩ = some (.slice (some ⟨g, 0, none⟩) n cap) := by rw [← hA]; exact alloc_cell _ _ _ _ _ rfl
  have a2 : A.cell? ⟨w.heap.size, 2, none⟩ = some (.slice pa pn pc) := by rw [← hA]; exact alloc_cell _ _ _ _ _ rfl
  have a3 : A.cell? ⟨w.heap.size, 3, none⟩ = some (.int .i64 dv) := by rw [← hA]; exact alloc_cell _ _ _ _ _ rfl
  have HBA : Hid (Below w.heap.size w A) := by rw [← hA]; exact (Below.refl _ _).alloc (Nat.le_refl _) _
  obtain ⟨V, hV⟩ : ∃ V, A.alloc (.cells #[.int .i64 0, .int .i64 0] 52) = V := ⟨_, rfl⟩
  have HAV : Hid (Below A.heap.size A V) := by rw [← hV]; exact (Below.refl _ _).alloc (Nat.le_refl _) _
  have hVs : V.heap.size = w.heap.size + 1 + 1 := by rw [← hV, World.size_alloc, hAs]
  have HBV : Hid (Below w.heap.size w V) := HBA.out.trans (HAV.out.mono HBA.out.size)
  have hw1 : w.heap.size < A.heap.size := by omega
  have c0 : V.cell? ⟨w.heap.size, 0, none⟩ = some (.int .i64 (cols : Int)) := (HAV.out.cell (p := ⟨w.heap.size, 0, none⟩) hw1).trans a0
  have c1 : V.cell? ⟨w.heap.size, 1, none⟩ = some (.slice (some ⟨g, 0, none⟩) n cap) := (HAV.out.cell (p := ⟨w.heap.size, 1, none⟩) hw1).trans a1
  have c2 : V.cell? ⟨w.heap.size, 2, none⟩ = some (.slice pa pn pc) := (HAV.out.cell (p := ⟨w.heap.size, 2, none⟩) hw1).trans a2
  have c3 : V.cell? ⟨w.heap.size, 3, none⟩ = some (.int .i64 dv) := (HAV.out.cell (p := ⟨w.heap.size, 3, none⟩) hw1).trans a3
  have HT : Hid ((V.cell? ⟨w.heap.size + 1, 0, none⟩ = some (.int .i64 0) ∧ V.frozen? ⟨w.heap.size + 1, 0, none⟩ = false) ∧ V.cell? ⟨w.heap.size + 1, 1, none⟩ = some (.int .i64 0) ∧ V.frozen? ⟨w.heap.size + 1, 1, none⟩ = false) := by
    rw [← hV, ← hAs]
    exact ⟨⟨alloc_cell _ _ _ _ _ rfl, by simp⟩, alloc_cell _ _ _ _ _ rfl, by simp⟩
  have HVW : Hid (∀ W, Below V.heap.size V W → W.cell? ⟨w.heap.size, 0, none⟩ = some (.int .i64 (cols : Int)) ∧ W.cell? ⟨w.heap.size, 1, none⟩ = some (.slice (some ⟨g, 0, none⟩) n cap) ∧ W.cell? ⟨w.heap.size, 2, none⟩ = some (.slice pa pn pc) ∧ W.cell? ⟨w.heap.size, 3, none⟩ = some (.int .i64 dv) ∧ W.cell? ⟨w.heap.size + 1, 0, none⟩ = some (.int .i64 0) ∧ W.frozen? ⟨w.heap.size + 1, 0, none⟩ = false ∧ W.cell? ⟨w.heap.size + 1, 1, none⟩ = some (.int .i64 0) ∧ W.frozen? ⟨w.heap.size + 1, 1, none⟩ = false) := fun W h => by
    have l0 : w.heap.size < V.heap.size := by omega
    have l1 : w.heap.size + 1 < V.heap.size := by omega
    exact ⟨(h.cell (p := ⟨w.heap.size, 0, none⟩) l0).trans c0, (h.cell (p := ⟨w.heap.size, 1, none⟩) l0).trans c1, (h.cell (p := ⟨w.heap.size, 2, none⟩) l0).trans c2, (h.cell (p := ⟨w.heap.size, 3, none⟩) l0).trans c3, (h.cell (p := ⟨w.heap.size + 1, 0, none⟩) l1).trans HT.out.1.1, (h.frozen (p := ⟨w.heap.size + 1, 0, none⟩) l1).trans HT.out.1.2, (h.cell (p := ⟨w.heap.size + 1, 1, none⟩) l1).trans HT.out.2.1, (h.frozen (p := ⟨w.heap.size + 1, 1, none⟩) l1).trans HT.out.2.2⟩
  clear a0 a1 a2 a3
  go_enter Tryz.func133, Tryz.ntmps133
  go_wp2
  clear hA hV
  go_region_law (first | (go_simp; go_at_call 130; refine (HBE.out _ HBV.out.drew).mono ?_; rintro e w5 ⟨hb5, ⟨bb, bo, bp⟩, bc, rfl, hs5⟩; have HB5 : Hid (Below V.heap.size V w5) := (Below.refl V.heap.size V).drew.trans hb5; obtain ⟨k0, k1, k2, k3, _⟩ := HVW.out w5 HB5.out; obtain ⟨b', o', ee, hcz⟩ := hs5 0 (by rw [HDL.out]; omega); cases ee; rw [HZ.out, Nat.add_zero] at hcz; have hcy : w5.cell? ⟨bb, bo, none⟩ = some (.int .i64 z) := hcz; clear hb5 hs5 hcz) | (go_simp; go_at_call 132; refine (HLO.out _).mono ?_; rintro e w6 ⟨rfl, hb6⟩; have HB6 : Hid (Below V.heap.size V w6) := HB5.out.trans (hb6.mono HB5.out.size); obtain ⟨j0, j1, j2, j3, t0, z0, t1, z1⟩ := HVW.out w6 HB6.out; clear hb6))
  all_goals
    have HBE6 : Hid (Below w.heap.size w w6) := HBV.out.trans (HB6.out.mono HBV.out.size)
    go_wp2
    refine bodyPost_ret_by (v := .agg #[.int .i64 ra, .int .i64 rc]) ?_ rfl ⟨rfl, (HBE6.out.setCell (p := ⟨w.heap.size + 1, 0, none⟩) (Nat.le_succ _) _).setCell (p := ⟨w.heap.size + 1, 1, none⟩) (Nat.le_succ _) _⟩
    rw [results_cell_one' rfl]
    go_simp
end Go.Proofs.YtfnomiingelfaaaGreat
/- A slice of fractions of the call's own, stored in place. -/
namespace Go.Proofs.YtfnomiingelfaaaGreat
open Go.RowKit

theorem Tryz.infoRatio : (Tryz.prog.info? 52).map (fun i => (i.zero, i.size, i.bytes)) = some (some (.agg #[.int .i64 0, .int .i64 0]), 2, 16) := by kernel_rfl
def flatR : List (Int × Int) → List Value
  | [] => []
  | p :: ps => .int .i64 p.1 :: .int .i64 p.2 :: flatR ps
theorem flatR_len : ∀ ps, (flatR ps).length = ps.length * 2
  | [] => rfl
  | p :: ps => by simp only [flatR, List.length_cons, flatR_len ps]; omega
theorem flatR_at : ∀ (ps : List (Int × Int)) {j : Nat} {p : Int × Int}, ps[j]? = some p → (flatR ps)[j * 2]? = some (.int .i64 p.1) ∧ (flatR ps)[j * 2 + 1]? = some (.int .i64 p.2)
  | [], j, p, h => by simp at h
  | q :: ps, 0, p, h => by simp at h; subst h; exact ⟨rfl, rfl⟩
  | q :: ps, j + 1, p, h => by
    have h := flatR_at ps (j := j) (p := p) (by simpa using h)
    rw [show (j + 1) * 2 = j * 2 + 1 + 1 by omega]
    exact ⟨by simp only [flatR, List.getElem?_cons_succ]; exact h.1, by simp only [flatR, List.getElem?_cons_succ]; exact h.2⟩
theorem flatR_set : ∀ (ps : List (Int × Int)) (j : Nat) (a b : Int), ((flatR ps).set (j * 2) (.int .i64 a)).set (j * 2 + 1) (.int .i64 b) = flatR (ps.set j (a, b))
  | [], _, _, _ => by simp [flatR]
  | q :: ps, 0, a, b => rfl
  | q :: ps, j + 1, a, b => by
    have h := flatR_set ps j a b
    rw [show (j + 1) * 2 = j * 2 + 1 + 1 by omega]
    simp only [flatR, List.set_cons_succ]
    rw [h]
theorem flatR_zero : ∀ n, flatR (List.replicate n (0, 0)) = List.replicate (n * 2) (.int .i64 0)
  | 0 => rfl
  | n + 1 => by
    rw [List.replicate_succ, show (n + 1) * 2 = n * 2 + 1 + 1 by omega, List.replicate_succ, List.replicate_succ]
    simp only [flatR]
    rw [flatR_zero n]
theorem flatR_rep (n : Nat) : (madeCells #[Value.int .i64 0, .int .i64 0] (n * 2)).toList = flatR (List.replicate n (0, 0)) := by
  rw [flatR_zero]
  unfold madeCells
  have e : (fun x : Nat => (#[Value.int .i64 0, .int .i64 0] : Array Value)[x % (#[Value.int .i64 0, .int .i64 0] : Array Value).size]!) = fun _ => Value.int .i64 0 := by
    funext x
    have h : x % 2 = 0 ∨ x % 2 = 1 := by omega
    show (#[Value.int .i64 0, .int .i64 0] : Array Value)[x % 2]! = _
    rcases h with h | h <;> rw [h] <;> rfl
  rw [e, Array.toList_map, Array.toList_range]
  exact List.eq_replicate_iff.2 ⟨by simp, fun b hb => by obtain ⟨_, _, rfl⟩ := List.mem_map.1 hb; rfl⟩
/-- A slice of fractions of the call's own. -/
def OwnR (w : World) (base : Nat) (v : Value) (ps : List (Int × Int)) : Prop := w.ownsRow base 52 2 v ps.length (flatR ps)
theorem OwnR.below {w w' : World} {base : Nat} {v : Value} {ps : List (Int × Int)} (h : OwnR w base v ps) (hb : Below w.heap.size w w') : OwnR w' base v ps := row_below h hb
theorem OwnR.drew {w : World} {base : Nat} {v : Value} {ps : List (Int × Int)} (h : OwnR w base v ps) : OwnR w.drew base v ps := h
theorem OwnR.lt {w : World} {base g n cap : Nat} {ps : List (Int × Int)} (h : OwnR w base (.slice (some ⟨g, 0, none⟩) n cap) ps) : base ≤ g ∧ g < w.heap.size := World.ownsRow.lt h g rfl
theorem OwnR.cell {w : World} {base g cap : Nat} {ps : List (Int × Int)} (h : OwnR w base (.slice (some ⟨g, 0, none⟩) ps.length cap) ps) {j : Nat} {p : Int × Int} (hj : ps[j]? = some p) :
    (w.cell? ⟨g, j * 2, none⟩ = some (.int .i64 p.1) ∧ w.frozen? ⟨g, j * 2, none⟩ = false) ∧ w.cell? ⟨g, j * 2 + 1, none⟩ = some (.int .i64 p.2) ∧ w.frozen? ⟨g, j * 2 + 1, none⟩ = false := by
  have hl := (List.getElem?_eq_some_iff.1 hj).1
  obtain ⟨h1, h2⟩ := flatR_at ps hj
  exact ⟨⟨(World.ownsRow.cellAt h (j * 2) (by omega)).trans h1, World.ownsRow.frozenAt h _⟩, (World.ownsRow.cellAt h (j * 2 + 1) (by omega)).trans h2, World.ownsRow.frozenAt h _⟩
theorem OwnR.stored {w : World} {base g cap : Nat} {ps : List (Int × Int)} (h : OwnR w base (.slice (some ⟨g, 0, none⟩) ps.length cap) ps) (j : Nat) (a b : Int) :
    OwnR ((w.setCell ⟨g, j * 2, none⟩ (.int .i64 a)).setCell ⟨g, j * 2 + 1, none⟩ (.int .i64 b)) base (.slice (some ⟨g, 0, none⟩) ps.length cap) (ps.set j (a, b)) := by
  have h1 := (World.ownsRow.stored (World.ownsRow.stored h (j * 2) (.int .i64 a)).1 (j * 2 + 1) (.int .i64 b)).1
  rw [flatR_set] at h1
  show World.ownsRow _ _ _ _ _ _ _
  rw [List.length_set]
  exact h1
/-- Fractions read from memory. -/
def Rl (w : World) (a : Option Addr) (ps : List (Int × Int)) : Prop := ∀ j p, ps[j]? = some p → ∃ b, a = some ⟨b, 0, none⟩ ∧ w.cell? ⟨b, j * 2, none⟩ = some (.int .i64 p.1) ∧ w.cell? ⟨b, j * 2 + 1, none⟩ = some (.int .i64 p.2)
theorem Rl.below {w w' : World} {a : Option Addr} {ps : List (Int × Int)} (h : Rl w a ps) (hb : Below w.heap.size w w') : Rl w' a ps := fun j p hj => by
  obtain ⟨b, e, h1, h2⟩ := h j p hj
  exact ⟨b, e, (hb.cell (p := ⟨b, j * 2, none⟩) (cell_lt h1)).trans h1, (hb.cell (p := ⟨b, j * 2 + 1, none⟩) (cell_lt h2)).trans h2⟩
theorem OwnR.rl {w : World} {base g cap : Nat} {ps : List (Int × Int)} (h : OwnR w base (.slice (some ⟨g, 0, none⟩) ps.length cap) ps) : Rl w (some ⟨g, 0, none⟩) ps := fun j p hj => by
  obtain ⟨h1, h2⟩ := h.cell hj
  exact ⟨g, rfl, h1.1, h2.1⟩
end Go.Proofs.YtfnomiingelfaaaGreat
/- solved of the program's reduction: a contract. -/
namespace Go.Proofs.YtfnomiingelfaaaGreat
open Go.RowKit

/-- Numbers in lowest terms. -/
def lowR (n d : Int) : Int × Int := (n.tdiv (gcd2 n d), d.tdiv (gcd2 n d))
/-- The values of the first t pivots. -/
def solL (n : Nat) (M : List (List Int)) (pz : List Int) (dv : Int) : Nat → List (Int × Int)
  | 0 => List.replicate n (0, 1)
  | t + 1 => (solL n M pz dv t).set (gt pz t).toNat (lowR (gt (rowL M t) n) dv)
theorem solL_len (n : Nat) (M : List (List Int)) (pz : List Int) (dv : Int) : ∀ t, (solL n M pz dv t).length = n
  | 0 => by simp [solL]
  | t + 1 => by unfold solL; rw [List.length_set]; exact solL_len n M pz dv t
def zeroTo (n k : Nat) : List (Int × Int) := List.replicate k (0, 1) ++ List.replicate (n - k) (0, 0)
theorem zeroTo_len {n k : Nat} (h : k ≤ n) : (zeroTo n k).length = n := by simp [zeroTo]; omega
theorem zeroTo_at {n k : Nat} (h : k < n) : (zeroTo n k)[k]? = some (0, 0) := by
  unfold zeroTo
  rw [List.getElem?_append_right (by simp)]
  simp [List.getElem?_replicate]; omega
theorem zeroTo_set {n k : Nat} (h : k < n) : (zeroTo n k).set k (0, 1) = zeroTo n (k + 1) := by
  unfold zeroTo
  rw [List.set_append, if_neg (by simp), List.length_replicate, Nat.sub_self, show n - k = (n - (k + 1)) + 1 by omega, List.replicate_succ, List.set_cons_zero, List.replicate_succ', List.append_assoc]
  rfl
theorem low_zero : lowR 0 1 = (0, 1) := by decide
set_option maxRecDepth 1000000 in
set_option maxHeartbeats 3200000 in
theorem solved_any (cols g cap N : Nat) (ads : List (Nat × Nat)) (M : List (List Int)) (pa : Option Addr) (pz : List Int) (pc : Nat) (dv : Int) (base : Nat) (w : World) (hpM : pz.length ≤ M.length) (hM : M.length ≤ 100) (hN : ∀ q ∈ M, q.length = N) (hc : cols < N) (hN1 : N ≤ 100) (hs : SI w base g ads M) (hps : Sl w pa pz)
    (hp : ∀ t, t < pz.length → 0 ≤ gt pz t ∧ gt pz t < cols) (hm : ∀ t, t < pz.length → Mid (gt (rowL M t) cols)) (hd : Mid dv) (h0 : 0 < dv) :
    Calls Tryz.prog 96 #[RdV cols g M.length cap (.slice pa pz.length pc) dv] w fun e w' => ∃ b c, e = .returned (.slice (some ⟨b, 0, none⟩) cols c) ∧ OwnR w' w.heap.size (.slice (some ⟨b, 0, none⟩) cols c) (solL cols M pz dv pz.length) ∧ Below w.heap.size w w' := by
  have HS := Lib.hid hs; clear hs
  have HP := Lib.hid hp; clear hp
  have HPS := Lib.hid hps; clear hps
  obtain ⟨pn, hpn⟩ : ∃ pn, pz.length = pn := ⟨_, rfl⟩
  have HPN := Lib.hid hpn
  have HVA : Hid (∀ W k, Below w.heap.size w W → k < pn → Calls Tryz.prog 133 #[.agg #[.int .i64 (cols : Int), .slice (some ⟨g, 0, none⟩) M.length cap, .slice pa pn pc, .int .i64 dv], .int .i64 (k : Int)] W fun e w' => e = .returned (.agg #[.int .i64 (lowR (gt (rowL M k) cols) dv).1, .int .i64 (lowR (gt (rowL M k) cols) dv).2]) ∧ Below W.heap.size W w') := fun W k hb hk => value_any cols g cap N ads M pa pn pc dv k base W (by omega) (hN _ (rowL_mem (by omega))) hc (HS.out.below hb) (hm k (by omega)) hd h0
  have HLO : Hid (∀ W, Calls Tryz.prog 132 #[.int .i64 0, .int .i64 1] W fun e w' => e = .returned (.agg #[.int .i64 0, .int .i64 1]) ∧ Below W.heap.size W w') := fun W => lowest_any 0 1 W (by unfold Mid; decide) (by unfold Mid; decide) (by decide)
  obtain ⟨n, hn⟩ : ∃ n, M.length = n := ⟨_, rfl⟩
  rw [hpn] at hpM ⊢
  rw [hn] at hpM hM HVA ⊢
  clear hn hN hpn hm hd
  unfold RdV
  obtain ⟨i0, hi, hz0, hz1, hz2⟩ := info_parts Tryz.infoRatio
  obtain ⟨V, hV⟩ : ∃ V, w.alloc (.cells #[.int .i64 (cols : Int), .slice (some ⟨g, 0, none⟩) n cap, .slice pa pn pc, .int .i64 dv] 113) = V := ⟨_, rfl⟩
  have HBV : Hid (Below w.heap.size w V) := by rw [← hV]; exact (Below.refl _ _).alloc (Nat.le_refl _) _
  have hsz : w.heap.size < V.heap.size := by rw [← hV, World.size_alloc]; omega
  have c0 : V.cell? ⟨w.heap.size, 0, none⟩ = some (.int .i64 (cols : Int)) := by rw [← hV]; exact alloc_cell _ _ _ _ _ rfl
  have c1 : V.cell? ⟨w.heap.size, 1, none⟩ = some (.slice (some ⟨g, 0, none⟩) n cap) := by rw [← hV]; exact alloc_cell _ _ _ _ _ rfl
  have c2 : V.cell? ⟨w.heap.size, 2, none⟩ = some (.slice pa pn pc) := by rw [← hV]; exact alloc_cell _ _ _ _ _ rfl
  have c3 : V.cell? ⟨w.heap.size, 3, none⟩ = some (.int .i64 dv) := by rw [← hV]; exact alloc_cell _ _ _ _ _ rfl
  have HCV : Hid (∀ W, Below V.heap.size V W → W.cell? ⟨w.heap.size, 0, none⟩ = some (.int .i64 (cols : Int)) ∧ W.cell? ⟨w.heap.size, 1, none⟩ = some (.slice (some ⟨g, 0, none⟩) n cap) ∧ W.cell? ⟨w.heap.size, 2, none⟩ = some (.slice pa pn pc) ∧ W.cell? ⟨w.heap.size, 3, none⟩ = some (.int .i64 dv)) := fun W h => ⟨(h.cell (p := ⟨w.heap.size, 0, none⟩) hsz).trans c0, (h.cell (p := ⟨w.heap.size, 1, none⟩) hsz).trans c1, (h.cell (p := ⟨w.heap.size, 2, none⟩) hsz).trans c2, (h.cell (p := ⟨w.heap.size, 3, none⟩) hsz).trans c3⟩
  go_enter Tryz.func96, Tryz.ntmps96
  go_wp2_with (with_reducible refine wpList_make_full _ rfl (.tmp 8) (.tmp 8) 25 rfl V.heap.size 52 i0 (.agg #[.int .i64 0, .int .i64 0]) 2 Tryz.underlying25 hi hz0 hz1 .i64 .i64 (cols : Int) (cols : Int) cols rfl rfl rfl rfl (by rw [hz2]; omega) (by unfold maxLen; omega) (Nat.le_refl _) ?_)
  intro w4 hown hgrow
  have hb4 : Below V.heap.size V w4 := (Below.refl _ _).grown hgrow (Nat.le_refl _) (fun k e => by cases e)
  have HO4 : Hid (OwnR w4 V.heap.size (.slice (some ⟨V.heap.size, 0, none⟩) cols cols) (zeroTo cols 0)) := by
    show World.ownsRow _ _ _ _ _ _ _
    rw [zeroTo_len (Nat.zero_le _), show zeroTo cols 0 = List.replicate cols (0, 0) by simp [zeroTo], ← flatR_rep]
    exact hown
  have HB4 := Lib.hid hb4
  clear hown hgrow hb4 hV c0 c1 c2 c3
  go_wp2
  go_loopw [12] (fun i wr => ∃ k : Nat, k ≤ cols ∧ i = .int .i64 k ∧ OwnR wr V.heap.size (.slice (some ⟨V.heap.size, 0, none⟩) cols cols) (zeroTo cols k) ∧ Below V.heap.size V wr) (fun i _ => cols - (intOf i).toNat)
  case atStart => exact ⟨0, Nat.zero_le _, rfl, HO4.out, HB4.out⟩
  case round =>
    clear HO4 HB4
    obtain ⟨k, hk, rfl, hO, hB⟩ := hrel
    have HO := Lib.hid hO; clear hO
    have HB := Lib.hid hB; clear hB
    by_cases hlt : k < cols
    · have hk0 : (k : Int) < (cols : Int) := by omega
      have HZL : Hid ((zeroTo cols k).length = cols) := zeroTo_len hk
      go_wp2_with (go_at_call 132; refine (HLO.out _).mono ?_; rintro e w5 ⟨rfl, hb5⟩; have HO5 : Hid (OwnR w5 V.heap.size (.slice (some ⟨V.heap.size, 0, none⟩) (zeroTo cols k).length cols) (zeroTo cols k)) := HZL.out.symm ▸ HO.out.below hb5; obtain ⟨⟨cz, fz⟩, cy, fy⟩ := HO5.out.cell (zeroTo_at hlt); have HB5 : Hid (Below V.heap.size V w5) := HB.out.trans (hb5.mono HB.out.size); clear hb5)
      go_roundw
      case rel => exact ⟨k + 1, by omega, by go_num, by have h := HO5.out.stored k 0 1; rw [HZL.out, zeroTo_set hlt] at h; exact h, (HB5.out.setCell (p := ⟨V.heap.size, k * 2, none⟩) (Nat.le_refl _) _).setCell (p := ⟨V.heap.size, k * 2 + 1, none⟩) (Nat.le_refl _) _⟩
      case measure => simp [intOf]; omega
    · obtain rfl : cols = k := by omega
      have HS0 : Hid (OwnR wr V.heap.size (.slice (some ⟨V.heap.size, 0, none⟩) cols cols) (solL cols M pz dv 0)) := by
        have h := HO.out
        rw [show zeroTo cols cols = solL cols M pz dv 0 by simp [zeroTo, solL]] at h
        exact h
      have HB0 := HB
      obtain ⟨c0, c1, c2, c3⟩ := HCV.out wr HB.out
      clear HO HB
      go_wp2
      clear c0 c1 c2 c3
      go_loopw [23] (fun i wr => ∃ t : Nat, t ≤ pn ∧ i = .int .i64 t ∧ OwnR wr V.heap.size (.slice (some ⟨V.heap.size, 0, none⟩) cols cols) (solL cols M pz dv t) ∧ Below V.heap.size V wr) (fun i _ => pn - (intOf i).toNat)
      case atStart => exact ⟨0, Nat.zero_le _, rfl, HS0.out, HB0.out⟩
      case round =>
        clear HS0 HB0
        obtain ⟨t, ht, rfl, hO, hB⟩ := hrel
        have HO := Lib.hid hO; clear hO
        have HB := Lib.hid hB; clear hB
        have HBW : Hid (Below w.heap.size w wr) := HBV.out.trans (HB.out.mono HBV.out.size)
        by_cases hlt : t < pn
        · obtain ⟨pb, po, v, hpa, hcv, HV⟩ := (HPS.out.below HBW.out).at (k := t) (by rw [HPN.out]; exact hlt)
          subst hpa
          have hgv := gt_some' HV.out
          have hpr := HP.out t (by rw [HPN.out]; exact hlt)
          rw [hgv] at hpr
          obtain ⟨p, rfl⟩ := Int.eq_ofNat_of_zero_le hpr.1
          have hpc : p < cols := by omega
          have HSU : Hid (solL cols M pz dv (t + 1) = (solL cols M pz dv t).set p (lowR (gt (rowL M t) cols) dv)) := by show (solL cols M pz dv t).set (gt pz t).toNat _ = _; rw [hgv]; rfl
          have HSL : Hid ((solL cols M pz dv t).length = cols) := solL_len _ _ _ _ _
          obtain ⟨q, hq⟩ : ∃ q, (solL cols M pz dv t)[p]? = some q := ⟨(solL cols M pz dv t)[p]'(by rw [HSL.out]; exact hpc), by simp [HSL.out, hpc]⟩
          have HQ := Lib.hid hq
          obtain ⟨L, hL⟩ : ∃ L, lowR (gt (rowL M t) cols) dv = L := ⟨_, rfl⟩
          have HV1 := Lib.hid (HVA.out wr t HBW.out hlt)
          rw [hL] at HSU HV1
          obtain ⟨l1, l2⟩ := L
          dsimp only at HV1
          obtain ⟨c0, c1, c2, c3⟩ := HCV.out wr HB.out
          have hp0 : (p : Int) < (cols : Int) := by omega
          clear hL hq hgv hpr HV
          go_wp2_with (go_at_call 133; refine HV1.out.mono ?_; rintro e w5 ⟨rfl, hb5⟩; have HO5 : Hid (OwnR w5 V.heap.size (.slice (some ⟨V.heap.size, 0, none⟩) (solL cols M pz dv t).length cols) (solL cols M pz dv t)) := HSL.out.symm ▸ HO.out.below hb5; obtain ⟨⟨cz, fz⟩, cy, fy⟩ := HO5.out.cell HQ.out; have HB5 : Hid (Below V.heap.size V w5) := HB.out.trans (hb5.mono HB.out.size); clear hb5)
          go_roundw
          case rel => exact ⟨t + 1, by omega, by go_num, by have h := HO5.out.stored p l1 l2; rw [HSL.out, ← HSU.out] at h; exact h, (HB5.out.setCell (p := ⟨V.heap.size, p * 2, none⟩) (Nat.le_refl _) _).setCell (p := ⟨V.heap.size, p * 2 + 1, none⟩) (Nat.le_refl _) _⟩
          case measure => simp [intOf]; omega
        · obtain rfl : pn = t := by omega
          go_wp2
          go_ret
          refine ⟨_, _, rfl, ?_, HBW.out⟩
          obtain ⟨h0, h1 | ⟨g9, cap9, cur, e9, hg9, rest⟩⟩ := HO.out
          · exact ⟨h0, .inl h1⟩
          · exact ⟨h0, .inr ⟨g9, cap9, cur, e9, Nat.le_trans HBV.out.size hg9, rest⟩⟩
end Go.Proofs.YtfnomiingelfaaaGreat
/- columns of the answers: a contract. -/
namespace Go.Proofs.YtfnomiingelfaaaGreat
open Go.RowKit

theorem own_zero (w : World) (B : Nat) (hB : B ≤ w.heap.size) : OwnI (w.alloc (.cells #[] 3)) B (.slice (some ⟨w.heap.size, 0, none⟩) 0 0) [] := by
  refine ⟨by simp, .inr ⟨w.heap.size, 0, #[], rfl, hB, ?_, by simp, by unfold maxLen; omega, by simp, by simp⟩⟩
  show (w.heap.push (.cells #[] 3))[w.heap.size]? = _
  rw [Array.getElem?_push_size]
set_option maxRecDepth 1000000 in
set_option maxHeartbeats 1600000 in
theorem columns_any (ma : Option Addr) (m : List (List Int)) (mc : Nat) (pxa : Option Addr) (px : List Int) (pxc : Nat) (w : World) (hm : m.length ≤ 100) (hp : px.length ≤ 100) (hin : ∀ j ∈ px, 0 ≤ j ∧ j < colsM m) (hrl : ∀ r ∈ m, r.length = colsM m) (hms : Ms w ma m) (hps : Sl w pxa px) :
    Calls Tryz.prog 117 #[.slice ma m.length mc, .slice pxa px.length pxc] w fun e w' => ∃ rv ads, e = .returned rv ∧ RS w.heap.size rv ads (pixM px m) w' ∧ Below w.heap.size w w' := by
  have HMS := Lib.hid hms; clear hms
  have HPS := Lib.hid hps; clear hps
  have HIN := Lib.hid hin; clear hin
  have HRL := Lib.hid hrl; clear hrl
  have HPM : Hid ((pixM px m).length = m.length) := by show _ = _; simp [pixM]
  go_enter Tryz.func117, Tryz.ntmps117
  go_wp2
  go_loopw [5, 13] (fun v i wr => ∃ (k : Nat) (ads : List (Nat × Nat)), k ≤ m.length ∧ i = .int .i64 k ∧ RS w.heap.size v ads ((pixM px m).take k) wr ∧ Below w.heap.size w wr) (fun _ i _ => m.length - (intOf i).toNat)
  case atStart => exact ⟨0, [], Nat.zero_le _, rfl, ⟨rfl, World.ownsRow_nil _ _ _ _, fun i x r h => by simp at h, fun i j x y h => by simp at h, fun i x h => by simp at h⟩, Below.refl _ _⟩
  case round =>
    obtain ⟨k, ads, hk, rfl, hO, hB⟩ := hrel
    have HO := Lib.hid hO; clear hO
    have HB := Lib.hid hB; clear hB
    by_cases hlt : k < m.length
    · obtain ⟨b1, o1, ai, r, ci, rfl, hcell, hsl, HR⟩ := (HMS.out.below HB.out).at hlt
      have HSL := Lib.hid hsl; clear hsl
      have HRC : Hid (r.length = colsM m) := HRL.out r (List.mem_of_getElem? HR.out)
      have HT : Hid ((pixM px m).take (k + 1) = (pixM px m).take k ++ [pixR px r]) := by
        show _ = _
        have e := List.getElem?_eq_some_iff.1 HR.out
        rw [List.take_succ_eq_append_getElem (by rw [HPM.out]; exact hlt)]
        congr 1
        unfold pixM; simp [e.2]
      go_wp2
      obtain ⟨wk, hwk⟩ : ∃ wk, wk = wr := ⟨_, rfl⟩
      subst hwk
      have HE0 : Hid (OwnI (wk.alloc (.cells #[] 3)) wk.heap.size (.slice (some ⟨wk.heap.size, 0, none⟩) 0 0) []) := own_zero wk _ (Nat.le_refl _)
      have HB0 : Hid (Below wk.heap.size wk (wk.alloc (.cells #[] 3))) := (Below.refl _ _).alloc (Nat.le_refl _) _
      go_loopw [8, 20] (fun v i wq => ∃ j : Nat, j ≤ px.length ∧ i = .int .i64 j ∧ OwnI wq wk.heap.size v ((pixR px r).take j) ∧ Below wk.heap.size wk wq ∧ ∃ b c, v = .slice (some ⟨b, 0, none⟩) j c) (fun _ i _ => px.length - (intOf i).toNat)
      case atStart => exact ⟨0, Nat.zero_le _, rfl, HE0.out, HB0.out, _, _, rfl⟩
      case round =>
        clear HE0 HB0
        obtain ⟨j, hj, rfl, hO2, hB2, vb, vc, hvv⟩ := hrel
        have HO2 := Lib.hid hO2; clear hO2
        have HB2 := Lib.hid hB2; clear hB2
        subst hvv
        have HBq : Hid (Below w.heap.size w wr) := HB.out.trans (HB2.out.mono HB.out.size)
        by_cases hlj : j < px.length
        · obtain ⟨pb, po, v, rfl, hcv, HV⟩ := (HPS.out.below HBq.out).at hlj
          have hvr := HIN.out v (List.mem_of_getElem? HV.out)
          obtain ⟨q, rfl⟩ := Int.eq_ofNat_of_zero_le hvr.1
          have hq : q < r.length := by have := HRC.out; omega
          obtain ⟨rb, ro, x, rfl, hcx, HX⟩ := (HSL.out.below HB2.out).at hq
          have HT2 : Hid ((pixR px r).take (j + 1) = (pixR px r).take j ++ [x]) := by show _ = _; rw [pixR_succ HV.out, Int.toNat_natCast, gt_some' HX.out]
          have HTL : Hid (((pixR px r).take j).length = j) := by show _ = _; rw [List.length_take, pixR_len]; omega
          have hq0 : (q : Int) < (r.length : Int) := by omega
          obtain ⟨T, hT⟩ : ∃ T, (pixR px r).take j = T := ⟨_, rfl⟩
          rw [hT] at HO2 HT2 HTL
          clear hvr hT
          go_wp2_with (at_builtin; go_must (refine wpList_pushG rfl (.tmp 24) (.tmp 29) rfl wk.heap.size _ T x _ _ _ rfl rfl rfl HO2.out (by rw [HTL.out]; omega) HB2.out.size ?_); intro g cap w9 ho' _ hb' _)
          go_roundw
          case rel => exact ⟨j + 1, by omega, by go_num, by rw [HT2.out]; exact ho', HB2.out.trans hb', g, cap, by rw [HTL.out]⟩
          case measure => simp [intOf]; omega
        · obtain rfl : j = px.length := by omega
          have HT3 : Hid ((pixR px r).take px.length = pixR px r) := by show _ = _; rw [List.take_of_length_le]; rw [pixR_len]; exact Nat.le_refl _
          have HO3 : Hid (OwnI wr w.heap.size (.slice (some ⟨vb, 0, none⟩) (pixR px r).length vc) (pixR px r)) := by
            have h := HO2.out
            rw [HT3.out] at h
            show OwnI _ _ _ _
            rw [pixR_len]; exact h.mono HB.out.size
          have HGE : Hid (wk.heap.size ≤ vb) := (OwnI.lt HO2.out).2
          have HR3 : Hid (RS w.heap.size u5 ads ((pixM px m).take k) wr) := HO.out.below HB2.out
          have HFA : Hid ((∀ (i : Nat) (x : Nat × Nat), ads[i]? = some x → x.1 ≠ vb) ∧ u5.ownBlock ≠ some vb) := ⟨fun i x e h => by have h1 := (HO.out.out i x e).2.1; have h2 := HGE.out; omega, fun h => by have h1 := (World.ownsRow.lt HO.out.own _ h).2; have h2 := HGE.out; omega⟩
          obtain ⟨Mk, hMk⟩ : ∃ Mk, (pixM px m).take k = Mk := ⟨_, rfl⟩
          have HTL : Hid (((pixM px m).take k).length ≤ 100000) := by show _ ≤ _; rw [List.length_take, HPM.out]; omega
          rw [hMk] at HR3 HTL HT
          clear hMk
          go_wp2_with (at_builtin; go_must (refine wpList_pushRow rfl (.tmp 32) (.tmp 34) rfl w.heap.size _ ads Mk (pixR px r) px.length (pixR_len px r) vb vc _ _ _ rfl rfl rfl HR3.out HO3.out HFA.out.1 HFA.out.2 HTL.out HBq.out.size ?_); intro g2 cap2 w9 ho' hb')
          go_roundw
          case rel => exact ⟨k + 1, _, by omega, by go_num, by rw [HT.out]; exact ho', HBq.out.trans hb'⟩
          case measure => simp [intOf]; omega
    · obtain rfl : k = m.length := by omega
      have HE : Hid ((pixM px m).take m.length = pixM px m) := by show _ = _; rw [List.take_of_length_le]; rw [HPM.out]; exact Nat.le_refl _
      have HO4 : Hid (RS w.heap.size u5 ads (pixM px m) wr) := by have h := HO.out; rw [HE.out] at h; exact h
      go_wp2
      go_ret
      exact ⟨_, _, rfl, HO4.out, HB.out⟩
end Go.Proofs.YtfnomiingelfaaaGreat
/- ratio of the answers, and a row of one's own that grows in its place: contracts. -/
namespace Go.Proofs.YtfnomiingelfaaaGreat
open Go.RowKit

set_option maxRecDepth 1000000 in
set_option maxHeartbeats 1600000 in
theorem ratio_any (n d : Int) (w : World) (hn : Mid n) (hd : Mid d) (h0 : 0 < d) :
    Calls Tryz.prog 135 #[.int .i64 n, .int .i64 d] w fun e w' => e = .returned (.agg #[.int .i64 (lowR n d).1, .int .i64 (lowR n d).2]) ∧ Below w.heap.size w w' := by
  unfold lowR
  have HDV : Hid (∀ W, Calls Tryz.prog 115 #[.int .i64 n, .int .i64 d] W fun e w' => e = .returned (.int .i64 (gcd2 n d)) ∧ ∃ nd, w' = W.drewN nd) := fun W => rdivisor_any n d W hn hd
  obtain ⟨G, hG⟩ : ∃ G, gcd2 n d = G := ⟨_, rfl⟩
  have hG1 : 0 < G := by
    rw [← hG]; unfold gcd2
    have := Nat.gcd_pos_of_pos_right n.natAbs (show 0 < d.natAbs by omega)
    omega
  obtain ⟨a, ha⟩ : ∃ a, n.tdiv G = a := ⟨_, rfl⟩
  obtain ⟨c, hc⟩ : ∃ c, d.tdiv G = c := ⟨_, rfl⟩
  have ba : Mid a := by
    have h1 := Int.natAbs_tdiv_le_natAbs n G
    rw [ha] at h1
    unfold Mid at hn ⊢; omega
  have bc : Mid c := by
    have h1 := Int.natAbs_tdiv_le_natAbs d G
    rw [hc] at h1
    unfold Mid at hd ⊢; omega
  obtain ⟨a1, a2⟩ := ba
  obtain ⟨c1, c2⟩ := bc
  have g0 : ¬ G = 0 := by omega
  have g1 : (G == 0) = false := by simpa using g0
  have wa : IntKind.i64.wrap a = a := wrap_id (by omega) (by omega)
  have wc : IntKind.i64.wrap c = c := wrap_id (by omega) (by omega)
  rw [hG] at HDV
  dsimp only
  rw [hG, ha, hc]
  clear hG
  go_enter Tryz.func135, Tryz.ntmps135
  go_wp2_with (go_at_call 115; refine (HDV.out _).mono ?_; rintro e w1 ⟨rfl, nd, rfl⟩)
  go_region_law (fail)
  all_goals
    go_wp2
    refine bodyPost_ret_by (v := .agg #[.int .i64 a, .int .i64 c]) ?_ rfl ⟨rfl, ((below_drewN ((Below.refl _ _).alloc (Nat.le_refl _) _) _).setCell (p := ⟨w.heap.size, 0, none⟩) (Nat.le_refl _) _).setCell (p := ⟨w.heap.size, 1, none⟩) (Nat.le_refl _) _⟩
    rw [results_cell_one' rfl]
    go_simp
theorem hdrs_set {ads : List (Nat × Nat)} {M : List (List Int)} {i : Nat} {x : Nat × Nat} {r : List Int} (hl : ads.length = M.length) (hi : i < M.length) : hdrs (ads.set i x) (M.set i r) = (hdrs ads M).set i (.slice (some ⟨x.1, 0, none⟩) r.length x.2) := by
  apply List.ext_getElem?
  intro j
  by_cases e : j = i
  · subst e
    rw [hdrs_at (List.getElem?_set_self (by omega)) (List.getElem?_set_self hi), List.getElem?_set_self (by unfold hdrs; simp; omega)]
  · rw [List.getElem?_set_ne (Ne.symm e)]
    unfold hdrs
    rw [List.getElem?_zipWith, List.getElem?_zipWith, List.getElem?_set_ne (Ne.symm e), List.getElem?_set_ne (Ne.symm e)]
theorem RS.shape {base : Nat} {rv : Value} {ads : List (Nat × Nat)} {M : List (List Int)} {w : World} (h : RS base rv ads M w) (h1 : 1 ≤ M.length) : ∃ g cap, rv = .slice (some ⟨g, 0, none⟩) M.length cap ∧ base ≤ g ∧ g < w.heap.size := by
  obtain ⟨_, ⟨e, h0⟩ | ⟨g, cap, cur, e, hg, hb, _⟩⟩ := h.own
  · omega
  · exact ⟨g, cap, e, hg, (Array.getElem?_eq_some_iff.1 hb).1⟩
theorem RS.at {base g cap : Nat} {ads : List (Nat × Nat)} {M : List (List Int)} {w : World} (h : RS base (.slice (some ⟨g, 0, none⟩) M.length cap) ads M w) {i : Nat} (hi : i < M.length) :
    ∃ xb xc, ads[i]? = some (xb, xc) ∧ w.cell? ⟨g, i, none⟩ = some (.slice (some ⟨xb, 0, none⟩) (rowL M i).length xc) ∧ w.frozen? ⟨g, i, none⟩ = false ∧ OwnI w base (.slice (some ⟨xb, 0, none⟩) (rowL M i).length xc) (rowL M i) := by
  have e1 : ads[i]? = some (ads[i]'(by rw [h.len]; exact hi)) := by simp [h.len, hi]
  have e2 : M[i]? = some (rowL M i) := by unfold rowL; simp [hi]
  have hc := World.ownsRow.cellAt h.own i (by omega)
  rw [hdrs_at e1 e2] at hc
  exact ⟨_, _, e1, hc, World.ownsRow.frozenAt h.own i, h.row i _ _ e1 e2⟩
theorem RS.grow {base g cap xb xc g2 cp2 i : Nat} {ads : List (Nat × Nat)} {M : List (List Int)} {V w9 : World} {o : Obj} {row' : List Int} (h : RS base (.slice (some ⟨g, 0, none⟩) M.length cap) ads M V) (hi : i < M.length) (hx : ads[i]? = some (xb, xc))
    (ho : OwnI w9 base (.slice (some ⟨g2, 0, none⟩) row'.length cp2) row') (hg : (V.alloc o).grownBy w9 (some xb)) (hat : xb = g2 ∨ V.heap.size ≤ g2) :
    RS base (.slice (some ⟨g, 0, none⟩) M.length cap) (ads.set i (g2, cp2)) (M.set i row') (w9.setCell ⟨g, i, none⟩ (.slice (some ⟨g2, 0, none⟩) row'.length cp2)) := by
  have hb1 : Below V.heap.size V (V.alloc o) := (Below.refl _ _).alloc (Nat.le_refl _) _
  have hsa : (V.alloc o).heap.size = V.heap.size + 1 := World.size_alloc _ _
  have keep : ∀ b, b < V.heap.size → b ≠ xb → w9.heap[b]? = V.heap[b]? := fun b hb hn => (hg.block b (by omega) (fun e => hn (by simpa using e))).trans (hb1.block b hb)
  have hgl : g < V.heap.size := (World.ownsRow.lt h.own g rfl).2
  have hgx : g ≠ xb := fun e => (h.out i _ hx).2.2 (by rw [← e]; rfl)
  have hg2 : g2 ≠ g := by
    rcases hat with e | e
    · rw [← e]; exact Ne.symm hgx
    · omega
  have hset : ∀ b, b ≠ g → (w9.setCell ⟨g, i, none⟩ (.slice (some ⟨g2, 0, none⟩) row'.length cp2)).heap[b]? = w9.heap[b]? := fun b hb => Below.heap_setCell w9 _ _ b hb
  have hli : i < ads.length := by rw [h.len]; exact hi
  refine ⟨by rw [List.length_set, List.length_set]; exact h.len, ?_, ?_, ?_, ?_⟩
  · rw [List.length_set, hdrs_set h.len hi]
    have h1 : w9.ownsRow base 24 1 (.slice (some ⟨g, 0, none⟩) M.length cap) M.length (hdrs ads M) := row_same h.own fun b e => by
      have e : b = g := by simpa [Value.ownBlock] using e.symm
      rw [e]; exact keep g hgl hgx
    exact (World.ownsRow.stored h1 i _).1
  · intro j x r e1 e2
    by_cases e : j = i
    · subst e
      rw [List.getElem?_set_self hli] at e1
      rw [List.getElem?_set_self hi] at e2
      cases e1; cases e2
      exact ho.sameBlock (hset g2 hg2)
    · rw [List.getElem?_set_ne (Ne.symm e)] at e1 e2
      obtain ⟨_, a2, a3⟩ := h.out j x e1
      exact (h.row j x r e1 e2).sameBlock ((hset x.1 (fun e3 => a3 (by rw [e3]; rfl))).trans (keep x.1 a2 (h.apart j i x _ e1 hx e)))
  · intro j k x y e1 e2 hjk
    by_cases e : j = i
    · subst e
      rw [List.getElem?_set_self hli] at e1
      rw [List.getElem?_set_ne hjk] at e2
      cases e1
      have a := h.apart j k _ y hx e2 hjk
      rcases hat with e3 | e3
      · rw [← e3]; exact a
      · have := (h.out k y e2).2.1; show g2 ≠ y.1; omega
    · rw [List.getElem?_set_ne (Ne.symm e)] at e1
      by_cases e3 : k = i
      · subst e3
        rw [List.getElem?_set_self hli] at e2
        cases e2
        have a := h.apart j k x _ e1 hx hjk
        rcases hat with e4 | e4
        · rw [← e4]; exact a
        · have := (h.out j x e1).2.1; show x.1 ≠ g2; omega
      · rw [List.getElem?_set_ne (Ne.symm e3)] at e2
        exact h.apart j k x y e1 e2 hjk
  · intro j x e1
    rw [World.size_setCell]
    have hsz := hg.size
    by_cases e : j = i
    · subst e
      rw [List.getElem?_set_self hli] at e1
      cases e1
      have := OwnI.lt ho
      exact ⟨this.2, this.1, fun e3 => hg2 (by simpa [Value.ownBlock] using e3.symm)⟩
    · rw [List.getElem?_set_ne (Ne.symm e)] at e1
      obtain ⟨a1, a2, a3⟩ := h.out j x e1
      exact ⟨a1, by omega, a3⟩
end Go.Proofs.YtfnomiingelfaaaGreat
/- solved of the answers: a contract. -/
namespace Go.Proofs.YtfnomiingelfaaaGreat
open Go.RowKit

/-- The first k rows with a number behind them. -/
def apTo (px : List Int) (m : List (List Int)) (y : List Int) (k : Nat) : List (List Int) := (pixB px m (oneB y)).take k ++ (pixM px m).drop k
theorem pixM_len (px : List Int) (m : List (List Int)) : (pixM px m).length = m.length := by simp [pixM]
theorem apTo_len (px : List Int) (m : List (List Int)) (y : List Int) (k : Nat) : (apTo px m y k).length = m.length := by unfold apTo; rw [List.length_append, List.length_take, List.length_drop, pixB_len, pixM_len]; omega
theorem apTo_row {px : List Int} {m : List (List Int)} {y : List Int} {k : Nat} (hk : k < m.length) : rowL (apTo px m y k) k = pixR px (rowL m k) := by
  unfold apTo
  show ((_ ++ _)[k]?).getD [] = _
  rw [List.getElem?_append_right (by rw [List.length_take, pixB_len]; omega), List.length_take, pixB_len, Nat.min_eq_left (Nat.le_of_lt hk), Nat.sub_self, List.getElem?_drop, Nat.add_zero]
  exact rowL_pixM hk
theorem apTo_set {px : List Int} {m : List (List Int)} {y : List Int} {k : Nat} (hk : k < m.length) : (apTo px m y k).set k (pixR px (rowL m k) ++ [gt y k]) = apTo px m y (k + 1) := by
  have hr : m[k]? = some (rowL m k) := by unfold rowL; simp [hk]
  have hl : ((pixB px m (oneB y)).take k).length = k := by rw [List.length_take, pixB_len]; omega
  unfold apTo
  rw [← pixB_succ px (oneB y) hr, List.set_append, if_neg (by omega), hl, Nat.sub_self, List.drop_eq_getElem_cons (by rw [pixM_len]; exact hk), List.set_cons_zero, List.append_assoc]
  rfl
theorem apTo_zero (px : List Int) (m : List (List Int)) (y : List Int) : apTo px m y 0 = pixM px m := by simp [apTo]
theorem apTo_all (px : List Int) (m : List (List Int)) (y : List Int) : apTo px m y m.length = pixB px m (oneB y) := by
  unfold apTo
  rw [List.drop_eq_nil_of_le (by rw [pixM_len]; exact Nat.le_refl _), List.append_nil, List.take_of_length_le (by rw [pixB_len]; exact Nat.le_refl _)]
/-- The values of the first t pivots by the answers' reduction. -/
def solRT (s : Rs) (n : Nat) : Nat → List (Int × Int)
  | 0 => List.replicate n (0, 1)
  | t + 1 => (solRT s n t).set (gt s.piv t).toNat (lowR (gt (rowL s.done t) n) (gt (rowL s.done t) (gt s.piv t).toNat))
theorem solRT_len (s : Rs) (n : Nat) : ∀ t, (solRT s n t).length = n
  | 0 => by simp [solRT]
  | t + 1 => by unfold solRT; rw [List.length_set]; exact solRT_len s n t
/-- What the answers' solved needs of its reduction. -/
structure SF (n : Nat) (s : Rs) : Prop where
  dl : s.done.length = s.piv.length
  rl : ∀ t, t < s.piv.length → (rowL s.done t).length = n + 1
  pk : ∀ t, t < s.piv.length → ∃ p : Nat, gt s.piv t = (p : Int) ∧ p ≤ n
  pv : ∀ t, t < s.piv.length → ∀ p : Nat, gt s.piv t = (p : Int) → 1 ≤ gt (rowL s.done t) p
  bd : ∀ t, t < s.piv.length → ∀ c, c < n + 1 → Mid (gt (rowL s.done t) c)
  kl : s.piv.length ≤ 6
theorem grown_undrew {V w' : World} {ob : Option Nat} (h : V.drew.grownBy w' ob) : V.grownBy w' ob := ⟨h.os, h.tape, h.output, h.size, h.block⟩
set_option maxRecDepth 1000000 in
set_option maxHeartbeats 4000000 in
theorem rsolved_any (ma : Option Addr) (m : List (List Int)) (mc : Nat) (pxa : Option Addr) (px : List Int) (pxc : Nat) (ya : Option Addr) (y : List Int) (yc : Nat) (w : World) (s : Rs) (hm1 : 1 ≤ m.length) (hm6 : m.length ≤ 6) (hp : px.length ≤ 10) (hin : ∀ j ∈ px, 0 ≤ j ∧ j < colsM m) (hrl : ∀ r ∈ m, r.length = colsM m) (hy : y.length = m.length)
    (hms : Ms w ma m) (hps : Sl w pxa px) (hys : Sl w ya y) (hs0 : redR (pixB px m (oneB y)) (px.length + 1) = s) (hpre1 : ∀ q ∈ pixB px m (oneB y), ∀ x ∈ q, Mid x) (hpre2 : ∀ D, D < px.length + 1 → ∀ q, (q ∈ (redR (pixB px m (oneB y)) D).left ∨ q ∈ (redR (pixB px m (oneB y)) D).done) → Small7 (px.length + 1) q) (hsf : SF px.length s) :
    Calls Tryz.prog 98 #[.slice ma m.length mc, .slice pxa px.length pxc, .slice ya y.length yc] w fun e w' => Below w.heap.size w w' ∧ if (px.length : Int) ∈ s.piv then e = .returned (.tuple #[.slice none 0 0, .int .i64 0, .bool false]) else
      ∃ b c, e = .returned (.tuple #[.slice (some ⟨b, 0, none⟩) px.length c, .int .i64 ((px.length : Int) - (s.piv.length : Int)), .bool true]) ∧ OwnR w' w.heap.size (.slice (some ⟨b, 0, none⟩) px.length c) (solRT s px.length s.piv.length) := by
  have HMS := Lib.hid hms
  have HPS := Lib.hid hps
  have HYS := Lib.hid hys
  have HSF := Lib.hid hsf
  have HCO := Lib.hid (columns_any ma m mc pxa px pxc w (by omega) (by omega) hin hrl hms hps)
  have HPB : Hid (∀ q ∈ pixB px m (oneB y), q.length = px.length + 1) := fun q hq => by
    obtain ⟨i, _, rfl⟩ := List.mem_map.1 hq
    rw [List.length_append, pixR_len]; rfl
  have HRD : Hid (∀ (W : World) a cap, Ms W a (pixB px m (oneB y)) → Calls Tryz.prog 134 #[.slice a m.length cap] W fun e w' => ∃ ad c pa pc, e = .returned (.tuple #[.slice ad s.piv.length c, .slice pa s.piv.length pc]) ∧ Ms w' ad s.done ∧ Sl w' pa s.piv ∧ Below W.heap.size W w') := fun W a cap h => by
    have hh := reduced_any a (pixB px m (oneB y)) cap (px.length + 1) W (by rw [pixB_len]; omega) (by omega) HPB.out hpre1 hpre2 h
    rw [hs0, hsf.dl, pixB_len] at hh
    exact hh
  clear hms hps hys hsf hpre1 hpre2 hs0 hin hrl
  obtain ⟨n, hn⟩ : ∃ n, m.length = n := ⟨_, rfl⟩
  have HN := Lib.hid hn
  rw [hn] at hy hm1 hm6 HCO HRD ⊢
  rw [hy]
  obtain ⟨pl, hpl⟩ : ∃ pl, px.length = pl := ⟨_, rfl⟩
  have HPL := Lib.hid hpl
  rw [hpl] at hp HCO HSF ⊢
  have HYN := Lib.hid hy
  clear hn hpl hy HPB
  go_enter Tryz.func98, Tryz.ntmps98
  go_wp2_with fail
  refine HCO.out.mono ?_
  rintro e w1 ⟨rv, ads, rfl, hrs, hb1⟩
  obtain ⟨g, cap, rfl, _, _⟩ := hrs.shape (by rw [pixM_len, HN.out]; exact hm1)
  rw [pixM_len, HN.out] at hrs ⊢
  have HRS0 : Hid (RS w.heap.size (.slice (some ⟨g, 0, none⟩) n cap) ads (apTo px m y 0) w1) := by rw [apTo_zero]; exact hrs
  have HB1 := Lib.hid hb1
  clear hrs hb1 HCO
  go_wp2
  go_loopw [22] (fun i wr => ∃ (k : Nat) (ads : List (Nat × Nat)), k ≤ n ∧ i = .int .i64 k ∧ RS w.heap.size (.slice (some ⟨g, 0, none⟩) n cap) ads (apTo px m y k) wr ∧ Below w.heap.size w wr) (fun i _ => n - (intOf i).toNat)
  case atStart => exact ⟨0, ads, Nat.zero_le _, rfl, HRS0.out, HB1.out⟩
  case round =>
    clear HRS0 HB1
    obtain ⟨k, ads, hk, rfl, hR, hB⟩ := hrel
    have HR := Lib.hid hR; clear hR
    have HB := Lib.hid hB; clear hB
    have HAL : Hid ((apTo px m y k).length = n) := by show _ = _; rw [apTo_len, HN.out]
    by_cases hlt : k < n
    · have HR2 : Hid (RS w.heap.size (.slice (some ⟨g, 0, none⟩) (apTo px m y k).length cap) ads (apTo px m y k) wr) := by show RS _ _ _ _ _; rw [HAL.out]; exact HR.out
      obtain ⟨xb, xc, hx, hch, hfh, hown⟩ := HR2.out.at (i := k) (by rw [HAL.out]; exact hlt)
      rw [apTo_row (by rw [HN.out]; exact hlt)] at hch hown
      have HOW := Lib.hid hown
      have HX := Lib.hid hx
      have hrl2 : (pixR px (rowL m k)).length = pl := by rw [pixR_len, HPL.out]
      rw [hrl2] at hch
      have HRL2 := Lib.hid hrl2
      obtain ⟨yb, yo, v, hya, hyc, HV⟩ := (HYS.out.below HB.out).at (k := k) (by rw [HYN.out]; exact hlt)
      subst hya
      have HGV := Lib.hid (gt_some' HV.out)
      have HST : Hid ((apTo px m y k).set k (pixR px (rowL m k) ++ [v]) = apTo px m y (k + 1)) := by show _ = _; rw [← HGV.out]; exact apTo_set (by rw [HN.out]; exact hlt)
      have hgb : g < wr.heap.size := cell_lt hch
      have hk0 : (k : Int) < (n : Int) := by omega
      have HSZ := Lib.hid HB.out.size
      have hgx : g ≠ xb := fun e => (HR2.out.out k _ hx).2.2 (by rw [← e]; rfl)
      have HGX := Lib.hid hgx
      have hww : w.heap.size ≤ wr.heap.size := HB.out.size
      clear hx hown HV hrl2 hgx
      go_wp2
      go_region_law (refine step_pushA rfl (.tmp 30) (.tmp 35) rfl w.heap.size (.slice (some ⟨xb, 0, none⟩) (pixR px (rowL m k)).length xc) (pixR px (rowL m k)) v _ wr.heap.size (by rw [HRL2.out]; rfl) (by rfl) (alloc_cell wr _ _ _ _ rfl) ((OwnI.below HOW.out ((Below.refl _ _).alloc (Nat.le_refl _) _)).drew) (by rw [HRL2.out]; omega) (by simp; omega) ?_; intro g2 cp2 w9 ho9 hg9 hat9; have hk9 := (hg9.block g (by simp; omega) (fun e => HGX.out (by simpa [Value.ownBlock] using e))).trans (((Below.refl wr.heap.size wr).alloc (Nat.le_refl _) _).drew.block g hgb); have c9 := (cell_of_block hk9 k).trans hch; have f9 := (frozen_of_block' hk9 k).trans hfh)
      all_goals
        have HKEY : Hid (RS w.heap.size (.slice (some ⟨g, 0, none⟩) n cap) (ads.set k (g2, cp2)) (apTo px m y (k + 1)) (w9.setCell ⟨g, k, none⟩ (.slice (some ⟨g2, 0, none⟩) ((pixR px (rowL m k)).length + 1) cp2))) := by
          have h := HR2.out.grow (row' := pixR px (rowL m k) ++ [v]) (by rw [HAL.out]; exact hlt) HX.out (by rw [List.length_append]; exact ho9) (grown_undrew hg9) (hat9.imp (fun e => by simpa [Value.ownBlock] using e) (fun e => by rw [e]; simp))
          rw [HAL.out, HST.out, List.length_append] at h
          exact h
        have HBN : Hid (Below w.heap.size w w9) := ((HB.out.alloc hww _).drew).grown hg9 (by simp; omega) (fun k e => (World.ownsRow.lt HOW.out k e).1)
        have HGB : Hid (w.heap.size ≤ g) := (World.ownsRow.lt HR.out.own g rfl).1
        clear ho9 hg9 hat9 hk9 c9 f9
        go_wp2
        go_roundw
        case rel => exact ⟨k + 1, _, by omega, by go_num, HKEY.out, HBN.out.setCell (p := ⟨g, k, none⟩) HGB.out _⟩
        case measure => simp [intOf]; omega
    · obtain rfl : n = k := by omega
      have HMS2 : Hid (Ms wr (some ⟨g, 0, none⟩) (pixB px m (oneB y))) := by
        have h := HR.out
        rw [show apTo px m y n = pixB px m (oneB y) by rw [← HN.out]; exact apTo_all px m y] at h
        obtain ⟨a, c, e, hh⟩ := h.ms
        cases e
        exact hh
      have HRW := Lib.hid (HRD.out wr (some ⟨g, 0, none⟩) cap HMS2.out)
      have HB2 := HB
      clear HRD HR HB HAL HMS2
      go_wp2_with fail
      refine HRW.out.mono ?_
      rintro e w2 ⟨ad, dc, pa, pc, rfl, hmd, hsp, hb2⟩
      have HMD := Lib.hid hmd
      have HSP := Lib.hid hsp
      have HB3 : Hid (Below w.heap.size w w2) := HB2.out.trans (hb2.mono HB2.out.size)
      clear hmd hsp hb2 HB2 HRW
      obtain ⟨i0, hi, hz0, hz1, hz2⟩ := info_parts Tryz.infoRatio
      obtain ⟨kn, hkn⟩ : ∃ kn, s.piv.length = kn := ⟨_, rfl⟩
      have HKN := Lib.hid hkn
      have hkn6 : kn ≤ 6 := by rw [← hkn]; exact HSF.out.kl
      rw [hkn]
      clear hkn
      go_wp2_with (with_reducible refine wpList_make_full _ rfl (.tmp 45) (.tmp 45) 25 rfl w2.heap.size 52 i0 (.agg #[.int .i64 0, .int .i64 0]) 2 Tryz.underlying25 hi hz0 hz1 .i64 .i64 (pl : Int) (pl : Int) pl rfl rfl rfl rfl (by rw [hz2]; omega) (by unfold maxLen; omega) (Nat.le_refl _) ?_)
      intro w4 hown hgrow
      have hb4 : Below w2.heap.size w2 w4 := (Below.refl _ _).grown hgrow (Nat.le_refl _) (fun k e => by cases e)
      have HO4 : Hid (OwnR w4 w2.heap.size (.slice (some ⟨w2.heap.size, 0, none⟩) pl pl) (zeroTo pl 0)) := by
        show World.ownsRow _ _ _ _ _ _ _
        rw [zeroTo_len (Nat.zero_le _), show zeroTo pl 0 = List.replicate pl (0, 0) by simp [zeroTo], ← flatR_rep]
        exact hown
      have HB4 := Lib.hid hb4
      clear hown hgrow hb4
      go_wp2
      go_loopw [49] (fun i wr => ∃ k : Nat, k ≤ pl ∧ i = .int .i64 k ∧ OwnR wr w2.heap.size (.slice (some ⟨w2.heap.size, 0, none⟩) pl pl) (zeroTo pl k) ∧ Below w2.heap.size w2 wr) (fun i _ => pl - (intOf i).toNat)
      case atStart => exact ⟨0, Nat.zero_le _, rfl, HO4.out, HB4.out⟩
      case round =>
        clear HO4 HB4
        obtain ⟨k, hk, rfl, hO, hB⟩ := hrel
        have HO := Lib.hid hO; clear hO
        have HB := Lib.hid hB; clear hB
        by_cases hlt : k < pl
        · have hk0 : (k : Int) < (pl : Int) := by omega
          have HZL : Hid ((zeroTo pl k).length = pl) := zeroTo_len hk
          have HO5 : Hid (OwnR wr w2.heap.size (.slice (some ⟨w2.heap.size, 0, none⟩) (zeroTo pl k).length pl) (zeroTo pl k)) := HZL.out.symm ▸ HO.out
          obtain ⟨⟨cz, fz⟩, cy, fy⟩ := HO5.out.cell (zeroTo_at hlt)
          go_wp2
          go_roundw
          case rel => exact ⟨k + 1, by omega, by go_num, by have h := HO5.out.stored k 0 1; rw [HZL.out, zeroTo_set hlt] at h; exact h, (HB.out.setCell (p := ⟨w2.heap.size, k * 2, none⟩) (Nat.le_refl _) _).setCell (p := ⟨w2.heap.size, k * 2 + 1, none⟩) (Nat.le_refl _) _⟩
          case measure => simp [intOf]; omega
        · obtain rfl : pl = k := by omega
          have HS0 : Hid (OwnR wr w2.heap.size (.slice (some ⟨w2.heap.size, 0, none⟩) pl pl) (solRT s pl 0)) := by
            have h := HO.out
            rw [show zeroTo pl pl = solRT s pl 0 by simp [zeroTo, solRT]] at h
            exact h
          have HB0 := HB
          clear HO HB
          go_wp2
          go_loopw [59] (fun i wr => ∃ t : Nat, t ≤ kn ∧ i = .int .i64 t ∧ OwnR wr w2.heap.size (.slice (some ⟨w2.heap.size, 0, none⟩) pl pl) (solRT s pl t) ∧ Below w2.heap.size w2 wr ∧ ∀ j, j < t → gt s.piv j ≠ (pl : Int)) (fun i _ => kn - (intOf i).toNat)
          case atStart => exact ⟨0, Nat.zero_le _, rfl, HS0.out, HB0.out, fun j h => by omega⟩
          case round =>
            clear HS0 HB0
            obtain ⟨t, ht, rfl, hO, hB, hno⟩ := hrel
            have HO := Lib.hid hO; clear hO
            have HB := Lib.hid hB; clear hB
            have HNO := Lib.hid hno; clear hno
            have HBW : Hid (Below w.heap.size w wr) := HB3.out.trans (HB.out.mono HB3.out.size)
            by_cases hlt : t < kn
            · obtain ⟨pb, po, v, hpa, hcv, HV⟩ := (HSP.out.below HB.out).at (k := t) (by rw [HKN.out]; exact hlt)
              subst hpa
              have hgv := gt_some' HV.out
              obtain ⟨p, hp, hpN⟩ := HSF.out.pk t (by rw [HKN.out]; exact hlt)
              rw [hgv] at hp
              subst hp
              have hpl0 : (p : Int) ≤ (pl : Int) := by omega
              by_cases hpe : p = pl
              · have y0 : ((p : Int) == (pl : Int)) = true := by simp [hpe]
                have y1 : ((p : Int) != (pl : Int)) = false := by simp [hpe]
                have HME : Hid ((pl : Int) ∈ s.piv) := mem_gt.2 ⟨t, by rw [HKN.out]; exact hlt, by rw [hgv, hpe]⟩
                clear hpe hgv HV
                go_wp2
                go_ret3
                exact ⟨HBW.out, by first | rfl | (rw [if_pos HME.out]; rfl) | (rw [if_pos HME.out])⟩
              · have y0 : ((p : Int) == (pl : Int)) = false := by simpa using fun e : (p : Int) = (pl : Int) => hpe (by omega)
                have y1 : ((p : Int) != (pl : Int)) = true := by simpa using fun e : (p : Int) = (pl : Int) => hpe (by omega)
                have HNE : Hid (gt s.piv t ≠ (pl : Int)) := by show _ ≠ _; rw [hgv]; omega
                have hpc : p < pl := by omega
                have hp0 : (p : Int) < (pl : Int) := by omega
                obtain ⟨N1, hN1⟩ : ∃ N1, pl + 1 = N1 := ⟨_, rfl⟩
                have hp1 : (p : Int) < (N1 : Int) := by omega
                have hp2 : (pl : Int) < (N1 : Int) := by omega
                have hrl := HSF.out.rl t (by rw [HKN.out]; exact hlt)
                have hsm := HSF.out.bd t (by rw [HKN.out]; exact hlt)
                have hpos := HSF.out.pv t (by rw [HKN.out]; exact hlt) p (by rw [hgv])
                have HSU : Hid (solRT s pl (t + 1) = (solRT s pl t).set p (lowR (gt (rowL s.done t) pl) (gt (rowL s.done t) p))) := by
                  show (solRT s pl t).set (gt s.piv t).toNat (lowR (gt (rowL s.done t) pl) (gt (rowL s.done t) (gt s.piv t).toNat)) = _
                  rw [hgv]; rfl
                obtain ⟨db, do_, di, dci, hda, hcd, hsd⟩ := (HMD.out.below HB.out) t (by rw [HSF.out.dl, HKN.out]; exact hlt)
                subst hda
                have hcd2 : wr.cell? ⟨db, do_ + t, none⟩ = some (.slice di N1 dci) := by rw [← hN1, ← hrl]; exact hcd
                have hsd2 : Sl wr di (rowL s.done t) := hsd
                obtain ⟨rb, ro, x, hra, hcx, hx⟩ := hsd2.at (k := p) (by rw [hrl]; omega)
                obtain ⟨rb2, ro2, z, hra2, hcz, hz⟩ := hsd2.at (k := pl) (by rw [hrl]; omega)
                have hra3 := hra.symm.trans hra2
                subst hra
                cases hra3
                have hgx := gt_some' hx.out
                have hgz := gt_some' hz.out
                have bx := hsm p (by omega)
                have bz := hsm pl (by omega)
                rw [hgx] at HSU hpos bx
                rw [hgz] at HSU bz
                have HRA : Hid (∀ W, Calls Tryz.prog 135 #[.int .i64 z, .int .i64 x] W fun e w' => e = .returned (.agg #[.int .i64 (lowR z x).1, .int .i64 (lowR z x).2]) ∧ Below W.heap.size W w') := fun W => ratio_any z x W bz bx (by omega)
                obtain ⟨L, hL⟩ : ∃ L, lowR z x = L := ⟨_, rfl⟩
                rw [hL] at HSU HRA
                obtain ⟨l1, l2⟩ := L
                dsimp only at HRA
                have HSL : Hid ((solRT s pl t).length = pl) := solRT_len _ _ _
                obtain ⟨q, hq⟩ : ∃ q, (solRT s pl t)[p]? = some q := ⟨(solRT s pl t)[p]'(by rw [HSL.out]; exact hpc), by simp [HSL.out, hpc]⟩
                have HQ := Lib.hid hq
                have ht0 : (t : Int) < (kn : Int) := by omega
                clear hN1 hL hq hgv HV hcd hsd hsd2 hrl hsm hpos hx hz hgx hgz bx bz hpe
                go_wp2
                go_region_law (first | (go_simp; go_at_call 135; refine (HRA.out _).mono ?_; rintro e w5 ⟨rfl, hb5⟩; have HO5 : Hid (OwnR w5 w2.heap.size (.slice (some ⟨w2.heap.size, 0, none⟩) (solRT s pl t).length pl) (solRT s pl t)) := HSL.out.symm ▸ ((OwnR.drew HO.out).below hb5); obtain ⟨⟨kz, fz⟩, ky, fy⟩ := HO5.out.cell HQ.out; have HB5 : Hid (Below w2.heap.size w2 w5) := HB.out.drew.trans (hb5.mono HB.out.size); clear hb5))
                all_goals
                  go_wp2
                  go_roundw
                  case rel => exact ⟨t + 1, by omega, by go_num, by have h := HO5.out.stored p l1 l2; rw [HSL.out, ← HSU.out] at h; exact h, (HB5.out.setCell (p := ⟨w2.heap.size, p * 2, none⟩) (Nat.le_refl _) _).setCell (p := ⟨w2.heap.size, p * 2 + 1, none⟩) (Nat.le_refl _) _, fun j hj => by
                    by_cases e : j = t
                    · rw [e]; exact HNE.out
                    · exact HNO.out j (by omega)⟩
                  case measure => simp [intOf]; omega
            · obtain rfl : kn = t := by omega
              have HNM : Hid (¬ (pl : Int) ∈ s.piv) := fun h => by
                obtain ⟨j, hj, e⟩ := mem_gt.1 h
                exact HNO.out j (by rw [HKN.out] at hj; exact hj) e
              have HOF : Hid (OwnR wr w.heap.size (.slice (some ⟨w2.heap.size, 0, none⟩) pl pl) (solRT s pl kn)) := by
                obtain ⟨h0, h1 | ⟨g9, cap9, cur, e9, hg9, rest⟩⟩ := HO.out
                · exact ⟨h0, .inl h1⟩
                · exact ⟨h0, .inr ⟨g9, cap9, cur, e9, Nat.le_trans HB3.out.size hg9, rest⟩⟩
              have hpl1 : pl ≤ 10 := hp
              go_wp2
              go_ret3
              refine ⟨HBW.out, ?_⟩
              (try rw [if_neg HNM.out])
              (try rw [HKN.out])
              exact ⟨_, _, rfl, HOF.out⟩
end Go.Proofs.YtfnomiingelfaaaGreat
/- The values that the answers solve are the program's. Plain words. Speaks of no program. -/
namespace Go.Proofs.YtfnomiingelfaaaGreat
open Go.RowKit

theorem gcdL_max {n d : Int} (h : 0 < d) : max (gcdL [n, d]) 1 = gcdL [n, d] := by
  have h1 := gcdL_two n d
  unfold gcd2 at h1
  have := Nat.gcd_pos_of_pos_right n.natAbs (show 0 < d.natAbs by omega)
  omega
theorem lowR_prim {n d : Int} (h : 0 < d) : primR [n, d] = [(lowR n d).1, (lowR n d).2] := by
  unfold primR lowR
  rw [gcdL_max h, gcdL_two]
  rfl
theorem lowR_eq {n d n' d' : Int} (h : 0 < d) (h' : 0 < d') (e : n * d' = n' * d) : lowR n d = lowR n' d' := by
  have k := primR_prop (v := [n, d]) (w := [n', d']) (a := d'.toNat) (b := d.toNat) rfl (by omega) (by omega) (fun c hc => by
    rw [show ((d'.toNat : Nat) : Int) = d' by omega, show ((d.toNat : Nat) : Int) = d by omega]
    match c, hc with
    | 0, _ => show d' * n = d * n'; grind
    | 1, _ => show d' * d = d * d'; grind)
  rw [lowR_prim h, lowR_prim h'] at k
  have k1 := (List.cons.inj k).1
  have k2 := (List.cons.inj (List.cons.inj k).2).1
  exact Prod.ext k1 k2
theorem prim_mid {q : List Int} {c : Nat} (hc : c < q.length) (h : Mid (gt q c)) : Mid (gt (primR q) c) := by
  have e := gt_primR hc
  rw [e] at h
  unfold Mid at h ⊢
  have := mul_small (g := ((max (gcdL q) 1 : Nat) : Int)) (v := gt (primR q) c) (B := 4611686018427387904) (by omega) (by omega)
  omega
theorem last_mid {R N cols : Nat} {M : List (List Int)} (h1 : M.length = R) (h2 : ∀ q ∈ M, q.length = N) (hR : R ≤ 6) (hN : N = cols + 1) (hb1 : ∀ i, i < R → ∀ c, c < cols → -1 ≤ a0 M i c ∧ a0 M i c ≤ 1) (hb2 : ∀ i, i < R → ∀ c, c < N → -1000000 ≤ a0 M i c ∧ a0 M i c ≤ 1000000) :
    ∀ q ∈ (redR M N).done, ∀ c, c < N → Mid (gt q c) := by
  obtain ⟨_, h7⟩ := red_pre h1 h2 hR (by omega) hb1 hb2
  have h7 := h7 cols (by omega)
  obtain ⟨l1, l2⟩ := redR_rows h2 cols
  have small : ∀ q, Small7 N q → ∀ c, c < N → Mid (gt q c) := fun q hq c hc => by have := hq c hc; unfold Mid; omega
  subst hN
  intro q hq c hc
  rw [redR_succ] at hq
  unfold stepR at hq
  split at hq
  · exact small q (h7 q (.inr hq)) c hc
  · rename_i i hi
    have hil := (lastR_some hi).1
    have hP := small_own (D := cols) (h7 _ (.inl (rowL_mem hil)))
    rcases List.mem_append.1 hq with hq | hq
    · obtain ⟨q0, hq0, rfl⟩ := List.mem_map.1 hq
      have hw := wip_mid (D := cols) (l2 q0 hq0) (by omega) (h7 q0 (.inr hq0)) hP
      have hl : (wipR q0 (ownR (rowL (redR M cols).left i) cols) cols).length = cols + 1 := by rw [wipR_len, l2 q0 hq0]
      refine prim_mid (by rw [hl]; exact hc) (hw _ ?_)
      exact mem_gt.2 ⟨c, by rw [hl]; exact hc, rfl⟩
    · rw [List.mem_singleton.1 hq]
      exact small _ hP c hc
theorem sf_of {R cols : Nat} {M : List (List Int)} (h1 : M.length = R) (h2 : ∀ q ∈ M, q.length = cols + 1) (hR : R ≤ 6) (hb1 : ∀ i, i < R → ∀ c, c < cols → -1 ≤ a0 M i c ∧ a0 M i c ≤ 1) (hb2 : ∀ i, i < R → ∀ c, c < cols + 1 → -1000000 ≤ a0 M i c ∧ a0 M i c ≤ 1000000) : SF cols (redR M (cols + 1)) := by
  obtain ⟨A, p, g⟩ := rbar_all h1 h2 hR hb1 hb2 (cols + 1) (Nat.le_refl _) (Nat.le_refl _)
  have hm := last_mid h1 h2 hR rfl hb1 hb2
  have hll := g.ll
  refine ⟨g.ld, fun t ht => g.rd _ (rowL_mem (by rw [g.ld]; exact ht)), fun t ht => ⟨p t, g.pe t ht, by have := g.pz t ht; omega⟩, fun t ht q hq => ?_, fun t ht => hm _ (rowL_mem (by rw [g.ld]; exact ht)), by omega⟩
  have e : q = p t := by have := g.pe t ht; omega
  have := g.pos t ht
  rw [e]; omega
/-- Possible and solved, by the two reductions. -/
theorem sol_same {R cols : Nat} {M : List (List Int)} {r : Rd} (h1 : M.length = R) (h2 : ∀ q ∈ M, q.length = cols + 1) (hR : R ≤ 6) (hb1 : ∀ i, i < R → ∀ c, c < cols → -1 ≤ a0 M i c ∧ a0 M i c ≤ 1) (hb2 : ∀ i, i < R → ∀ c, c < cols + 1 → -1000000 ≤ a0 M i c ∧ a0 M i c ≤ 1000000) (h : RFin R (cols + 1) cols (a0 M) r) :
    (possB r.rows r.piv.length cols = false → (cols : Int) ∈ (redR M (cols + 1)).piv) ∧
    (possB r.rows r.piv.length cols = true → (cols : Int) ∉ (redR M (cols + 1)).piv ∧ (redR M (cols + 1)).piv = r.piv ∧ solRT (redR M (cols + 1)) cols (redR M (cols + 1)).piv.length = solL cols r.rows r.piv r.dv r.piv.length) := by
  obtain ⟨A, p, g⟩ := rbar_all h1 h2 hR hb1 hb2 (cols + 1) (Nat.le_refl _) (Nat.le_refl _)
  have hz0 : ∀ x, x < r.rows.length → (allZ ((rowL r.rows x).drop cols) = true ↔ gt (rowL r.rows x) cols = 0) := fun x hx => by
    have hl := h.row _ (rowL_mem hx)
    have hd : (rowL r.rows x).drop cols = [gt (rowL r.rows x) cols] := by
      refine list_gt (by rw [List.length_drop, hl]; simp) fun t ht => ?_
      rw [List.length_drop, hl] at ht
      obtain rfl : t = 0 := by omega
      show ((rowL r.rows x).drop cols)[0]?.getD 0 = _
      rw [List.getElem?_drop, Nat.add_zero]; rfl
    rw [hd]; unfold allZ; simp
  have hlen := h.len
  constructor
  · intro hp
    unfold possB at hp
    rw [List.all_eq_false] at hp
    obtain ⟨x, hx, hn⟩ := hp
    have hx := List.mem_range.1 hx
    simp only [Bool.or_eq_true, decide_eq_true_eq, not_or] at hn
    exact red_last h g (x := x) (by omega) (by omega) (fun e => hn.2 ((hz0 x hx).2 e))
  · intro hp
    have hz : ∀ x, r.piv.length ≤ x → x < R → ∀ c, c < cols + 1 → gt (rowL r.rows x) c = 0 := fun x hx1 hx2 c hc => by
      by_cases e : c < cols
      · exact h.low x hx1 hx2 c e
      · obtain rfl : c = cols := by omega
        unfold possB at hp
        rw [List.all_eq_true] at hp
        have := hp x (List.mem_range.2 (by omega))
        rw [Bool.or_eq_true, decide_eq_true_eq] at this
        rcases this with e | e
        · omega
        · exact (hz0 x (by omega)).1 e
    obtain ⟨e1, e2, e3⟩ := red_agree h (Nat.le_succ _) g hz
    refine ⟨red_free h (Nat.le_succ _) g hz, e1, ?_⟩
    have hpos := h.pos
    have key : ∀ t, t ≤ r.piv.length → solRT (redR M (cols + 1)) cols t = solL cols r.rows r.piv r.dv t := by
      intro t
      induction t with
      | zero => intro _; rfl
      | succ t ih =>
        intro ht
        have ht2 : t < (redR M (cols + 1)).piv.length := by rw [e1]; omega
        unfold solRT solL
        rw [ih (by omega), e1]
        congr 1
        have hpe := g.pe t ht2
        have hpp := g.pos t ht2
        rw [e1] at hpe
        rw [hpe, Int.toNat_natCast]
        refine lowR_eq hpp hpos.1 ?_
        have := e3 t ht2 cols (by omega)
        grind
    rw [e1]
    exact key _ (Nat.le_refl _)
end Go.Proofs.YtfnomiingelfaaaGreat
/- Rank and Independent of both sides, readings checked: contracts. -/
namespace Go.Proofs.YtfnomiingelfaaaGreat
open Go.RowKit

theorem listV_ok {m : List (List Int)} {px : List Int} (h : listV m px = 0) (hv : validM m = true) : (∀ j ∈ px, 0 ≤ j ∧ j < (colsM m : Int)) ∧ px.length ≤ 10 := by
  unfold listV at h
  split at h
  · rename_i ha
    split at h
    · rename_i hb
      rw [List.all_eq_true] at hb
      have hin : ∀ j ∈ px, 0 ≤ j ∧ j < (colsM m : Int) := fun j hj => by
        have := hb j hj
        unfold thereB at this
        simpa [Bool.and_eq_true] using this
      refine ⟨hin, ?_⟩
      have hc := (validM_of hv).2.2.2.1
      have key : ∀ k, k < px.length → (k : Int) ≤ gt px k := by
        intro k
        induction k with
        | zero => intro hk; exact (hin _ (mem_gt.2 ⟨0, hk, rfl⟩)).1
        | succ k ih =>
          intro hk
          have h1 := ih (by omega)
          have h2 := rascB_of ha (k + 1) hk (by omega)
          rw [Nat.add_sub_cancel] at h2
          omega
      by_cases h0 : px.length = 0
      · omega
      · have h1 := key (px.length - 1) (by omega)
        have h2 := hin _ (mem_gt.2 ⟨px.length - 1, by omega, rfl⟩)
        omega
    · cases h
  · cases h
/-- What Independent answers. -/
def indepV (m : List (List Int)) (px : List Int) : Bool × Int := if validM m = true then (if listV m px = 0 then (decide ((redN m px).piv.length = px.length), 0) else (false, listV m px)) else (false, 1)
theorem pix_bd {m : List (List Int)} (hv : validM m = true) {px : List Int} (hpx : ∀ j ∈ px, 0 ≤ j ∧ j < (colsM m : Int)) : ∀ i, i < (pixM px m).length → ∀ c, c < px.length → -1 ≤ a0 (pixM px m) i c ∧ a0 (pixM px m) i c ≤ 1 := by
  intro i hi c hc
  rw [pixM_len] at hi
  obtain ⟨_, _, _, _, hrows⟩ := validM_of hv
  unfold a0
  rw [rowL_pixM hi, gt_pixR hc]
  have hr := hrows _ (rowL_mem hi)
  have := hpx _ (mem_gt.2 ⟨c, hc, rfl⟩)
  exact gt_in hr.2 (by rw [hr.1]; omega)
theorem pix_row {px : List Int} {m : List (List Int)} : ∀ q ∈ pixM px m, q.length = px.length := fun q hq => by
  obtain ⟨r, _, rfl⟩ := List.mem_map.1 hq
  exact pixR_len _ _
theorem free_same {m : List (List Int)} (hv : validM m = true) {px : List Int} (hpx : ∀ j ∈ px, 0 ≤ j ∧ j < (colsM m : Int)) : (redR (pixM px m) px.length).piv = (redN m px).piv := by
  have h := redN_fin hv (px := px) hpx
  rw [← pixM_len px m] at h
  exact (ker_same (by rw [pixM_len]; exact (validM_of hv).2.1) pix_row (pix_bd hv hpx) h).1
end Go.Proofs.YtfnomiingelfaaaGreat
/- Independent of both sides, readings checked: contracts. -/
namespace Go.Proofs.YtfnomiingelfaaaGreat
open Go.RowKit

set_option maxRecDepth 100000 in
set_option maxHeartbeats 800000 in
theorem lread_any (ma : Option Addr) (m : List (List Int)) (mc : Nat) (a : Option Addr) (y : List Int) (cap : Nat) (w : World) (hm : MOk m) (hl : y.length ≤ 9223372036854775807) (hs : Ms w ma m) (hy : Sl w a y) :
    Calls Tryz.prog 93 #[.slice ma m.length mc, .slice a y.length cap] w fun e w' => e = .returned (.int .i64 (readE m y)) ∧ Below w.heap.size w w' := by
  have HVA : Hid (Calls Tryz.prog 45 #[.slice ma m.length mc] w fun e w' => e = .returned (.bool (validM m)) ∧ Below w.heap.size w w') := mvalid_any ma m mc w hm hs
  obtain ⟨q, hq⟩ : ∃ q, allB 1000000 y = q := ⟨_, rfl⟩
  have HWI : Hid (∀ W, Below w.heap.size w W → Calls Tryz.prog 127 #[.slice a y.length cap, .int .i64 1000000] W fun e w' => e = .returned (.bool q) ∧ W = w') := fun W hb => by rw [← hq]; exact lwithin_any a y cap 1000000 W (by decide) (by decide) hl (hy.below hb)
  have hml := hm.1
  cases hv : validM m
  case false =>
    rw [hv] at HVA
    have HE : Hid (readE m y = 1) := by show _ = _; simp [readE, hv]
    clear hv hq hs hy hm
    go_enter Tryz.func93, Tryz.ntmps93
    go_wp2_with (go_at_call 45; refine HVA.out.mono ?_; rintro e w1 ⟨rfl, hb⟩; have HB := Lib.hid hb; clear hb)
    go_ret
    exact ⟨ret_i64 HE.out.symm, HB.out⟩
  case true =>
    rw [hv] at HVA
    by_cases hlen : (y.length : Int) = (m.length : Int)
    · have y0 : ((y.length : Int) == (m.length : Int)) = true := by simpa using hlen
      have y1 : ((y.length : Int) != (m.length : Int)) = false := by simpa using hlen
      have HE : Hid (readE m y = if q = true then 0 else 7) := by show _ = _; unfold readE fitsV; rw [if_pos hv, if_pos hlen, hq]
      clear hv hq hs hy hm hlen
      cases q
      · go_enter Tryz.func93, Tryz.ntmps93
        go_wp2_with (first | (go_at_call 45; refine HVA.out.mono ?_; rintro e w1 ⟨rfl, hb⟩; have HB := Lib.hid hb; clear hb) | (go_at_call 127; refine (HWI.out w1 HB.out).mono ?_; rintro e w2 ⟨rfl, rfl⟩))
        go_ret
        exact ⟨ret_i64 (by rw [HE.out]; rfl), HB.out⟩
      · go_enter Tryz.func93, Tryz.ntmps93
        go_wp2_with (first | (go_at_call 45; refine HVA.out.mono ?_; rintro e w1 ⟨rfl, hb⟩; have HB := Lib.hid hb; clear hb) | (go_at_call 127; refine (HWI.out w1 HB.out).mono ?_; rintro e w2 ⟨rfl, rfl⟩))
        go_ret
        exact ⟨ret_i64 (by rw [HE.out]; rfl), HB.out⟩
    · have y0 : ((y.length : Int) == (m.length : Int)) = false := by simpa using hlen
      have y1 : ((y.length : Int) != (m.length : Int)) = true := by simpa using hlen
      have HE : Hid (readE m y = 9) := by show _ = _; unfold readE fitsV; rw [if_pos hv, if_neg hlen]
      clear hv hq hs hy hm hlen
      go_enter Tryz.func93, Tryz.ntmps93
      go_wp2_with (go_at_call 45; refine HVA.out.mono ?_; rintro e w1 ⟨rfl, hb⟩; have HB := Lib.hid hb; clear hb)
      go_ret
      exact ⟨ret_i64 HE.out.symm, HB.out⟩
set_option maxRecDepth 100000 in
set_option maxHeartbeats 800000 in
theorem rreading_any (ma : Option Addr) (m : List (List Int)) (mc : Nat) (a : Option Addr) (y : List Int) (cap : Nat) (w : World) (_hml : m.length ≤ 9223372036854775807) (hl : y.length ≤ 9223372036854775807) (hy : Sl w a y) :
    Calls Tryz.prog 63 #[.slice ma m.length mc, .slice a y.length cap] w fun e w' => e = .returned (.int .i64 (fitsV y m.length 1000000)) ∧ w = w' := by
  have HS := Lib.hid hy; clear hy
  by_cases hlen : (y.length : Int) = (m.length : Int)
  · have y0 : ((y.length : Int) == (m.length : Int)) = true := by simpa using hlen
    have y1 : ((y.length : Int) != (m.length : Int)) = false := by simpa using hlen
    have HE : Hid (fitsV y m.length 1000000 = if allB 1000000 y = true then 0 else 7) := by show _ = _; unfold fitsV; rw [if_pos hlen]
    clear hlen
    go_enter Tryz.func63, Tryz.ntmps63
    go_wp2
    go_loopw [14] (fun i wr => ∃ k : Nat, k ≤ y.length ∧ i = .int .i64 k ∧ wr = w ∧ ∀ j, j < k → outB 1000000 (y[j]?.getD 0) = false) (fun i _ => y.length - (intOf i).toNat)
    case atStart => exact ⟨0, Nat.zero_le _, rfl, rfl, fun j h => by omega⟩
    case round =>
      obtain ⟨k, hk, rfl, rfl, hno⟩ := hrel
      have HN := Lib.hid hno; clear hno
      by_cases hlt : k < y.length
      · obtain ⟨b, o, x, rfl, hc, hx⟩ := HS.out.at hlt
        have HX := Lib.hid hx.out
        have HNO : Hid (outB 1000000 x = true → allB 1000000 y = false) := fun h => allB_no hx.out h
        have HRG : Hid (rangeB x (-1000000) 1000000 = !outB 1000000 x) := range_out
        obtain ⟨bb, hbb⟩ : ∃ bb, outB 1000000 x = bb := ⟨_, rfl⟩
        rw [hbb] at HRG HNO
        have HBB := Lib.hid hbb
        clear hx hbb
        go_wp2_with (go_at_call 64; refine (rwithin3_any x (-1000000) 1000000 _).mono ?_; rintro e w1 ⟨rfl, rfl⟩; rw [HRG.out]; cases bb)
        · go_roundw
          case rel => exact ⟨k + 1, by omega, by go_num, by first | trivial | rfl, fun j hj => by
            by_cases e : j = k
            · subst e; rw [HX.out]; exact HBB.out
            · exact HN.out j (by omega)⟩
          case measure => simp [intOf]; omega
        · go_ret
          exact ⟨ret_i64 (by rw [HE.out, HNO.out (by first | trivial | rfl)]; rfl), rfl⟩
      · go_wp2
        go_ret
        exact ⟨ret_i64 (by rw [HE.out, allB_yes (fun j hj => HN.out j (by omega))]; rfl), rfl⟩
  · have y0 : ((y.length : Int) == (m.length : Int)) = false := by simpa using hlen
    have y1 : ((y.length : Int) != (m.length : Int)) = true := by simpa using hlen
    have HE : Hid (fitsV y m.length 1000000 = 9) := by show _ = _; unfold fitsV; rw [if_neg hlen]
    clear hlen
    go_enter Tryz.func63, Tryz.ntmps63
    go_wp2
    go_ret
    exact ⟨ret_i64 HE.out.symm, rfl⟩
set_option maxRecDepth 100000 in
set_option maxHeartbeats 800000 in
theorem lindep_any (ma : Option Addr) (m : List (List Int)) (mc : Nat) (a : Option Addr) (px : List Int) (cap : Nat) (w : World) (hm : MOk m) (hl : px.length ≤ 1000) (hs : Ms w ma m) (hp : Sl w a px) :
    Calls Tryz.prog 59 #[.slice ma m.length mc, .slice a px.length cap] w fun e w' => e = .returned (.tuple #[.bool (indepV m px).1, .int .i64 (indepV m px).2]) ∧ Below w.heap.size w w' := by
  have HVA : Hid (Calls Tryz.prog 45 #[.slice ma m.length mc] w fun e w' => e = .returned (.bool (validM m)) ∧ Below w.heap.size w w') := mvalid_any ma m mc w hm hs
  cases hv : validM m
  case false =>
    rw [hv] at HVA
    have HE : Hid (indepV m px = (false, 1)) := by show _ = _; simp [indepV, hv]
    clear hv hs hp hm
    rw [HE.out]
    go_enter Tryz.func59, Tryz.ntmps59
    go_wp2_with (go_at_call 45; refine HVA.out.mono ?_; rintro e w1 ⟨rfl, hb⟩; have HB := Lib.hid hb; clear hb)
    go_ret2
    exact ⟨rfl, HB.out⟩
  case true =>
    rw [hv] at HVA
    obtain ⟨v, hvv⟩ : ∃ v, listV m px = v := ⟨_, rfl⟩
    have HNA : Hid (∀ W, Below w.heap.size w W → Calls Tryz.prog 89 #[.slice ma m.length mc, .slice a px.length cap] W fun e w' => e = .returned (.int .i64 v) ∧ Below W.heap.size W w') := fun W hb => by rw [← hvv]; exact llisted_any ma m mc a px cap W hv hl (hs.below hb) (hp.below hb)
    by_cases h0 : v = 0
    · subst h0
      obtain ⟨h1, h2⟩ := listV_ok hvv hv
      obtain ⟨hm1, hm6, hc1, hc10, hrows⟩ := validM_of hv
      have h64 : Hid (All64 m) := fun q hq x hx => by
        obtain ⟨c, hc, rfl⟩ := mem_gt.1 hx
        have := gt_in (hrows q hq).2 hc
        unfold In64; omega
      obtain ⟨rd, hrd⟩ : ∃ rd, redN m px = rd := ⟨_, rfl⟩
      have HRD : Hid (∀ W, Below w.heap.size w W → Calls Tryz.prog 90 #[.slice ma m.length mc, .slice a px.length cap, .func (.func 91) #[] #[]] W (RdPost rd W)) := fun W hb => by rw [← hrd]; exact reduce_any0 (Lib.hid hm6) (Lib.hid hm1) (Lib.hid h2) (Lib.hid h1) (Lib.hid fun r hr => (hrows r hr).1) h64 (Lib.hid (hs.below hb)) (Lib.hid (hp.below hb))
      obtain ⟨q, hq⟩ : ∃ q, decide (rd.piv.length = px.length) = q := ⟨_, rfl⟩
      have HE : Hid (indepV m px = (q, 0)) := by show _ = _; unfold indepV; rw [if_pos hv, if_pos hvv, hrd, hq]
      have y0 : decide ((rd.piv.length : Int) = (px.length : Int)) = q := by rw [← hq, decide_eq_decide]; omega
      have y1 : ((rd.piv.length : Int) == (px.length : Int)) = q := by rw [← y0]; rfl
      clear hv hs hp hm hvv h1 h2 hq hrd hrows h64 hm1 hm6 hc1 hc10
      obtain ⟨cols, rows, piv, dv⟩ := rd
      dsimp only at y0 y1
      rw [HE.out]
      go_enter Tryz.func59, Tryz.ntmps59
      go_wp2_with (first | (go_at_call 45; refine HVA.out.mono ?_; rintro e w1 ⟨rfl, hb⟩; have HB := Lib.hid hb; clear hb) | (go_at_call 89; refine (HNA.out w1 HB.out).mono ?_; rintro e w2 ⟨rfl, hb2⟩; have HB2 : Hid (Below w.heap.size w w2) := HB.out.trans (hb2.mono HB.out.size); clear hb2) | (go_at_call 90; refine (HRD.out w2 HB2.out).mono ?_; rintro e w3 ⟨hb3, g, cp, ads, pa2, pc2, rfl, hgg, si, pi⟩; unfold rdV; dsimp only; have HB3 : Hid (Below w.heap.size w w3) := HB2.out.trans (hb3.mono HB2.out.size); clear si pi hgg hb3) | (go_at_call 92; refine (rank_any cols g rows.length cp pa2 piv pc2 dv _).mono ?_; rintro e w4 ⟨rfl, hb4⟩; have HB4 : Hid (Below w.heap.size w w4) := HB3.out.trans (hb4.mono HB3.out.size); clear hb4))
      go_ret2
      exact ⟨rfl, HB4.out⟩
    · have y0 : (v == 0) = false := by simpa using h0
      have y1 : (v != 0) = true := by simpa using h0
      have HE : Hid (indepV m px = (false, v)) := by show _ = _; unfold indepV; rw [if_pos hv, hvv, if_neg h0]
      clear hv hs hp hm hvv h0
      rw [HE.out]
      go_enter Tryz.func59, Tryz.ntmps59
      go_wp2_with (first | (go_at_call 45; refine HVA.out.mono ?_; rintro e w1 ⟨rfl, hb⟩; have HB := Lib.hid hb; clear hb) | (go_at_call 89; refine (HNA.out w1 HB.out).mono ?_; rintro e w2 ⟨rfl, hb2⟩; have HB2 : Hid (Below w.heap.size w w2) := HB.out.trans (hb2.mono HB.out.size); clear hb2))
      go_ret2
      exact ⟨rfl, HB2.out⟩
end Go.Proofs.YtfnomiingelfaaaGreat
/- Solve of both sides: contracts. -/
namespace Go.Proofs.YtfnomiingelfaaaGreat
open Go.RowKit

/-- What Solve answers. -/
def solveV (m : List (List Int)) (px y : List Int) : List (Int × Int) × Int :=
  if readE m y = 0 then (if listV m px = 0 then (if possB (redB m px (oneB y)).rows (redB m px (oneB y)).piv.length px.length = true then (if (redB m px (oneB y)).piv.length < px.length then ([], 11) else (solL px.length (redB m px (oneB y)).rows (redB m px (oneB y)).piv (redB m px (oneB y)).dv (redB m px (oneB y)).piv.length, 0)) else ([], 8)) else ([], listV m px)) else ([], readE m y)
/-- What a function that returns fractions and an error returns. -/
def RLPost (r : List (Int × Int) × Int) (w : World) (e : Ending) (w' : World) : Prop := Below w.heap.size w w' ∧ ∃ a cap, e = .returned (.tuple #[.slice a r.1.length cap, .int .i64 r.2]) ∧ Rl w' a r.1
theorem RLPost.err {w w' : World} {n : Int} (hb : Below w.heap.size w w') : RLPost ([], n) w (.returned (.tuple #[.slice none 0 0, .int .i64 n])) w' := ⟨hb, none, 0, rfl, fun j p h => by simp at h⟩
theorem readE_ok {m : List (List Int)} {y : List Int} (h : readE m y = 0) : validM m = true ∧ y.length = m.length ∧ allB 1000000 y = true := by
  unfold readE at h
  split at h
  · rename_i hv
    obtain ⟨h1, h2⟩ := fitsV_0 h
    exact ⟨hv, by omega, h2⟩
  · cases h
theorem pixB_row {px : List Int} {m : List (List Int)} {y : List Int} : ∀ q ∈ pixB px m (oneB y), q.length = px.length + 1 := fun q hq => by
  obtain ⟨i, _, rfl⟩ := List.mem_map.1 hq
  rw [List.length_append, pixR_len]; rfl
theorem pixB_at {px : List Int} {m : List (List Int)} {y : List Int} {i c : Nat} (hi : i < m.length) : a0 (pixB px m (oneB y)) i c = if c < px.length then gt (rowL m i) (gt px c).toNat else if c = px.length then gt y i else 0 := by
  unfold a0
  have e : rowL (pixB px m (oneB y)) i = pixR px (rowL m i) ++ [gt y i] := by unfold pixB rowL; simp [hi]; rfl
  rw [e, gt_snoc, pixR_len]
  split
  · rename_i h; rw [gt_pixR h]
  · rfl
theorem pixB_bd {m : List (List Int)} {px y : List Int} (hv : validM m = true) (hpx : ∀ j ∈ px, 0 ≤ j ∧ j < (colsM m : Int)) (hy : y.length = m.length) (hb : allB 1000000 y = true) :
    (∀ i, i < m.length → ∀ c, c < px.length → -1 ≤ a0 (pixB px m (oneB y)) i c ∧ a0 (pixB px m (oneB y)) i c ≤ 1) ∧ ∀ i, i < m.length → ∀ c, c < px.length + 1 → -1000000 ≤ a0 (pixB px m (oneB y)) i c ∧ a0 (pixB px m (oneB y)) i c ≤ 1000000 := by
  obtain ⟨_, _, _, _, hrows⟩ := validM_of hv
  have h1 : ∀ i, i < m.length → ∀ c, c < px.length → -1 ≤ a0 (pixB px m (oneB y)) i c ∧ a0 (pixB px m (oneB y)) i c ≤ 1 := fun i hi c hc => by
    rw [pixB_at hi, if_pos hc]
    have hr := hrows _ (rowL_mem hi)
    have := hpx _ (mem_gt.2 ⟨c, hc, rfl⟩)
    exact gt_in hr.2 (by rw [hr.1]; omega)
  refine ⟨h1, fun i hi c hc => ?_⟩
  by_cases e : c < px.length
  · have := h1 i hi c e; omega
  · rw [pixB_at hi, if_neg e, if_pos (by omega)]
    exact gt_in hb (by omega)
theorem redB_fin {m : List (List Int)} {px y : List Int} (hv : validM m = true) (hpx : ∀ j ∈ px, 0 ≤ j ∧ j < (colsM m : Int)) (hy : y.length = m.length) (hb : allB 1000000 y = true) :
    RFin m.length (px.length + 1) px.length (a0 (pixB px m (oneB y))) (redB m px (oneB y)) := by
  obtain ⟨b1, b2⟩ := pixB_bd hv hpx hy hb
  exact rd_fin (pixB_len _ _ _) pixB_row (validM_of hv).2.1 (Nat.le_succ _) b1 b2
theorem redB_cols (m : List (List Int)) (px : List Int) (bh : Nat → List Int) : (redB m px bh).cols = px.length := clearN_cols _ _
theorem box_cells {w3 W4 : World} {a b c d : Value} {t : TypeId} (h : w3.alloc (.cells #[a, b, c, d] t) = W4) : ∀ W, Below W4.heap.size W4 W → W.cell? ⟨w3.heap.size, 0, none⟩ = some a ∧ W.cell? ⟨w3.heap.size, 1, none⟩ = some b ∧ W.cell? ⟨w3.heap.size, 2, none⟩ = some c ∧ W.cell? ⟨w3.heap.size, 3, none⟩ = some d := by
  subst h
  intro W hb
  have hl : w3.heap.size < (w3.alloc (.cells #[a, b, c, d] t)).heap.size := by rw [World.size_alloc]; omega
  exact ⟨(hb.cell (p := ⟨w3.heap.size, 0, none⟩) hl).trans (alloc_cell _ _ _ _ _ rfl), (hb.cell (p := ⟨w3.heap.size, 1, none⟩) hl).trans (alloc_cell _ _ _ _ _ rfl), (hb.cell (p := ⟨w3.heap.size, 2, none⟩) hl).trans (alloc_cell _ _ _ _ _ rfl), (hb.cell (p := ⟨w3.heap.size, 3, none⟩) hl).trans (alloc_cell _ _ _ _ _ rfl)⟩
set_option maxRecDepth 1000000 in
set_option maxHeartbeats 3200000 in
theorem lsolve_any (ma : Option Addr) (m : List (List Int)) (mc : Nat) (a : Option Addr) (px : List Int) (cap : Nat) (ya : Option Addr) (y : List Int) (yc : Nat) (w : World) (hm : MOk m) (hl : px.length ≤ 1000) (hly : y.length ≤ 1000) (hs : Ms w ma m) (hp : Sl w a px) (hy : Sl w ya y) :
    Calls Tryz.prog 60 #[.slice ma m.length mc, .slice a px.length cap, .slice ya y.length yc] w (RLPost (solveV m px y) w) := by
  obtain ⟨rv, hrv⟩ : ∃ rv, readE m y = rv := ⟨_, rfl⟩
  have HRE : Hid (Calls Tryz.prog 93 #[.slice ma m.length mc, .slice ya y.length yc] w fun e w' => e = .returned (.int .i64 rv) ∧ Below w.heap.size w w') := by rw [← hrv]; exact lread_any ma m mc ya y yc w hm (by omega) hs hy
  by_cases hr0 : rv = 0
  · subst hr0
    obtain ⟨hv, hyl, hyb⟩ := readE_ok hrv
    obtain ⟨v, hvv⟩ : ∃ v, listV m px = v := ⟨_, rfl⟩
    have HNA : Hid (∀ W, Below w.heap.size w W → Calls Tryz.prog 89 #[.slice ma m.length mc, .slice a px.length cap] W fun e w' => e = .returned (.int .i64 v) ∧ Below W.heap.size W w') := fun W hb => by rw [← hvv]; exact llisted_any ma m mc a px cap W hv hl (hs.below hb) (hp.below hb)
    by_cases h0 : v = 0
    · subst h0
      obtain ⟨h1, h2⟩ := listV_ok hvv hv
      obtain ⟨hm1, hm6, hc1, hc10, hrows⟩ := validM_of hv
      have h64 : Hid (All64 m) := fun q hq x hx => by
        obtain ⟨c, hc, rfl⟩ := mem_gt.1 hx
        have := gt_in (hrows q hq).2 hc
        unfold In64; omega
      have hy64 : ∀ x ∈ y, In64 x := fun x hx => by
        obtain ⟨c, hc, rfl⟩ := mem_gt.1 hx
        have := gt_in hyb hc
        unfold In64; omega
      have HF := Lib.hid (redB_fin hv h1 hyl hyb)
      have hco := redB_cols m px (oneB y)
      obtain ⟨rd, hrd⟩ : ∃ rd, redB m px (oneB y) = rd := ⟨_, rfl⟩
      have HRD : Hid (∀ W, Below w.heap.size w W → Calls Tryz.prog 90 #[.slice ma m.length mc, .slice a px.length cap, .func (.func 128) #[] #[.pointer (some ⟨W.heap.size, 0, none⟩)]] (W.alloc (.cells #[.slice ya y.length yc] 24)) (RdPost rd (W.alloc (.cells #[.slice ya y.length yc] 24)))) := fun W hb => by
        have hb2 : Below w.heap.size w (W.alloc (.cells #[.slice ya y.length yc] 24)) := hb.alloc hb.size _
        rw [← hrd]
        exact reduce_any0One (Lib.hid (one_beh (Nat.le_of_eq hyl.symm) hly (alloc_cell _ _ _ _ _ rfl) (hy.below hb2))) ⟨Nat.le_refl _, by decide⟩ (Lib.hid (oneB_ok hy64)) (Lib.hid hm6) (Lib.hid hm1) (Lib.hid h2) (Lib.hid h1) (Lib.hid fun r hr => (hrows r hr).1) h64 (Lib.hid (hs.below hb2)) (Lib.hid (hp.below hb2))
      have HSV : Hid (solveV m px y = if possB rd.rows rd.piv.length px.length = true then (if rd.piv.length < px.length then ([], 11) else (solL px.length rd.rows rd.piv rd.dv rd.piv.length, 0)) else ([], 8)) := by show _ = _; unfold solveV; rw [if_pos hrv, if_pos hvv, hrd]
      rw [hrd] at HF hco
      obtain ⟨pl, hpl⟩ : ∃ pl, px.length = pl := ⟨_, rfl⟩
      rw [hpl] at HF hco HSV HRD h2 HNA ⊢
      obtain ⟨cols, rows, piv, dv⟩ := rd
      dsimp only at hco HSV
      subst hco
      have hlen := HF.out.len
      have hrow := HF.out.row
      have hplr := HF.out.pl
      dsimp only at hlen hrow hplr
      have hpos := HF.out.pos
      dsimp only at hpos
      have hmid : ∀ t, t < piv.length → Mid (gt (rowL rows t) cols) := fun t ht => by
        have := HF.out.bdN t (by omega) cols (by omega)
        dsimp only at this
        unfold Mid; omega
      have hpz : ∀ t, t < piv.length → 0 ≤ gt piv t ∧ gt piv t < cols := fun t ht => HF.out.pz t ht
      obtain ⟨z, hz⟩ : ∃ z, possB rows piv.length cols = z := ⟨_, rfl⟩
      rw [hz] at HSV
      have HPO : Hid (∀ (g cp : Nat) (ads : List (Nat × Nat)) (pa : Option Addr) (pc base : Nat) (W : World), SI W base g ads rows → Calls Tryz.prog 95 #[.agg #[.int .i64 (cols : Int), .slice (some ⟨g, 0, none⟩) rows.length cp, .slice pa piv.length pc, .int .i64 dv]] W fun e w' => e = .returned (.bool z) ∧ Below W.heap.size W w') := fun g cp ads pa pc base W h => by rw [← hz]; exact possible_any cols g cp (cols + 1) ads rows pa piv.length pc piv dv base W rfl (by omega) (by omega) hrow (by omega) (by omega) h
      have HSO : Hid (∀ (g cp : Nat) (ads : List (Nat × Nat)) (pa : Option Addr) (pc base : Nat) (W : World), SI W base g ads rows → Sl W pa piv → Calls Tryz.prog 96 #[.agg #[.int .i64 (cols : Int), .slice (some ⟨g, 0, none⟩) rows.length cp, .slice pa piv.length pc, .int .i64 dv]] W fun e w' => ∃ b c, e = .returned (.slice (some ⟨b, 0, none⟩) cols c) ∧ OwnR w' W.heap.size (.slice (some ⟨b, 0, none⟩) cols c) (solL cols rows piv dv piv.length) ∧ Below W.heap.size W w') := fun g cp ads pa pc base W h h2 => solved_any cols g cp (cols + 1) ads rows pa piv pc dv base W (by omega) (by omega) hrow (by omega) (by omega) h h2 hpz hmid (by unfold Mid; omega) (by omega)
      clear hv hs hp hm hvv h1 hrd hrows h64 hm1 hm6 hc1 hc10 hrv hyl hyb hy64 hy hpl hlen hrow hplr hpos hmid hpz hz HF
      have HLS := solL_len cols rows piv dv piv.length
      cases z with
      | false =>
        rw [HSV.out]
        clear HSV
        go_enter Tryz.func60, Tryz.ntmps60
        go_wp2_with (first | (go_at_call 93; refine HRE.out.mono ?_; rintro e w1 ⟨rfl, hb⟩; have HB := Lib.hid hb; clear hb) | (go_at_call 89; refine (HNA.out w1 HB.out).mono ?_; rintro e w2 ⟨rfl, hb2⟩; have HB2 : Hid (Below w.heap.size w w2) := HB.out.trans (hb2.mono HB.out.size); clear hb2) | (go_at_call 94; refine (oneOf_any ya y.length yc w2).mono ?_; rintro e w9 ⟨rfl, rfl⟩) | (go_at_call 90; refine (HRD.out w2 HB2.out).mono ?_; rintro e w3 ⟨hb3, g, cp, ads, pa2, pc2, rfl, hgg, si, pi⟩; unfold rdV; dsimp only at si pi ⊢; obtain ⟨W4, hW4⟩ : ∃ W4, w3.alloc (.cells #[.int .i64 (cols : Int), .slice (some ⟨g, 0, none⟩) rows.length cp, .slice pa2 piv.length pc2, .int .i64 dv] 113) = W4 := ⟨_, rfl⟩; have HCW : Hid (∀ W, Below W4.heap.size W4 W → W.cell? ⟨w3.heap.size, 0, none⟩ = some (.int .i64 (cols : Int)) ∧ W.cell? ⟨w3.heap.size, 1, none⟩ = some (.slice (some ⟨g, 0, none⟩) rows.length cp) ∧ W.cell? ⟨w3.heap.size, 2, none⟩ = some (.slice pa2 piv.length pc2) ∧ W.cell? ⟨w3.heap.size, 3, none⟩ = some (.int .i64 dv)) := box_cells hW4; obtain ⟨k0, k1, k2, k3⟩ := HCW.out W4 (Below.refl _ _); have HB4 : Hid (Below w3.heap.size w3 W4) := hW4 ▸ (Below.refl _ _).alloc (Nat.le_refl _) _; have HSI := Lib.hid si; have HPI := Lib.hid (OwnI.sl pi); have HB3 := Lib.hid hb3; have HSI4 := Lib.hid (HSI.out.below HB4.out); have HPI4 := Lib.hid (HPI.out.below HB4.out); have HBW4 : Hid (Below w.heap.size w W4) := (HB2.out.alloc HB2.out.size _).trans ((HB3.out.mono (by rw [World.size_alloc]; have := HB2.out.size; omega)).trans (HB4.out.mono (by have h1 := HB3.out.size; rw [World.size_alloc] at h1; have := HB2.out.size; omega))); clear si pi hgg hb3) | (go_at_call 95; refine (HPO.out _ _ _ _ _ _ _ HSI4.out).mono ?_; rintro e w5 ⟨rfl, hb5⟩; have HB5 := Lib.hid hb5; obtain ⟨j0, j1, j2, j3⟩ := HCW.out w5 hb5; clear hb5) | (go_at_call 92; refine (rank_any cols g rows.length cp pa2 piv pc2 dv _).mono ?_; rintro e w6 ⟨rfl, hb6⟩; have HB6 : Hid (Below W4.heap.size W4 w6) := HB5.out.trans (hb6.mono HB5.out.size); obtain ⟨i0, i1, i2, i3⟩ := HCW.out w6 HB6.out; clear hb6) | (go_at_call 96; refine (HSO.out _ _ _ _ _ _ _ (HSI4.out.below HB6.out) (HPI4.out.below HB6.out)).mono ?_; rintro e w7 ⟨sb, sc, rfl, ho7, hb7⟩; have HO7 := Lib.hid ho7; have HB7 : Hid (Below W4.heap.size W4 w7) := HB6.out.trans (hb7.mono HB6.out.size); clear ho7 hb7))
        go_ret2
        exact RLPost.err (HBW4.out.trans (HB5.out.mono HBW4.out.size))
      | true =>
        by_cases hlt : piv.length < cols
        · have y0 : decide (piv.length < cols) = true := by simpa using hlt
          have HS2 : Hid (solveV m px y = ([], 11)) := by show _ = _; rw [HSV.out, if_pos rfl, if_pos hlt]
          rw [HS2.out]
          clear HSV
          go_enter Tryz.func60, Tryz.ntmps60
          go_wp2_with (first | (go_at_call 93; refine HRE.out.mono ?_; rintro e w1 ⟨rfl, hb⟩; have HB := Lib.hid hb; clear hb) | (go_at_call 89; refine (HNA.out w1 HB.out).mono ?_; rintro e w2 ⟨rfl, hb2⟩; have HB2 : Hid (Below w.heap.size w w2) := HB.out.trans (hb2.mono HB.out.size); clear hb2) | (go_at_call 94; refine (oneOf_any ya y.length yc w2).mono ?_; rintro e w9 ⟨rfl, rfl⟩) | (go_at_call 90; refine (HRD.out w2 HB2.out).mono ?_; rintro e w3 ⟨hb3, g, cp, ads, pa2, pc2, rfl, hgg, si, pi⟩; unfold rdV; dsimp only at si pi ⊢; obtain ⟨W4, hW4⟩ : ∃ W4, w3.alloc (.cells #[.int .i64 (cols : Int), .slice (some ⟨g, 0, none⟩) rows.length cp, .slice pa2 piv.length pc2, .int .i64 dv] 113) = W4 := ⟨_, rfl⟩; have HCW : Hid (∀ W, Below W4.heap.size W4 W → W.cell? ⟨w3.heap.size, 0, none⟩ = some (.int .i64 (cols : Int)) ∧ W.cell? ⟨w3.heap.size, 1, none⟩ = some (.slice (some ⟨g, 0, none⟩) rows.length cp) ∧ W.cell? ⟨w3.heap.size, 2, none⟩ = some (.slice pa2 piv.length pc2) ∧ W.cell? ⟨w3.heap.size, 3, none⟩ = some (.int .i64 dv)) := box_cells hW4; obtain ⟨k0, k1, k2, k3⟩ := HCW.out W4 (Below.refl _ _); have HB4 : Hid (Below w3.heap.size w3 W4) := hW4 ▸ (Below.refl _ _).alloc (Nat.le_refl _) _; have HSI := Lib.hid si; have HPI := Lib.hid (OwnI.sl pi); have HB3 := Lib.hid hb3; have HSI4 := Lib.hid (HSI.out.below HB4.out); have HPI4 := Lib.hid (HPI.out.below HB4.out); have HBW4 : Hid (Below w.heap.size w W4) := (HB2.out.alloc HB2.out.size _).trans ((HB3.out.mono (by rw [World.size_alloc]; have := HB2.out.size; omega)).trans (HB4.out.mono (by have h1 := HB3.out.size; rw [World.size_alloc] at h1; have := HB2.out.size; omega))); clear si pi hgg hb3) | (go_at_call 95; refine (HPO.out _ _ _ _ _ _ _ HSI4.out).mono ?_; rintro e w5 ⟨rfl, hb5⟩; have HB5 := Lib.hid hb5; obtain ⟨j0, j1, j2, j3⟩ := HCW.out w5 hb5; clear hb5) | (go_at_call 92; refine (rank_any cols g rows.length cp pa2 piv pc2 dv _).mono ?_; rintro e w6 ⟨rfl, hb6⟩; have HB6 : Hid (Below W4.heap.size W4 w6) := HB5.out.trans (hb6.mono HB5.out.size); obtain ⟨i0, i1, i2, i3⟩ := HCW.out w6 HB6.out; clear hb6) | (go_at_call 96; refine (HSO.out _ _ _ _ _ _ _ (HSI4.out.below HB6.out) (HPI4.out.below HB6.out)).mono ?_; rintro e w7 ⟨sb, sc, rfl, ho7, hb7⟩; have HO7 := Lib.hid ho7; have HB7 : Hid (Below W4.heap.size W4 w7) := HB6.out.trans (hb7.mono HB6.out.size); clear ho7 hb7))
          go_ret2
          exact RLPost.err (HBW4.out.trans (HB6.out.mono HBW4.out.size))
        · have y0 : decide (piv.length < cols) = false := by simpa using hlt
          have HS2 : Hid (solveV m px y = (solL cols rows piv dv piv.length, 0)) := by show _ = _; rw [HSV.out, if_pos rfl, if_neg hlt]
          rw [HS2.out]
          clear HSV
          go_enter Tryz.func60, Tryz.ntmps60
          go_wp2_with (first | (go_at_call 93; refine HRE.out.mono ?_; rintro e w1 ⟨rfl, hb⟩; have HB := Lib.hid hb; clear hb) | (go_at_call 89; refine (HNA.out w1 HB.out).mono ?_; rintro e w2 ⟨rfl, hb2⟩; have HB2 : Hid (Below w.heap.size w w2) := HB.out.trans (hb2.mono HB.out.size); clear hb2) | (go_at_call 94; refine (oneOf_any ya y.length yc w2).mono ?_; rintro e w9 ⟨rfl, rfl⟩) | (go_at_call 90; refine (HRD.out w2 HB2.out).mono ?_; rintro e w3 ⟨hb3, g, cp, ads, pa2, pc2, rfl, hgg, si, pi⟩; unfold rdV; dsimp only at si pi ⊢; obtain ⟨W4, hW4⟩ : ∃ W4, w3.alloc (.cells #[.int .i64 (cols : Int), .slice (some ⟨g, 0, none⟩) rows.length cp, .slice pa2 piv.length pc2, .int .i64 dv] 113) = W4 := ⟨_, rfl⟩; have HCW : Hid (∀ W, Below W4.heap.size W4 W → W.cell? ⟨w3.heap.size, 0, none⟩ = some (.int .i64 (cols : Int)) ∧ W.cell? ⟨w3.heap.size, 1, none⟩ = some (.slice (some ⟨g, 0, none⟩) rows.length cp) ∧ W.cell? ⟨w3.heap.size, 2, none⟩ = some (.slice pa2 piv.length pc2) ∧ W.cell? ⟨w3.heap.size, 3, none⟩ = some (.int .i64 dv)) := box_cells hW4; obtain ⟨k0, k1, k2, k3⟩ := HCW.out W4 (Below.refl _ _); have HB4 : Hid (Below w3.heap.size w3 W4) := hW4 ▸ (Below.refl _ _).alloc (Nat.le_refl _) _; have HSI := Lib.hid si; have HPI := Lib.hid (OwnI.sl pi); have HB3 := Lib.hid hb3; have HSI4 := Lib.hid (HSI.out.below HB4.out); have HPI4 := Lib.hid (HPI.out.below HB4.out); have HBW4 : Hid (Below w.heap.size w W4) := (HB2.out.alloc HB2.out.size _).trans ((HB3.out.mono (by rw [World.size_alloc]; have := HB2.out.size; omega)).trans (HB4.out.mono (by have h1 := HB3.out.size; rw [World.size_alloc] at h1; have := HB2.out.size; omega))); clear si pi hgg hb3) | (go_at_call 95; refine (HPO.out _ _ _ _ _ _ _ HSI4.out).mono ?_; rintro e w5 ⟨rfl, hb5⟩; have HB5 := Lib.hid hb5; obtain ⟨j0, j1, j2, j3⟩ := HCW.out w5 hb5; clear hb5) | (go_at_call 92; refine (rank_any cols g rows.length cp pa2 piv pc2 dv _).mono ?_; rintro e w6 ⟨rfl, hb6⟩; have HB6 : Hid (Below W4.heap.size W4 w6) := HB5.out.trans (hb6.mono HB5.out.size); obtain ⟨i0, i1, i2, i3⟩ := HCW.out w6 HB6.out; clear hb6) | (go_at_call 96; refine (HSO.out _ _ _ _ _ _ _ (HSI4.out.below HB6.out) (HPI4.out.below HB6.out)).mono ?_; rintro e w7 ⟨sb, sc, rfl, ho7, hb7⟩; have HO7 := Lib.hid ho7; have HB7 : Hid (Below W4.heap.size W4 w7) := HB6.out.trans (hb7.mono HB6.out.size); clear ho7 hb7))
          go_ret2
          refine ⟨HBW4.out.trans (HB7.out.mono HBW4.out.size), _, sc, by (rw [HLS]; rfl), OwnR.rl (cap := sc) (base := w6.heap.size) ?_⟩
          rw [HLS]; exact HO7.out
    · have y0 : (v == 0) = false := by simpa using h0
      have y1 : (v != 0) = true := by simpa using h0
      have HSV : Hid (solveV m px y = ([], v)) := by show _ = _; unfold solveV; rw [if_pos hrv, hvv, if_neg h0]
      rw [HSV.out]
      clear hv hs hp hm hvv h0 hrv hy hyl hyb HSV
      go_enter Tryz.func60, Tryz.ntmps60
      go_wp2_with (first | (go_at_call 93; refine HRE.out.mono ?_; rintro e w1 ⟨rfl, hb⟩; have HB := Lib.hid hb; clear hb) | (go_at_call 89; refine (HNA.out w1 HB.out).mono ?_; rintro e w2 ⟨rfl, hb2⟩; have HB2 : Hid (Below w.heap.size w w2) := HB.out.trans (hb2.mono HB.out.size); clear hb2))
      go_ret2
      exact RLPost.err HB2.out
  · have y0 : (rv == 0) = false := by simpa using hr0
    have y1 : (rv != 0) = true := by simpa using hr0
    have HSV : Hid (solveV m px y = ([], rv)) := by show _ = _; unfold solveV; rw [hrv, if_neg hr0]
    rw [HSV.out]
    clear hs hp hm hr0 hrv hy HSV
    go_enter Tryz.func60, Tryz.ntmps60
    go_wp2_with (go_at_call 93; refine HRE.out.mono ?_; rintro e w1 ⟨rfl, hb⟩; have HB := Lib.hid hb; clear hb)
    go_ret2
    exact RLPost.err HB.out
end Go.Proofs.YtfnomiingelfaaaGreat
/- Solve of the program: its fractions lie in new memory. -/
namespace Go.Proofs.YtfnomiingelfaaaGreat
open Go.RowKit

/-- What a function that returns new fractions and an error returns. -/
def RNPost (r : List (Int × Int) × Int) (w : World) (e : Ending) (w' : World) : Prop := Below w.heap.size w w' ∧ ∃ a cap, e = .returned (.tuple #[.slice a r.1.length cap, .int .i64 r.2]) ∧ Rl w' a r.1 ∧ ∀ ad : Addr, a = some ad → w.heap.size ≤ ad.block ∧ ad.block < w'.heap.size
theorem RNPost.err {w w' : World} {n : Int} (hb : Below w.heap.size w w') : RNPost ([], n) w (.returned (.tuple #[.slice none 0 0, .int .i64 n])) w' := ⟨hb, none, 0, rfl, fun j p h => by simp at h, fun ad e => by cases e⟩
set_option maxRecDepth 1000000 in
set_option maxHeartbeats 3200000 in
theorem lsolve_new (ma : Option Addr) (m : List (List Int)) (mc : Nat) (a : Option Addr) (px : List Int) (cap : Nat) (ya : Option Addr) (y : List Int) (yc : Nat) (w : World) (hm : MOk m) (hl : px.length ≤ 1000) (hly : y.length ≤ 1000) (hs : Ms w ma m) (hp : Sl w a px) (hy : Sl w ya y) :
    Calls Tryz.prog 60 #[.slice ma m.length mc, .slice a px.length cap, .slice ya y.length yc] w (RNPost (solveV m px y) w) := by
  obtain ⟨rv, hrv⟩ : ∃ rv, readE m y = rv := ⟨_, rfl⟩
  have HRE : Hid (Calls Tryz.prog 93 #[.slice ma m.length mc, .slice ya y.length yc] w fun e w' => e = .returned (.int .i64 rv) ∧ Below w.heap.size w w') := by rw [← hrv]; exact lread_any ma m mc ya y yc w hm (by omega) hs hy
  by_cases hr0 : rv = 0
  · subst hr0
    obtain ⟨hv, hyl, hyb⟩ := readE_ok hrv
    obtain ⟨v, hvv⟩ : ∃ v, listV m px = v := ⟨_, rfl⟩
    have HNA : Hid (∀ W, Below w.heap.size w W → Calls Tryz.prog 89 #[.slice ma m.length mc, .slice a px.length cap] W fun e w' => e = .returned (.int .i64 v) ∧ Below W.heap.size W w') := fun W hb => by rw [← hvv]; exact llisted_any ma m mc a px cap W hv hl (hs.below hb) (hp.below hb)
    by_cases h0 : v = 0
    · subst h0
      obtain ⟨h1, h2⟩ := listV_ok hvv hv
      obtain ⟨hm1, hm6, hc1, hc10, hrows⟩ := validM_of hv
      have h64 : Hid (All64 m) := fun q hq x hx => by
        obtain ⟨c, hc, rfl⟩ := mem_gt.1 hx
        have := gt_in (hrows q hq).2 hc
        unfold In64; omega
      have hy64 : ∀ x ∈ y, In64 x := fun x hx => by
        obtain ⟨c, hc, rfl⟩ := mem_gt.1 hx
        have := gt_in hyb hc
        unfold In64; omega
      have HF := Lib.hid (redB_fin hv h1 hyl hyb)
      have hco := redB_cols m px (oneB y)
      obtain ⟨rd, hrd⟩ : ∃ rd, redB m px (oneB y) = rd := ⟨_, rfl⟩
      have HRD : Hid (∀ W, Below w.heap.size w W → Calls Tryz.prog 90 #[.slice ma m.length mc, .slice a px.length cap, .func (.func 128) #[] #[.pointer (some ⟨W.heap.size, 0, none⟩)]] (W.alloc (.cells #[.slice ya y.length yc] 24)) (RdPost rd (W.alloc (.cells #[.slice ya y.length yc] 24)))) := fun W hb => by
        have hb2 : Below w.heap.size w (W.alloc (.cells #[.slice ya y.length yc] 24)) := hb.alloc hb.size _
        rw [← hrd]
        exact reduce_any0One (Lib.hid (one_beh (Nat.le_of_eq hyl.symm) hly (alloc_cell _ _ _ _ _ rfl) (hy.below hb2))) ⟨Nat.le_refl _, by decide⟩ (Lib.hid (oneB_ok hy64)) (Lib.hid hm6) (Lib.hid hm1) (Lib.hid h2) (Lib.hid h1) (Lib.hid fun r hr => (hrows r hr).1) h64 (Lib.hid (hs.below hb2)) (Lib.hid (hp.below hb2))
      have HSV : Hid (solveV m px y = if possB rd.rows rd.piv.length px.length = true then (if rd.piv.length < px.length then ([], 11) else (solL px.length rd.rows rd.piv rd.dv rd.piv.length, 0)) else ([], 8)) := by show _ = _; unfold solveV; rw [if_pos hrv, if_pos hvv, hrd]
      rw [hrd] at HF hco
      obtain ⟨pl, hpl⟩ : ∃ pl, px.length = pl := ⟨_, rfl⟩
      rw [hpl] at HF hco HSV HRD h2 HNA ⊢
      obtain ⟨cols, rows, piv, dv⟩ := rd
      dsimp only at hco HSV
      subst hco
      have hlen := HF.out.len
      have hrow := HF.out.row
      have hplr := HF.out.pl
      dsimp only at hlen hrow hplr
      have hpos := HF.out.pos
      dsimp only at hpos
      have hmid : ∀ t, t < piv.length → Mid (gt (rowL rows t) cols) := fun t ht => by
        have := HF.out.bdN t (by omega) cols (by omega)
        dsimp only at this
        unfold Mid; omega
      have hpz : ∀ t, t < piv.length → 0 ≤ gt piv t ∧ gt piv t < cols := fun t ht => HF.out.pz t ht
      obtain ⟨z, hz⟩ : ∃ z, possB rows piv.length cols = z := ⟨_, rfl⟩
      rw [hz] at HSV
      have HPO : Hid (∀ (g cp : Nat) (ads : List (Nat × Nat)) (pa : Option Addr) (pc base : Nat) (W : World), SI W base g ads rows → Calls Tryz.prog 95 #[.agg #[.int .i64 (cols : Int), .slice (some ⟨g, 0, none⟩) rows.length cp, .slice pa piv.length pc, .int .i64 dv]] W fun e w' => e = .returned (.bool z) ∧ Below W.heap.size W w') := fun g cp ads pa pc base W h => by rw [← hz]; exact possible_any cols g cp (cols + 1) ads rows pa piv.length pc piv dv base W rfl (by omega) (by omega) hrow (by omega) (by omega) h
      have HSO : Hid (∀ (g cp : Nat) (ads : List (Nat × Nat)) (pa : Option Addr) (pc base : Nat) (W : World), SI W base g ads rows → Sl W pa piv → Calls Tryz.prog 96 #[.agg #[.int .i64 (cols : Int), .slice (some ⟨g, 0, none⟩) rows.length cp, .slice pa piv.length pc, .int .i64 dv]] W fun e w' => ∃ b c, e = .returned (.slice (some ⟨b, 0, none⟩) cols c) ∧ OwnR w' W.heap.size (.slice (some ⟨b, 0, none⟩) cols c) (solL cols rows piv dv piv.length) ∧ Below W.heap.size W w') := fun g cp ads pa pc base W h h2 => solved_any cols g cp (cols + 1) ads rows pa piv pc dv base W (by omega) (by omega) hrow (by omega) (by omega) h h2 hpz hmid (by unfold Mid; omega) (by omega)
      clear hv hs hp hm hvv h1 hrd hrows h64 hm1 hm6 hc1 hc10 hrv hyl hyb hy64 hy hpl hlen hrow hplr hpos hmid hpz hz HF
      have HLS := solL_len cols rows piv dv piv.length
      cases z with
      | false =>
        rw [HSV.out]
        clear HSV
        go_enter Tryz.func60, Tryz.ntmps60
        go_wp2_with (first | (go_at_call 93; refine HRE.out.mono ?_; rintro e w1 ⟨rfl, hb⟩; have HB := Lib.hid hb; clear hb) | (go_at_call 89; refine (HNA.out w1 HB.out).mono ?_; rintro e w2 ⟨rfl, hb2⟩; have HB2 : Hid (Below w.heap.size w w2) := HB.out.trans (hb2.mono HB.out.size); clear hb2) | (go_at_call 94; refine (oneOf_any ya y.length yc w2).mono ?_; rintro e w9 ⟨rfl, rfl⟩) | (go_at_call 90; refine (HRD.out w2 HB2.out).mono ?_; rintro e w3 ⟨hb3, g, cp, ads, pa2, pc2, rfl, hgg, si, pi⟩; unfold rdV; dsimp only at si pi ⊢; obtain ⟨W4, hW4⟩ : ∃ W4, w3.alloc (.cells #[.int .i64 (cols : Int), .slice (some ⟨g, 0, none⟩) rows.length cp, .slice pa2 piv.length pc2, .int .i64 dv] 113) = W4 := ⟨_, rfl⟩; have HCW : Hid (∀ W, Below W4.heap.size W4 W → W.cell? ⟨w3.heap.size, 0, none⟩ = some (.int .i64 (cols : Int)) ∧ W.cell? ⟨w3.heap.size, 1, none⟩ = some (.slice (some ⟨g, 0, none⟩) rows.length cp) ∧ W.cell? ⟨w3.heap.size, 2, none⟩ = some (.slice pa2 piv.length pc2) ∧ W.cell? ⟨w3.heap.size, 3, none⟩ = some (.int .i64 dv)) := box_cells hW4; obtain ⟨k0, k1, k2, k3⟩ := HCW.out W4 (Below.refl _ _); have HB4 : Hid (Below w3.heap.size w3 W4) := hW4 ▸ (Below.refl _ _).alloc (Nat.le_refl _) _; have HSI := Lib.hid si; have HPI := Lib.hid (OwnI.sl pi); have HB3 := Lib.hid hb3; have HSI4 := Lib.hid (HSI.out.below HB4.out); have HPI4 := Lib.hid (HPI.out.below HB4.out); have HBW4 : Hid (Below w.heap.size w W4) := (HB2.out.alloc HB2.out.size _).trans ((HB3.out.mono (by rw [World.size_alloc]; have := HB2.out.size; omega)).trans (HB4.out.mono (by have h1 := HB3.out.size; rw [World.size_alloc] at h1; have := HB2.out.size; omega))); clear si pi hgg hb3) | (go_at_call 95; refine (HPO.out _ _ _ _ _ _ _ HSI4.out).mono ?_; rintro e w5 ⟨rfl, hb5⟩; have HB5 := Lib.hid hb5; obtain ⟨j0, j1, j2, j3⟩ := HCW.out w5 hb5; clear hb5) | (go_at_call 92; refine (rank_any cols g rows.length cp pa2 piv pc2 dv _).mono ?_; rintro e w6 ⟨rfl, hb6⟩; have HB6 : Hid (Below W4.heap.size W4 w6) := HB5.out.trans (hb6.mono HB5.out.size); obtain ⟨i0, i1, i2, i3⟩ := HCW.out w6 HB6.out; clear hb6) | (go_at_call 96; refine (HSO.out _ _ _ _ _ _ _ (HSI4.out.below HB6.out) (HPI4.out.below HB6.out)).mono ?_; rintro e w7 ⟨sb, sc, rfl, ho7, hb7⟩; have HO7 := Lib.hid ho7; have HB7 : Hid (Below W4.heap.size W4 w7) := HB6.out.trans (hb7.mono HB6.out.size); clear ho7 hb7))
        go_ret2
        exact RNPost.err (HBW4.out.trans (HB5.out.mono HBW4.out.size))
      | true =>
        by_cases hlt : piv.length < cols
        · have y0 : decide (piv.length < cols) = true := by simpa using hlt
          have HS2 : Hid (solveV m px y = ([], 11)) := by show _ = _; rw [HSV.out, if_pos rfl, if_pos hlt]
          rw [HS2.out]
          clear HSV
          go_enter Tryz.func60, Tryz.ntmps60
          go_wp2_with (first | (go_at_call 93; refine HRE.out.mono ?_; rintro e w1 ⟨rfl, hb⟩; have HB := Lib.hid hb; clear hb) | (go_at_call 89; refine (HNA.out w1 HB.out).mono ?_; rintro e w2 ⟨rfl, hb2⟩; have HB2 : Hid (Below w.heap.size w w2) := HB.out.trans (hb2.mono HB.out.size); clear hb2) | (go_at_call 94; refine (oneOf_any ya y.length yc w2).mono ?_; rintro e w9 ⟨rfl, rfl⟩) | (go_at_call 90; refine (HRD.out w2 HB2.out).mono ?_; rintro e w3 ⟨hb3, g, cp, ads, pa2, pc2, rfl, hgg, si, pi⟩; unfold rdV; dsimp only at si pi ⊢; obtain ⟨W4, hW4⟩ : ∃ W4, w3.alloc (.cells #[.int .i64 (cols : Int), .slice (some ⟨g, 0, none⟩) rows.length cp, .slice pa2 piv.length pc2, .int .i64 dv] 113) = W4 := ⟨_, rfl⟩; have HCW : Hid (∀ W, Below W4.heap.size W4 W → W.cell? ⟨w3.heap.size, 0, none⟩ = some (.int .i64 (cols : Int)) ∧ W.cell? ⟨w3.heap.size, 1, none⟩ = some (.slice (some ⟨g, 0, none⟩) rows.length cp) ∧ W.cell? ⟨w3.heap.size, 2, none⟩ = some (.slice pa2 piv.length pc2) ∧ W.cell? ⟨w3.heap.size, 3, none⟩ = some (.int .i64 dv)) := box_cells hW4; obtain ⟨k0, k1, k2, k3⟩ := HCW.out W4 (Below.refl _ _); have HB4 : Hid (Below w3.heap.size w3 W4) := hW4 ▸ (Below.refl _ _).alloc (Nat.le_refl _) _; have HSI := Lib.hid si; have HPI := Lib.hid (OwnI.sl pi); have HB3 := Lib.hid hb3; have HSI4 := Lib.hid (HSI.out.below HB4.out); have HPI4 := Lib.hid (HPI.out.below HB4.out); have HBW4 : Hid (Below w.heap.size w W4) := (HB2.out.alloc HB2.out.size _).trans ((HB3.out.mono (by rw [World.size_alloc]; have := HB2.out.size; omega)).trans (HB4.out.mono (by have h1 := HB3.out.size; rw [World.size_alloc] at h1; have := HB2.out.size; omega))); clear si pi hgg hb3) | (go_at_call 95; refine (HPO.out _ _ _ _ _ _ _ HSI4.out).mono ?_; rintro e w5 ⟨rfl, hb5⟩; have HB5 := Lib.hid hb5; obtain ⟨j0, j1, j2, j3⟩ := HCW.out w5 hb5; clear hb5) | (go_at_call 92; refine (rank_any cols g rows.length cp pa2 piv pc2 dv _).mono ?_; rintro e w6 ⟨rfl, hb6⟩; have HB6 : Hid (Below W4.heap.size W4 w6) := HB5.out.trans (hb6.mono HB5.out.size); obtain ⟨i0, i1, i2, i3⟩ := HCW.out w6 HB6.out; clear hb6) | (go_at_call 96; refine (HSO.out _ _ _ _ _ _ _ (HSI4.out.below HB6.out) (HPI4.out.below HB6.out)).mono ?_; rintro e w7 ⟨sb, sc, rfl, ho7, hb7⟩; have HO7 := Lib.hid ho7; have HB7 : Hid (Below W4.heap.size W4 w7) := HB6.out.trans (hb7.mono HB6.out.size); clear ho7 hb7))
          go_ret2
          exact RNPost.err (HBW4.out.trans (HB6.out.mono HBW4.out.size))
        · have y0 : decide (piv.length < cols) = false := by simpa using hlt
          have HS2 : Hid (solveV m px y = (solL cols rows piv dv piv.length, 0)) := by show _ = _; rw [HSV.out, if_pos rfl, if_neg hlt]
          rw [HS2.out]
          clear HSV
          go_enter Tryz.func60, Tryz.ntmps60
          go_wp2_with (first | (go_at_call 93; refine HRE.out.mono ?_; rintro e w1 ⟨rfl, hb⟩; have HB := Lib.hid hb; clear hb) | (go_at_call 89; refine (HNA.out w1 HB.out).mono ?_; rintro e w2 ⟨rfl, hb2⟩; have HB2 : Hid (Below w.heap.size w w2) := HB.out.trans (hb2.mono HB.out.size); clear hb2) | (go_at_call 94; refine (oneOf_any ya y.length yc w2).mono ?_; rintro e w9 ⟨rfl, rfl⟩) | (go_at_call 90; refine (HRD.out w2 HB2.out).mono ?_; rintro e w3 ⟨hb3, g, cp, ads, pa2, pc2, rfl, hgg, si, pi⟩; unfold rdV; dsimp only at si pi ⊢; obtain ⟨W4, hW4⟩ : ∃ W4, w3.alloc (.cells #[.int .i64 (cols : Int), .slice (some ⟨g, 0, none⟩) rows.length cp, .slice pa2 piv.length pc2, .int .i64 dv] 113) = W4 := ⟨_, rfl⟩; have HCW : Hid (∀ W, Below W4.heap.size W4 W → W.cell? ⟨w3.heap.size, 0, none⟩ = some (.int .i64 (cols : Int)) ∧ W.cell? ⟨w3.heap.size, 1, none⟩ = some (.slice (some ⟨g, 0, none⟩) rows.length cp) ∧ W.cell? ⟨w3.heap.size, 2, none⟩ = some (.slice pa2 piv.length pc2) ∧ W.cell? ⟨w3.heap.size, 3, none⟩ = some (.int .i64 dv)) := box_cells hW4; obtain ⟨k0, k1, k2, k3⟩ := HCW.out W4 (Below.refl _ _); have HB4 : Hid (Below w3.heap.size w3 W4) := hW4 ▸ (Below.refl _ _).alloc (Nat.le_refl _) _; have HSI := Lib.hid si; have HPI := Lib.hid (OwnI.sl pi); have HB3 := Lib.hid hb3; have HSI4 := Lib.hid (HSI.out.below HB4.out); have HPI4 := Lib.hid (HPI.out.below HB4.out); have HBW4 : Hid (Below w.heap.size w W4) := (HB2.out.alloc HB2.out.size _).trans ((HB3.out.mono (by rw [World.size_alloc]; have := HB2.out.size; omega)).trans (HB4.out.mono (by have h1 := HB3.out.size; rw [World.size_alloc] at h1; have := HB2.out.size; omega))); clear si pi hgg hb3) | (go_at_call 95; refine (HPO.out _ _ _ _ _ _ _ HSI4.out).mono ?_; rintro e w5 ⟨rfl, hb5⟩; have HB5 := Lib.hid hb5; obtain ⟨j0, j1, j2, j3⟩ := HCW.out w5 hb5; clear hb5) | (go_at_call 92; refine (rank_any cols g rows.length cp pa2 piv pc2 dv _).mono ?_; rintro e w6 ⟨rfl, hb6⟩; have HB6 : Hid (Below W4.heap.size W4 w6) := HB5.out.trans (hb6.mono HB5.out.size); obtain ⟨i0, i1, i2, i3⟩ := HCW.out w6 HB6.out; clear hb6) | (go_at_call 96; refine (HSO.out _ _ _ _ _ _ _ (HSI4.out.below HB6.out) (HPI4.out.below HB6.out)).mono ?_; rintro e w7 ⟨sb, sc, rfl, ho7, hb7⟩; have HO7 := Lib.hid ho7; have HB7 : Hid (Below W4.heap.size W4 w7) := HB6.out.trans (hb7.mono HB6.out.size); clear ho7 hb7))
          go_ret2
          refine ⟨HBW4.out.trans (HB7.out.mono HBW4.out.size), _, sc, by (rw [HLS]; rfl), OwnR.rl (cap := sc) (base := w6.heap.size) ?_, ?_⟩
          · rw [HLS]; exact HO7.out
          · rintro ad rfl2
            obtain rfl := Option.some.inj rfl2
            have h1 := OwnR.lt HO7.out
            have h2 := HBW4.out.size
            have h3 := HB6.out.size
            exact ⟨by dsimp only; omega, h1.2⟩
    · have y0 : (v == 0) = false := by simpa using h0
      have y1 : (v != 0) = true := by simpa using h0
      have HSV : Hid (solveV m px y = ([], v)) := by show _ = _; unfold solveV; rw [if_pos hrv, hvv, if_neg h0]
      rw [HSV.out]
      clear hv hs hp hm hvv h0 hrv hy hyl hyb HSV
      go_enter Tryz.func60, Tryz.ntmps60
      go_wp2_with (first | (go_at_call 93; refine HRE.out.mono ?_; rintro e w1 ⟨rfl, hb⟩; have HB := Lib.hid hb; clear hb) | (go_at_call 89; refine (HNA.out w1 HB.out).mono ?_; rintro e w2 ⟨rfl, hb2⟩; have HB2 : Hid (Below w.heap.size w w2) := HB.out.trans (hb2.mono HB.out.size); clear hb2))
      go_ret2
      exact RNPost.err HB2.out
  · have y0 : (rv == 0) = false := by simpa using hr0
    have y1 : (rv != 0) = true := by simpa using hr0
    have HSV : Hid (solveV m px y = ([], rv)) := by show _ = _; unfold solveV; rw [hrv, if_neg hr0]
    rw [HSV.out]
    clear hs hp hm hr0 hrv hy HSV
    go_enter Tryz.func60, Tryz.ntmps60
    go_wp2_with (go_at_call 93; refine HRE.out.mono ?_; rintro e w1 ⟨rfl, hb⟩; have HB := Lib.hid hb; clear hb)
    go_ret2
    exact RNPost.err HB.out
end Go.Proofs.YtfnomiingelfaaaGreat
/- fit of layer 4, and what it calls: contracts. -/
namespace Go.Proofs.YtfnomiingelfaaaGreat
open Go.RowKit

theorem box2 {w V : World} {a b : Value} {t : TypeId} (h : w.alloc (.cells #[a, b] t) = V) : ∀ W, Below V.heap.size V W → W.cell? ⟨w.heap.size, 0, none⟩ = some a ∧ W.cell? ⟨w.heap.size, 1, none⟩ = some b ∧ W.frozen? ⟨w.heap.size, 0, none⟩ = false ∧ W.frozen? ⟨w.heap.size, 1, none⟩ = false := by
  subst h
  intro W hb
  have hl : w.heap.size < (w.alloc (.cells #[a, b] t)).heap.size := by rw [World.size_alloc]; omega
  exact ⟨(hb.cell (p := ⟨w.heap.size, 0, none⟩) hl).trans (alloc_cell _ _ _ _ _ rfl), (hb.cell (p := ⟨w.heap.size, 1, none⟩) hl).trans (alloc_cell _ _ _ _ _ rfl), (hb.frozen (p := ⟨w.heap.size, 0, none⟩) hl).trans (by simp), (hb.frozen (p := ⟨w.heap.size, 1, none⟩) hl).trans (by simp)⟩
/-- The place of the first fraction that is 0, or -1. -/
def ixZ (vs : List (Int × Int)) : Int := if vs.any (fun p => p.1 == 0) = true then (vs.findIdx (fun p => p.1 == 0) : Int) else -1
theorem ixZ_hit {vs : List (Int × Int)} {k : Nat} {p : Int × Int} (h : ∀ j, j < k → ∀ q, vs[j]? = some q → q.1 ≠ 0) (hp : vs[k]? = some p) (h0 : p.1 = 0) : ixZ vs = k := by
  obtain ⟨hk, e⟩ := List.getElem?_eq_some_iff.1 hp
  have ha : vs.any (fun p => p.1 == 0) = true := List.any_eq_true.2 ⟨p, List.mem_of_getElem? hp, by simpa using h0⟩
  unfold ixZ
  rw [if_pos ha]
  congr 1
  rw [List.findIdx_eq hk]
  refine ⟨by rw [e]; simpa using h0, fun j hj => ?_⟩
  have := h j hj _ (List.getElem?_eq_getElem (by omega))
  simpa using this
theorem ixZ_no {vs : List (Int × Int)} (h : ∀ j, j < vs.length → ∀ q, vs[j]? = some q → q.1 ≠ 0) : ixZ vs = -1 ∧ vs.any (fun p => p.1 == 0) = false := by
  have ha : vs.any (fun p => p.1 == 0) = false := by
    rw [List.any_eq_false]
    intro q hq
    obtain ⟨j, hj, e⟩ := List.getElem_of_mem hq
    have := h j hj q (by rw [List.getElem?_eq_getElem hj, e])
    simpa using this
  exact ⟨by unfold ixZ; rw [ha]; rfl, ha⟩
set_option maxRecDepth 100000 in
theorem zero_any (a b : Int) (w : World) : Calls Tryz.prog 30 #[.agg #[.int .i64 a, .int .i64 b]] w fun e w' => e = .returned (.bool (a == 0)) ∧ Below w.heap.size w w' := by
  obtain ⟨V, hV⟩ : ∃ V, w.alloc (.cells #[.int .i64 a, .int .i64 b] 52) = V := ⟨_, rfl⟩
  obtain ⟨t0, t1, _, _⟩ := box2 hV V (Below.refl _ _)
  have HB : Hid (Below w.heap.size w V) := by rw [← hV]; exact (Below.refl _ _).alloc (Nat.le_refl _) _
  go_enter Tryz.func30, Tryz.ntmps30
  go_wp2
  go_ret
  exact ⟨rfl, HB.out⟩
set_option maxRecDepth 1000000 in
set_option maxHeartbeats 1600000 in
theorem indexZ_any (a : Option Addr) (vs : List (Int × Int)) (cap : Nat) (w : World) (hl : vs.length ≤ 1000) (hs : Rl w a vs) :
    Calls Tryz.prog 97 #[.slice a vs.length cap, .func (.func 30) #[] #[]] w fun e w' => e = .returned (.int .i64 (ixZ vs)) ∧ Below w.heap.size w w' := by
  have HS := Lib.hid hs; clear hs
  obtain ⟨n, hn⟩ : ∃ n, vs.length = n := ⟨_, rfl⟩
  have HN := Lib.hid hn
  rw [hn] at hl ⊢
  clear hn
  go_enter Tryz.func97, Tryz.ntmps97
  go_wp2
  go_loopw [8] (fun i wr => ∃ k : Nat, k ≤ n ∧ i = .int .i64 k ∧ Below w.heap.size w wr ∧ ∀ j, j < k → ∀ q, vs[j]? = some q → q.1 ≠ 0) (fun i _ => n - (intOf i).toNat)
  case atStart => exact ⟨0, Nat.zero_le _, rfl, Below.refl _ _, fun j h => by omega⟩
  case round =>
    obtain ⟨k, hk, rfl, hb, hno⟩ := hrel
    have HNO := Lib.hid hno; clear hno
    have HB := Lib.hid hb; clear hb
    by_cases hlt : k < n
    · obtain ⟨p, hp⟩ : ∃ p, vs[k]? = some p := ⟨_, List.getElem?_eq_getElem (by rw [HN.out]; exact hlt)⟩
      obtain ⟨b, rfl, c1, c2⟩ := (HS.out.below HB.out) k p hp
      have HP := Lib.hid hp
      obtain ⟨p1, p2⟩ := p
      dsimp only at c1 c2
      have hk0 : (k : Int) < (n : Int) := by omega
      obtain ⟨z, hz⟩ : ∃ z, (p1 == 0) = z := ⟨_, rfl⟩
      have HZ := Lib.hid hz
      have HZE : Hid (∀ W, Calls Tryz.prog 30 #[.agg #[.int .i64 p1, .int .i64 p2]] W fun e w' => e = .returned (.bool z) ∧ Below W.heap.size W w') := fun W => by rw [← hz]; exact zero_any p1 p2 W
      clear hz hp
      cases z with
      | true =>
        go_wp2_with (go_at_call 30; refine (HZE.out _).mono ?_; rintro e w5 ⟨rfl, hb5⟩)
        go_ret
        exact ⟨ret_i64 (ixZ_hit HNO.out HP.out (by simpa using HZ.out)).symm, HB.out.trans (hb5.mono HB.out.size)⟩
      | false =>
        go_wp2_with (go_at_call 30; refine (HZE.out _).mono ?_; rintro e w5 ⟨rfl, hb5⟩)
        go_roundw
        case rel => exact ⟨k + 1, by omega, by go_num, HB.out.trans (hb5.mono HB.out.size), fun j hj q hq => by
          by_cases e : j = k
          · subst e
            rw [HP.out] at hq
            obtain rfl := Option.some.inj hq
            simpa using HZ.out
          · exact HNO.out j (by omega) q hq⟩
        case measure => simp [intOf]; omega
    · obtain rfl : n = k := by omega
      have HE : Hid (ixZ vs = -1) := (ixZ_no fun j hj => HNO.out j (by rw [HN.out] at hj; exact hj)).1
      go_wp2
      go_ret
      exact ⟨ret_i64 HE.out.symm, HB.out⟩
set_option maxRecDepth 100000 in
theorem containsZ_any (a : Option Addr) (vs : List (Int × Int)) (cap : Nat) (w : World) (hl : vs.length ≤ 1000) (hs : Rl w a vs) :
    Calls Tryz.prog 61 #[.slice a vs.length cap, .func (.func 30) #[] #[]] w fun e w' => e = .returned (.bool (vs.any fun p => p.1 == 0)) ∧ Below w.heap.size w w' := by
  have HI := Lib.hid (indexZ_any a vs cap w hl hs); clear hs
  have HE : Hid (decide (0 ≤ ixZ vs) = vs.any fun p => p.1 == 0) := by
    show _ = _
    unfold ixZ
    cases vs.any fun p => p.1 == 0
    · simp
    · simp
  obtain ⟨x, hx⟩ : ∃ x, ixZ vs = x := ⟨_, rfl⟩
  rw [hx] at HI HE
  clear hx
  go_enter Tryz.func61, Tryz.ntmps61
  go_wp2_with (go_at_call 97; refine HI.out.mono ?_; rintro e w' ⟨rfl, hb⟩)
  go_ret
  exact ⟨ret_bool (by rw [← HE.out]), hb⟩
set_option maxHeartbeats 400000 in
/-- slices.Clone of a slice that is not nil: new memory. -/
theorem cloneN_any (ad : Addr) (xs : List Int) (cap : Nat) (w : World) (hl : xs.length * 8 ≤ 140737488351232) (hs : Sl w (some ad) xs) :
    Calls Tryz.prog 62 #[.slice (some ad) xs.length cap] w fun e w' =>
      ∃ a c, e = .returned (.slice a xs.length c) ∧ Sl w' a xs ∧ Below w.heap.size w w' ∧ ∀ ad, a = some ad → w.heap.size ≤ ad.block ∧ ad.block < w'.heap.size := by
  have HN : Hid (∀ (j : Nat) (u : Value), (xs.map (Value.int .i64))[j]? = some u → (w.alloc (.cells #[] 3)).cell? (ad.add j) = some u) := fun j u hu => by
    have hj : j < xs.length := by have := (List.getElem?_eq_some_iff.1 hu).1; simpa using this
    obtain ⟨b, off, e, h⟩ := (hs.alloc (.cells #[] 3)) j hj
    obtain rfl := Option.some.inj e
    rw [addr_add, h]
    simpa [hj] using hu
  clear hs
  have hown := World.ownsRow_lit (base := w.heap.size) (e := 3) (size := 1) w #[] 0 (Nat.le_refl _) (by unfold maxLen; omega) rfl
  have qT : ∀ (w : World) (a : Option Addr) (n c n' c' : Nat), (binOp .eql 24 (.slice a n c) (.slice none n' c')).run Tryz.prog w = .ok (.bool a.isNone) w := fun w a n c n' c' => Lib.run_eql_slice_nil w _ _ a n c n' c' Tryz.underlying24
  obtain ⟨i0, hi, hz0, hz1, hz2⟩ := info_parts Tryz.infoInt
  go_enter Tryz.func62, Tryz.ntmps62
  go_wp2_with (at_builtin; go_must (refine wpList_append_own _ rfl _ _ 24 rfl w.heap.size 3 i0 (.int .i64 0) 1 8 Tryz.underlying24 hi hz0 hz1 hz2 rfl (by decide) _ 0 [] rfl hown ad xs.length cap (xs.map (Value.int .i64)) rfl (by simp) HN.out (map_oneCell xs) (by unfold maxLen; omega) (by omega) (by simp) ?_); intro v' w1 hown' hgrow hnil)
  go_ret
  have ho : OwnI w1 w.heap.size v' xs := by simpa [OwnI] using hown'
  obtain ⟨a, c, rfl, h1, h2⟩ := ho.parts
  refine ⟨a, ⟨c, rfl⟩, h1, ?_, fun ad e => ⟨(h2 ad e).2, (h2 ad e).1⟩⟩
  exact ((Below.refl w.heap.size w).alloc (Nat.le_refl _) _).grown hgrow (by simp) (fun k e => by have : k = w.heap.size := (by simpa [Act.eval, Value.ownBlock] using e.symm); omega)
/-- A fit in memory, from a block on. -/
structure FitAt (W : World) (base : Nat) (qa : Option Addr) (px : List Int) (va : Option Addr) (vs : List (Int × Int)) : Prop where
  sl : Sl W qa px
  rl : Rl W va vs
  q : ∀ ad, qa = some ad → base ≤ ad.block ∧ ad.block < W.heap.size
  v : ∀ ad, va = some ad → base ≤ ad.block ∧ ad.block < W.heap.size
/-- The values of columns, if they make a reading and none is wrong. -/
def fitO (wr : Int × Int → Bool) (m : List (List Int)) (y px : List Int) : Option (List (Int × Int)) := if (solveV m px y).2 = 0 then (if (solveV m px y).1.any wr = true then none else some (solveV m px y).1) else none
def FitPost (r : Option (List (Int × Int))) (px : List Int) (w : World) (e : Ending) (w' : World) : Prop :=
  Below w.heap.size w w' ∧ ((r = none ∧ e = .returned (.tuple #[.agg #[.slice none 0 0, .slice none 0 0], .bool false])) ∨ (∃ vs qa qc va vc, r = some vs ∧ e = .returned (.tuple #[.agg #[.slice qa px.length qc, .slice va vs.length vc], .bool true]) ∧ FitAt w' w.heap.size qa px va vs))
theorem solveV_len (m : List (List Int)) (px y : List Int) : (solveV m px y).1.length ≤ px.length := by
  unfold solveV
  split
  · split
    · split
      · split
        · simp
        · rw [solL_len]; exact Nat.le_refl _
      · simp
    · simp
  · simp
set_option maxRecDepth 1000000 in
set_option maxHeartbeats 1600000 in
theorem sfit_any (wf : Value) (wr : Int × Int → Bool) (ma : Option Addr) (m : List (List Int)) (mc : Nat) (ya : Option Addr) (y : List Int) (yc : Nat) (pb : Addr) (px : List Int) (pc : Nat) (w : World) (hm : MOk m) (hl : px.length ≤ 1000) (hly : y.length ≤ 1000) (hs : Ms w ma m) (hp : Sl w (some pb) px) (hy : Sl w ya y)
    (hw : ∀ W a vs cap, Below w.heap.size w W → vs.length ≤ 1000 → Rl W a vs → Calls Tryz.prog 61 #[.slice a vs.length cap, wf] W fun e w' => e = .returned (.bool (vs.any wr)) ∧ Below W.heap.size W w') :
    Calls Tryz.prog 29 #[.agg #[.slice ma m.length mc, .slice ya y.length yc], .slice (some pb) px.length pc, wf] w (FitPost (fitO wr m y px) px w) := by
  obtain ⟨V1, hV1⟩ : ∃ V1, w.alloc (.cells #[.slice ma m.length mc, .slice ya y.length yc] 54) = V1 := ⟨_, rfl⟩
  obtain ⟨V, hV⟩ : ∃ V, V1.alloc (.cells #[.slice none 0 0, .slice none 0 0] 27) = V := ⟨_, rfl⟩
  have hs1 : V1.heap.size = w.heap.size + 1 := by rw [← hV1]; exact World.size_alloc _ _
  have hs2 : V.heap.size = w.heap.size + 2 := by rw [← hV, World.size_alloc]; omega
  have hb1 : Below w.heap.size w V1 := by rw [← hV1]; exact (Below.refl _ _).alloc (Nat.le_refl _) _
  have hb2 : Below V1.heap.size V1 V := by rw [← hV]; exact (Below.refl _ _).alloc (Nat.le_refl _) _
  have HBV : Hid (Below w.heap.size w V) := hb1.trans (hb2.mono (by omega))
  have HQ := Lib.hid (box2 hV1)
  have HF := Lib.hid (box2 hV)
  obtain ⟨q0, q1, _, _⟩ := HQ.out V hb2
  obtain ⟨f0, f1, f2, f3⟩ := HF.out V (Below.refl _ _)
  have HS2 := Lib.hid hs2
  have HS1 := Lib.hid hs1
  have HV1B : Hid (w.heap.size ≤ V1.heap.size) := hb1.size
  have HSO : Hid (Calls Tryz.prog 60 #[.slice ma m.length mc, .slice (some pb) px.length pc, .slice ya y.length yc] V (RNPost (solveV m px y) V)) := lsolve_new ma m mc (some pb) px pc ya y yc V hm hl hly (hs.below HBV.out) (hp.below HBV.out) (hy.below HBV.out)
  have HFO : Hid (fitO wr m y px = if (solveV m px y).2 = 0 then (if (solveV m px y).1.any wr = true then none else some (solveV m px y).1) else none) := rfl
  have hvl := solveV_len m px y
  obtain ⟨⟨vs, e0⟩, hsv⟩ : ∃ r, solveV m px y = r := ⟨_, rfl⟩
  rw [hsv] at HSO HFO hvl
  dsimp only at hvl HFO
  have HP := Lib.hid hp
  have HCL : Hid (∀ W, Below w.heap.size w W → Calls Tryz.prog 62 #[.slice (some pb) px.length pc] W fun e w' => ∃ a c, e = .returned (.slice a px.length c) ∧ Sl w' a px ∧ Below W.heap.size W w' ∧ ∀ ad, a = some ad → W.heap.size ≤ ad.block ∧ ad.block < w'.heap.size) := fun W hb => cloneN_any pb px pc W (by omega) (HP.out.below hb)
  have HW := Lib.hid hw
  obtain ⟨pl, hpl⟩ : ∃ pl, px.length = pl := ⟨_, rfl⟩
  have HPL := Lib.hid hpl
  unfold FitPost
  rw [hpl] at HSO HCL hl hvl ⊢
  clear hm hs hp hy hw hs1 hs2 hb1 hb2 hsv hpl
  by_cases he0 : e0 = 0
  · subst he0
    rw [if_pos rfl] at HFO
    obtain ⟨z, hz⟩ : ∃ z, vs.any wr = z := ⟨_, rfl⟩
    rw [hz] at HFO
    have HCO : Hid (∀ W a cap, Below w.heap.size w W → Rl W a vs → Calls Tryz.prog 61 #[.slice a vs.length cap, wf] W fun e w' => e = .returned (.bool z) ∧ Below W.heap.size W w') := fun W a cap hb hr => by rw [← hz]; exact HW.out W a vs cap hb (by omega) hr
    clear hz HW
    cases z with
    | true =>
      have HFN : Hid (fitO wr m y px = none) := by show _ = _; rw [HFO.out]; rfl
      clear HFO
      go_enter Tryz.func29, Tryz.ntmps29
      go_wp2_with (first
        | (go_at_call 60; refine HSO.out.mono ?_; rintro e w2 ⟨hb2, va, vc, rfl, hrl, hnw⟩; dsimp only at hrl ⊢; have HB2 := Lib.hid hb2; have HBW2 : Hid (Below w.heap.size w w2) := HBV.out.trans (hb2.mono HBV.out.size); have HRL := Lib.hid hrl; clear hb2 hrl hnw)
        | (go_at_call 61; refine (HCO.out w2 va vc HBW2.out HRL.out).mono ?_; rintro e w3 ⟨rfl, hb3⟩; have HB3 : Hid (Below V.heap.size V w3) := HB2.out.trans (hb3.mono HB2.out.size); have HBW3 : Hid (Below w.heap.size w w3) := HBV.out.trans (HB3.out.mono HBV.out.size); obtain ⟨g0, g1, g2, g3⟩ := HF.out w3 HB3.out; clear hb3))
      refine bodyPost_ret (v := .tuple #[.agg #[.slice none 0 0, .slice none 0 0], .bool false]) ?_ rfl ⟨(HBW3.out.setCell (p := ⟨V1.heap.size, 0, none⟩) HV1B.out _).setCell (p := ⟨V1.heap.size, 1, none⟩) HV1B.out _, .inl ⟨HFN.out, rfl⟩⟩
      rw [results_cell_tmp rfl]; go_simp
    | false =>
      have HFS : Hid (fitO wr m y px = some vs) := by show _ = _; rw [HFO.out]; rfl
      clear HFO
      go_enter Tryz.func29, Tryz.ntmps29
      go_wp2_with (first
        | (go_at_call 60; refine HSO.out.mono ?_; rintro e w2 ⟨hb2, va, vc, rfl, hrl, hnw⟩; dsimp only at hrl ⊢; have HB2 := Lib.hid hb2; have HBW2 : Hid (Below w.heap.size w w2) := HBV.out.trans (hb2.mono HBV.out.size); have HRL := Lib.hid hrl; have HNW := Lib.hid hnw; clear hb2 hrl hnw)
        | (go_at_call 61; refine (HCO.out w2 va vc HBW2.out HRL.out).mono ?_; rintro e w3 ⟨rfl, hb3⟩; have HB3 : Hid (Below V.heap.size V w3) := HB2.out.trans (hb3.mono HB2.out.size); have HBW3 : Hid (Below w.heap.size w w3) := HBV.out.trans (HB3.out.mono HBV.out.size); have HRL3 := Lib.hid (HRL.out.below hb3); have HS3 : Hid (w2.heap.size ≤ w3.heap.size) := hb3.size; clear hb3)
        | (go_at_call 62; refine (HCL.out w3 HBW3.out).mono ?_; rintro e w4 ⟨qa, qc, rfl, hsl, hb4, hqn⟩; have HB4 : Hid (Below V.heap.size V w4) := HB3.out.trans (hb4.mono HB3.out.size); have HBW4 : Hid (Below w.heap.size w w4) := HBV.out.trans (HB4.out.mono HBV.out.size); have HRL4 := Lib.hid (HRL3.out.below hb4); have HS4 : Hid (w3.heap.size ≤ w4.heap.size) := hb4.size; have HSL := Lib.hid hsl; have HQN := Lib.hid hqn; obtain ⟨g0, g1, g2, g3⟩ := HF.out w4 HB4.out; clear hb4 hsl hqn))
      refine bodyPost_ret (v := .tuple #[.agg #[.slice qa pl qc, .slice va vs.length vc], .bool true]) ?_ rfl ⟨(HBW4.out.setCell (p := ⟨V1.heap.size, 0, none⟩) HV1B.out _).setCell (p := ⟨V1.heap.size, 1, none⟩) HV1B.out _, .inr ⟨vs, qa, qc, va, vc, HFS.out, rfl, ?_, ?_, ?_, ?_⟩⟩
      · rw [results_cell_tmp rfl]; go_simp
      · have h2 := HS2.out
        have h3 := HB3.out.size
        refine sl_apart (sl_apart HSL.out (fun ad e => ?_) _) (fun ad e => ?_) _
        · have := (HQN.out ad e).1; show ad.block ≠ V1.heap.size; have := HS1.out; omega
        · have := (HQN.out ad e).1; show ad.block ≠ V1.heap.size; have := HS1.out; omega
      · have h2 := HS2.out
        intro j p hj
        obtain ⟨b, e, c1, c2⟩ := HRL4.out j p hj
        have := (HNW.out _ e).1
        have hne : b ≠ V1.heap.size := by dsimp only at this; have := HS1.out; omega
        exact ⟨b, e, (cell_other _ _ _ _ hne).trans ((cell_other _ _ _ _ hne).trans c1), (cell_other _ _ _ _ hne).trans ((cell_other _ _ _ _ hne).trans c2)⟩
      · intro ad e
        have h1 := HQN.out ad e
        have h2 := HS2.out
        have h3 := HB3.out.size
        rw [World.size_setCell, World.size_setCell]
        omega
      · intro ad e
        have h1 := HNW.out ad e
        have h2 := HS2.out
        have h3 := HS3.out
        have h4 := HS4.out
        rw [World.size_setCell, World.size_setCell]
        omega
  · have HFN : Hid (fitO wr m y px = none) := by show _ = _; rw [HFO.out, if_neg he0]
    have y1 : (e0 == 0) = false := by simpa using he0
    have y2 : (e0 != 0) = true := by simpa using he0
    clear HFO he0 HW
    go_enter Tryz.func29, Tryz.ntmps29
    go_wp2_with (go_at_call 60; refine HSO.out.mono ?_; rintro e w2 ⟨hb2, va, vc, rfl, hrl, hnw⟩; dsimp only at hrl ⊢; have HB2 := Lib.hid hb2; have HBW2 : Hid (Below w.heap.size w w2) := HBV.out.trans (hb2.mono HBV.out.size); obtain ⟨g0, g1, g2, g3⟩ := HF.out w2 hb2; clear hb2 hrl hnw)
    refine bodyPost_ret (v := .tuple #[.agg #[.slice none 0 0, .slice none 0 0], .bool false]) ?_ rfl ⟨(HBW2.out.setCell (p := ⟨V1.heap.size, 0, none⟩) HV1B.out _).setCell (p := ⟨V1.heap.size, 1, none⟩) HV1B.out _, .inl ⟨HFN.out, rfl⟩⟩
    rw [results_cell_tmp rfl]; go_simp
end Go.Proofs.YtfnomiingelfaaaGreat
/- More unknowns than equations: one solution that is not zero. Plain words. Speaks of no program. -/
namespace Go.Proofs.YtfnomiingelfaaaGreat

def overJ (j0 j : Nat) : Nat := if j < j0 then j else j + 1
theorem sum_over (f : Nat → Int) (j0 : Nat) : ∀ n, j0 ≤ n → sumTo f (n + 1) = f j0 + sumTo (fun j => f (overJ j0 j)) n
  | 0, h => by
    obtain rfl : j0 = 0 := by omega
    show sumTo f 0 + f 0 = f 0 + 0
    show (0 : Int) + f 0 = _
    omega
  | n + 1, h => by
    by_cases e : j0 ≤ n
    · have ih := sum_over f j0 n e
      show sumTo f (n + 1) + f (n + 1) = f j0 + (sumTo (fun j => f (overJ j0 j)) n + f (overJ j0 n))
      rw [ih, show overJ j0 n = n + 1 by unfold overJ; rw [if_neg (by omega)]]
      omega
    · obtain rfl : j0 = n + 1 := by omega
      show sumTo f (n + 1) + f (n + 1) = _
      rw [sumTo_congr (f := fun j => f (overJ (n + 1) j)) (g := f) (n + 1) fun i hi => by show f (overJ (n + 1) i) = f i; unfold overJ; rw [if_pos hi]]
      omega
theorem more_unknowns : ∀ (R N : Nat) (c : Nat → Nat → Int), R < N → ∃ w : Nat → Int, (∃ j, j < N ∧ w j ≠ 0) ∧ ∀ i, i < R → sumTo (fun j => c i j * w j) N = 0
  | 0, N, c, h => ⟨fun _ => 1, ⟨0, h, by decide⟩, fun i hi => absurd hi (by omega)⟩
  | R + 1, N, c, h => by
    by_cases hz : ∀ j, j < N → c R j = 0
    · obtain ⟨w, h1, h2⟩ := more_unknowns R N c (by omega)
      refine ⟨w, h1, fun i hi => ?_⟩
      by_cases e : i = R
      · subst e
        rw [sumTo_congr (g := fun _ => 0 * (0 : Int)) N fun j hj => by show c i j * w j = 0 * 0; rw [hz j hj]; omega, sumTo_mul]; omega
      · exact h2 i (by omega)
    · obtain ⟨j0, hj0, hc⟩ : ∃ j0, j0 < N ∧ c R j0 ≠ 0 := by
        apply Classical.byContradiction
        intro hn
        exact hz fun j hj => Classical.byContradiction fun e => hn ⟨j, hj, e⟩
      obtain ⟨n, rfl⟩ : ∃ n, N = n + 1 := ⟨N - 1, by omega⟩
      obtain ⟨w, ⟨j1, hj1, hw1⟩, h2⟩ := more_unknowns R n (fun i j => c R j0 * c i (overJ j0 j) - c i j0 * c R (overJ j0 j)) (by omega)
      let S := sumTo (fun j => c R (overJ j0 j) * w j) n
      let v : Nat → Int := fun j => if j = j0 then -S else c R j0 * w (if j < j0 then j else j - 1)
      have v0 : v j0 = -S := if_pos rfl
      have v1 : ∀ j, v (overJ j0 j) = c R j0 * w j := fun j => by
        show (if overJ j0 j = j0 then -S else _) = _
        unfold overJ
        by_cases e : j < j0
        · rw [if_pos e, if_neg (by omega), if_pos e]
        · rw [if_neg e, if_neg (by omega), if_neg (by omega), Nat.add_sub_cancel]
      have key : ∀ i, sumTo (fun j => c i j * v j) (n + 1) = -(c i j0 * S) + c R j0 * sumTo (fun j => c i (overJ j0 j) * w j) n := fun i => by
        rw [sum_over _ j0 n (by omega), v0]
        congr 1
        · exact Int.mul_neg _ _
        · rw [← sumTo_mul]
          exact sumTo_congr n fun j _ => by show c i (overJ j0 j) * v (overJ j0 j) = _; rw [v1, Int.mul_left_comm]
      refine ⟨v, ⟨overJ j0 j1, by unfold overJ; split <;> omega, by rw [v1]; exact Int.mul_ne_zero hc hw1⟩, fun i hi => ?_⟩
      rw [key]
      by_cases e : i = R
      · subst e
        show -(c i j0 * S) + c i j0 * S = 0
        omega
      · have h3 := h2 i (by omega)
        have e2 : sumTo (fun j => (c R j0 * c i (overJ j0 j) - c i j0 * c R (overJ j0 j)) * w j) n = c R j0 * sumTo (fun j => c i (overJ j0 j) * w j) n + -(c i j0 * S) := by
          rw [show -(c i j0 * S) = -(c i j0) * S from (Int.neg_mul _ _).symm, ← sumTo_mul, ← sumTo_mul, ← sumTo_add]
          refine sumTo_congr n fun j _ => ?_
          show (c R j0 * c i (overJ j0 j) - c i j0 * c R (overJ j0 j)) * w j = c R j0 * (c i (overJ j0 j) * w j) + -(c i j0) * (c R (overJ j0 j) * w j)
          rw [Int.sub_mul, Int.mul_assoc, Int.mul_assoc, Int.neg_mul]; omega
        have h3 : sumTo (fun j => (c R j0 * c i (overJ j0 j) - c i j0 * c R (overJ j0 j)) * w j) n = 0 := h3
        omega
end Go.Proofs.YtfnomiingelfaaaGreat
/- scaled of the answers: the contract. -/
namespace Go.Proofs.YtfnomiingelfaaaGreat
open Go.RowKit

def mulL (x : Int) (xs : List Int) : List Int := xs.map fun y => IntKind.i64.wrap (y * x)
set_option maxRecDepth 1000000 in
set_option maxHeartbeats 4000000 in
theorem rscaled_any (a : Option Addr) (xs : List Int) (cap : Nat) (x : Int) (w : World) (hl : xs.length ≤ 1000) (hs : Sl w a xs) :
    Calls Tryz.prog 118 #[.slice a xs.length cap, .int .i64 x] w fun e w' => ∃ v, e = .returned v ∧ OwnI w' w.heap.size v (mulL x xs) ∧ Below w.heap.size w w' := by
  obtain ⟨n, hn⟩ : ∃ n, xs.length = n := ⟨_, rfl⟩
  have HN := Lib.hid hn
  rw [hn] at hl ⊢
  clear hn
  have HS := Lib.hid hs; clear hs
  go_enter Tryz.func118, Tryz.ntmps118
  go_wp2
  go_loopw [5, 10] (fun v i wr => ∃ k : Nat, k ≤ n ∧ i = .int .i64 k ∧ OwnI wr w.heap.size v ((mulL x xs).take k) ∧ Below w.heap.size w wr) (fun _ i _ => n - (intOf i).toNat)
  case atStart => exact ⟨0, Nat.zero_le _, rfl, OwnI.nil _ _, Below.refl _ _⟩
  case round =>
    obtain ⟨k, hk, rfl, hO, hB⟩ := hrel
    have HO := Lib.hid hO; clear hO
    have HB := Lib.hid hB; clear hB
    by_cases hlt : k < n
    · obtain ⟨b, off, y, rfl, hc, hy⟩ := (HS.out.below HB.out).at (k := k) (by rw [HN.out]; exact hlt)
      have HT : Hid ((mulL x xs).take (k + 1) = (mulL x xs).take k ++ [IntKind.i64.wrap (y * x)]) := by
        show _ = _
        rw [List.take_add_one]
        congr 1
        have h1 := hy.out
        simp [mulL, h1]
      obtain ⟨z, hz⟩ : ∃ z, IntKind.i64.wrap (y * x) = z := ⟨_, rfl⟩
      rw [hz] at HT
      have HL : Hid (((mulL x xs).take k).length ≤ 100000) := by show _ ≤ _; rw [List.length_take]; omega
      have HSZ := Lib.hid HB.out.size
      have hk0 : (k : Int) < (n : Int) := by omega
      clear hy
      go_wp2_with (at_builtin; go_must (refine wpList_push rfl (.tmp 14) (.tmp 18) rfl w.heap.size _ ((mulL x xs).take k) _ _ _ _ rfl rfl rfl HO.out HL.out HSZ.out ?_); intro v' w9 ho' hb')
      go_roundw
      case rel => exact ⟨k + 1, by omega, by go_num, by rw [HT.out]; exact ho', HB.out.trans hb'⟩
      case measure => simp [intOf]; omega
    · obtain rfl : k = n := by omega
      have HE : Hid ((mulL x xs).take k = mulL x xs) := by show _ = _; rw [List.take_of_length_le]; simp [mulL, HN.out]
      have ho := HO.out
      rw [HE.out] at ho
      have HO2 := Lib.hid ho; clear ho HE HO
      go_wp2
      go_ret
      exact ⟨_, rfl, HO2.out, HB.out⟩
end Go.Proofs.YtfnomiingelfaaaGreat
/- All ascending lists of numbers below n, by their lengths: what a breadth-first walk makes. Plain words. Speaks of no program. -/
namespace Go.Proofs.YtfnomiingelfaaaGreat
open Go.RowKit

/-- Where a list may go on. -/
def fromS (s : List Int) : Nat := if s.length = 0 then 0 else (gt s (s.length - 1)).toNat + 1
/-- A list with one number more. -/
def extS (n : Nat) (s : List Int) : List (List Int) := (List.range (n - fromS s)).map fun d => s ++ [((fromS s + d : Nat) : Int)]
theorem fromS_cons (x : Int) {t : List Int} (h : t ≠ []) : fromS (x :: t) = fromS t := by
  unfold fromS
  have h1 : t.length ≠ 0 := fun e => h (List.length_eq_zero_iff.1 e)
  have h2 : (x :: t).length ≠ 0 := by simp
  rw [if_neg h1, if_neg h2]
  congr 2
  show ((x :: t)[t.length + 1 - 1]?).getD 0 = (t[t.length - 1]?).getD 0
  rw [show t.length + 1 - 1 = (t.length - 1) + 1 by omega, List.getElem?_cons_succ]
theorem extS_cons (n : Nat) (x : Int) {t : List Int} (h : t ≠ []) : extS n (x :: t) = (extS n t).map (x :: ·) := by
  unfold extS
  rw [fromS_cons x h, List.map_map]; rfl
theorem flatMap_map' {α β γ : Type} (l : List α) (f : α → β) (g : β → List γ) : (l.map f).flatMap g = l.flatMap fun a => g (f a) := by
  induction l with
  | nil => rfl
  | cons a l ih => rw [List.map_cons, List.flatMap_cons, List.flatMap_cons, ih]
theorem map_flatMap' {α β γ : Type} (l : List α) (f : α → List β) (g : β → γ) : (l.flatMap f).map g = l.flatMap fun a => (f a).map g := by
  induction l with
  | nil => rfl
  | cons a l ih => rw [List.flatMap_cons, List.flatMap_cons, List.map_append, ih]
theorem flatMap_flatMap' {α β γ : Type} (l : List α) (f : α → List β) (g : β → List γ) : (l.flatMap f).flatMap g = l.flatMap fun a => (f a).flatMap g := by
  induction l with
  | nil => rfl
  | cons a l ih => rw [List.flatMap_cons, List.flatMap_cons, List.flatMap_append, ih]
theorem flatMap_congr' {α β : Type} {l : List α} {f g : α → List β} (h : ∀ a ∈ l, f a = g a) : l.flatMap f = l.flatMap g := by
  induction l with
  | nil => rfl
  | cons a l ih => rw [List.flatMap_cons, List.flatMap_cons, h a List.mem_cons_self, ih fun b hb => h b (List.mem_cons_of_mem _ hb)]
/-- A last part that is empty says nothing. -/
theorem range_last {β : Type} {N M : Nat} {f : Nat → List β} (h : M ≤ N) (h0 : ∀ d, M ≤ d → d < N → f d = []) : (List.range N).flatMap f = (List.range M).flatMap f := by
  obtain ⟨k, rfl⟩ : ∃ k, N = M + k := ⟨N - M, by omega⟩
  rw [List.range_add, List.flatMap_append, flatMap_map']
  have : (List.range k).flatMap (fun a => f (M + a)) = [] := List.flatMap_eq_nil_iff.2 fun a ha => h0 _ (by omega) (by have := List.mem_range.1 ha; omega)
  rw [this, List.append_nil]
theorem compl_none {n r b : Nat} (h : n ≤ r + b) : compl n (r + 1) b = [] := by
  unfold compl
  rw [show n - r - b = 0 by omega]; rfl
theorem ext_level (n : Nat) : ∀ r b, (compl n (r + 1) b).flatMap (extS n) = compl n (r + 2) b
  | 0, b => by
    show ((List.range (n - 0 - b)).flatMap fun d => (compl n 0 (b + d + 1)).map fun s => ((b + d : Nat) : Int) :: s).flatMap (extS n) = (List.range (n - 1 - b)).flatMap fun d => (compl n 1 (b + d + 1)).map fun s => ((b + d : Nat) : Int) :: s
    rw [flatMap_flatMap', range_last (M := n - 1 - b) (by omega) (fun d h1 h2 => ?_)]
    · refine flatMap_congr' fun d _ => ?_
      show (extS n [((b + d : Nat) : Int)]) ++ [] = (((List.range (n - 0 - (b + d + 1))).flatMap fun e => (compl n 0 (b + d + 1 + e + 1)).map fun s => ((b + d + 1 + e : Nat) : Int) :: s)).map fun s => ((b + d : Nat) : Int) :: s
      rw [List.append_nil, map_flatMap']
      have hf : fromS [((b + d : Nat) : Int)] = b + d + 1 := by unfold fromS gt; simp; omega
      unfold extS
      rw [hf, Nat.sub_zero]
      generalize List.range (n - (b + d + 1)) = l
      induction l with
      | nil => rfl
      | cons a l ih => rw [List.map_cons, List.flatMap_cons, ih]; rfl
    · show (extS n [((b + d : Nat) : Int)]) ++ [] = []
      have hf : fromS [((b + d : Nat) : Int)] = b + d + 1 := by unfold fromS gt; simp; omega
      unfold extS
      rw [hf, show n - (b + d + 1) = 0 by omega]; rfl
  | r + 1, b => by
    show ((List.range (n - (r + 1) - b)).flatMap fun d => (compl n (r + 1) (b + d + 1)).map fun s => ((b + d : Nat) : Int) :: s).flatMap (extS n) = (List.range (n - (r + 2) - b)).flatMap fun d => (compl n (r + 2) (b + d + 1)).map fun s => ((b + d : Nat) : Int) :: s
    rw [flatMap_flatMap']
    have step : ∀ d, ((compl n (r + 1) (b + d + 1)).map fun s => ((b + d : Nat) : Int) :: s).flatMap (extS n) = (compl n (r + 2) (b + d + 1)).map fun s => ((b + d : Nat) : Int) :: s := fun d => by
      rw [flatMap_map', ← ext_level n r (b + d + 1), map_flatMap']
      refine flatMap_congr' fun s hs => ?_
      have hl := (compl_mem hs).1
      exact extS_cons n _ (fun e => by rw [e] at hl; cases hl)
    rw [flatMap_congr' fun d _ => step d]
    refine range_last (by omega) fun d h1 h2 => ?_
    rw [compl_none (by omega)]; rfl
/-- The sets of at most k numbers less one. -/
def setsTo (n k : Nat) : List (List Int) := (List.range k).flatMap fun r => compl n r 0
def setsAll (n : Nat) : List (List Int) := setsTo n (n + 1)
theorem ext_zero (n : Nat) : extS n [] = compl n 1 0 := by
  show _ = (List.range (n - 0 - 0)).flatMap fun d => (compl n 0 (0 + d + 1)).map fun s => ((0 + d : Nat) : Int) :: s
  unfold extS
  have hf : fromS [] = 0 := rfl
  rw [hf, Nat.sub_zero, Nat.sub_zero]
  generalize List.range n = l
  induction l with
  | nil => rfl
  | cons a l ih => rw [List.map_cons, List.flatMap_cons, ih]; rfl
theorem ext_compl (n r : Nat) : (compl n r 0).flatMap (extS n) = compl n (r + 1) 0 := by
  cases r with
  | zero => show extS n [] ++ [] = _; rw [List.append_nil, ext_zero]
  | succ r => exact ext_level n r 0
theorem setsTo_step (n : Nat) : ∀ k, setsTo n (k + 1) = [] :: (setsTo n k).flatMap (extS n)
  | 0 => rfl
  | k + 1 => by
    have e : setsTo n (k + 1 + 1) = setsTo n (k + 1) ++ compl n (k + 1) 0 := by unfold setsTo; rw [List.range_succ (n := k + 1), List.flatMap_append]; simp
    have e2 : setsTo n (k + 1) = setsTo n k ++ compl n k 0 := by unfold setsTo; rw [List.range_succ (n := k), List.flatMap_append]; simp
    rw [e, setsTo_step n k]
    conv => rhs; rw [← setsTo_step n k, e2, List.flatMap_append, ext_compl]
    rfl
theorem setsAll_step (n : Nat) : setsAll n = [] :: (setsAll n).flatMap (extS n) := by
  have h := setsTo_step n (n + 1)
  have e : setsTo n (n + 1 + 1) = setsTo n (n + 1) ++ compl n (n + 1) 0 := by unfold setsTo; rw [List.range_succ (n := n + 1), List.flatMap_append]; simp
  rw [compl_none (by omega), List.append_nil] at e
  rw [e] at h
  exact h
/-- Lengths do not go down. -/
theorem setsTo_mono (n : Nat) : ∀ k (i j : Nat) (s t : List Int), i ≤ j → (setsTo n k)[i]? = some s → (setsTo n k)[j]? = some t → s.length ≤ t.length
  | 0, i, j, s, t, _, h, _ => by simp [setsTo] at h
  | k + 1, i, j, s, t, hij, h, g => by
    have e2 : setsTo n (k + 1) = setsTo n k ++ compl n k 0 := by unfold setsTo; rw [List.range_succ (n := k), List.flatMap_append]; simp
    have low : ∀ u ∈ setsTo n k, u.length < k := fun u hu => by
      unfold setsTo at hu
      obtain ⟨r, hr, hu⟩ := List.mem_flatMap.1 hu
      have := (compl_mem hu).1
      have := List.mem_range.1 hr
      omega
    rw [e2] at h g
    by_cases hj : j < (setsTo n k).length
    · rw [List.getElem?_append_left hj] at g
      rw [List.getElem?_append_left (by omega)] at h
      exact setsTo_mono n k i j s t hij h g
    · rw [List.getElem?_append_right (by omega)] at g
      have ht := (compl_mem (List.mem_of_getElem? g)).1
      by_cases hi : i < (setsTo n k).length
      · rw [List.getElem?_append_left hi] at h
        have := low s (List.mem_of_getElem? h)
        omega
      · rw [List.getElem?_append_right (by omega)] at h
        have := (compl_mem (List.mem_of_getElem? h)).1
        omega
theorem extS_len {n : Nat} {s t : List Int} (h : t ∈ extS n s) : t.length = s.length + 1 := by
  unfold extS at h
  obtain ⟨d, _, rfl⟩ := List.mem_map.1 h
  simp
/-- What the walk has made before it reads place k. -/
def madeS (n k : Nat) : List (List Int) := [] :: ((setsAll n).take k).flatMap (extS n)
theorem madeS_all (n k : Nat) : madeS n k ++ ((setsAll n).drop k).flatMap (extS n) = setsAll n := by
  conv => rhs; rw [setsAll_step n, ← List.take_append_drop k (setsAll n), List.flatMap_append]
  rfl
/-- It is ahead of its reading until all are made. -/
theorem madeS_ahead {n k : Nat} (h : k < (setsAll n).length) : k < (madeS n k).length := by
  apply Nat.lt_of_not_le
  intro hle
  have ha := madeS_all n k
  have hl := congrArg List.length ha
  rw [List.length_append] at hl
  have hne : 0 < (((setsAll n).drop k).flatMap (extS n)).length := by omega
  obtain ⟨t, ht⟩ : ∃ t, (((setsAll n).drop k).flatMap (extS n))[0]? = some t := ⟨_, List.getElem?_eq_getElem hne⟩
  have htm := List.mem_of_getElem? ht
  obtain ⟨s, hs, hts⟩ := List.mem_flatMap.1 htm
  obtain ⟨i, hi, rfl⟩ := List.mem_iff_getElem.1 hs
  have htl := extS_len hts
  have g1 : (setsAll n)[(madeS n k).length]? = some t := by
    rw [← ha, List.getElem?_append_right (Nat.le_refl _), Nat.sub_self]; exact ht
  have g2 : (setsAll n)[k + i]? = some (((setsAll n).drop k)[i]) := by
    rw [← List.getElem?_drop, List.getElem?_eq_getElem hi]
  have := setsTo_mono n (n + 1) _ _ _ _ (show (madeS n k).length ≤ k + i by omega) g1 g2
  omega
theorem madeS_end {n k : Nat} (h : (madeS n k).length ≤ k) : madeS n k = setsAll n ∧ (setsAll n).length ≤ k := by
  have h1 : (setsAll n).length ≤ k := Nat.le_of_not_lt fun e => absurd (madeS_ahead e) (by omega)
  refine ⟨?_, h1⟩
  have := madeS_all n k
  rw [List.drop_eq_nil_of_le h1] at this
  simpa using this
theorem madeS_at {n k : Nat} (h : k < (madeS n k).length) : ∃ s, (madeS n k)[k]? = some s ∧ (setsAll n)[k]? = some s ∧ madeS n (k + 1) = madeS n k ++ extS n s := by
  obtain ⟨s, hs⟩ : ∃ s, (madeS n k)[k]? = some s := ⟨_, List.getElem?_eq_getElem h⟩
  have hs2 : (setsAll n)[k]? = some s := by rw [← madeS_all n k, List.getElem?_append_left h]; exact hs
  refine ⟨s, hs, hs2, ?_⟩
  unfold madeS
  have hk := (List.getElem?_eq_some_iff.1 hs2).1
  have e : (setsAll n).take (k + 1) = (setsAll n).take k ++ [s] := by
    rw [List.take_succ_eq_append_getElem hk]
    congr 2
    exact (List.getElem?_eq_some_iff.1 hs2).2
  rw [e, List.flatMap_append]
  simp
end Go.Proofs.YtfnomiingelfaaaGreat
/- Sets of the answers: the contract. -/
namespace Go.Proofs.YtfnomiingelfaaaGreat
open Go.RowKit

theorem setsAll_len : ∀ n, n ≤ 10 → (setsAll n).length ≤ 1024 := by decide +kernel
def extTo (s : List Int) (d : Nat) : List (List Int) := (List.range d).map fun e => s ++ [((fromS s + e : Nat) : Int)]
theorem extTo_succ (s : List Int) (d : Nat) : extTo s (d + 1) = extTo s d ++ [s ++ [((fromS s + d : Nat) : Int)]] := by unfold extTo; rw [List.range_succ, List.map_append]; rfl
theorem extTo_len (s : List Int) (d : Nat) : (extTo s d).length = d := by simp [extTo]
theorem setsAll_mem {n : Nat} {s : List Int} (h : s ∈ setsAll n) : s.length ≤ n ∧ ∀ j ∈ s, 0 ≤ j ∧ j < n := by
  unfold setsAll setsTo at h
  obtain ⟨r, hr, hs⟩ := List.mem_flatMap.1 h
  have hr := List.mem_range.1 hr
  obtain ⟨h1, h2⟩ := compl_mem hs
  exact ⟨by omega, fun j hj => by have := h2 j hj; omega⟩
theorem fromS_le {n : Nat} {s : List Int} (h : s ∈ setsAll n) : fromS s ≤ n := by
  obtain ⟨_, h2⟩ := setsAll_mem h
  unfold fromS
  split
  · omega
  · rename_i h0
    have e : s[s.length - 1]? = some (s[s.length - 1]'(by omega)) := List.getElem?_eq_getElem (by omega)
    have hm := h2 _ (List.mem_of_getElem? e)
    have : gt s (s.length - 1) = s[s.length - 1]'(by omega) := by unfold gt; rw [e]; rfl
    rw [this]; omega
/-- Only the first is empty. -/
theorem setsAll_nil {n k : Nat} (h : (setsAll n)[k]? = some []) : k = 0 := by
  cases k with
  | zero => rfl
  | succ k =>
    rw [setsAll_step, List.getElem?_cons_succ] at h
    obtain ⟨s, _, hs⟩ := List.mem_flatMap.1 (List.mem_of_getElem? h)
    have := extS_len hs
    simp at this
theorem HR.lit (w : World) : HR w.heap.size (.slice (some ⟨w.heap.size, 0, none⟩) 1 1) [(none, 0)] [[]] (w.alloc (.cells #[.slice none 0 0] 24)) where
  len := rfl
  own := World.ownsRow_lit (base := w.heap.size) (size := 1) w #[.slice none 0 0] 1 (Nat.le_refl _) (by unfold maxLen; omega) rfl
  row := fun i x r e1 e2 => by
    cases i with
    | zero => simp at e1 e2; subst e1; subst e2; intro k hk; simp at hk
    | succ i => simp at e1
  out := fun i x e ad ea => by
    cases i with
    | zero => simp at e; subst e; cases ea
    | succ i => simp at e
theorem own_lit0 (w : World) : OwnI (w.alloc (.cells #[] 3)) w.heap.size (.slice (some ⟨w.heap.size, 0, none⟩) 0 0) [] := by
  refine ⟨by simp, .inr ⟨w.heap.size, 0, #[], rfl, Nat.le_refl _, ?_, by simp, by unfold maxLen; omega, by simp, by simp⟩⟩
  show (w.heap.push (.cells #[] 3))[w.heap.size]? = _
  rw [Array.getElem?_push_size]
/-- A list of ints appended to a slice of the call's own (not that of PushL: both would meet in one text). -/
theorem wpList_catS {ops : Array Oper} {rest : List Oper} {o : Oper} {a : Act} {Q : Exit → Act → World → Prop} (hgd : o.guard = none) (s x : Operand)
    (ho : o.op = .call { callee := .builtin .append, args := #[s, x], argTypes := #[24, 24] }) (base : Nat) (v : Value) (zs : List Int) (b off : Nat) (ys : List Int) (c : Nat) (V : World)
    (hs : a.eval s = v) (hx : a.eval x = .slice (some ⟨b, off, none⟩) ys.length c) (hown : OwnI V base v zs) (hsl : Sl V (some ⟨b, off, none⟩) ys) (hl : zs.length + ys.length ≤ 100000) (hbase : base ≤ V.heap.size)
    (h : ∀ v' w', OwnI w' base v' (zs ++ ys) → Below base V w' → wpList Tryz.prog ops Q rest (a.put o.dst v') w') : wpList Tryz.prog ops Q (o :: rest) a V := by
  obtain ⟨i0, hi, hz0, hz1, hz2⟩ := info_parts Tryz.infoInt
  refine wpList_append_own V hgd s x 24 ho base 3 i0 (.int .i64 0) 1 8 Tryz.underlying24 hi hz0 hz1 hz2 rfl (by decide) v zs.length (zs.map (Value.int .i64)) hs hown ⟨b, off, none⟩ ys.length c (ys.map (Value.int .i64)) hx (by simp) hsl.news (map_oneCell ys) (by unfold maxLen; omega) (by omega) hbase ?_
  intro v' w' h1 h2 h3
  refine h v' w' ?_ ((Below.refl base V).grown h2 hbase (fun k e => (World.ownsRow.lt hown k e).1))
  show w'.ownsRow _ _ _ _ _ _
  rw [List.length_append, List.map_append]; exact h1
/-- The rows of a list, the empty ones without memory. -/
def MsN (w : World) (a : Option Addr) (m : List (List Int)) : Prop := ∀ i, i < m.length → ∃ b off ai ci, a = some ⟨b, off, none⟩ ∧ w.cell? ⟨b, off + i, none⟩ = some (.slice ai (m[i]?.getD []).length ci) ∧ Sl w ai (m[i]?.getD []) ∧ (m[i]? = some [] → ai = none ∧ ci = 0)
theorem MsN.ms {w : World} {a : Option Addr} {m : List (List Int)} (h : MsN w a m) : Ms w a m := fun i hi => by
  obtain ⟨b, off, ai, ci, h1, h2, h3, _⟩ := h i hi
  exact ⟨b, off, ai, ci, h1, h2, h3⟩
theorem HR.msN {base : Nat} {rv : Value} {ads : List (Option Addr × Nat)} {M : List (List Int)} {w : World} (h : HR base rv ads M w) (hz : ads[0]? = some (none, 0)) (hn : ∀ i, M[i]? = some [] → i = 0) : ∃ a cap, rv = .slice a M.length cap ∧ MsN w a M := by
  rcases h.shape with ⟨e, h0⟩ | ⟨g, cap, e, _, _⟩
  · subst h0; exact ⟨none, 0, e, fun i hi => by simp at hi⟩
  · subst e
    refine ⟨some ⟨g, 0, none⟩, cap, rfl, fun i hi => ?_⟩
    obtain ⟨a, c, had, h1, _, h2, _⟩ := h.at hi
    refine ⟨g, 0, a, c, rfl, by rw [Nat.zero_add]; exact h1, h2, fun e => ?_⟩
    obtain rfl := hn i e
    have := had.symm.trans hz
    simp only [Option.some.injEq, Prod.mk.injEq] at this
    exact this
set_option maxRecDepth 1000000 in
set_option maxHeartbeats 4000000 in
theorem rsets_new (n : Nat) (hn : n ≤ 10) (w : World) : Calls Tryz.prog 70 #[.int .i64 n] w fun e w' => ∃ a c, e = .returned (.slice a (setsAll n).length c) ∧ MsN w' a (setsAll n) ∧ Below w.heap.size w w' := by
  have HL : Hid (∀ k, (madeS n k).length ≤ 1024) := fun k => by
    have h1 := congrArg List.length (madeS_all n k)
    rw [List.length_append] at h1
    have := setsAll_len n hn
    omega
  have H0 := Lib.hid (HR.lit w)
  have HB0 : Hid (Below w.heap.size w (w.alloc (.cells #[.slice none 0 0] 24))) := (Below.refl _ _).alloc (Nat.le_refl _) _
  go_enter Tryz.func70, Tryz.ntmps70
  go_wp2
  obtain ⟨V0, hV0⟩ : ∃ V0, w.alloc (.cells #[.slice none 0 0] 24) = V0 := ⟨_, rfl⟩
  rw [hV0] at H0 HB0
  (try rw [hV0])
  clear hV0
  go_loopw [3, 4] (fun v i wr => ∃ (k : Nat) (ads : List (Option Addr × Nat)), k ≤ (madeS n k).length ∧ i = .int .i64 k ∧ ads[0]? = some (none, 0) ∧ HR w.heap.size v ads (madeS n k) wr ∧ Below w.heap.size w wr) (fun _ i _ => (setsAll n).length - (intOf i).toNat)
  case atStart => exact ⟨0, [(none, 0)], Nat.zero_le _, rfl, rfl, H0.out, HB0.out⟩
  case round =>
    clear H0 HB0
    obtain ⟨k, ads, hk, rfl, hz, hO, hB⟩ := hrel
    have HZ := Lib.hid hz; clear hz
    have HO := Lib.hid hO; clear hO
    have HB := Lib.hid hB; clear hB
    obtain ⟨L, hL⟩ : ∃ L, (madeS n k).length = L := ⟨_, rfl⟩
    have HLL := Lib.hid hL
    rw [hL] at hk
    have hL1 : L ≤ 1024 := by rw [← hL]; exact HL.out k
    by_cases hlt : k < L
    · have hltM : k < (madeS n k).length := by rw [hL]; exact hlt
      obtain ⟨s, hs1, hs2, hs3⟩ := madeS_at hltM
      have HS3 : Hid (madeS n (k + 1) = madeS n k ++ extTo s (n - fromS s)) := by show _ = _; rw [hs3]; rfl
      have hmem := List.mem_of_getElem? hs2
      obtain ⟨hsl, hsr⟩ := setsAll_mem hmem
      have hF := fromS_le hmem
      have hkA : k < (setsAll n).length := (List.getElem?_eq_some_iff.1 hs2).1
      rcases HO.out.shape with ⟨_, hL0⟩ | ⟨g, lcap, rfl, hg1, hg2⟩
      · rw [hL0] at hltM; simp at hltM
      obtain ⟨a1, c1, had, hcell, hfr, hss, has⟩ := HO.out.at hltM
      rw [rowL_some hs1] at hcell hss
      have HAD := Lib.hid had
      have HSR := Lib.hid hsr
      have HS1 := Lib.hid hs1
      have HAS := Lib.hid has
      have HSS := Lib.hid hss
      have HKA := Lib.hid hkA
      rw [hL] at HO
      simp only [hL] at hcell ⊢
      obtain ⟨ls, hls⟩ : ∃ ls, s.length = ls := ⟨_, rfl⟩
      have HLS := Lib.hid hls
      rw [hls] at hcell
      have hls10 : ls ≤ 10 := by omega
      have HEX : Hid (∀ d, d ≤ n - fromS s → (madeS n k ++ extTo s d).length ≤ 1024) := fun d hd => by
        have := HL.out (k + 1)
        rw [HS3.out, List.length_append, extTo_len] at this
        rw [List.length_append, extTo_len]; omega
      have HSN : Hid (s = [] → a1 = none ∧ c1 = 0) := fun e => by
        subst e
        have h0 := setsAll_nil hs2
        subst h0
        have := HAD.out.symm.trans HZ.out
        simp only [Option.some.injEq, Prod.mk.injEq] at this
        exact this
      have HF := Lib.hid hF
      obtain ⟨F, hFF⟩ : ∃ F, fromS s = F := ⟨_, rfl⟩
      have HFF := Lib.hid hFF
      rw [hFF] at hF HS3 HEX
      clear hfr hss has had hs1 hs2 hs3 hmem hsr hsl hL hltM hkA
      by_cases h0 : ls = 0
      · subst h0
        have hs0 : s = [] := List.eq_nil_of_length_eq_zero HLS.out
        subst hs0
        obtain ⟨ha0, hc0⟩ := HSN.out rfl
        subst ha0
        subst hc0
        obtain rfl : (0 : Nat) = F := HFF.out
        go_wp2
        clear hcell
        go_loopw [3, 7] (fun v i wr2 => ∃ (d : Nat) (more : List (Option Addr × Nat)), d ≤ n - 0 ∧ i = .int .i64 ((0 + d : Nat) : Int) ∧ HR w.heap.size v (ads ++ more) (madeS n k ++ extTo [] d) wr2 ∧ Below w.heap.size w wr2) (fun _ i _ => n - (intOf i).toNat)
        case atStart => exact ⟨0, [], Nat.zero_le _, rfl, by rw [List.append_nil]; simpa [extTo] using HO.out, HB.out⟩
        case round =>
          obtain ⟨d, more, hd, rfl, hO2, hB2⟩ := hrel
          have HO2 := Lib.hid hO2; clear hO2
          have HB2 := Lib.hid hB2; clear hB2
          obtain ⟨M2, hM2⟩ : ∃ M2, madeS n k ++ extTo [] d = M2 := ⟨_, rfl⟩
          have HM2 := Lib.hid hM2
          obtain ⟨A2, hA2⟩ : ∃ A2, ads ++ more = A2 := ⟨_, rfl⟩
          have HA2 := Lib.hid hA2
          rw [hM2, hA2] at HO2
          clear hM2 hA2
          by_cases hlt2 : 0 + d < n
          · have HLM : Hid (M2.length ≤ 100000) := by show _ ≤ _; rw [← HM2.out]; have := HEX.out d hd; omega
            have HSX : Hid (M2 ++ [[] ++ [(d : Int)]] = madeS n k ++ extTo [] (d + 1)) := by
              show _ = _
              have e := extTo_succ [] d
              rw [HFF.out, show ((0 + d : Nat) : Int) = (d : Int) by omega] at e
              rw [← HM2.out, e, List.append_assoc]
            have HS2 : Hid (Sl wr none []) := by
              show Sl wr none []
              exact HO2.out.row k (none, 0) [] (by rw [← HA2.out, List.getElem?_append_left (List.getElem?_eq_some_iff.1 HAD.out).1]; exact HAD.out) (by rw [← HM2.out, List.getElem?_append_left (List.getElem?_eq_some_iff.1 HS1.out).1]; exact HS1.out)
            have HOE := Lib.hid (own_lit0 wr)
            have HBE : Hid (Below wr.heap.size wr (wr.alloc (.cells #[] 3))) := (Below.refl _ _).alloc (Nat.le_refl _) _
            have hFd : -9223372036854775808 ≤ ((0 + d : Nat) : Int) + 1 ∧ ((0 + d : Nat) : Int) + 1 ≤ 9223372036854775807 := by omega
            have HO1 := HOE
            have HBW5 := HBE
            go_wp2_with (first
              | (at_builtin; (refine wpList_push rfl (.tmp 38) (.tmp 40) rfl wr.heap.size _ [] _ _ _ _ rfl rfl (World.size_alloc _ _).symm HO1.out (by have := HLS.out; omega) HBW5.out.size ?_; intro v2 w6 ho2 hb2; generalize hq : [] ++ [(d : Int)] = q at ho2; have HQ := Lib.hid hq; clear hq; obtain ⟨a2, c2, rfl, s2, l2⟩ := ho2.parts; have hbw6 := HBW5.out.trans hb2; have HS6 := Lib.hid s2; have HL6 := Lib.hid l2; have HBW6 := Lib.hid hbw6; clear ho2 s2 l2 hbw6 hb2))
              | (at_builtin; (refine wpList_pushHR rfl (.tmp 35) (.tmp 42) rfl w.heap.size _ A2 M2 q _ rfl a2 c2 _ _ _ rfl rfl rfl (HO2.out.below HBW6.out) HS6.out (fun ad e => ⟨(HL6.out ad e).1, fun e2 => by have := (World.ownsRow.lt HO2.out.own _ e2).2; have := (HL6.out ad e).2; omega⟩) HLM.out (Nat.le_trans HB2.out.size HBW6.out.size) ?_; intro g' cap' w7 ho3 _ hb3 _)))
            have HO3 := Lib.hid ho3; clear ho3
            have HB3 : Hid (Below w.heap.size w w7) := (Below.next HB2.out HBW6.out (Nat.le_refl _)).trans hb3
            clear hb3
            go_roundw
            case rel => exact ⟨d + 1, more ++ [(a2, c2)], by omega, by go_num, by rw [← HSX.out, ← List.append_assoc, HA2.out, HQ.out]; exact HO3.out, HB3.out⟩
            case measure => simp [intOf]; omega
          · have hdn : d = n - 0 := by omega
            have HN1 : Hid (M2 = madeS n (k + 1)) := by show _ = _; rw [← HM2.out, hdn, HS3.out]
            have HLN : Hid (k + 1 ≤ (madeS n (k + 1)).length) := by show _ ≤ _; rw [HS3.out, List.length_append, HLL.out]; omega
            rw [HN1.out] at HO2
            go_wp2
            go_roundw
            case rel => exact ⟨k + 1, A2, HLN.out, by go_num, (by rw [← HA2.out, List.getElem?_append_left (List.getElem?_eq_some_iff.1 HZ.out).1]; exact HZ.out), HO2.out, HB2.out⟩
            case measure => simp [intOf]; have := HKA.out; omega
      · obtain ⟨r, rfl⟩ : ∃ r, ls = r + 1 := ⟨ls - 1, by omega⟩
        have hr1 : ((r + 1 : Nat) : Int) - 1 = (r : Int) := by omega
        have hr0 : (0 : Int) < ((r + 1 : Nat) : Int) := by omega
        have hr2 : (r : Int) < ((r + 1 : Nat) : Int) := by omega
        obtain ⟨sb, so, y, rfl, hcy, hy⟩ := HSS.out.at (k := r) (by rw [HLS.out]; omega)
        have hgy := gt_some' hy.out
        have hyF : y + 1 = (F : Int) := by
          have h1 := HFF.out
          unfold fromS at h1
          rw [HLS.out, if_neg (by omega), Nat.add_sub_cancel, hgy] at h1
          have h2 := HSR.out y (List.mem_of_getElem? hy.out)
          omega
        have hyb : -9223372036854775808 ≤ y + 1 ∧ y + 1 ≤ 9223372036854775807 := by omega
        have hyw : IntKind.i64.wrap (y + 1) = (F : Int) := by rw [wrap_id hyb.1 hyb.2]; exact hyF
        clear hgy hy h0
        go_wp2
        clear hcell
        go_loopw [3, 7] (fun v i wr2 => ∃ (d : Nat) (more : List (Option Addr × Nat)), d ≤ n - F ∧ i = .int .i64 ((F + d : Nat) : Int) ∧ HR w.heap.size v (ads ++ more) (madeS n k ++ extTo s d) wr2 ∧ Below w.heap.size w wr2) (fun _ i _ => n - (intOf i).toNat)
        case atStart => exact ⟨0, [], Nat.zero_le _, rfl, by rw [List.append_nil]; simpa [extTo] using HO.out, HB.out⟩
        case round =>
          obtain ⟨d, more, hd, rfl, hO2, hB2⟩ := hrel
          have HO2 := Lib.hid hO2; clear hO2
          have HB2 := Lib.hid hB2; clear hB2
          obtain ⟨M2, hM2⟩ : ∃ M2, madeS n k ++ extTo s d = M2 := ⟨_, rfl⟩
          have HM2 := Lib.hid hM2
          obtain ⟨A2, hA2⟩ : ∃ A2, ads ++ more = A2 := ⟨_, rfl⟩
          have HA2 := Lib.hid hA2
          rw [hM2, hA2] at HO2
          clear hM2 hA2
          by_cases hlt2 : F + d < n
          · have HLM : Hid (M2.length ≤ 100000) := by show _ ≤ _; rw [← HM2.out]; have := HEX.out d hd; omega
            have HSX : Hid (M2 ++ [s ++ [((F : Int) + (d : Int))]] = madeS n k ++ extTo s (d + 1)) := by
              show _ = _
              have e := extTo_succ s d
              rw [HFF.out, show ((F + d : Nat) : Int) = ((F : Int) + (d : Int)) by omega] at e
              rw [← HM2.out, e, List.append_assoc]
            have HS2 : Hid (Sl wr (some ⟨sb, so, none⟩) s) := by
              show Sl wr (some ⟨sb, so, none⟩) s
              exact HO2.out.row k ((some ⟨sb, so, none⟩), c1) s (by rw [← HA2.out, List.getElem?_append_left (List.getElem?_eq_some_iff.1 HAD.out).1]; exact HAD.out) (by rw [← HM2.out, List.getElem?_append_left (List.getElem?_eq_some_iff.1 HS1.out).1]; exact HS1.out)
            have HOE := Lib.hid (own_lit0 wr)
            have HBE : Hid (Below wr.heap.size wr (wr.alloc (.cells #[] 3))) := (Below.refl _ _).alloc (Nat.le_refl _) _
            have hFd : -9223372036854775808 ≤ ((F + d : Nat) : Int) + 1 ∧ ((F + d : Nat) : Int) + 1 ≤ 9223372036854775807 := by omega
            go_wp2_with (first
              | (at_builtin; refine wpList_catS rfl (.tmp 36) (.tmp 37) rfl wr.heap.size _ [] sb so s c1 _ rfl (by rw [HLS.out]; rfl) HOE.out (HS2.out.below HBE.out) (by have := HLS.out; simp; omega) HBE.out.size ?_; intro v1 w5 ho1 hb1; rw [List.nil_append] at ho1; have hbw5 := HBE.out.trans hb1; have HO1 := Lib.hid ho1; have HBW5 := Lib.hid hbw5; clear ho1 hbw5 hb1)
              | (at_builtin; (refine wpList_push rfl (.tmp 38) (.tmp 40) rfl wr.heap.size _ s _ _ _ _ rfl rfl rfl HO1.out (by have := HLS.out; omega) HBW5.out.size ?_; intro v2 w6 ho2 hb2; generalize hq : s ++ [((F : Int) + (d : Int))] = q at ho2; have HQ := Lib.hid hq; clear hq; obtain ⟨a2, c2, rfl, s2, l2⟩ := ho2.parts; have hbw6 := HBW5.out.trans hb2; have HS6 := Lib.hid s2; have HL6 := Lib.hid l2; have HBW6 := Lib.hid hbw6; clear ho2 s2 l2 hbw6 hb2))
              | (at_builtin; (refine wpList_pushHR rfl (.tmp 35) (.tmp 42) rfl w.heap.size _ A2 M2 q _ rfl a2 c2 _ _ _ rfl rfl rfl (HO2.out.below HBW6.out) HS6.out (fun ad e => ⟨(HL6.out ad e).1, fun e2 => by have := (World.ownsRow.lt HO2.out.own _ e2).2; have := (HL6.out ad e).2; omega⟩) HLM.out (Nat.le_trans HB2.out.size HBW6.out.size) ?_; intro g' cap' w7 ho3 _ hb3 _)))
            have HO3 := Lib.hid ho3; clear ho3
            have HB3 : Hid (Below w.heap.size w w7) := (Below.next HB2.out HBW6.out (Nat.le_refl _)).trans hb3
            clear hb3
            go_roundw
            case rel => exact ⟨d + 1, more ++ [(a2, c2)], by omega, by go_num, by rw [← HSX.out, ← List.append_assoc, HA2.out, HQ.out]; exact HO3.out, HB3.out⟩
            case measure => simp [intOf]; omega
          · have hdn : d = n - F := by omega
            have HN1 : Hid (M2 = madeS n (k + 1)) := by show _ = _; rw [← HM2.out, hdn, HS3.out]
            have HLN : Hid (k + 1 ≤ (madeS n (k + 1)).length) := by show _ ≤ _; rw [HS3.out, List.length_append, HLL.out]; omega
            rw [HN1.out] at HO2
            go_wp2
            go_roundw
            case rel => exact ⟨k + 1, A2, HLN.out, by go_num, (by rw [← HA2.out, List.getElem?_append_left (List.getElem?_eq_some_iff.1 HZ.out).1]; exact HZ.out), HO2.out, HB2.out⟩
            case measure => simp [intOf]; have := HKA.out; omega
    · obtain rfl : L = k := by omega
      obtain ⟨e1, e2⟩ := madeS_end (n := n) (k := L) (by rw [HLL.out]; exact Nat.le_refl _)
      have HO2 := HO.out
      rw [e1] at HO2
      obtain ⟨oa, oc, hov, hom⟩ := HO2.msN HZ.out fun i hi => setsAll_nil hi
      subst hov
      have HLE : Hid ((setsAll n).length = L) := by show _ = _; rw [← e1]; exact HLL.out
      have HOM := Lib.hid hom
      rw [HLE.out]
      clear hom HO2 e1 e2 HO hL hk hlt
      go_wp2
      go_ret
      exact ⟨oa, oc, by rw [HLE.out]; rfl, HOM.out, HB.out⟩
theorem rsets_any (n : Nat) (hn : n ≤ 10) (w : World) : Calls Tryz.prog 70 #[.int .i64 n] w fun e w' => ∃ a c, e = .returned (.slice a (setsAll n).length c) ∧ Ms w' a (setsAll n) ∧ Below w.heap.size w w' := by
  refine (rsets_new n hn w).mono ?_
  rintro e w' ⟨a, c, h1, h2, h3⟩
  exact ⟨a, c, h1, h2.ms, h3⟩
end Go.Proofs.YtfnomiingelfaaaGreat
/- A circuit on a set, as the answers find it: the kernel of the set's columns, put and signed. Plain words. -/
namespace Go.Proofs.YtfnomiingelfaaaGreat
open Go.RowKit

/-- The kernel of a set's columns. -/
def kerO (m : List (List Int)) (px : List Int) : List (List Int) := kerR (redR (pixM px m) px.length) px.length px.length
theorem kernel_on {m : List (List Int)} (hv : validM m = true) {px : List Int} (hpx : pxOk m px) : kerO m px = (freeTo (redN m px).piv px.length).map fun c => shortL (kvec (redN m px) px.length c.toNat) := by
  have h := redN_fin hv (px := px) hpx
  rw [← pixM_len px m] at h
  exact (ker_same (by rw [pixM_len]; exact (validM_of hv).2.1) pix_row (pix_bd hv hpx) h).2 _ (Nat.le_refl _)
theorem kernel_one {m : List (List Int)} (hv : validM m = true) {px : List Int} (hpx : pxOk m px) (h1 : (kerO m px).length = 1) : rowL (kerO m px) 0 = partC m px := by
  have e := kernel_on hv hpx
  rw [e, List.length_map] at h1
  obtain ⟨c, hc⟩ := List.length_eq_one_iff.1 h1
  rw [e]
  unfold partC
  rw [hc]
  rfl
theorem circB_is {m : List (List Int)} (hv : validM m = true) {px : List Int} (hpx : pxOk m px) : circB m px = (decide ((kerO m px).length = 1) && !decide ((0 : Int) ∈ rowL (kerO m px) 0)) := by
  by_cases h1 : (kerO m px).length = 1
  · rw [kernel_one hv hpx h1]
    have e := kernel_on hv hpx
    rw [e, List.length_map] at h1
    have h2 := h1
    unfold circB
    rw [e, List.length_map, h2]
  · have e := kernel_on hv hpx
    have h2 := h1
    rw [e, List.length_map] at h2
    unfold circB
    simp [h1, h2]
theorem partC_len (m : List (List Int)) (px : List Int) : (partC m px).length = px.length := by
  unfold partC
  rw [short_len]
  unfold kvec
  rw [kerTo_len]
theorem neg_is (y : Int) : IntKind.i64.wrap (y * -1) = IntKind.i64.wrap (-y) := by rw [show y * -1 = -y by omega]
theorem gt_neg (xs : List Int) (k : Nat) : gt (negL xs) k = IntKind.i64.wrap (-gt xs k) := by
  unfold negL gt
  rw [List.getElem?_map]
  cases xs[k]? with
  | none => rfl
  | some y => rfl
/-- Turned round before or behind: the same. -/
theorem putTo_neg (n : Nat) (px part : List Int) : ∀ k, putTo n px (negL part) k = mulL (-1) (putTo n px part k)
  | 0 => by
    show List.replicate n 0 = mulL (-1) (List.replicate n 0)
    unfold mulL
    rw [List.map_replicate]; rfl
  | k + 1 => by
    show (putTo n px (negL part) k).set (gt px k).toNat (gt (negL part) k) = mulL (-1) ((putTo n px part k).set (gt px k).toNat (gt part k))
    rw [putTo_neg n px part k, gt_neg]
    unfold mulL
    rw [List.map_set, neg_is]
theorem circH_is (m : List (List Int)) (px : List Int) : circH m px = if gt (partC m px) 0 < 0 then mulL (-1) (putTo (colsM m) px (partC m px) px.length) else putTo (colsM m) px (partC m px) px.length := by
  unfold circH signC
  split
  · exact putTo_neg _ _ _ _
  · rfl
/-- The first number of a list is below the others. -/
theorem compl_head {n r : Nat} {s : List Int} (h : s ∈ compl n r 0) {k : Nat} (h0 : 0 < k) (hk : k < s.length) : 0 ≤ gt s 0 ∧ gt s 0 < gt s k ∧ gt s k < n := by
  cases r with
  | zero =>
    have := (compl_mem h).1
    omega
  | succ r =>
    unfold compl at h
    obtain ⟨d, _, h2⟩ := List.mem_flatMap.1 h
    obtain ⟨t, ht, rfl⟩ := List.mem_map.1 h2
    obtain ⟨_, h4⟩ := compl_mem ht
    obtain ⟨j, rfl⟩ : ∃ j, k = j + 1 := ⟨k - 1, by omega⟩
    have hj : j < t.length := by simpa using hk
    have e : gt (((0 + d : Nat) : Int) :: t) (j + 1) = t[j] := by unfold gt; simp [hj]
    have e0 : gt (((0 + d : Nat) : Int) :: t) 0 = ((0 + d : Nat) : Int) := rfl
    have := h4 _ (List.getElem_mem hj)
    rw [e, e0]
    omega
theorem gt_set_far {ys : List Int} {i j : Nat} {v : Int} (h : i ≠ j) : gt (ys.set i v) j = gt ys j := by unfold gt; rw [List.getElem?_set_ne h]
theorem putTo_first {n : Nat} {px part : List Int} (hn : ∀ k, 0 < k → k < px.length → (gt px k).toNat ≠ (gt px 0).toNat) (h0 : (gt px 0).toNat < n) : ∀ k, k < px.length → gt (putTo n px part (k + 1)) (gt px 0).toNat = gt part 0
  | 0, _ => by
    show gt ((putTo n px part 0).set (gt px 0).toNat (gt part 0)) _ = _
    rw [gt_set (by rw [putTo_len]; exact h0), if_pos rfl]
  | k + 1, hk => by
    show gt ((putTo n px part (k + 1)).set (gt px (k + 1)).toNat (gt part (k + 1))) _ = _
    have hne := hn (k + 1) (by omega) hk
    have ih := putTo_first hn h0 (part := part) k (by omega)
    rw [gt_set_far hne]
    exact ih
end Go.Proofs.YtfnomiingelfaaaGreat
