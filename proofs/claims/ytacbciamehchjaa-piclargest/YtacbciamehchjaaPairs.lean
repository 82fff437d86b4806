
/- The iterator over pairs of indexes that differ in one bit: its contract (layer 1, pairs). -/
import Derived.RangeFuncNested
import Derived.RangeFuncBound
import Derived.RangeFuncCalls
import Derived.RangeFuncLeaves
import Derived.Shelf.Abstract
import Derived.Shelf.RegionOpen
import Derived.OwnWalkIn
import Derived.TacticsInMore
import Derived.LoopNIn
import Derived.LoopIn
import Derived.Laws.BitsAllLaws
import Derived.Test.YtacbciamehchjaaOwn
namespace Go.Proofs.Ytacbciamehchjaa
open Go.RowKit Go.Shelf
attribute [local go_sem] Oper.semAt_some

theorem i64_and (a b : Nat) (ha : a < 4294967296) (hb : b < 4294967296) : bits .and .i64 (a : Int) (b : Int) = ((a &&& b : Nat) : Int) := by
  have hx : a &&& b < 2 ^ 32 := Nat.and_lt_two_pow _ (by omega)
  show IntKind.i64.wrap ((BitVec.ofInt 64 (a : Int) &&& BitVec.ofInt 64 (b : Int)).toNat : Int) = _
  rw [BitVec.toNat_and, ofInt_u64 a (by omega), ofInt_u64 b (by omega), IntWalk.i64_in _ (by omega)]
theorem i64_or (a b : Nat) (ha : a < 4294967296) (hb : b < 4294967296) : bits .or .i64 (a : Int) (b : Int) = ((a ||| b : Nat) : Int) := by
  have hx : a ||| b < 2 ^ 32 := Nat.or_lt_two_pow (by omega) (by omega)
  show IntKind.i64.wrap ((BitVec.ofInt 64 (a : Int) ||| BitVec.ofInt 64 (b : Int)).toNat : Int) = _
  rw [BitVec.toNat_or, ofInt_u64 a (by omega), ofInt_u64 b (by omega), IntWalk.i64_in _ (by omega)]

/-- Two places below N, the lesser one first. -/
abbrev PN (N : Nat) := { p : Nat × Nat // p.1 < p.2 ∧ p.2 < N }
abbrev encP {N : Nat} (x : PN N) : Array Value := #[.int .i64 (x.1.1 : Int), .int .i64 (x.1.2 : Int)]
/-- The pair at i, if i does not have the bit. -/
def pairAt (N bit i : Nat) : Option (PN N) := if h : i &&& bit = 0 ∧ i < i ||| bit ∧ i ||| bit < N then some ⟨(i, i ||| bit), h.2⟩ else none
/-- The pairs at the first k indexes. -/
def pairsTo (N bit k : Nat) : List (PN N) := (List.range k).filterMap (pairAt N bit)
theorem pairsTo_succ (N bit k : Nat) : pairsTo N bit (k + 1) = pairsTo N bit k ++ (pairAt N bit k).toList := by
  simp only [pairsTo, List.range_succ, List.filterMap_append]
  cases h : pairAt N bit k <;> simp [h]
theorem pairsTo_length (N bit k : Nat) : (pairsTo N bit k).length ≤ k := by
  have := List.length_filterMap_le (pairAt N bit) (List.range k)
  simpa [pairsTo] using this
theorem pairsTo_yes {N bit k : Nat} (h : k &&& bit = 0) (hk : k < k ||| bit) (hb : k ||| bit < N) : pairsTo N bit (k + 1) = pairsTo N bit k ++ [⟨(k, k ||| bit), hk, hb⟩] := by
  rw [pairsTo_succ]; simp [pairAt, h, hk, hb]
theorem pairsTo_no {N bit k : Nat} (h : ¬ k &&& bit = 0) : pairsTo N bit (k + 1) = pairsTo N bit k := by
  rw [pairsTo_succ]; simp [pairAt, h]

/-- What a round must keep: the box of the bit. -/
def keepC (B : Nat) (W W' : World) : Prop := W'.cell? ⟨B, 0, none⟩ = W.cell? ⟨B, 0, none⟩
theorem keepC_t {B : Nat} {A W C : World} (h : keepC B A W) (k : keepC B W C) : keepC B A C := Eq.trans k h
theorem keepC_b {B : Nat} {w : World} (hB : B < w.heap.size) (W : World) (l : Nat) (o o' : Obj) (hl : w.heap.size ≤ l) (_ : W.heap[l]? = some o) (_ : o.isCells = false) (_ : o.isWalk = false) : keepC B W (W.putObj l o') :=
  World.cell?_of_block (World.putObj_heap_other (by show B ≠ l; omega))

set_option maxRecDepth 100000 in
set_option maxHeartbeats 2000000 in
theorem pairs1_in (F : Fence) (n : Nat) (hf : F.fn 96) (hro : F.round = none) (hn : 1 ≤ n) (l B1 B2 N bit : Nat) (hN : N ≤ 65536) (hbit : bit ≤ 65536) (hor : ∀ k, k < N → k &&& bit = 0 → k < k ||| bit ∧ k ||| bit < N) (J Jx : List (PN N) → World → Prop)
    (hY : ∀ pre x W, J pre W → pre.length < N → YieldAt F (n - 1) Try.prog l (encP x) W fun e W' =>
      (e = .returned (.bool true) ∧ J (pre ++ [x]) W' ∧ keepC B2 W W') ∨ (e = .returned (.bool false) ∧ Jx (pre ++ [x]) W'))
    (W : World) (hB1 : W.cell? ⟨B1, 0, none⟩ = some (.int .i64 N)) (hB2 : W.cell? ⟨B2, 0, none⟩ = some (.int .i64 bit)) (h0 : J [] W) :
    CallsIn F n Try.prog 96 #[.func (.yield l) #[] #[], .pointer (some ⟨B1, 0, none⟩), .pointer (some ⟨B2, 0, none⟩)] W fun e W' => (∃ v, e = .returned v) ∧
      ((∃ ys, ys = pairsTo N bit N ∧ J ys W') ∨ (∃ pre, True ∧ Jx pre W')) := by
  have HO := Lib.hid hor; clear hor
  refine callsIn_of_wp Try.func96 rfl hf ?_ hro
  simp only [Try.ntmps96, List.size_toArray, List.length_cons, List.length_nil, Nat.reduceAdd, Nat.reduceSub, Array.replicate_succ, Array.replicate_zero, List.push_toArray, List.append_toArray, List.nil_append, List.cons_append]
  gi_wp2
  gi_loopw [6] (fun i wr => ∃ k : Nat, k ≤ N ∧ i = .int .i64 k ∧ J (pairsTo N bit k) wr ∧ wr.cell? ⟨B2, 0, none⟩ = some (.int .i64 bit)) (fun i _ => N - (intOf i).toNat)
  case atStart => exact ⟨0, Nat.zero_le _, rfl, h0, hB2⟩
  case round =>
    obtain ⟨k, hk, rfl, hJs, hc2⟩ := hrel
    by_cases hlt : k < N
    · have ha := i64_and k bit (by omega) (by omega)
      have ho := i64_or k bit (by omega) (by omega)
      by_cases hz : k &&& bit = 0
      · have hz' : (((k &&& bit : Nat) : Int) == 0) = true := by rw [hz]; rfl
        have HZ := Lib.hid hz; clear hz
        obtain ⟨fn, tmps, assign, body, hy, hR⟩ := hY _ ⟨(k, k ||| bit), HO.out k hlt HZ.out⟩ wr hJs (Nat.lt_of_le_of_lt (pairsTo_length _ _ _) hlt)
        dsimp only [encP] at hy
        gi_wp2
        refine hR.mono ?_
        rintro e W3 (⟨rfl, hJ3, hk3⟩ | ⟨rfl, hJx3⟩)
        · have hc3 : W3.cell? ⟨B2, 0, none⟩ = some (.int .i64 bit) := Eq.trans hk3 hc2
          have HK := Lib.hid hk3; clear hk3
          gi_wp2
          go_roundw
          case rel => exact ⟨k + 1, by omega, by simp, by rw [pairsTo_yes HZ.out (HO.out k hlt HZ.out).1 (HO.out k hlt HZ.out).2]; exact hJ3, hc3⟩
          case measure => simp [intOf]; omega
        · gi_wp2
          refine bodyPost_ret (results_none rfl _ _ _) rfl ?_
          exact ⟨⟨_, rfl⟩, .inr ⟨_, trivial, hJx3⟩⟩
      · have hz' : (((k &&& bit : Nat) : Int) == 0) = false := by simp; omega
        have HZ := Lib.hid hz; clear hz
        gi_wp2
        refine ⟨fun _ h => (by cases h), ?_⟩
        gi_wp2
        go_roundw
        case rel => exact ⟨k + 1, by omega, by simp, by rw [pairsTo_no HZ.out]; exact hJs, hc2⟩
        case measure => simp [intOf]; omega
    · obtain rfl : k = N := by omega
      gi_wp2
      go_end0
      exact ⟨⟨_, rfl⟩, .inl ⟨_, rfl, hJs⟩⟩

/-- **pairs(n, bit)**: the function value over the two boxes. -/
theorem pairs_any (N bit : Nat) (w : World) :
    Calls Try.prog 75 #[.int .i64 N, .int .i64 bit] w fun e w' =>
      e = .returned (.func (.func 96) #[] #[.pointer (some ⟨w.heap.size, 0, none⟩), .pointer (some ⟨w.heap.size + 1, 0, none⟩)]) ∧ w' = (w.alloc (.cells #[.int .i64 N] 3)).alloc (.cells #[.int .i64 bit] 3) := by
  go_enter Try.func75, Try.ntmps75
  go_wp2
  go_ret
  exact ⟨rfl, rfl⟩

/-- **What pairs(n, bit) hands back gives all pairs, in order, to every loop body that keeps the bit's box.** -/
theorem pairs_stops (F : Fence) (n : Nat) (hf : F.fn 96) (hro : F.round = none) (hn : 1 ≤ n) (B1 B2 N bit : Nat) (hN : N ≤ 65536) (hbit : bit ≤ 65536) (hor : ∀ k, k < N → k &&& bit = 0 → k < k ||| bit ∧ k ||| bit < N) (w : World)
    (hB1 : w.cell? ⟨B1, 0, none⟩ = some (.int .i64 N)) (hB2 : w.cell? ⟨B2, 0, none⟩ = some (.int .i64 bit)) :
    SeqStopsK F n Try.prog 96 #[.pointer (some ⟨B1, 0, none⟩), .pointer (some ⟨B2, 0, none⟩)] (encP (N := N)) (keepC B2) (fun ys => ys = pairsTo N bit N) (fun _ => True) N w := fun l J Jx W hW _ _ hY h0 =>
  pairs1_in F n hf hro hn l B1 B2 N bit hN hbit hor J Jx hY W ((hW.cell (p := ⟨B1, 0, none⟩) (cell_lt hB1)).trans hB1) ((hW.cell (p := ⟨B2, 0, none⟩) (cell_lt hB2)).trans hB2) h0
end Go.Proofs.Ytacbciamehchjaa
