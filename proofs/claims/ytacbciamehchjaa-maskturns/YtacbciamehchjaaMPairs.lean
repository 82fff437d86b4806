
/- The iterator over pairs of columns i < j of a mask: its contract (layer 2, pairs). -/
import Derived.RangeFuncNested
import Derived.RangeFuncBound
import Derived.RangeFuncCalls
import Derived.RangeFuncLeaves
import Derived.RangeFuncBox
import Derived.Shelf.Abstract
import Derived.Shelf.RegionOpen
import Derived.OwnWalkIn
import Derived.TacticsInMore
import Derived.LoopNIn
import Derived.LoopIn
import Derived.Test.YtacbciamehchjaaOwnW
import Derived.Test.YtacbciamehchjaaMLike
namespace Go.Proofs.Ytacbciamehchjaa
open Go.RowKit Go.Shelf
attribute [local go_sem] Oper.semAt_some

/-- Two places below N, the lesser one first. -/
abbrev PN (N : Nat) := { p : Nat × Nat // p.1 < p.2 ∧ p.2 < N }
abbrev encP {N : Nat} (x : PN N) : Array Value := #[.int .i64 (x.1.1 : Int), .int .i64 (x.1.2 : Int)]
def pairP (N i j : Nat) : Option (PN N) := if h : i < j ∧ j < N then some ⟨(i, j), h⟩ else none
/-- The pairs of i with the columns below j. -/
def rowPN (N i j : Nat) : List (PN N) := (List.range j).filterMap (pairP N i)
/-- The pairs of the first k columns with all. -/
def upPN (N k : Nat) : List (PN N) := (List.range k).flatMap fun i => rowPN N i N
theorem rowPN_start (N i : Nat) : rowPN N i (i + 1) = [] := by
  unfold rowPN
  rw [List.filterMap_eq_nil_iff]
  intro j hj
  have := List.mem_range.1 hj
  unfold pairP; rw [dif_neg (by omega)]
theorem rowPN_succ {N i j : Nat} (h : i < j) (hj : j < N) : rowPN N i (j + 1) = rowPN N i j ++ [⟨(i, j), h, hj⟩] := by
  unfold rowPN
  rw [List.range_succ, List.filterMap_append]
  simp [pairP, h, hj]
theorem upPN_succ (N k : Nat) : upPN N (k + 1) = upPN N k ++ rowPN N k N := by
  unfold upPN; rw [List.range_succ, List.flatMap_append]; simp
theorem rowPN_length (N i j : Nat) : (rowPN N i j).length ≤ j := by
  have := List.length_filterMap_le (pairP N i) (List.range j)
  simpa [rowPN] using this
theorem upPN_length (N : Nat) : ∀ k, (upPN N k).length ≤ k * N
  | 0 => by simp [upPN]
  | k + 1 => by
    have h1 := upPN_length N k
    have h2 := rowPN_length N k N
    rw [upPN_succ, List.length_append, Nat.add_mul, Nat.one_mul]; omega
theorem mem_upPN {N : Nat} (x : PN N) : x ∈ upPN N N := by
  obtain ⟨⟨i, j⟩, h1, h2⟩ := x
  unfold upPN rowPN
  rw [List.mem_flatMap]
  refine ⟨i, List.mem_range.2 (Nat.lt_trans h1 h2), ?_⟩
  rw [List.mem_filterMap]
  exact ⟨j, List.mem_range.2 h2, by unfold pairP; rw [dif_pos ⟨h1, h2⟩]⟩
/-- What a round must keep: the mask's box and the first row's header. -/
def keepM (B b o : Nat) (W W' : World) : Prop := W'.cell? ⟨B, 0, none⟩ = W.cell? ⟨B, 0, none⟩ ∧ W'.cell? ⟨b, o, none⟩ = W.cell? ⟨b, o, none⟩
theorem keepM_t {B b o : Nat} {A W C : World} (h : keepM B b o A W) (k : keepM B b o W C) : keepM B b o A C := ⟨Eq.trans k.1 h.1, Eq.trans k.2 h.2⟩
theorem keepM_b {B b o : Nat} {w : World} (hB : B < w.heap.size) (hb : b < w.heap.size) (W : World) (l : Nat) (ob o' : Obj) (hl : w.heap.size ≤ l) (_ : W.heap[l]? = some ob) (_ : ob.isCells = false) (_ : ob.isWalk = false) : keepM B b o W (W.putObj l o') :=
  ⟨World.cell?_of_block (World.putObj_heap_other (by show B ≠ l; omega)), World.cell?_of_block (World.putObj_heap_other (by show b ≠ l; omega))⟩

set_option maxRecDepth 100000 in
set_option maxHeartbeats 2000000 in
theorem mpairs1_in (F : Fence) (n : Nat) (hf : F.fn 70) (hro : F.round = none) (hn : 1 ≤ n) (l B b o M cap N c0 : Nat) (a0 : Option Addr) (hM : 1 ≤ M) (hN : N ≤ 10) (J Jx : List (PN N) → World → Prop)
    (hY : ∀ pre x W, J pre W → pre.length < 1000 → YieldAt F (n - 1) Try.prog l (encP x) W fun e W' =>
      (e = .returned (.bool true) ∧ J (pre ++ [x]) W' ∧ keepM B b o W W') ∨ (e = .returned (.bool false) ∧ Jx (pre ++ [x]) W'))
    (W : World) (hB1 : W.cell? ⟨B, 0, none⟩ = some (.slice (some ⟨b, o, none⟩) M cap)) (hB2 : W.cell? ⟨b, o, none⟩ = some (.slice a0 N c0)) (h0 : J [] W) :
    CallsIn F n Try.prog 70 #[.func (.yield l) #[] #[], .pointer (some ⟨B, 0, none⟩)] W fun e W' => (∃ v, e = .returned v) ∧
      ((∃ ys, ys = upPN N N ∧ J ys W') ∨ (∃ pre, True ∧ Jx pre W')) := by
  refine callsIn_of_wp Try.func70 rfl hf ?_ hro
  simp only [Try.ntmps70, List.size_toArray, List.length_cons, List.length_nil, Nat.reduceAdd, Nat.reduceSub, Array.replicate_succ, Array.replicate_zero, List.push_toArray, List.append_toArray, List.nil_append, List.cons_append]
  gi_wp2
  gi_loopw [9] (fun i wr => ∃ k : Nat, k ≤ N ∧ i = .int .i64 k ∧ J (upPN N k) wr ∧ wr.cell? ⟨B, 0, none⟩ = some (.slice (some ⟨b, o, none⟩) M cap) ∧ wr.cell? ⟨b, o, none⟩ = some (.slice a0 N c0)) (fun i _ => N - (intOf i).toNat)
  case atStart => exact ⟨0, Nat.zero_le _, rfl, h0, hB1, hB2⟩
  case round =>
    obtain ⟨k, hk, rfl, hJs, hc1, hc2⟩ := hrel
    clear hB1 hB2 h0
    by_cases hlt : k < N
    · have HJ : Hid (J (upPN N k ++ rowPN N k (k + 1)) wr) := by show J _ _; rw [rowPN_start, List.append_nil]; exact hJs
      clear hJs
      gi_wp2
      gi_loopw [4] (fun i wr => ∃ j : Nat, k + 1 ≤ j ∧ j ≤ N ∧ i = .int .i64 j ∧ J (upPN N k ++ rowPN N k j) wr ∧ wr.cell? ⟨B, 0, none⟩ = some (.slice (some ⟨b, o, none⟩) M cap) ∧ wr.cell? ⟨b, o, none⟩ = some (.slice a0 N c0)) (fun i _ => N - (intOf i).toNat)
      case atStart => exact ⟨k + 1, Nat.le_refl _, hlt, by go_num, HJ.out, hc1, hc2⟩
      case round =>
        clear HJ hc1 hc2
        obtain ⟨j, hkj, hjN, rfl, hJs, hc1, hc2⟩ := hrel
        by_cases hlj : j < N
        · have hll : (upPN N k ++ rowPN N k j).length < 1000 := by
            rw [List.length_append]
            have h1 := upPN_length N k
            have h2 := rowPN_length N k j
            have h3 : k * N ≤ 10 * 10 := Nat.mul_le_mul (by omega) hN
            omega
          obtain ⟨fn, tmps, assign, body, hy, hR⟩ := hY _ ⟨(k, j), by show k < j; omega, hlj⟩ wr hJs hll
          dsimp only [encP] at hy
          gi_wp2
          refine hR.mono ?_
          rintro e W3 (⟨rfl, hJ3, hk3⟩ | ⟨rfl, hJx3⟩)
          · have hc3 : W3.cell? ⟨B, 0, none⟩ = some (.slice (some ⟨b, o, none⟩) M cap) := Eq.trans hk3.1 hc1
            have hc4 : W3.cell? ⟨b, o, none⟩ = some (.slice a0 N c0) := Eq.trans hk3.2 hc2
            have HK := Lib.hid hk3; clear hk3
            gi_wp2
            go_roundw
            case rel => exact ⟨j + 1, by omega, by omega, by go_num, by rw [rowPN_succ (by omega) hlj, ← List.append_assoc]; exact hJ3, hc3, hc4⟩
            case measure => simp [intOf]; omega
          · gi_wp2
            refine bodyPost_ret (results_none rfl _ _ _) rfl ?_
            exact ⟨⟨_, rfl⟩, .inr ⟨_, trivial, hJx3⟩⟩
        · obtain rfl : j = N := by omega
          gi_wp2
          go_roundw
          case rel => exact ⟨k + 1, by omega, by go_num, by rw [upPN_succ]; exact hJs, hc1, hc2⟩
          case measure => simp [intOf]; omega
    · obtain rfl : k = N := by omega
      gi_wp2
      go_end0
      exact ⟨⟨_, rfl⟩, .inl ⟨_, rfl, hJs⟩⟩

/-- **pairs(m)**: the function value over the mask's box. -/
theorem mpairs_any (a : Option Addr) (M cap : Nat) (w : World) :
    Calls Try.prog 46 #[.slice a M cap] w fun e w' =>
      e = .returned (.func (.func 70) #[] #[.pointer (some ⟨w.heap.size, 0, none⟩)]) ∧ w' = w.alloc (.cells #[.slice a M cap] 39) := by
  go_enter Try.func46, Try.ntmps46
  go_wp2
  go_ret
  exact ⟨rfl, rfl⟩

/-- **What pairs(m) hands back gives all pairs of columns, in order, to every loop body that keeps the mask's box and its first row's header.** -/
theorem mpairs_stops (F : Fence) (n : Nat) (hf : F.fn 70) (hro : F.round = none) (hn : 1 ≤ n) (B b o M cap N c0 : Nat) (a0 : Option Addr) (hM : 1 ≤ M) (hN : N ≤ 10) (w : World)
    (hB1 : w.cell? ⟨B, 0, none⟩ = some (.slice (some ⟨b, o, none⟩) M cap)) (hB2 : w.cell? ⟨b, o, none⟩ = some (.slice a0 N c0)) :
    SeqStopsK F n Try.prog 70 #[.pointer (some ⟨B, 0, none⟩)] (encP (N := N)) (keepM B b o) (fun ys => ys = upPN N N) (fun _ => True) 1000 w := fun l J Jx W hW _ _ hY h0 =>
  mpairs1_in F n hf hro hn l B b o M cap N c0 a0 hM hN J Jx hY W ((hW.cell (p := ⟨B, 0, none⟩) (cell_lt hB1)).trans hB1) ((hW.cell (p := ⟨b, o, none⟩) (cell_lt hB2)).trans hB2) h0
end Go.Proofs.Ytacbciamehchjaa
