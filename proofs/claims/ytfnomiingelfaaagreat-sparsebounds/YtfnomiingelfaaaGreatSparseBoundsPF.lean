/- Parts of the proof of SparseBounds: plain words, walks and contracts, each under its own heading. -/
import Derived.Test.YtfnomiingelfaaaGreatSparseBoundsPE
import Derived.RangeFuncNested
import Derived.RangeFuncBound
import Derived.RangeFuncCalls
import Derived.RangeFuncLeaves
import Derived.RangeFuncBox
import Derived.Shelf.Abstract
import Derived.Shelf.RegionOpen
import Derived.OwnWalkIn
import Derived.TacticsInMore
import Derived.LoopNIn
import Derived.LoopIn
import Derived.Test.YtfnomiingelfaaaGreatSparseBoundsPA
import Derived.Test.YtfnomiingelfaaaGreatSparseBoundsPC
import Derived.Test.YtfnomiingelfaaaGreatSparseBoundsPD
import Derived.Lib.QuietBelow
import Derived.BigQuiet
import Derived.Test.YtfnomiingelfaaaGreatShelf
import Derived.Laws.CopyOwn
import Derived.Deep.RegionLaw
/- Likeness of layer 2: words and a contract. -/
namespace Go.Proofs.YtfnomiingelfaaaGreat
open Go.RowKit

def prodV (m : List (List Int)) (i j : Int) : Int × Int := if validM m = true then (if thereB m i = true ∧ thereB m j = true then (dot (colM m i.toNat) (colM m j.toNat), 0) else (0, 5)) else (0, 1)
def likeV (m : List (List Int)) (i j : Int) : (Int × Int) × Int := if validM m = true then (if thereB m i = true ∧ thereB m j = true then likeC (colM m i.toNat) (colM m j.toNat) else ((0, 0), 5)) else ((0, 0), 1)
def namedV (m : List (List Int)) (ps : List Int) : Int := if validM m = true then (if ps.all (thereB m) = true then 0 else 5) else 1
def NPost (r : Int × Int) (w : World) (e : Ending) (w' : World) : Prop := Below w.heap.size w w' ∧ e = .returned (.tuple #[.int .i64 r.1, .int .i64 r.2])
theorem there_nat {m : List (List Int)} {j : Int} (h : thereB m j = true) : ∃ n : Nat, j = n ∧ n < colsM m := by
  simp [thereB] at h
  exact ⟨j.toNat, by omega, by omega⟩
theorem rangeB_there {m : List (List Int)} {j : Int} : rangeB j 0 ((colsM m : Int) - 1) = thereB m j := by
  unfold rangeB thereB; congr 1; rw [decide_eq_decide]; omega
theorem sl_lit2 (V : World) (x y : Int) (t : TypeId) {B : Nat} (hB : B = V.heap.size) : Sl (V.alloc (.cells #[.int .i64 x, .int .i64 y] t)) (some ⟨B, 0, none⟩) [x, y] := by
  subst hB
  intro k hk
  have : k = 0 ∨ k = 1 := by simp at hk; omega
  rcases this with rfl | rfl
  · exact ⟨_, _, rfl, alloc_cell _ _ _ _ _ rfl⟩
  · exact ⟨_, _, rfl, alloc_cell _ _ _ _ _ rfl⟩

structure RC (B : Nat) (w : World) : Prop where
  c0 : w.cell? ⟨B, 0, none⟩ = some (.int .i64 0)
  c1 : w.cell? ⟨B, 1, none⟩ = some (.int .i64 0)
  f0 : w.frozen? ⟨B, 0, none⟩ = false
  f1 : w.frozen? ⟨B, 1, none⟩ = false
  lt : B < w.heap.size
theorem RC.mk0 (w : World) (t : TypeId) : RC w.heap.size (w.alloc (.cells #[.int .i64 0, .int .i64 0] t)) :=
  ⟨alloc_cell _ _ _ _ _ rfl, alloc_cell _ _ _ _ _ rfl, by simp, by simp, by simp⟩
theorem RC.next {B : Nat} {w w' : World} (h : RC B w) (hb : Below w.heap.size w w') : RC B w' :=
  ⟨(hb.cell (p := ⟨B, 0, none⟩) h.lt).trans h.c0, (hb.cell (p := ⟨B, 1, none⟩) h.lt).trans h.c1, (hb.frozen (p := ⟨B, 0, none⟩) h.lt).trans h.f0, (hb.frozen (p := ⟨B, 1, none⟩) h.lt).trans h.f1, Nat.lt_of_lt_of_le h.lt hb.size⟩
theorem set2_below {w V : World} {B : Nat} (h : Below w.heap.size w V) (hB : w.heap.size ≤ B) (x y : Value) : Below w.heap.size w ((V.setCell ⟨B, 0, none⟩ x).setCell ⟨B, 1, none⟩ y) := (h.setCell hB _).setCell hB _
theorem likeV_ok {m : List (List Int)} {i j : Nat} (h : validM m = true) (hi : thereB m i = true) (hj : thereB m j = true) : likeV m i j = likeC (colM m i) (colM m j) := by
  unfold likeV; rw [h, hi, hj]; rfl

end Go.Proofs.YtfnomiingelfaaaGreat
/- The iterator over pairs of columns i < j of a mask: its contract (layer 2, pairs). -/
namespace Go.Proofs.YtfnomiingelfaaaGreat
open Go.RowKit Go.Shelf
attribute [local go_sem] Oper.semAt_some

abbrev PN (N : Nat) := { p : Nat × Nat // p.1 < p.2 ∧ p.2 < N }
abbrev encP {N : Nat} (x : PN N) : Array Value := #[.int .i64 (x.1.1 : Int), .int .i64 (x.1.2 : Int)]
def pairP (N i j : Nat) : Option (PN N) := if h : i < j ∧ j < N then some ⟨(i, j), h⟩ else none
def rowPN (N i j : Nat) : List (PN N) := (List.range j).filterMap (pairP N i)
def upPN (N k : Nat) : List (PN N) := (List.range k).flatMap fun i => rowPN N i N
theorem rowPN_start (N i : Nat) : rowPN N i (i + 1) = [] := by
  unfold rowPN
  rw [List.filterMap_eq_nil_iff]
  intro j hj
  have := List.mem_range.1 hj
  unfold pairP; rw [dif_neg (by omega)]
theorem rowPN_succ {N i j : Nat} (h : i < j) (hj : j < N) : rowPN N i (j + 1) = rowPN N i j ++ [⟨(i, j), h, hj⟩] := by
  unfold rowPN
  rw [List.range_succ, List.filterMap_append]
  simp [pairP, h, hj]
theorem upPN_succ (N k : Nat) : upPN N (k + 1) = upPN N k ++ rowPN N k N := by
  unfold upPN; rw [List.range_succ, List.flatMap_append]; simp
theorem rowPN_length (N i j : Nat) : (rowPN N i j).length ≤ j := by
  have := List.length_filterMap_le (pairP N i) (List.range j)
  simpa [rowPN] using this
theorem upPN_length (N : Nat) : ∀ k, (upPN N k).length ≤ k * N
  | 0 => by simp [upPN]
  | k + 1 => by
    have h1 := upPN_length N k
    have h2 := rowPN_length N k N
    rw [upPN_succ, List.length_append, Nat.add_mul, Nat.one_mul]; omega
theorem mem_upPN {N : Nat} (x : PN N) : x ∈ upPN N N := by
  obtain ⟨⟨i, j⟩, h1, h2⟩ := x
  unfold upPN rowPN
  rw [List.mem_flatMap]
  refine ⟨i, List.mem_range.2 (Nat.lt_trans h1 h2), ?_⟩
  rw [List.mem_filterMap]
  exact ⟨j, List.mem_range.2 h2, by unfold pairP; rw [dif_pos ⟨h1, h2⟩]⟩
def keepM (B b o : Nat) (W W' : World) : Prop := W'.cell? ⟨B, 0, none⟩ = W.cell? ⟨B, 0, none⟩ ∧ W'.cell? ⟨b, o, none⟩ = W.cell? ⟨b, o, none⟩
theorem keepM_t {B b o : Nat} {A W C : World} (h : keepM B b o A W) (k : keepM B b o W C) : keepM B b o A C := ⟨Eq.trans k.1 h.1, Eq.trans k.2 h.2⟩
theorem keepM_b {B b o : Nat} {w : World} (hB : B < w.heap.size) (hb : b < w.heap.size) (W : World) (l : Nat) (ob o' : Obj) (hl : w.heap.size ≤ l) (_ : W.heap[l]? = some ob) (_ : ob.isCells = false) (_ : ob.isWalk = false) : keepM B b o W (W.putObj l o') :=
  ⟨World.cell?_of_block (World.putObj_heap_other (by show B ≠ l; omega)), World.cell?_of_block (World.putObj_heap_other (by show b ≠ l; omega))⟩

set_option maxRecDepth 100000 in
set_option maxHeartbeats 2000000 in
theorem mpairs1_in (F : Fence) (n : Nat) (hf : F.fn 103) (hro : F.round = none) (hn : 1 ≤ n) (l B b o M cap N c0 : Nat) (a0 : Option Addr) (hM : 1 ≤ M) (hN : N ≤ 10) (J Jx : List (PN N) → World → Prop)
    (hY : ∀ pre x W, J pre W → pre.length < 1000 → YieldAt F (n - 1) Tryz.prog l (encP x) W fun e W' =>
      (e = .returned (.bool true) ∧ J (pre ++ [x]) W' ∧ keepM B b o W W') ∨ (e = .returned (.bool false) ∧ Jx (pre ++ [x]) W'))
    (W : World) (hB1 : W.cell? ⟨B, 0, none⟩ = some (.slice (some ⟨b, o, none⟩) M cap)) (hB2 : W.cell? ⟨b, o, none⟩ = some (.slice a0 N c0)) (h0 : J [] W) :
    CallsIn F n Tryz.prog 103 #[.func (.yield l) #[] #[], .pointer (some ⟨B, 0, none⟩)] W fun e W' => (∃ v, e = .returned v) ∧
      ((∃ ys, ys = upPN N N ∧ J ys W') ∨ (∃ pre, True ∧ Jx pre W')) := by
  refine callsIn_of_wp Tryz.func103 rfl hf ?_ hro
  simp only [Tryz.ntmps103, List.size_toArray, List.length_cons, List.length_nil, Nat.reduceAdd, Nat.reduceSub, Array.replicate_succ, Array.replicate_zero, List.push_toArray, List.append_toArray, List.nil_append, List.cons_append]
  gi_wp2
  gi_loopw [9] (fun i wr => ∃ k : Nat, k ≤ N ∧ i = .int .i64 k ∧ J (upPN N k) wr ∧ wr.cell? ⟨B, 0, none⟩ = some (.slice (some ⟨b, o, none⟩) M cap) ∧ wr.cell? ⟨b, o, none⟩ = some (.slice a0 N c0)) (fun i _ => N - (intOf i).toNat)
  case atStart => exact ⟨0, Nat.zero_le _, rfl, h0, hB1, hB2⟩
  case round =>
    obtain ⟨k, hk, rfl, hJs, hc1, hc2⟩ := hrel
    clear hB1 hB2 h0
    by_cases hlt : k < N
    · have HJ : Hid (J (upPN N k ++ rowPN N k (k + 1)) wr) := by show J _ _; rw [rowPN_start, List.append_nil]; exact hJs
      clear hJs
      gi_wp2
      gi_loopw [4] (fun i wr => ∃ j : Nat, k + 1 ≤ j ∧ j ≤ N ∧ i = .int .i64 j ∧ J (upPN N k ++ rowPN N k j) wr ∧ wr.cell? ⟨B, 0, none⟩ = some (.slice (some ⟨b, o, none⟩) M cap) ∧ wr.cell? ⟨b, o, none⟩ = some (.slice a0 N c0)) (fun i _ => N - (intOf i).toNat)
      case atStart => exact ⟨k + 1, Nat.le_refl _, hlt, by go_num, HJ.out, hc1, hc2⟩
      case round =>
        clear HJ hc1 hc2
        obtain ⟨j, hkj, hjN, rfl, hJs, hc1, hc2⟩ := hrel
        by_cases hlj : j < N
        · have hll : (upPN N k ++ rowPN N k j).length < 1000 := by
            rw [List.length_append]
            have h1 := upPN_length N k
            have h2 := rowPN_length N k j
            have h3 : k * N ≤ 10 * 10 := Nat.mul_le_mul (by omega) hN
            omega
          obtain ⟨fn, tmps, assign, body, hy, hR⟩ := hY _ ⟨(k, j), by show k < j; omega, hlj⟩ wr hJs hll
          dsimp only [encP] at hy
          gi_wp2
          refine hR.mono ?_
          rintro e W3 (⟨rfl, hJ3, hk3⟩ | ⟨rfl, hJx3⟩)
          · have hc3 : W3.cell? ⟨B, 0, none⟩ = some (.slice (some ⟨b, o, none⟩) M cap) := Eq.trans hk3.1 hc1
            have hc4 : W3.cell? ⟨b, o, none⟩ = some (.slice a0 N c0) := Eq.trans hk3.2 hc2
            have HK := Lib.hid hk3; clear hk3
            gi_wp2
            go_roundw
            case rel => exact ⟨j + 1, by omega, by omega, by go_num, by rw [rowPN_succ (by omega) hlj, ← List.append_assoc]; exact hJ3, hc3, hc4⟩
            case measure => simp [intOf]; omega
          · gi_wp2
            refine bodyPost_ret (results_none rfl _ _ _) rfl ?_
            exact ⟨⟨_, rfl⟩, .inr ⟨_, trivial, hJx3⟩⟩
        · obtain rfl : j = N := by omega
          gi_wp2
          go_roundw
          case rel => exact ⟨k + 1, by omega, by go_num, by rw [upPN_succ]; exact hJs, hc1, hc2⟩
          case measure => simp [intOf]; omega
    · obtain rfl : k = N := by omega
      gi_wp2
      go_end0
      exact ⟨⟨_, rfl⟩, .inl ⟨_, rfl, hJs⟩⟩

theorem mpairs_any (a : Option Addr) (M cap : Nat) (w : World) :
    Calls Tryz.prog 72 #[.slice a M cap] w fun e w' =>
      e = .returned (.func (.func 103) #[] #[.pointer (some ⟨w.heap.size, 0, none⟩)]) ∧ w' = w.alloc (.cells #[.slice a M cap] 23) := by
  go_enter Tryz.func72, Tryz.ntmps72
  go_wp2
  go_ret
  exact ⟨rfl, rfl⟩

theorem mpairs_stops (F : Fence) (n : Nat) (hf : F.fn 103) (hro : F.round = none) (hn : 1 ≤ n) (B b o M cap N c0 : Nat) (a0 : Option Addr) (hM : 1 ≤ M) (hN : N ≤ 10) (w : World)
    (hB1 : w.cell? ⟨B, 0, none⟩ = some (.slice (some ⟨b, o, none⟩) M cap)) (hB2 : w.cell? ⟨b, o, none⟩ = some (.slice a0 N c0)) :
    SeqStopsK F n Tryz.prog 103 #[.pointer (some ⟨B, 0, none⟩)] (encP (N := N)) (keepM B b o) (fun ys => ys = upPN N N) (fun _ => True) 1000 w := fun l J Jx W hW _ _ hY h0 =>
  mpairs1_in F n hf hro hn l B b o M cap N c0 a0 hM hN J Jx hY W ((hW.cell (p := ⟨B, 0, none⟩) (cell_lt hB1)).trans hB1) ((hW.cell (p := ⟨b, o, none⟩) (cell_lt hB2)).trans hB2) h0
end Go.Proofs.YtfnomiingelfaaaGreat
/- The coherence of columns: the greatest of fractions in lowest terms, and when it is 1: plain facts. -/
namespace Go.Proofs.YtfnomiingelfaaaGreat
open Go.RowKit

--BEGIN
theorem mul4 (a b c d : Int) : a * b * (c * d) = a * c * (b * d) := by rw [Int.mul_assoc, Int.mul_assoc, ← Int.mul_assoc b, Int.mul_comm b c, Int.mul_assoc c]
theorem sq_sub (a b c d : Int) : (a * d - b * c) * (a * d - b * c) = d * d * (a * a) + (-(2 * (b * d))) * (a * c) + b * b * (c * c) := by
  have e1 : a * d * (a * d) = d * d * (a * a) := by rw [mul4, Int.mul_comm]
  have e2 : b * c * (b * c) = b * b * (c * c) := mul4 _ _ _ _
  have e3 : a * d * (b * c) = b * d * (a * c) := by rw [Int.mul_comm a d, mul4 d a b c, Int.mul_comm d b]
  have e4 : b * c * (a * d) = b * d * (a * c) := by rw [Int.mul_comm (b * c)]; exact e3
  rw [Int.sub_mul, Int.mul_sub, Int.mul_sub, e1, e2, e3, e4, Int.neg_mul, Int.mul_assoc 2]
  omega
def lag (f g : Nat → Int) (n : Nat) : Int := sumTo (fun i => f i * f i) n * sumTo (fun i => g i * g i) n - sumTo (fun i => f i * g i) n * sumTo (fun i => f i * g i) n
theorem lag_succ (f g : Nat → Int) (n : Nat) : lag f g (n + 1) = lag f g n + sumTo (fun i => (f i * g n - f n * g i) * (f i * g n - f n * g i)) n := by
  have e : sumTo (fun i => (f i * g n - f n * g i) * (f i * g n - f n * g i)) n = g n * g n * sumTo (fun i => f i * f i) n + (-(2 * (f n * g n))) * sumTo (fun i => f i * g i) n + f n * f n * sumTo (fun i => g i * g i) n := by
    rw [sumTo_congr n (g := fun i => (g n * g n * (f i * f i) + (-(2 * (f n * g n))) * (f i * g i)) + f n * f n * (g i * g i)) (fun i _ => by rw [sq_sub]), sumTo_add, sumTo_add, sumTo_mul, sumTo_mul, sumTo_mul]
  rw [e]
  unfold lag
  simp only [sumTo]
  generalize sumTo (fun i => f i * f i) n = A
  generalize sumTo (fun i => g i * g i) n = B
  generalize sumTo (fun i => f i * g i) n = C
  have e1 : (A + f n * f n) * (B + g n * g n) = A * B + g n * g n * A + f n * f n * B + f n * f n * (g n * g n) := by
    rw [Int.add_mul, Int.mul_add, Int.mul_add, Int.mul_comm A (g n * g n)]; omega
  have e2 : (C + f n * g n) * (C + f n * g n) = C * C + 2 * (f n * g n) * C + f n * f n * (g n * g n) := by
    rw [Int.add_mul, Int.mul_add, Int.mul_add, Int.mul_comm C (f n * g n), mul4 (f n) (g n) (f n) (g n), Int.mul_assoc 2]; omega
  rw [e1, e2, Int.neg_mul]
  omega
theorem sq_pos' (x : Int) : 0 ≤ x * x := by
  rcases Int.le_total 0 x with h | h
  · exact Int.mul_nonneg h h
  · have := Int.mul_nonneg (show 0 ≤ -x by omega) (show 0 ≤ -x by omega); rwa [Int.neg_mul_neg] at this
theorem lag_nonneg (f g : Nat → Int) : ∀ n, 0 ≤ lag f g n
  | 0 => by simp [lag, sumTo]
  | n + 1 => by
    rw [lag_succ]
    have := lag_nonneg f g n
    have := sumTo_nonneg (f := fun i => (f i * g n - f n * g i) * (f i * g n - f n * g i)) n (fun i _ => sq_pos' _)
    omega
theorem dot_cs {a b : List Int} (hl : a.length = b.length) : dot a b * dot a b ≤ dot a a * dot b b := by
  have := lag_nonneg (gt a) (gt b) a.length
  unfold lag at this
  unfold dot
  rw [← hl]
  omega
/-! ### The greatest of fractions -/
def bestF (c r : Int × Int) : Int × Int := if c.1 * r.2 < r.1 * c.2 then r else c
def bestL (L : List (Int × Int)) : Int × Int := L.foldl bestF (0, 1)
def Red (r : Int × Int) : Prop := 0 ≤ r.1 ∧ 1 ≤ r.2 ∧ Nat.gcd r.1.toNat r.2.toNat = 1
theorem le_trans_frac {a b c : Int × Int} (hb : 1 ≤ b.2) (ha : 1 ≤ a.2) (hc : 1 ≤ c.2) (h1 : a.1 * b.2 ≤ b.1 * a.2) (h2 : b.1 * c.2 ≤ c.1 * b.2) : a.1 * c.2 ≤ c.1 * a.2 := by
  have e1 : a.1 * b.2 * c.2 ≤ b.1 * a.2 * c.2 := Int.mul_le_mul_of_nonneg_right h1 (by omega)
  have e2 : b.1 * c.2 * a.2 ≤ c.1 * b.2 * a.2 := Int.mul_le_mul_of_nonneg_right h2 (by omega)
  have e3 : a.1 * c.2 * b.2 ≤ c.1 * a.2 * b.2 := by
    rw [Int.mul_right_comm a.1, Int.mul_right_comm c.1]
    have : b.1 * a.2 * c.2 = b.1 * c.2 * a.2 := Int.mul_right_comm _ _ _
    omega
  exact Int.le_of_mul_le_mul_right e3 (by omega)
theorem bestL_is (L : List (Int × Int)) (hL : ∀ r ∈ L, 1 ≤ r.2) : ∀ c : Int × Int, 1 ≤ c.2 → (1 ≤ (L.foldl bestF c).2 ∧ (L.foldl bestF c = c ∨ L.foldl bestF c ∈ L) ∧ c.1 * (L.foldl bestF c).2 ≤ (L.foldl bestF c).1 * c.2 ∧ ∀ r ∈ L, r.1 * (L.foldl bestF c).2 ≤ (L.foldl bestF c).1 * r.2) := by
  induction L with
  | nil => intro c hc; exact ⟨hc, .inl rfl, Int.le_refl _, fun r hr => by cases hr⟩
  | cons x L ih =>
    intro c hc
    have hx := hL x (List.mem_cons_self ..)
    have hL' : ∀ r ∈ L, 1 ≤ r.2 := fun r hr => hL r (List.mem_cons_of_mem _ hr)
    have hb : 1 ≤ (bestF c x).2 ∧ c.1 * (bestF c x).2 ≤ (bestF c x).1 * c.2 ∧ x.1 * (bestF c x).2 ≤ (bestF c x).1 * x.2 := by
      unfold bestF; split
      · exact ⟨hx, by omega, Int.le_refl _⟩
      · exact ⟨hc, Int.le_refl _, by omega⟩
    obtain ⟨i1, i2, i3, i4⟩ := ih hL' (bestF c x) hb.1
    show 1 ≤ (L.foldl bestF (bestF c x)).2 ∧ _
    refine ⟨i1, ?_, le_trans_frac hb.1 hc i1 hb.2.1 i3, fun r hr => ?_⟩
    · rcases i2 with e | e
      · show L.foldl bestF (bestF c x) = c ∨ L.foldl bestF (bestF c x) ∈ x :: L
        rw [e]; unfold bestF; split
        · exact .inr (List.mem_cons_self ..)
        · exact .inl rfl
      · exact .inr (List.mem_cons_of_mem _ e)
    · rcases List.mem_cons.1 hr with rfl | hr
      · exact le_trans_frac hb.1 hx i1 hb.2.2 i3
      · exact i4 r hr
theorem red_eq {r s : Int × Int} (hr : Red r) (hs : Red s) (h : r.1 * s.2 = s.1 * r.2) : r = s := by
  obtain ⟨r1, r2, r3⟩ := hr
  obtain ⟨s1, s2, s3⟩ := hs
  obtain ⟨a, ha⟩ := Int.eq_ofNat_of_zero_le r1
  obtain ⟨b, hb⟩ := Int.eq_ofNat_of_zero_le (show 0 ≤ r.2 by omega)
  obtain ⟨c, hc⟩ := Int.eq_ofNat_of_zero_le s1
  obtain ⟨d, hd⟩ := Int.eq_ofNat_of_zero_le (show 0 ≤ s.2 by omega)
  rw [ha, hb] at r3
  rw [hc, hd] at s3
  rw [ha, hb, hc, hd] at h
  have h' : a * d = c * b := by exact_mod_cast h
  simp only [Int.toNat_natCast] at r3 s3
  have d1 : b ∣ d := by
    have hcop : Nat.Coprime b a := by unfold Nat.Coprime; rw [Nat.gcd_comm]; exact r3
    exact hcop.dvd_of_dvd_mul_left (⟨c, by rw [h', Nat.mul_comm]⟩)
  have d2 : d ∣ b := by
    have hcop : Nat.Coprime d c := by unfold Nat.Coprime; rw [Nat.gcd_comm]; exact s3
    exact hcop.dvd_of_dvd_mul_left (⟨a, by rw [← h', Nat.mul_comm]⟩)
  have e : b = d := Nat.dvd_antisymm d1 d2
  subst e
  have hb1 : 0 < b := by omega
  have e2 : a = c := Nat.eq_of_mul_eq_mul_right hb1 h'
  subst e2
  exact Prod.ext (by rw [ha, hc]) (by rw [hb, hd])
theorem bestL_same {L M : List (Int × Int)} (hL : ∀ r ∈ L, Red r) (h : ∀ r, r ∈ L ↔ r ∈ M) : bestL L = bestL M := by
  have hM : ∀ r ∈ M, Red r := fun r hr => hL r ((h r).2 hr)
  have r0 : Red (0, 1) := ⟨by decide, by decide, by decide⟩
  obtain ⟨a1, a2, a3, a4⟩ := bestL_is L (fun r hr => (hL r hr).2.1) (0, 1) (by decide)
  obtain ⟨b1, b2, b3, b4⟩ := bestL_is M (fun r hr => (hM r hr).2.1) (0, 1) (by decide)
  have ra : Red (bestL L) := by rcases a2 with e | e
                                · have g : bestL L = (0, 1) := e
                                  rw [g]; exact r0
                                · exact hL _ e
  have rb : Red (bestL M) := by rcases b2 with e | e
                                · have g : bestL M = (0, 1) := e
                                  rw [g]; exact r0
                                · exact hM _ e
  refine red_eq ra rb ?_
  have l1 : (bestL L).1 * (bestL M).2 ≤ (bestL M).1 * (bestL L).2 := by
    rcases a2 with e | e
    · show (List.foldl bestF (0, 1) L).1 * _ ≤ _ * (List.foldl bestF (0, 1) L).2
      rw [e]; exact b3
    · exact b4 _ ((h _).1 e)
  have l2 : (bestL M).1 * (bestL L).2 ≤ (bestL L).1 * (bestL M).2 := by
    rcases b2 with e | e
    · show (List.foldl bestF (0, 1) M).1 * _ ≤ _ * (List.foldl bestF (0, 1) M).2
      rw [e]; exact a3
    · exact a4 _ ((h _).2 e)
  omega
end Go.Proofs.YtfnomiingelfaaaGreat
/- Coherence of layer 2: a contract. -/
namespace Go.Proofs.YtfnomiingelfaaaGreat
open Go.RowKit Go.Shelf
attribute [local go_sem] Oper.semAt_some

def likeP (m : List (List Int)) {N : Nat} (x : PN N) : (Int × Int) × Int := likeC (colM m x.1.1) (colM m x.1.2)
def badP (m : List (List Int)) (N : Nat) : Bool := (upPN N N).any fun x => (likeP m x).2 != 0
def cohV (m : List (List Int)) : (Int × Int) × Int :=
  if validM m = true then (if colsM m < 2 then ((0, 0), 8) else if badP m (colsM m) = true then ((0, 0), 8) else (bestL ((upPN (colsM m) (colsM m)).map fun x => (likeP m x).1), 0)) else ((0, 0), 1)
theorem frozen_alloc (V : World) (o : Obj) {b k : Nat} (h : b < V.heap.size) : (V.alloc o).frozen? ⟨b, k, none⟩ = V.frozen? ⟨b, k, none⟩ := ((Below.refl V.heap.size V).alloc (Nat.le_refl _) o).frozen (p := ⟨b, k, none⟩) h
theorem frozen_new (V : World) (vs : Array Value) (t : TypeId) (k : Nat) : (V.alloc (.cells vs t)).frozen? ⟨V.heap.size, k, none⟩ = false := by simp
structure CohB (w : World) (a : Option Addr) (n cap : Nat) (V : World) : Prop where
  box : V.cell? ⟨w.heap.size, 0, none⟩ = some (.slice a n cap)
  r0 : V.cell? ⟨w.heap.size + 1, 0, none⟩ = some (.int .i64 0)
  r1 : V.cell? ⟨w.heap.size + 1, 1, none⟩ = some (.int .i64 0)
  e0 : V.cell? ⟨w.heap.size + 2, 0, none⟩ = some (.int .i64 0)
  f0 : V.frozen? ⟨w.heap.size + 1, 0, none⟩ = false
  f1 : V.frozen? ⟨w.heap.size + 1, 1, none⟩ = false
  f2 : V.frozen? ⟨w.heap.size + 2, 0, none⟩ = false
  sz : w.heap.size + 3 ≤ V.heap.size
  below : Below w.heap.size w V
theorem CohB.mk0 (w : World) (a : Option Addr) (n cap : Nat) (t s r : TypeId) : CohB w a n cap (((w.alloc (.cells #[.slice a n cap] t)).alloc (.cells #[.int .i64 0, .int .i64 0] s)).alloc (.cells #[.int .i64 0] r)) := by
  have h1 : (w.alloc (.cells #[.slice a n cap] t)).heap.size = w.heap.size + 1 := World.size_alloc _ _
  have h2 : ((w.alloc (.cells #[.slice a n cap] t)).alloc (.cells #[.int .i64 0, .int .i64 0] s)).heap.size = w.heap.size + 2 := by rw [World.size_alloc, h1]
  refine ⟨(alloc_old _ _ _ _ (by omega)).trans ((alloc_old _ _ _ _ (by omega)).trans (alloc_cell _ _ _ _ _ rfl)), (alloc_old _ _ _ _ (by omega)).trans ?_, (alloc_old _ _ _ _ (by omega)).trans ?_, ?_, ?_, ?_, ?_, by rw [World.size_alloc, h2]; exact Nat.le_refl _, (((Below.refl _ _).alloc (Nat.le_refl _) _).alloc (by omega) _).alloc (by omega) _⟩
  · rw [← h1]; exact alloc_cell _ _ _ _ _ rfl
  · rw [← h1]; exact alloc_cell _ _ _ _ _ rfl
  · rw [← h2]; exact alloc_cell _ _ _ _ _ rfl
  · rw [frozen_alloc _ _ (by omega), ← h1]; simp
  · rw [frozen_alloc _ _ (by omega), ← h1]; simp
  · rw [← h2]; exact frozen_new _ _ _ _
theorem CohB.next {w : World} {a : Option Addr} {n cap : Nat} {V V' : World} (h : CohB w a n cap V) (hb : Below V.heap.size V V') : CohB w a n cap V' :=
  have s := h.sz
  have k : ∀ b o, b < w.heap.size + 3 → V'.cell? ⟨b, o, none⟩ = V.cell? ⟨b, o, none⟩ := fun b o hlt => hb.cell (p := ⟨b, o, none⟩) (by show b < _; omega)
  have f : ∀ b o, b < w.heap.size + 3 → V'.frozen? ⟨b, o, none⟩ = V.frozen? ⟨b, o, none⟩ := fun b o hlt => hb.frozen (p := ⟨b, o, none⟩) (by show b < _; omega)
  ⟨(k _ _ (by omega)).trans h.box, (k _ _ (by omega)).trans h.r0, (k _ _ (by omega)).trans h.r1, (k _ _ (by omega)).trans h.e0, (f _ _ (by omega)).trans h.f0, (f _ _ (by omega)).trans h.f1, (f _ _ (by omega)).trans h.f2, Nat.le_trans s hb.size, h.below.trans (hb.mono (by omega))⟩
structure ResB (w : World) (x y z : Int) (V : World) : Prop where
  r0 : V.cell? ⟨w.heap.size + 1, 0, none⟩ = some (.int .i64 x)
  r1 : V.cell? ⟨w.heap.size + 1, 1, none⟩ = some (.int .i64 y)
  e0 : V.cell? ⟨w.heap.size + 2, 0, none⟩ = some (.int .i64 z)
  below : Below w.heap.size w V
theorem CohB.stored {w : World} {a : Option Addr} {n cap : Nat} {V : World} (h : CohB w a n cap V) (x y z : Int) : ResB w x y z (((V.setCell ⟨w.heap.size + 1, 0, none⟩ (.int .i64 x)).setCell ⟨w.heap.size + 1, 1, none⟩ (.int .i64 y)).setCell ⟨w.heap.size + 2, 0, none⟩ (.int .i64 z)) := by
  obtain ⟨b0, r0, r1, e0, f0, f1, f2, sz, hb⟩ := h
  refine ⟨?_, ?_, ?_, ((hb.setCell (p := ⟨w.heap.size + 1, 0, none⟩) (Nat.le_succ _) _).setCell (p := ⟨w.heap.size + 1, 1, none⟩) (Nat.le_succ _) _).setCell (p := ⟨w.heap.size + 2, 0, none⟩) (by show w.heap.size ≤ w.heap.size + 2; omega) _⟩ <;> go_simp
theorem ResB.put {w V : World} {x y z : Int} {D : Nat} (h : ResB w x y z V) (hD : w.heap.size + 3 ≤ D) (o : Obj) : ResB w x y z (V.putObj D o) :=
  have k : ∀ b c, b < w.heap.size + 3 → (V.putObj D o).cell? ⟨b, c, none⟩ = V.cell? ⟨b, c, none⟩ := fun b c hlt => World.cell?_of_block (World.putObj_heap_other (by show b ≠ D; omega))
  ⟨(k _ _ (by omega)).trans h.r0, (k _ _ (by omega)).trans h.r1, (k _ _ (by omega)).trans h.e0, h.below.grown (grownBy_putObj' V D _) h.below.size (fun r e => by cases e; omega)⟩
theorem keepsOthers_below {V V' : World} (h : Below V.heap.size V V') : KeepsOthers V V' := ⟨h.size, fun k _ hk _ => (h.block k (Array.getElem?_eq_some_iff.1 hk).1).trans hk⟩
theorem coh_leaves {F : Fence} {n : Nat} {w : World} {r : (Int × Int) × Int} {fn : Func} {tmps : Array Value} {ms : List Nat} {V : World}
    (hres : ∀ W : World, W.cell? ⟨w.heap.size + 1, 0, none⟩ = some (.int .i64 r.1.1) → W.cell? ⟨w.heap.size + 1, 1, none⟩ = some (.int .i64 r.1.2) → W.cell? ⟨w.heap.size + 2, 0, none⟩ = some (.int .i64 r.2) → (results fn tmps).run Tryz.prog W = .ok (.tuple #[.agg #[.int .i64 r.1.1, .int .i64 r.1.2], .int .i64 r.2]) W)
    (hM : Marks (w.heap.size + 3) ms V) (hR : ResB w r.1.1 r.1.2 r.2 V) : LeavesInM F n Tryz.prog fn tmps (QPost r w) (ms.map mark) .returning V :=
  leaves_marks (B := w.heap.size + 3) (fun W => ResB w r.1.1 r.1.2 r.2 W) (fun _ _ hD _ h => h.put hD _) (fun W h => ⟨_, hres W h.r0 h.r1 h.e0, h.below, rfl⟩) ms V hM hR
theorem wpAnyG_two {P : Program} {ops : Array Oper} {Q : Exit → Act → World → Prop} {md : Region.Mode} {S : Array Bool → World → Prop} {i j : Nat} {o p : Oper} {fuel : Nat} {listed : Array Bool} {a : Act} {w : World} (hr : Region.ready md ops listed = [i, j]) (ho : ops[i]? = some o) (hp : ops[j]? = some p) (hc : Shutdown md ops listed)
    (h : Shutdown md ops (listed.setIfInBounds i true) → ∀ K : Act → World → Prop, (∀ a' w', S (listed.setIfInBounds i true) w' → (S (listed.setIfInBounds i true) w' → wpAnyG P md ops Q S fuel (listed.setIfInBounds i true) a' w') → K a' w') → if Region.wanted o (yielded ops a.tmps) = true then Oper.wp P o a w K Q else K (a.put o.dst undef) w)
    (k : Shutdown md ops (listed.setIfInBounds j true) → ∀ K : Act → World → Prop, (∀ a' w', S (listed.setIfInBounds j true) w' → (S (listed.setIfInBounds j true) w' → wpAnyG P md ops Q S fuel (listed.setIfInBounds j true) a' w') → K a' w') → if Region.wanted p (yielded ops a.tmps) = true then Oper.wp P p a w K Q else K (a.put p.dst undef) w) : wpAnyG P md ops Q S (fuel + 1) listed a w :=
  ⟨fun h0 => (by rw [hr] at h0; cases h0), fun x hx => by
    rw [hr] at hx
    rcases List.mem_cons.1 hx with rfl | hx
    · exact wpOp_step ho (fun K hK => h (hc.set (by rw [hr]; simp)) K (fun a' w' hS hW => hK a' w' ⟨hS, hW hS⟩))
    · obtain rfl : x = j := by simpa using hx
      exact wpOp_step hp (fun K hK => k (hc.set (by rw [hr]; simp)) K (fun a' w' hS hW => hK a' w' ⟨hS, hW hS⟩))⟩
structure FBox (G : Nat) (x y : Int) (V : World) : Prop where
  c0 : V.cell? ⟨G, 0, none⟩ = some (.int .i64 x)
  c1 : V.cell? ⟨G, 1, none⟩ = some (.int .i64 y)
  f0 : V.frozen? ⟨G, 0, none⟩ = false
  f1 : V.frozen? ⟨G, 1, none⟩ = false
theorem FBox.made (V : World) (x y : Int) (t : TypeId) {G : Nat} (hG : G = V.heap.size) : FBox G x y (V.alloc (.cells #[.int .i64 x, .int .i64 y] t)) := by
  subst hG; exact ⟨alloc_cell _ _ _ _ _ rfl, alloc_cell _ _ _ _ _ rfl, frozen_new _ _ _ _, frozen_new _ _ _ _⟩
theorem FBox.later {G : Nat} {x y : Int} {V V' : World} (h : FBox G x y V) {n : Nat} (hb : Below n V V') (hG : G < n) : FBox G x y V' :=
  ⟨(hb.cell (p := ⟨G, 0, none⟩) hG).trans h.c0, (hb.cell (p := ⟨G, 1, none⟩) hG).trans h.c1, (hb.frozen (p := ⟨G, 0, none⟩) hG).trans h.f0, (hb.frozen (p := ⟨G, 1, none⟩) hG).trans h.f1⟩
theorem FBox.over {G : Nat} {x y : Int} {V : World} (h : FBox G x y V) (x' y' : Int) : FBox G x' y' ((V.setCell ⟨G, 0, none⟩ (.int .i64 x')).setCell ⟨G, 1, none⟩ (.int .i64 y')) := by
  obtain ⟨c0, c1, f0, f1⟩ := h
  refine ⟨?_, ?_, ?_, ?_⟩ <;> go_simp
structure CohI (w : World) (a : Option Addr) (m : List (List Int)) (cap G : Nat) (pre : List (PN (colsM m))) (V : World) : Prop where
  good : ∀ x ∈ pre, (likeP m x).2 = 0
  best : FBox G (bestL (pre.map fun x => (likeP m x).1)).1 (bestL (pre.map fun x => (likeP m x).1)).2 V
  boxes : CohB w a m.length cap V
  box2 : V.cell? ⟨G + 1, 0, none⟩ = some (.slice a m.length cap)
  gw : w.heap.size + 3 ≤ G
  gv : G + 2 ≤ V.heap.size
theorem CohB.later {w : World} {a : Option Addr} {n cap : Nat} {V V' : World} (h : CohB w a n cap V) {B : Nat} (hb : Below B V V') (hB : w.heap.size + 3 ≤ B) : CohB w a n cap V' :=
  have s := h.sz
  have k : ∀ b o, b < w.heap.size + 3 → V'.cell? ⟨b, o, none⟩ = V.cell? ⟨b, o, none⟩ := fun b o hlt => hb.cell (p := ⟨b, o, none⟩) (by show b < _; omega)
  have f : ∀ b o, b < w.heap.size + 3 → V'.frozen? ⟨b, o, none⟩ = V.frozen? ⟨b, o, none⟩ := fun b o hlt => hb.frozen (p := ⟨b, o, none⟩) (by show b < _; omega)
  ⟨(k _ _ (by omega)).trans h.box, (k _ _ (by omega)).trans h.r0, (k _ _ (by omega)).trans h.r1, (k _ _ (by omega)).trans h.e0, (f _ _ (by omega)).trans h.f0, (f _ _ (by omega)).trans h.f1, (f _ _ (by omega)).trans h.f2, Nat.le_trans s hb.size, h.below.trans (hb.mono (by omega))⟩
theorem CohI.later {w : World} {a : Option Addr} {m : List (List Int)} {cap G : Nat} {pre : List (PN (colsM m))} {V V' : World} (h : CohI w a m cap G pre V) {B : Nat} (hb : Below B V V') (hB : G + 2 ≤ B) : CohI w a m cap G pre V' :=
  have g := h.gw
  ⟨h.good, h.best.later hb (by omega), h.boxes.later hb (by omega), (hb.cell (p := ⟨G + 1, 0, none⟩) (by show G + 1 < B; omega)).trans h.box2, h.gw, Nat.le_trans h.gv hb.size⟩
theorem ResB.later {w V V' : World} {x y z : Int} (h : ResB w x y z V) {B : Nat} (hb : Below B V V') (hB : w.heap.size + 3 ≤ B) : ResB w x y z V' :=
  ⟨(hb.cell (p := ⟨w.heap.size + 1, 0, none⟩) (by show w.heap.size + 1 < B; omega)).trans h.r0, (hb.cell (p := ⟨w.heap.size + 1, 1, none⟩) (by show w.heap.size + 1 < B; omega)).trans h.r1, (hb.cell (p := ⟨w.heap.size + 2, 0, none⟩) (by show w.heap.size + 2 < B; omega)).trans h.e0, h.below.trans (hb.mono (by omega))⟩
theorem grown_from {V V' : World} {row : Option Nat} {B : Nat} (hg : V.grownBy V' row) (hB : B ≤ V.heap.size) (hr : ∀ r, row = some r → B ≤ r) : Below B V V' := (Below.refl B V).grown hg hB hr
theorem likeC_err {a b : List Int} (h : (likeC a b).2 ≠ 0) : likeC a b = ((0, 0), 8) := by
  unfold likeC at h ⊢; split
  · rfl
  · rename_i g; rw [if_neg g] at h; exact absurd rfl h
theorem likeC_in {a b : List Int} (ha : allB 1 a = true) (hb : allB 1 b = true) (hl : a.length = b.length) (h10 : a.length ≤ 10) (h : (likeC a b).2 = 0) : Red (likeC a b).1 ∧ (likeC a b).1.1 ≤ 10000 ∧ (likeC a b).1.2 ≤ 10000 ∧ (likeC a b).1.1 ≤ (likeC a b).1.2 := by
  unfold likeC at h ⊢
  split at h
  · cases h
  · rename_i g
    rw [if_neg g]
    have cs := dot_cs hl
    have haa := dots_bd ha ha (Nat.le_refl _) (Nat.le_refl _)
    have hbb := dots_bd hb hb (Nat.le_refl _) (Nat.le_refl _)
    have hab := dots_bd ha hb (Nat.le_of_eq hl) (Nat.le_refl _)
    have h1 : 0 ≤ dot a a := sumTo_nonneg _ fun i _ => sq_pos' _
    have h2 : 0 ≤ dot b b := sumTo_nonneg _ fun i _ => sq_pos' _
    have h3 : 0 ≤ dot a b * dot a b := sq_pos' _
    have l1 : dot a a ≤ 10 := by show sumTo _ _ ≤ 10; omega
    have l2 : dot b b ≤ 10 := by show sumTo _ _ ≤ 10; omega
    have l3 : dot a a * dot b b ≤ 10 * 10 := Int.mul_le_mul l1 l2 h2 (by omega)
    have h4 : 0 ≤ dot a a * dot b b := Int.mul_nonneg h1 h2
    obtain ⟨n, hn⟩ := Int.eq_ofNat_of_zero_le h3
    obtain ⟨d, hd⟩ := Int.eq_ofNat_of_zero_le h4
    rw [hn, hd] at cs
    rw [hd] at g l3
    rw [hn, hd]
    have e1 : (Int.ofNat n).toNat = n := rfl
    simp only [Int.toNat_natCast]
    have hd0 : 0 < d := by omega
    have hg0 : 0 < Nat.gcd n d := Nat.gcd_pos_of_pos_right _ hd0
    have q1 : n / Nat.gcd n d ≤ n := Nat.div_le_self _ _
    have q2 : d / Nat.gcd n d ≤ d := Nat.div_le_self _ _
    have q3 : 1 ≤ d / Nat.gcd n d := Nat.div_pos (Nat.le_of_dvd hd0 (Nat.gcd_dvd_right n d)) hg0
    have q4 : n / Nat.gcd n d ≤ d / Nat.gcd n d := Nat.div_le_div_right (by omega)
    refine ⟨⟨Int.natCast_nonneg _, by show (1 : Int) ≤ ((d / Nat.gcd n d : Nat) : Int); omega, ?_⟩, by show ((n / Nat.gcd n d : Nat) : Int) ≤ 10000; omega, by show ((d / Nat.gcd n d : Nat) : Int) ≤ 10000; omega, by show ((n / Nat.gcd n d : Nat) : Int) ≤ ((d / Nat.gcd n d : Nat) : Int); omega⟩
    show Nat.gcd ((n / Nat.gcd n d : Nat) : Int).toNat ((d / Nat.gcd n d : Nat) : Int).toNat = 1
    simp only [Int.toNat_natCast]
    exact Nat.coprime_div_gcd_div_gcd hg0
theorem likeP_in {m : List (List Int)} (hv : validM m = true) (x : PN (colsM m)) (h : (likeP m x).2 = 0) : Red (likeP m x).1 ∧ (likeP m x).1.1 ≤ 10000 ∧ (likeP m x).1.2 ≤ 10000 ∧ (likeP m x).1.1 ≤ (likeP m x).1.2 :=
  likeC_in (colM_all hv (Nat.lt_trans x.2.1 x.2.2)) (colM_all hv x.2.2) (by rw [colM_length, colM_length]) (by rw [colM_length]; have := (validM_of hv).2.1; omega) h
theorem best_in {m : List (List Int)} (hv : validM m = true) (pre : List (PN (colsM m))) (hg : ∀ x ∈ pre, (likeP m x).2 = 0) :
    0 ≤ (bestL (pre.map fun x => (likeP m x).1)).1 ∧ (bestL (pre.map fun x => (likeP m x).1)).1 ≤ 10000 ∧ 1 ≤ (bestL (pre.map fun x => (likeP m x).1)).2 ∧ (bestL (pre.map fun x => (likeP m x).1)).2 ≤ 10000 := by
  obtain ⟨a1, a2, a3, a4⟩ := bestL_is (pre.map fun x => (likeP m x).1) (fun r hr => by
    obtain ⟨x, hx, rfl⟩ := List.mem_map.1 hr
    exact (likeP_in hv x (hg x hx)).1.2.1) (0, 1) (by decide)
  rcases a2 with e | e
  · have e' : bestL (pre.map fun x => (likeP m x).1) = (0, 1) := e
    rw [e']; decide
  · have e' : bestL (pre.map fun x => (likeP m x).1) ∈ pre.map fun x => (likeP m x).1 := e
    obtain ⟨x, hx, e2⟩ := List.mem_map.1 e'
    obtain ⟨q1, q2, q3, _⟩ := likeP_in hv x (hg x hx)
    rw [← e2]
    exact ⟨q1.1, q2, q1.2.1, q3⟩
theorem bestL_snoc (L : List (Int × Int)) (r : Int × Int) : bestL (L ++ [r]) = bestF (bestL L) r := by simp [bestL]
theorem mul_in {a b : Int} (ha : 0 ≤ a ∧ a ≤ 10000) (hb : 0 ≤ b ∧ b ≤ 10000) : 0 ≤ a * b ∧ a * b ≤ 100000000 := by
  have := mul_le (show -10000 ≤ a ∧ a ≤ 10000 by omega) (show -10000 ≤ b ∧ b ≤ 10000 by omega)
  exact ⟨Int.mul_nonneg ha.1 hb.1, by omega⟩
set_option maxRecDepth 100000 in
set_option maxHeartbeats 2000000 in
theorem coherence_in (a : Option Addr) (m : List (List Int)) (cap : Nat) (w : World) (n : Nat) (hn : 4 ≤ n) (hm : MOk m) (hs : Ms w a m) :
    CallsIn Fence.wide n Tryz.prog 43 #[.slice a m.length cap] w (QPost (cohV m) w) := by
  have HM := Lib.hid hm; clear hm
  have HS := Lib.hid hs; clear hs
  have h1 : 1 ≤ n := by omega
  have C0 := Lib.hid (CohB.mk0 w a m.length cap 23 52 31)
  cases hv : validM m
  case false =>
    have HV := Lib.hid hv
    have HC : Hid (cohV m = ((0, 0), 1)) := by show cohV m = _; simp [cohV, hv]
    clear hv
    refine callsIn_of_wp_marks Tryz.func43 rfl trivial ?_ rfl
    simp only [Tryz.ntmps43, List.size_toArray, List.length_cons, List.length_nil, Nat.reduceAdd, Nat.reduceSub, Array.replicate_succ, Array.replicate_zero, List.push_toArray, List.append_toArray, List.nil_append, List.cons_append]
    gi_wp2_with (refine ⟨trivial, ?_⟩; gi_at_call 45; refine (callsIn_wide.2 (mvalid_any a m cap _ HM.out (HS.out.below C0.out.below))).mono ?_; rintro e w1 ⟨rfl, hb⟩; rw [HV.out]; have C1 := Lib.hid (C0.out.next hb); clear hb C0; obtain ⟨k0, k1, k2, k3, k4, k5, k6, k7, -⟩ := C1.out)
    rw [HC.out]
    exact coh_leaves (r := ((0, 0), 1)) (ms := []) (by intro W q0 q1 q2; simp [results, Tryz.results43, go_sem, q0, q1, q2]) ⟨List.nodup_nil, fun D hD => by cases hD⟩ (C1.out.stored 0 0 1)
  case true =>
  obtain ⟨hm1, hm6, hc1, hc10, hrows⟩ := validM_of hv
  obtain ⟨b, o, a0, c0, rfl, hcell⟩ := row0 HS.out hm1
  have HV := Lib.hid hv
  have hbw := cell_lt hcell
  have HCELL := Lib.hid hcell; clear hcell
  by_cases h2 : colsM m < 2
  · have HC : Hid (cohV m = ((0, 0), 8)) := by show cohV m = _; simp [cohV, hv, h2]
    clear hv
    refine callsIn_of_wp_marks Tryz.func43 rfl trivial ?_ rfl
    simp only [Tryz.ntmps43, List.size_toArray, List.length_cons, List.length_nil, Nat.reduceAdd, Nat.reduceSub, Array.replicate_succ, Array.replicate_zero, List.push_toArray, List.append_toArray, List.nil_append, List.cons_append]
    gi_wp2_with (refine ⟨trivial, ?_⟩; gi_at_call 45; refine (callsIn_wide.2 (mvalid_any _ m cap _ HM.out (HS.out.below C0.out.below))).mono ?_; rintro e w1 ⟨rfl, hb⟩; rw [HV.out]; have C1 := Lib.hid (C0.out.next hb); clear hb C0; obtain ⟨k0, k1, k2, k3, k4, k5, k6, k7, -⟩ := C1.out; have kc := (C1.out.below.cell (p := ⟨b, o, none⟩) hbw).trans HCELL.out)
    rw [HC.out]
    exact coh_leaves (r := ((0, 0), 8)) (ms := []) (by intro W q0 q1 q2; simp [results, Tryz.results43, go_sem, q0, q1, q2]) ⟨List.nodup_nil, fun D hD => by cases hD⟩ (C1.out.stored 0 0 8)
  refine callsIn_of_wp_marks Tryz.func43 rfl trivial ?_ rfl
  simp only [Tryz.ntmps43, List.size_toArray, List.length_cons, List.length_nil, Nat.reduceAdd, Nat.reduceSub, Array.replicate_succ, Array.replicate_zero, List.push_toArray, List.append_toArray, List.nil_append, List.cons_append]
  gi_wp2_with (first | (refine ⟨trivial, ?_⟩; gi_at_call 45; refine (callsIn_wide.2 (mvalid_any _ m cap _ HM.out (HS.out.below C0.out.below))).mono ?_; rintro e w1 ⟨rfl, hb⟩; rw [HV.out]; have C1 := Lib.hid (C0.out.next hb); clear hb C0; obtain ⟨k0, k1, k2, k3, k4, k5, k6, k7, -⟩ := C1.out; have kc := (C1.out.below.cell (p := ⟨b, o, none⟩) hbw).trans HCELL.out; have kal : ∀ ob, (w1.alloc ob).cell? ⟨w.heap.size, 0, none⟩ = some (.slice (some ⟨b, o, none⟩) m.length cap) := fun ob => (alloc_old _ _ _ _ (by omega)).trans k0) | (refine ⟨trivial, ?_⟩; gi_at_call 72; refine (callsIn_wide.2 (mpairs_any _ m.length cap _)).mono ?_; rintro e w2 ⟨rfl, rfl⟩))
  obtain ⟨V0, hV0⟩ : ∃ V0, (w1.alloc (.cells #[.int .i64 0, .int .i64 1] 52)).alloc (.cells #[.slice (some ⟨b, o, none⟩) m.length cap] 23) = V0 := ⟨_, rfl⟩
  have hg1 : (w1.alloc (.cells #[.int .i64 0, .int .i64 1] 52)).heap.size = w1.heap.size + 1 := World.size_alloc _ _
  have hsz : V0.heap.size = w1.heap.size + 2 := by rw [← hV0, World.size_alloc, hg1]
  have hBV : Below w1.heap.size w1 V0 := by rw [← hV0]; exact ((Below.refl _ _).alloc (Nat.le_refl _) _).alloc (by omega) _
  have hI0 : CohI w (some ⟨b, o, none⟩) m cap w1.heap.size [] V0 := by
    refine ⟨(fun x hx => by cases hx), ?_, C1.out.next hBV, ?_, C1.out.sz, by omega⟩
    · rw [← hV0]
      exact (FBox.made w1 0 1 _ rfl).later ((Below.refl (w1.heap.size + 1) _).alloc (by omega) _) (Nat.lt_succ_self _)
    · rw [← hV0, ← hg1]; exact alloc_cell _ _ _ _ _ rfl
  rw [hV0]
  have hb2 := hI0.box2
  have hkc := (hBV.cell (p := ⟨b, o, none⟩) (cell_lt kc)).trans kc
  have HKC := Lib.hid hkc
  have HI0 := Lib.hid hI0
  have HBV := Lib.hid hBV
  have HSZ := Lib.hid hsz
  have HG := Lib.hid C1.out.sz
  have HHV := Lib.hid hv
  refine wpIn_rangeFunc_ownF rfl h1 (gf := 103) (lb := #[.pointer (some ⟨w1.heap.size + 1, 0, none⟩)]) rfl trivial (enters_of Tryz.func103 (by kernel_rfl) rfl)
    (mpairs_stops Fence.wide (n - 1) trivial rfl (by omega) (w1.heap.size + 1) b o m.length cap (colsM m) c0 a0 hm1 hc10 V0 hb2 hkc) keepM_t (keepM_b (by omega) (by have := C1.out.below.size; omega)) (Below.refl _ _) (fun _ => rfl)
    (fun pre V => CohI w (some ⟨b, o, none⟩) m cap w1.heap.size pre V)
    (fun c pre V => c = .ret ∧ ResB w 0 0 8 V ∧ w.heap.size + 3 ≤ V.heap.size ∧ badP m (colsM m) = true) ?hI ?hIx hI0
    (fun x => { tmps := #[.slice (some ⟨b, o, none⟩) m.length cap, .pointer (some ⟨w.heap.size, 0, none⟩), .pointer (some ⟨w.heap.size + 1, 0, none⟩), .pointer (some ⟨w.heap.size + 1 + 1, 0, none⟩), .pointer (some ⟨w1.heap.size, 0, none⟩), .int .i64 (x.1.1 : Int), .int .i64 (x.1.2 : Int), undef, undef, .slice (some ⟨b, o, none⟩) m.length cap, .bool true, .bool false, undef, .slice (some ⟨b, o, none⟩) m.length cap, .pointer (some ⟨b, o, none⟩), .slice a0 (colsM m) c0, .int .i64 (colsM m : Nat), .bool (decide ((colsM m : Int) < 2)), undef, .agg #[.int .i64 0, .int .i64 1], .slice (some ⟨b, o, none⟩) m.length cap, .func (.func 103) #[] #[.pointer (some ⟨w1.heap.size + 1, 0, none⟩)], .int .i64 (x.1.1 : Int), .int .i64 (x.1.2 : Int), undef, undef, undef, undef, undef, undef, undef, undef, undef, undef, undef, undef, undef, undef, undef, undef, undef, undef, undef, undef, undef, undef, undef, undef, undef, undef, undef], defers := [] }) ?assign ?body ?done ?stop
  case hI =>
    intro pre V V' row h hg hr
    exact h.later (grown_from hg (B := w1.heap.size + 2) h.gv (fun r e => by have := (hr r e).1; omega)) (Nat.le_refl _)
  case hIx =>
    intro c pre V V' row h hg hr
    obtain ⟨q1, q2, q3, q4⟩ := h
    exact ⟨q1, q2.later (grown_from hg (B := w.heap.size + 3) q3 (fun r e => by have := (hr r e).1; have := HG.out; omega)) (Nat.le_refl _), Nat.le_trans q3 hg.size, q4⟩
  case assign =>
    intro l x V K hK
    gi_wp2
    exact hK
  case stop =>
    rintro D c pre V hD _ ⟨rfl, q2, q3, q4⟩ hK
    have HC : Hid (cohV m = ((0, 0), 8)) := by show cohV m = _; simp [cohV, HHV.out, h2, q4]
    gi_wp2
    rw [HC.out]
    exact coh_leaves (r := ((0, 0), 8)) (ms := [D]) (by intro W q0 q1 q2; simp [results, Tryz.results43, go_sem, q0, q1, q2]) ⟨by simp, fun E hE => by
      obtain rfl : E = D := by simpa using hE
      exact ⟨by have := HG.out; omega, hK⟩⟩ q2
  case done =>
    rintro D ys V hD rfl h hK
    have hnb : badP m (colsM m) = false := by
      unfold badP
      rw [List.any_eq_false]
      intro x hx
      simp [h.good x hx]
    have HC : Hid (cohV m = (bestL ((upPN (colsM m) (colsM m)).map fun x => (likeP m x).1), 0)) := by show cohV m = _; simp [cohV, HHV.out, h2, hnb]
    have HH := Lib.hid h
    obtain ⟨q0, q1, -, -⟩ := h.best
    obtain ⟨z0, z1, z2, z3, z4, z5, z6, z7, -⟩ := h.boxes
    have HK := Lib.hid hK
    clear h hK hb2 hkc hV0 hBV hI0 k0 k1 k2 k3 k4 k5 k6 kc kal
    obtain ⟨⟨gn, gd⟩, hbest⟩ : ∃ r, bestL ((upPN (colsM m) (colsM m)).map fun x => (likeP m x).1) = r := ⟨_, rfl⟩
    rw [hbest] at q0 q1
    dsimp only at q0 q1
    have HBE := Lib.hid hbest; clear hbest
    gi_wp2
    rw [HC.out, HBE.out]
    exact coh_leaves (r := ((gn, gd), 0)) (ms := [D]) (by intro W q0 q1 q2; simp [results, Tryz.results43, go_sem, q0, q1, q2]) ⟨by simp, fun E hE => by
      obtain rfl : E = D := by simpa using hE
      exact ⟨by have := HG.out; omega, (Below.heap_setCell _ _ _ _ (by show E ≠ w.heap.size + 2; have := HG.out; omega)).trans ((Below.heap_setCell _ _ _ _ (by show E ≠ w.heap.size + 1; have := HG.out; omega)).trans ((Below.heap_setCell _ _ _ _ (by show E ≠ w.heap.size + 1; have := HG.out; omega)).trans HK.out))⟩⟩ (HH.out.boxes.stored gn gd 0)
  case body =>
    intro l pre x V hI hlen
    obtain ⟨⟨i, j⟩, hij, hj⟩ := x
    have hjl : j < colsM m := hj
    have hil : i < colsM m := Nat.lt_trans hij hj
    have HI := Lib.hid hI
    obtain ⟨R, hR⟩ : ∃ R, likeC (colM m i) (colM m j) = R := ⟨_, rfl⟩
    have HR := Lib.hid hR
    have HRR : Hid (likeP m (⟨(i, j), hij, hj⟩ : PN (colsM m)) = R) := hR
    have hwV : w.heap.size < V.heap.size := by have := hI.boxes.sz; omega
    have HK0 := Lib.hid hI.boxes.box
    have HBW := Lib.hid hI.boxes.below
    have k0' := hI.boxes.box
    clear hI hR hb2 hkc hV0 hBV hI0 k0 k1 k2 k3 k4 k5 k6 kc kal
    dsimp only
    gi_wp2
    rename_i K' hK'
    refine (fun (key : ∀ (W : World) (T : Nat) (v27 v30 : Value), Hid (FBox T R.1.1 R.1.2 W ∧ V.heap.size ≤ T ∧ T < W.heap.size ∧ Below V.heap.size V W) → K' { tmps := #[.slice (some ⟨b, o, none⟩) m.length cap, .pointer (some ⟨w.heap.size, 0, none⟩), .pointer (some ⟨w.heap.size + 1, 0, none⟩), .pointer (some ⟨w.heap.size + 1 + 1, 0, none⟩), .pointer (some ⟨w1.heap.size, 0, none⟩), .int .i64 (i : Int), .int .i64 (j : Int), .pointer (some ⟨T, 0, none⟩), .int .i64 R.2, .slice (some ⟨b, o, none⟩) m.length cap, .bool true, .bool false, undef, .slice (some ⟨b, o, none⟩) m.length cap, .pointer (some ⟨b, o, none⟩), .slice a0 (colsM m) c0, .int .i64 (colsM m : Nat), .bool (decide ((colsM m : Int) < 2)), undef, .agg #[.int .i64 0, .int .i64 1], .slice (some ⟨b, o, none⟩) m.length cap, .func (.func 103) #[] #[.pointer (some ⟨w1.heap.size + 1, 0, none⟩)], .int .i64 (i : Int), .int .i64 (j : Int), .tuple #[.agg #[.int .i64 R.1.1, .int .i64 R.1.2], .int .i64 R.2], .slice (some ⟨b, o, none⟩) m.length cap, .int .i64 (i : Int), v27, .slice (some ⟨b, o, none⟩) m.length cap, .int .i64 (j : Int), v30, .tuple #[.agg #[.int .i64 R.1.1, .int .i64 R.1.2], .int .i64 R.2], .agg #[.int .i64 R.1.1, .int .i64 R.1.2], .int .i64 R.2, undef, undef, undef, undef, undef, undef, undef, undef, undef, undef, undef, undef, undef, undef, undef, undef, undef], defers := [] } W) => ?main) ?keyg
    case main =>
      have BB : Hid (Below V.heap.size V V.drew) := (Below.refl _ _).drew
      refine wpIn_region_G_round (S := untilS 99 (fun w' => w'.cell? ⟨w.heap.size, 0, none⟩ = some (.slice (some ⟨b, o, none⟩) m.length cap)) (fun _ => True)) (by kernel_rfl) (by kernel_rfl) ?hq (untilS_all ⟨k0', trivial⟩ _) (fun hc hS => ?_)
      case hq => rintro ⟨_, _, h⟩; exact h
      refine wpAnyG_take (i := 0) (oi := ?oi0) (v := ?v0) ?hi0 (by kernel_rfl) (by kernel_rfl) (by kernel_rfl) ?hQ0 (untilS_set (by decide)) hc ?hy0 hS ?rest0
      case hi0 => (simp only [List.getElem?_toArray, List.getElem?_cons_zero]; exact rfl)
      case hQ0 => exact fun _ _ _ h => h
      case hy0 => (refine Or.inl ⟨rfl, ?_⟩; (rintro w ⟨L, hsd, hL, hA, hB⟩; clear hsd hL hB; (try dsimp only at hA); go_simp; (try with_reducible rfl)))
      clear hc hS; intro hc hS
      simp only [Act.put, List.setIfInBounds_toArray, List.set_cons_zero, List.set_cons_succ]
      refine wpAnyG_take (i := 1) (oi := ?oi1) (v := ?v1) ?hi1 (by kernel_rfl) (by kernel_rfl) (by kernel_rfl) ?hQ1 (untilS_set (by decide)) hc ?hy1 hS ?rest1
      case hi1 => (simp only [List.getElem?_toArray, List.getElem?_cons_succ, List.getElem?_cons_zero]; exact rfl)
      case hQ1 => exact fun _ _ _ h => h
      case hy1 => (refine Or.inl ⟨rfl, ?_⟩; (intro w _; go_simp; (try with_reducible rfl)))
      clear hc hS; intro hc hS
      simp only [Act.put, List.setIfInBounds_toArray, List.set_cons_zero, List.set_cons_succ]
      refine wpAnyG_take (i := 3) (oi := ?oi3) (v := ?v3) ?hi3 (by kernel_rfl) (by kernel_rfl) (by kernel_rfl) ?hQ3 (untilS_set (by decide)) hc ?hy3 hS ?rest3
      case hi3 => (simp only [List.getElem?_toArray, List.getElem?_cons_succ, List.getElem?_cons_zero]; exact rfl)
      case hQ3 => exact fun _ _ _ h => h
      case hy3 => (refine Or.inl ⟨rfl, ?_⟩; (rintro w ⟨L, hsd, hL, hA, hB⟩; clear hsd hL hB; (try dsimp only at hA); go_simp; (try with_reducible rfl)))
      clear hc hS; intro hc hS
      simp only [Act.put, List.setIfInBounds_toArray, List.set_cons_zero, List.set_cons_succ]
      refine wpAnyG_take (i := 4) (oi := ?oi4) (v := ?v4) ?hi4 (by kernel_rfl) (by kernel_rfl) (by kernel_rfl) ?hQ4 (untilS_set (by decide)) hc ?hy4 hS ?rest4
      case hi4 => (simp only [List.getElem?_toArray, List.getElem?_cons_succ, List.getElem?_cons_zero]; exact rfl)
      case hQ4 => exact fun _ _ _ h => h
      case hy4 => (refine Or.inl ⟨rfl, ?_⟩; (intro w _; go_simp; (try with_reducible rfl)))
      clear hc hS; intro hc hS
      simp only [Act.put, List.setIfInBounds_toArray, List.set_cons_zero, List.set_cons_succ]
      refine wpAnyG_two (i := 2) (j := 10) (o := ?oz) (p := ?pz) (by kernel_rfl) ?hiz ?hjz hc ?fz ?gz
      case hiz => (simp only [List.getElem?_toArray, List.getElem?_cons_succ, List.getElem?_cons_zero]; exact rfl)
      case hjz => (simp only [List.getElem?_toArray, List.getElem?_cons_succ, List.getElem?_cons_zero]; exact rfl)
      case fz =>
        clear hc; intro hc K hK; have HK := Lib.hid hK; clear hK
        go_simp
        refine (mcolumn_any (some ⟨b, o, none⟩) m cap i _ HHV.out hil (HS.out.below (HBW.out.trans (BB.out.mono HBW.out.size)))).mono ?_
        rintro e wA ⟨hb, aA, cA, rfl, sl⟩
        (try dsimp only)
        have SLA := Lib.hid sl
        have BB := Lib.hid (BB.out.trans (hb.mono BB.out.size))
        clear hb sl
        refine HK.out _ _ (untilS_all ⟨(BB.out.cell (p := ⟨w.heap.size, 0, none⟩) hwV).trans HK0.out, trivial⟩ _) ?_
        clear HK K hS; intro hS
        (try simp only [Act.put, List.setIfInBounds_toArray, List.set_cons_zero, List.set_cons_succ])
        refine wpAnyG_two (i := 5) (j := 10) (o := ?ocz) (p := ?pcz) (by kernel_rfl) ?hicz ?hjcz hc ?fcz ?gcz
        case hicz => (simp only [List.getElem?_toArray, List.getElem?_cons_succ, List.getElem?_cons_zero]; exact rfl)
        case hjcz => (simp only [List.getElem?_toArray, List.getElem?_cons_succ, List.getElem?_cons_zero]; exact rfl)
        case fcz =>
          clear hc; intro hc K hK; have HK := Lib.hid hK; clear hK
          go_simp
          refine (mcolumn_any (some ⟨b, o, none⟩) m cap j _ HHV.out hjl (HS.out.below (HBW.out.trans (BB.out.mono HBW.out.size)))).mono ?_
          rintro e wB ⟨hb, aB, cB, rfl, sl⟩
          (try dsimp only)
          have SLA := Lib.hid (SLA.out.below hb)
          have SLB := Lib.hid sl
          have BB := Lib.hid (BB.out.trans (hb.mono BB.out.size))
          clear hb sl
          refine HK.out _ _ (untilS_all ⟨(BB.out.cell (p := ⟨w.heap.size, 0, none⟩) hwV).trans HK0.out, trivial⟩ _) ?_
          clear HK K hS; intro hS
          (try simp only [Act.put, List.setIfInBounds_toArray, List.set_cons_zero, List.set_cons_succ])
          refine wpAnyG_two (i := 6) (j := 10) (o := ?occz) (p := ?pccz) (by kernel_rfl) ?hiccz ?hjccz hc ?fccz ?gccz
          case hiccz => (simp only [List.getElem?_toArray, List.getElem?_cons_succ, List.getElem?_cons_zero]; exact rfl)
          case hjccz => (simp only [List.getElem?_toArray, List.getElem?_cons_succ, List.getElem?_cons_zero]; exact rfl)
          case fccz =>
            clear hc; intro hc K hK; have HK := Lib.hid hK; clear hK
            go_simp
            refine (likeness_any aA (colM m i) cA aB (colM m j) cB _ (colM_all HHV.out hil) (colM_all HHV.out hjl) (by rw [colM_length, colM_length]) (by rw [colM_length]; omega) SLA.out SLB.out).mono ?_
            rintro e wC ⟨hb, rfl⟩
            (try dsimp only)
            rw [HR.out]
            have BB := Lib.hid (BB.out.trans (hb.mono BB.out.size))
            clear hb
            refine HK.out _ _ (untilS_all ⟨(BB.out.cell (p := ⟨w.heap.size, 0, none⟩) hwV).trans HK0.out, trivial⟩ _) ?_
            clear HK K hS; intro hS
            (try simp only [Act.put, List.setIfInBounds_toArray, List.set_cons_zero, List.set_cons_succ])
            refine wpAnyG_take (i := 7) (oi := ?oi7ccc) (v := ?v7ccc) ?hi7ccc (by kernel_rfl) (by kernel_rfl) (by kernel_rfl) ?hQ7ccc (untilS_set (by decide)) hc ?hy7ccc hS ?rest7ccc
            case hi7ccc => (simp only [List.getElem?_toArray, List.getElem?_cons_succ, List.getElem?_cons_zero]; exact rfl)
            case hQ7ccc => exact fun _ _ _ h => h
            case hy7ccc => (refine Or.inl ⟨rfl, ?_⟩; (intro w _; go_simp; (try with_reducible rfl)))
            clear hc hS; intro hc hS
            simp only [Act.put, List.setIfInBounds_toArray, List.set_cons_zero, List.set_cons_succ]
            refine wpAnyG_take (i := 8) (oi := ?oi8ccc) (v := ?v8ccc) ?hi8ccc (by kernel_rfl) (by kernel_rfl) (by kernel_rfl) ?hQ8ccc (untilS_set (by decide)) hc ?hy8ccc hS ?rest8ccc
            case hi8ccc => (simp only [List.getElem?_toArray, List.getElem?_cons_succ, List.getElem?_cons_zero]; exact rfl)
            case hQ8ccc => exact fun _ _ _ h => h
            case hy8ccc => (refine Or.inl ⟨rfl, ?_⟩; (intro w _; go_simp; (try with_reducible rfl)))
            clear hc hS; intro hc hS
            simp only [Act.put, List.setIfInBounds_toArray, List.set_cons_zero, List.set_cons_succ]
            refine wpAnyG_take (i := 9) (oi := ?oi9ccc) (v := ?v9ccc) ?hi9ccc (by kernel_rfl) (by kernel_rfl) (by kernel_rfl) ?hQ9ccc (untilS_set (by decide)) hc ?hy9ccc hS ?rest9ccc
            case hi9ccc => (simp only [List.getElem?_toArray, List.getElem?_cons_succ, List.getElem?_cons_zero]; exact rfl)
            case hQ9ccc => exact fun _ _ _ h => h
            case hy9ccc => (refine Or.inl ⟨rfl, ?_⟩; (intro w _; go_simp; (try with_reducible rfl)))
            clear hc hS; intro hc hS
            simp only [Act.put, List.setIfInBounds_toArray, List.set_cons_zero, List.set_cons_succ]
            refine wpAnyG_only (i := 10) (o := ?oi10ccca) (by kernel_rfl) ?hi10ccca hc ?rest10ccca
            case hi10ccca => (simp only [List.getElem?_toArray, List.getElem?_cons_succ, List.getElem?_cons_zero]; exact rfl)
            clear hc; intro hc K hK; have HK := Lib.hid hK; clear hK
            go_simp
            have BBp := BB
            have RT : Hid (FBox wC.heap.size 0 0 (wC.alloc (.cells #[.int .i64 0, .int .i64 0] 52)) ∧ V.heap.size ≤ wC.heap.size ∧ wC.heap.size < (wC.alloc (.cells #[.int .i64 0, .int .i64 0] 52)).heap.size) := ⟨FBox.made wC 0 0 _ rfl, BB.out.size, by rw [World.size_alloc]; exact Nat.lt_succ_self _⟩
            have SLA := Lib.hid (SLA.out.alloc (.cells #[.int .i64 0, .int .i64 0] 52))
            have SLB := Lib.hid (SLB.out.alloc (.cells #[.int .i64 0, .int .i64 0] 52))
            have BB : Hid (Below V.heap.size V (wC.alloc (.cells #[.int .i64 0, .int .i64 0] 52))) := BB.out.alloc BB.out.size _
            refine HK.out _ _ (untilS_all ⟨(BB.out.cell (p := ⟨w.heap.size, 0, none⟩) hwV).trans HK0.out, trivial⟩ _) ?_
            clear HK K hS; intro hS
            (try simp only [Act.put, List.setIfInBounds_toArray, List.set_cons_zero, List.set_cons_succ])
            refine wpAnyG_only (i := 11) (o := ?oi11ccca) (by kernel_rfl) ?hi11ccca hc ?rest11ccca
            case hi11ccca => (simp only [List.getElem?_toArray, List.getElem?_cons_succ, List.getElem?_cons_zero]; exact rfl)
            clear hc; intro hc K hK; have HK := Lib.hid hK; clear hK
            obtain ⟨q0, q1, q2, q3⟩ := RT.out.1
            go_simp
            have BT := Lib.hid (FBox.made wC R.1.1 R.1.2 52 rfl)
            have BB : Hid (Below V.heap.size V (wC.alloc (.cells #[.int .i64 R.1.1, .int .i64 R.1.2] 52))) := BBp.out.alloc BBp.out.size _
            refine HK.out _ _ (untilS_all ⟨(BB.out.cell (p := ⟨w.heap.size, 0, none⟩) hwV).trans HK0.out, trivial⟩ _) ?_
            clear HK K hS; intro hS
            (try simp only [Act.put, List.setIfInBounds_toArray, List.set_cons_zero, List.set_cons_succ])
            refine wpAnyG_take (i := 12) (oi := ?oi12ccca) (v := ?v12ccca) ?hi12ccca (by kernel_rfl) (by kernel_rfl) (by kernel_rfl) ?hQ12ccca (untilS_set (by decide)) hc ?hy12ccca hS ?rest12ccca
            case hi12ccca => (simp only [List.getElem?_toArray, List.getElem?_cons_succ, List.getElem?_cons_zero]; exact rfl)
            case hQ12ccca => exact fun _ _ _ h => h
            case hy12ccca => (refine Or.inl ⟨rfl, ?_⟩; (intro w _; go_simp; (try with_reducible rfl)))
            clear hc hS; intro hc hS
            simp only [Act.put, List.setIfInBounds_toArray, List.set_cons_zero, List.set_cons_succ]
            refine wpAnyG_done (by kernel_rfl) ?_ _
            clear hc hS
            exact key _ _ _ _ ⟨BT.out, RT.out.2.1, by rw [World.size_alloc]; exact Nat.lt_succ_self _, BB.out⟩
          case gccz =>
            clear hc; intro hc K hK; have HK := Lib.hid hK; clear hK
            go_simp
            have BBp := BB
            have RT : Hid (FBox wB.heap.size 0 0 (wB.alloc (.cells #[.int .i64 0, .int .i64 0] 52)) ∧ V.heap.size ≤ wB.heap.size ∧ wB.heap.size < (wB.alloc (.cells #[.int .i64 0, .int .i64 0] 52)).heap.size) := ⟨FBox.made wB 0 0 _ rfl, BB.out.size, by rw [World.size_alloc]; exact Nat.lt_succ_self _⟩
            have SLA := Lib.hid (SLA.out.alloc (.cells #[.int .i64 0, .int .i64 0] 52))
            have SLB := Lib.hid (SLB.out.alloc (.cells #[.int .i64 0, .int .i64 0] 52))
            have BB : Hid (Below V.heap.size V (wB.alloc (.cells #[.int .i64 0, .int .i64 0] 52))) := BB.out.alloc BB.out.size _
            refine HK.out _ _ (untilS_all ⟨(BB.out.cell (p := ⟨w.heap.size, 0, none⟩) hwV).trans HK0.out, trivial⟩ _) ?_
            clear HK K hS; intro hS
            (try simp only [Act.put, List.setIfInBounds_toArray, List.set_cons_zero, List.set_cons_succ])
            refine wpAnyG_only (i := 6) (o := ?oi6ccac) (by kernel_rfl) ?hi6ccac hc ?rest6ccac
            case hi6ccac => (simp only [List.getElem?_toArray, List.getElem?_cons_succ, List.getElem?_cons_zero]; exact rfl)
            clear hc; intro hc K hK; have HK := Lib.hid hK; clear hK
            go_simp
            refine (likeness_any aA (colM m i) cA aB (colM m j) cB _ (colM_all HHV.out hil) (colM_all HHV.out hjl) (by rw [colM_length, colM_length]) (by rw [colM_length]; omega) SLA.out SLB.out).mono ?_
            rintro e wC ⟨hb, rfl⟩
            (try dsimp only)
            rw [HR.out]
            have RT := Lib.hid (And.intro (RT.out.1.later hb RT.out.2.2) (And.intro RT.out.2.1 (Nat.lt_of_lt_of_le RT.out.2.2 hb.size)))
            have BB := Lib.hid (BB.out.trans (hb.mono BB.out.size))
            clear hb
            refine HK.out _ _ (untilS_all ⟨(BB.out.cell (p := ⟨w.heap.size, 0, none⟩) hwV).trans HK0.out, trivial⟩ _) ?_
            clear HK K hS; intro hS
            (try simp only [Act.put, List.setIfInBounds_toArray, List.set_cons_zero, List.set_cons_succ])
            refine wpAnyG_take (i := 7) (oi := ?oi7ccac) (v := ?v7ccac) ?hi7ccac (by kernel_rfl) (by kernel_rfl) (by kernel_rfl) ?hQ7ccac (untilS_set (by decide)) hc ?hy7ccac hS ?rest7ccac
            case hi7ccac => (simp only [List.getElem?_toArray, List.getElem?_cons_succ, List.getElem?_cons_zero]; exact rfl)
            case hQ7ccac => exact fun _ _ _ h => h
            case hy7ccac => (refine Or.inl ⟨rfl, ?_⟩; (intro w _; go_simp; (try with_reducible rfl)))
            clear hc hS; intro hc hS
            simp only [Act.put, List.setIfInBounds_toArray, List.set_cons_zero, List.set_cons_succ]
            refine wpAnyG_take (i := 8) (oi := ?oi8ccac) (v := ?v8ccac) ?hi8ccac (by kernel_rfl) (by kernel_rfl) (by kernel_rfl) ?hQ8ccac (untilS_set (by decide)) hc ?hy8ccac hS ?rest8ccac
            case hi8ccac => (simp only [List.getElem?_toArray, List.getElem?_cons_succ, List.getElem?_cons_zero]; exact rfl)
            case hQ8ccac => exact fun _ _ _ h => h
            case hy8ccac => (refine Or.inl ⟨rfl, ?_⟩; (intro w _; go_simp; (try with_reducible rfl)))
            clear hc hS; intro hc hS
            simp only [Act.put, List.setIfInBounds_toArray, List.set_cons_zero, List.set_cons_succ]
            refine wpAnyG_take (i := 9) (oi := ?oi9ccac) (v := ?v9ccac) ?hi9ccac (by kernel_rfl) (by kernel_rfl) (by kernel_rfl) ?hQ9ccac (untilS_set (by decide)) hc ?hy9ccac hS ?rest9ccac
            case hi9ccac => (simp only [List.getElem?_toArray, List.getElem?_cons_succ, List.getElem?_cons_zero]; exact rfl)
            case hQ9ccac => exact fun _ _ _ h => h
            case hy9ccac => (refine Or.inl ⟨rfl, ?_⟩; (intro w _; go_simp; (try with_reducible rfl)))
            clear hc hS; intro hc hS
            simp only [Act.put, List.setIfInBounds_toArray, List.set_cons_zero, List.set_cons_succ]
            refine wpAnyG_only (i := 11) (o := ?oi11ccac) (by kernel_rfl) ?hi11ccac hc ?rest11ccac
            case hi11ccac => (simp only [List.getElem?_toArray, List.getElem?_cons_succ, List.getElem?_cons_zero]; exact rfl)
            clear hc; intro hc K hK; have HK := Lib.hid hK; clear hK
            obtain ⟨q0, q1, q2, q3⟩ := RT.out.1
            go_simp
            have BT := Lib.hid (RT.out.1.over R.1.1 R.1.2)
            have BB := Lib.hid ((BB.out.setCell (p := ⟨wB.heap.size, 0, none⟩) RT.out.2.1 (.int .i64 R.1.1)).setCell (p := ⟨wB.heap.size, 1, none⟩) RT.out.2.1 (.int .i64 R.1.2))
            refine HK.out _ _ (untilS_all ⟨(BB.out.cell (p := ⟨w.heap.size, 0, none⟩) hwV).trans HK0.out, trivial⟩ _) ?_
            clear HK K hS; intro hS
            (try simp only [Act.put, List.setIfInBounds_toArray, List.set_cons_zero, List.set_cons_succ])
            refine wpAnyG_take (i := 12) (oi := ?oi12ccac) (v := ?v12ccac) ?hi12ccac (by kernel_rfl) (by kernel_rfl) (by kernel_rfl) ?hQ12ccac (untilS_set (by decide)) hc ?hy12ccac hS ?rest12ccac
            case hi12ccac => (simp only [List.getElem?_toArray, List.getElem?_cons_succ, List.getElem?_cons_zero]; exact rfl)
            case hQ12ccac => exact fun _ _ _ h => h
            case hy12ccac => (refine Or.inl ⟨rfl, ?_⟩; (intro w _; go_simp; (try with_reducible rfl)))
            clear hc hS; intro hc hS
            simp only [Act.put, List.setIfInBounds_toArray, List.set_cons_zero, List.set_cons_succ]
            refine wpAnyG_done (by kernel_rfl) ?_ _
            clear hc hS
            exact key _ _ _ _ ⟨BT.out, RT.out.2.1, by rw [World.size_setCell, World.size_setCell]; exact RT.out.2.2, BB.out⟩
        case gcz =>
          clear hc; intro hc K hK; have HK := Lib.hid hK; clear hK
          go_simp
          have BBp := BB
          have RT : Hid (FBox wA.heap.size 0 0 (wA.alloc (.cells #[.int .i64 0, .int .i64 0] 52)) ∧ V.heap.size ≤ wA.heap.size ∧ wA.heap.size < (wA.alloc (.cells #[.int .i64 0, .int .i64 0] 52)).heap.size) := ⟨FBox.made wA 0 0 _ rfl, BB.out.size, by rw [World.size_alloc]; exact Nat.lt_succ_self _⟩
          have SLA := Lib.hid (SLA.out.alloc (.cells #[.int .i64 0, .int .i64 0] 52))
          have BB : Hid (Below V.heap.size V (wA.alloc (.cells #[.int .i64 0, .int .i64 0] 52))) := BB.out.alloc BB.out.size _
          refine HK.out _ _ (untilS_all ⟨(BB.out.cell (p := ⟨w.heap.size, 0, none⟩) hwV).trans HK0.out, trivial⟩ _) ?_
          clear HK K hS; intro hS
          (try simp only [Act.put, List.setIfInBounds_toArray, List.set_cons_zero, List.set_cons_succ])
          refine wpAnyG_only (i := 5) (o := ?oi5cac) (by kernel_rfl) ?hi5cac hc ?rest5cac
          case hi5cac => (simp only [List.getElem?_toArray, List.getElem?_cons_succ, List.getElem?_cons_zero]; exact rfl)
          clear hc; intro hc K hK; have HK := Lib.hid hK; clear hK
          go_simp
          refine (mcolumn_any (some ⟨b, o, none⟩) m cap j _ HHV.out hjl (HS.out.below (HBW.out.trans (BB.out.mono HBW.out.size)))).mono ?_
          rintro e wB ⟨hb, aB, cB, rfl, sl⟩
          (try dsimp only)
          have RT := Lib.hid (And.intro (RT.out.1.later hb RT.out.2.2) (And.intro RT.out.2.1 (Nat.lt_of_lt_of_le RT.out.2.2 hb.size)))
          have SLA := Lib.hid (SLA.out.below hb)
          have SLB := Lib.hid sl
          have BB := Lib.hid (BB.out.trans (hb.mono BB.out.size))
          clear hb sl
          refine HK.out _ _ (untilS_all ⟨(BB.out.cell (p := ⟨w.heap.size, 0, none⟩) hwV).trans HK0.out, trivial⟩ _) ?_
          clear HK K hS; intro hS
          (try simp only [Act.put, List.setIfInBounds_toArray, List.set_cons_zero, List.set_cons_succ])
          refine wpAnyG_only (i := 6) (o := ?oi6cacc) (by kernel_rfl) ?hi6cacc hc ?rest6cacc
          case hi6cacc => (simp only [List.getElem?_toArray, List.getElem?_cons_succ, List.getElem?_cons_zero]; exact rfl)
          clear hc; intro hc K hK; have HK := Lib.hid hK; clear hK
          go_simp
          refine (likeness_any aA (colM m i) cA aB (colM m j) cB _ (colM_all HHV.out hil) (colM_all HHV.out hjl) (by rw [colM_length, colM_length]) (by rw [colM_length]; omega) SLA.out SLB.out).mono ?_
          rintro e wC ⟨hb, rfl⟩
          (try dsimp only)
          rw [HR.out]
          have RT := Lib.hid (And.intro (RT.out.1.later hb RT.out.2.2) (And.intro RT.out.2.1 (Nat.lt_of_lt_of_le RT.out.2.2 hb.size)))
          have BB := Lib.hid (BB.out.trans (hb.mono BB.out.size))
          clear hb
          refine HK.out _ _ (untilS_all ⟨(BB.out.cell (p := ⟨w.heap.size, 0, none⟩) hwV).trans HK0.out, trivial⟩ _) ?_
          clear HK K hS; intro hS
          (try simp only [Act.put, List.setIfInBounds_toArray, List.set_cons_zero, List.set_cons_succ])
          refine wpAnyG_take (i := 7) (oi := ?oi7cacc) (v := ?v7cacc) ?hi7cacc (by kernel_rfl) (by kernel_rfl) (by kernel_rfl) ?hQ7cacc (untilS_set (by decide)) hc ?hy7cacc hS ?rest7cacc
          case hi7cacc => (simp only [List.getElem?_toArray, List.getElem?_cons_succ, List.getElem?_cons_zero]; exact rfl)
          case hQ7cacc => exact fun _ _ _ h => h
          case hy7cacc => (refine Or.inl ⟨rfl, ?_⟩; (intro w _; go_simp; (try with_reducible rfl)))
          clear hc hS; intro hc hS
          simp only [Act.put, List.setIfInBounds_toArray, List.set_cons_zero, List.set_cons_succ]
          refine wpAnyG_take (i := 8) (oi := ?oi8cacc) (v := ?v8cacc) ?hi8cacc (by kernel_rfl) (by kernel_rfl) (by kernel_rfl) ?hQ8cacc (untilS_set (by decide)) hc ?hy8cacc hS ?rest8cacc
          case hi8cacc => (simp only [List.getElem?_toArray, List.getElem?_cons_succ, List.getElem?_cons_zero]; exact rfl)
          case hQ8cacc => exact fun _ _ _ h => h
          case hy8cacc => (refine Or.inl ⟨rfl, ?_⟩; (intro w _; go_simp; (try with_reducible rfl)))
          clear hc hS; intro hc hS
          simp only [Act.put, List.setIfInBounds_toArray, List.set_cons_zero, List.set_cons_succ]
          refine wpAnyG_take (i := 9) (oi := ?oi9cacc) (v := ?v9cacc) ?hi9cacc (by kernel_rfl) (by kernel_rfl) (by kernel_rfl) ?hQ9cacc (untilS_set (by decide)) hc ?hy9cacc hS ?rest9cacc
          case hi9cacc => (simp only [List.getElem?_toArray, List.getElem?_cons_succ, List.getElem?_cons_zero]; exact rfl)
          case hQ9cacc => exact fun _ _ _ h => h
          case hy9cacc => (refine Or.inl ⟨rfl, ?_⟩; (intro w _; go_simp; (try with_reducible rfl)))
          clear hc hS; intro hc hS
          simp only [Act.put, List.setIfInBounds_toArray, List.set_cons_zero, List.set_cons_succ]
          refine wpAnyG_only (i := 11) (o := ?oi11cacc) (by kernel_rfl) ?hi11cacc hc ?rest11cacc
          case hi11cacc => (simp only [List.getElem?_toArray, List.getElem?_cons_succ, List.getElem?_cons_zero]; exact rfl)
          clear hc; intro hc K hK; have HK := Lib.hid hK; clear hK
          obtain ⟨q0, q1, q2, q3⟩ := RT.out.1
          go_simp
          have BT := Lib.hid (RT.out.1.over R.1.1 R.1.2)
          have BB := Lib.hid ((BB.out.setCell (p := ⟨wA.heap.size, 0, none⟩) RT.out.2.1 (.int .i64 R.1.1)).setCell (p := ⟨wA.heap.size, 1, none⟩) RT.out.2.1 (.int .i64 R.1.2))
          refine HK.out _ _ (untilS_all ⟨(BB.out.cell (p := ⟨w.heap.size, 0, none⟩) hwV).trans HK0.out, trivial⟩ _) ?_
          clear HK K hS; intro hS
          (try simp only [Act.put, List.setIfInBounds_toArray, List.set_cons_zero, List.set_cons_succ])
          refine wpAnyG_take (i := 12) (oi := ?oi12cacc) (v := ?v12cacc) ?hi12cacc (by kernel_rfl) (by kernel_rfl) (by kernel_rfl) ?hQ12cacc (untilS_set (by decide)) hc ?hy12cacc hS ?rest12cacc
          case hi12cacc => (simp only [List.getElem?_toArray, List.getElem?_cons_succ, List.getElem?_cons_zero]; exact rfl)
          case hQ12cacc => exact fun _ _ _ h => h
          case hy12cacc => (refine Or.inl ⟨rfl, ?_⟩; (intro w _; go_simp; (try with_reducible rfl)))
          clear hc hS; intro hc hS
          simp only [Act.put, List.setIfInBounds_toArray, List.set_cons_zero, List.set_cons_succ]
          refine wpAnyG_done (by kernel_rfl) ?_ _
          clear hc hS
          exact key _ _ _ _ ⟨BT.out, RT.out.2.1, by rw [World.size_setCell, World.size_setCell]; exact RT.out.2.2, BB.out⟩
      case gz =>
        clear hc; intro hc K hK; have HK := Lib.hid hK; clear hK
        go_simp
        have BBp := BB
        have RT : Hid (FBox V.heap.size 0 0 (V.drew.alloc (.cells #[.int .i64 0, .int .i64 0] 52)) ∧ V.heap.size ≤ V.heap.size ∧ V.heap.size < (V.drew.alloc (.cells #[.int .i64 0, .int .i64 0] 52)).heap.size) := ⟨FBox.made V.drew 0 0 _ rfl, BB.out.size, by rw [World.size_alloc]; exact Nat.lt_succ_self _⟩
        have BB : Hid (Below V.heap.size V (V.drew.alloc (.cells #[.int .i64 0, .int .i64 0] 52))) := BB.out.alloc BB.out.size _
        refine HK.out _ _ (untilS_all ⟨(BB.out.cell (p := ⟨w.heap.size, 0, none⟩) hwV).trans HK0.out, trivial⟩ _) ?_
        clear HK K hS; intro hS
        (try simp only [Act.put, List.setIfInBounds_toArray, List.set_cons_zero, List.set_cons_succ])
        refine wpAnyG_only (i := 2) (o := ?oi2ac) (by kernel_rfl) ?hi2ac hc ?rest2ac
        case hi2ac => (simp only [List.getElem?_toArray, List.getElem?_cons_succ, List.getElem?_cons_zero]; exact rfl)
        clear hc; intro hc K hK; have HK := Lib.hid hK; clear hK
        go_simp
        refine (mcolumn_any (some ⟨b, o, none⟩) m cap i _ HHV.out hil (HS.out.below (HBW.out.trans (BB.out.mono HBW.out.size)))).mono ?_
        rintro e wA ⟨hb, aA, cA, rfl, sl⟩
        (try dsimp only)
        have RT := Lib.hid (And.intro (RT.out.1.later hb RT.out.2.2) (And.intro RT.out.2.1 (Nat.lt_of_lt_of_le RT.out.2.2 hb.size)))
        have SLA := Lib.hid sl
        have BB := Lib.hid (BB.out.trans (hb.mono BB.out.size))
        clear hb sl
        refine HK.out _ _ (untilS_all ⟨(BB.out.cell (p := ⟨w.heap.size, 0, none⟩) hwV).trans HK0.out, trivial⟩ _) ?_
        clear HK K hS; intro hS
        (try simp only [Act.put, List.setIfInBounds_toArray, List.set_cons_zero, List.set_cons_succ])
        refine wpAnyG_only (i := 5) (o := ?oi5acc) (by kernel_rfl) ?hi5acc hc ?rest5acc
        case hi5acc => (simp only [List.getElem?_toArray, List.getElem?_cons_succ, List.getElem?_cons_zero]; exact rfl)
        clear hc; intro hc K hK; have HK := Lib.hid hK; clear hK
        go_simp
        refine (mcolumn_any (some ⟨b, o, none⟩) m cap j _ HHV.out hjl (HS.out.below (HBW.out.trans (BB.out.mono HBW.out.size)))).mono ?_
        rintro e wB ⟨hb, aB, cB, rfl, sl⟩
        (try dsimp only)
        have RT := Lib.hid (And.intro (RT.out.1.later hb RT.out.2.2) (And.intro RT.out.2.1 (Nat.lt_of_lt_of_le RT.out.2.2 hb.size)))
        have SLA := Lib.hid (SLA.out.below hb)
        have SLB := Lib.hid sl
        have BB := Lib.hid (BB.out.trans (hb.mono BB.out.size))
        clear hb sl
        refine HK.out _ _ (untilS_all ⟨(BB.out.cell (p := ⟨w.heap.size, 0, none⟩) hwV).trans HK0.out, trivial⟩ _) ?_
        clear HK K hS; intro hS
        (try simp only [Act.put, List.setIfInBounds_toArray, List.set_cons_zero, List.set_cons_succ])
        refine wpAnyG_only (i := 6) (o := ?oi6accc) (by kernel_rfl) ?hi6accc hc ?rest6accc
        case hi6accc => (simp only [List.getElem?_toArray, List.getElem?_cons_succ, List.getElem?_cons_zero]; exact rfl)
        clear hc; intro hc K hK; have HK := Lib.hid hK; clear hK
        go_simp
        refine (likeness_any aA (colM m i) cA aB (colM m j) cB _ (colM_all HHV.out hil) (colM_all HHV.out hjl) (by rw [colM_length, colM_length]) (by rw [colM_length]; omega) SLA.out SLB.out).mono ?_
        rintro e wC ⟨hb, rfl⟩
        (try dsimp only)
        rw [HR.out]
        have RT := Lib.hid (And.intro (RT.out.1.later hb RT.out.2.2) (And.intro RT.out.2.1 (Nat.lt_of_lt_of_le RT.out.2.2 hb.size)))
        have BB := Lib.hid (BB.out.trans (hb.mono BB.out.size))
        clear hb
        refine HK.out _ _ (untilS_all ⟨(BB.out.cell (p := ⟨w.heap.size, 0, none⟩) hwV).trans HK0.out, trivial⟩ _) ?_
        clear HK K hS; intro hS
        (try simp only [Act.put, List.setIfInBounds_toArray, List.set_cons_zero, List.set_cons_succ])
        refine wpAnyG_take (i := 7) (oi := ?oi7accc) (v := ?v7accc) ?hi7accc (by kernel_rfl) (by kernel_rfl) (by kernel_rfl) ?hQ7accc (untilS_set (by decide)) hc ?hy7accc hS ?rest7accc
        case hi7accc => (simp only [List.getElem?_toArray, List.getElem?_cons_succ, List.getElem?_cons_zero]; exact rfl)
        case hQ7accc => exact fun _ _ _ h => h
        case hy7accc => (refine Or.inl ⟨rfl, ?_⟩; (intro w _; go_simp; (try with_reducible rfl)))
        clear hc hS; intro hc hS
        simp only [Act.put, List.setIfInBounds_toArray, List.set_cons_zero, List.set_cons_succ]
        refine wpAnyG_take (i := 8) (oi := ?oi8accc) (v := ?v8accc) ?hi8accc (by kernel_rfl) (by kernel_rfl) (by kernel_rfl) ?hQ8accc (untilS_set (by decide)) hc ?hy8accc hS ?rest8accc
        case hi8accc => (simp only [List.getElem?_toArray, List.getElem?_cons_succ, List.getElem?_cons_zero]; exact rfl)
        case hQ8accc => exact fun _ _ _ h => h
        case hy8accc => (refine Or.inl ⟨rfl, ?_⟩; (intro w _; go_simp; (try with_reducible rfl)))
        clear hc hS; intro hc hS
        simp only [Act.put, List.setIfInBounds_toArray, List.set_cons_zero, List.set_cons_succ]
        refine wpAnyG_take (i := 9) (oi := ?oi9accc) (v := ?v9accc) ?hi9accc (by kernel_rfl) (by kernel_rfl) (by kernel_rfl) ?hQ9accc (untilS_set (by decide)) hc ?hy9accc hS ?rest9accc
        case hi9accc => (simp only [List.getElem?_toArray, List.getElem?_cons_succ, List.getElem?_cons_zero]; exact rfl)
        case hQ9accc => exact fun _ _ _ h => h
        case hy9accc => (refine Or.inl ⟨rfl, ?_⟩; (intro w _; go_simp; (try with_reducible rfl)))
        clear hc hS; intro hc hS
        simp only [Act.put, List.setIfInBounds_toArray, List.set_cons_zero, List.set_cons_succ]
        refine wpAnyG_only (i := 11) (o := ?oi11accc) (by kernel_rfl) ?hi11accc hc ?rest11accc
        case hi11accc => (simp only [List.getElem?_toArray, List.getElem?_cons_succ, List.getElem?_cons_zero]; exact rfl)
        clear hc; intro hc K hK; have HK := Lib.hid hK; clear hK
        obtain ⟨q0, q1, q2, q3⟩ := RT.out.1
        go_simp
        have BT := Lib.hid (RT.out.1.over R.1.1 R.1.2)
        have BB := Lib.hid ((BB.out.setCell (p := ⟨V.heap.size, 0, none⟩) RT.out.2.1 (.int .i64 R.1.1)).setCell (p := ⟨V.heap.size, 1, none⟩) RT.out.2.1 (.int .i64 R.1.2))
        refine HK.out _ _ (untilS_all ⟨(BB.out.cell (p := ⟨w.heap.size, 0, none⟩) hwV).trans HK0.out, trivial⟩ _) ?_
        clear HK K hS; intro hS
        (try simp only [Act.put, List.setIfInBounds_toArray, List.set_cons_zero, List.set_cons_succ])
        refine wpAnyG_take (i := 12) (oi := ?oi12accc) (v := ?v12accc) ?hi12accc (by kernel_rfl) (by kernel_rfl) (by kernel_rfl) ?hQ12accc (untilS_set (by decide)) hc ?hy12accc hS ?rest12accc
        case hi12accc => (simp only [List.getElem?_toArray, List.getElem?_cons_succ, List.getElem?_cons_zero]; exact rfl)
        case hQ12accc => exact fun _ _ _ h => h
        case hy12accc => (refine Or.inl ⟨rfl, ?_⟩; (intro w _; go_simp; (try with_reducible rfl)))
        clear hc hS; intro hc hS
        simp only [Act.put, List.setIfInBounds_toArray, List.set_cons_zero, List.set_cons_succ]
        refine wpAnyG_done (by kernel_rfl) ?_ _
        clear hc hS
        exact key _ _ _ _ ⟨BT.out, RT.out.2.1, by rw [World.size_setCell, World.size_setCell]; exact RT.out.2.2, BB.out⟩
    case keyg =>
      intro W T v27 v30 HF
      have HIW := Lib.hid (HI.out.later HF.out.2.2.2 HI.out.gv)
      have KO := Lib.hid (keepsOthers_below HF.out.2.2.2)
      have HKM : Hid (keepM (w1.heap.size + 1) b o V W) := ⟨HF.out.2.2.2.cell (p := ⟨w1.heap.size + 1, 0, none⟩) (by show w1.heap.size + 1 < _; have := HI.out.gv; omega), HF.out.2.2.2.cell (p := ⟨b, o, none⟩) (by show b < _; omega)⟩
      have HGB := Lib.hid (best_in HHV.out pre HI.out.good)
      have HBG : Hid (b < w1.heap.size) := by show b < _; have := HG.out; omega
      have HTG : Hid (w1.heap.size < T) := by show _ < T; have h1 := HF.out.2.1; have h2 := HI.out.gv; omega
      obtain ⟨z0, z1, z2, z3, z4, z5, z6, z7, -⟩ := HIW.out.boxes
      by_cases hre : R.2 = 0
      · have hin := likeC_in (colM_all HHV.out hil) (colM_all HHV.out hjl) (by rw [colM_length, colM_length]) (by rw [colM_length]; omega) (by rw [HR.out]; exact hre)
        rw [HR.out] at hin
        obtain ⟨⟨rn, rd⟩, re⟩ := R
        dsimp only at hre hin
        subst hre
        obtain ⟨⟨gn, gd⟩, hbest⟩ : ∃ g, bestL (pre.map fun x => (likeP m x).1) = g := ⟨_, rfl⟩
        have hgb := HGB.out
        rw [hbest] at hgb
        dsimp only at hgb
        have HBE := Lib.hid hbest
        obtain ⟨q0, q1, q2, q3⟩ := HF.out.1
        obtain ⟨p0, p1, p2, p3⟩ := HIW.out.best
        rw [hbest] at p0 p1
        dsimp only at p0 p1 q0 q1
        clear hbest
        have hm1' := mul_in (a := rn) (b := gd) ⟨hin.1.1, hin.2.1⟩ ⟨by omega, hgb.2.2.2⟩
        have hm2' := mul_in (a := gn) (b := rd) ⟨hgb.1, hgb.2.1⟩ ⟨by have h : 1 ≤ rd := hin.1.2.1; omega, hin.2.2.1⟩
        have M1 : Hid (wrap64 (rn * gd) = rn * gd) := IntWalk.wrap64_in _ (by omega)
        have M2 : Hid (wrap64 (gn * rd) = gn * rd) := IntWalk.wrap64_in _ (by omega)
        clear hin hgb hm1' hm2' HGB
        have HSN : Hid (bestL ((pre ++ [(⟨(i, j), hij, hj⟩ : PN (colsM m))]).map fun x => (likeP m x).1) = if gn * rd < rn * gd then (rn, rd) else (gn, gd)) := by
          show _ = _
          rw [List.map_append, List.map_singleton, bestL_snoc, HBE.out, HRR.out]; rfl
        have HGD : Hid (∀ x ∈ pre ++ [(⟨(i, j), hij, hj⟩ : PN (colsM m))], (likeP m x).2 = 0) := fun x hx => by
          rcases List.mem_append.1 hx with h | h
          · exact HI.out.good x h
          · obtain rfl : x = ⟨(i, j), hij, hj⟩ := by simpa using h
            rw [HRR.out]
        have m1' := M1.out
        have m2' := M2.out
        by_cases hlt : gn * rd < rn * gd
        · gi_wp2
          refine ⟨KO.out.trans ((KeepsOthers.setCell _ _ _).trans (KeepsOthers.setCell _ _ _)), ⟨(cell_other _ _ _ _ (by show w1.heap.size + 1 ≠ w1.heap.size; omega)).trans ((cell_other _ _ _ _ (by show w1.heap.size + 1 ≠ w1.heap.size; omega)).trans HKM.out.1), (cell_other _ _ _ _ (by show b ≠ w1.heap.size; have := HBG.out; omega)).trans ((cell_other _ _ _ _ (by show b ≠ w1.heap.size; have := HBG.out; omega)).trans HKM.out.2)⟩, HGD.out, ?_, HIW.out.boxes.later (((Below.refl (w.heap.size + 3) W).setCell (p := ⟨w1.heap.size, 0, none⟩) HG.out _).setCell (p := ⟨w1.heap.size, 1, none⟩) HG.out _) (Nat.le_refl _), (cell_other _ _ _ _ (by show w1.heap.size + 1 ≠ w1.heap.size; omega)).trans ((cell_other _ _ _ _ (by show w1.heap.size + 1 ≠ w1.heap.size; omega)).trans HIW.out.box2), HG.out, by rw [World.size_setCell, World.size_setCell]; exact HIW.out.gv⟩
          rw [HSN.out, if_pos hlt]
          exact HIW.out.best.over rn rd
        · gi_wp2
          refine ⟨KO.out, HKM.out, HGD.out, ?_, HIW.out.boxes, HIW.out.box2, HG.out, HIW.out.gv⟩
          rw [HSN.out, if_neg (Int.not_lt.2 hlt)]
          have h := HIW.out.best
          rw [HBE.out] at h
          exact h
      · obtain rfl : R = ((0, 0), 8) := by
          have h := likeC_err (a := colM m i) (b := colM m j) (by rw [HR.out]; exact hre)
          rw [HR.out] at h; exact h
        have HBD : Hid (badP m (colsM m) = true) := by
          show badP m (colsM m) = true
          unfold badP
          rw [List.any_eq_true]
          exact ⟨⟨(i, j), hij, hj⟩, mem_upPN _, by rw [HRR.out]; rfl⟩
        clear hre
        gi_wp2
        exact ⟨KO.out.trans ((KeepsOthers.setCell _ _ _).trans ((KeepsOthers.setCell _ _ _).trans (KeepsOthers.setCell _ _ _))), rfl, HIW.out.boxes.stored 0 0 8, by rw [World.size_setCell, World.size_setCell, World.size_setCell]; exact z7, HBD.out⟩

theorem coherence_any (a : Option Addr) (m : List (List Int)) (cap : Nat) (w : World) (hm : MOk m) (hs : Ms w a m) :
    Calls Tryz.prog 43 #[.slice a m.length cap] w (QPost (cohV m) w) := callsIn_wide.1 (coherence_in a m cap w 4 (Nat.le_refl _) hm hs)
end Go.Proofs.YtfnomiingelfaaaGreat
/- The bound by coherence is at most what is sure: plain mathematics. Speaks of no program. -/
namespace Go.Proofs.YtfnomiingelfaaaGreat
open Go.RowKit

theorem exists_max (f : Nat → Int) : ∀ n, 0 < n → ∃ j, j < n ∧ ∀ c, c < n → f c ≤ f j
  | 0, h => by omega
  | 1, _ => ⟨0, by omega, fun c hc => by obtain rfl : c = 0 := by omega
                                         exact Int.le_refl _⟩
  | n + 2, _ => by
    obtain ⟨j, hj, h⟩ := exists_max f (n + 1) (by omega)
    by_cases e : f j ≤ f (n + 1)
    · refine ⟨n + 1, by omega, fun c hc => ?_⟩
      by_cases e2 : c = n + 1
      · subst e2; exact Int.le_refl _
      · exact Int.le_trans (h c (by omega)) e
    · refine ⟨j, by omega, fun c hc => ?_⟩
      by_cases e2 : c = n + 1
      · subst e2; omega
      · exact h c (by omega)
theorem sum_cnt {h : List Int} {g : Nat → Int} {j : Nat} {M : Int} (hM : 0 ≤ M) (hj : gt h j ≠ 0) (g0 : g j = 0) (hg : ∀ c, gt h c = 0 → g c = 0) (hb : ∀ c, -M ≤ g c ∧ g c ≤ M) :
    ∀ n, -(M * (nzTo h n - if j < n then 1 else 0)) ≤ sumTo g n ∧ sumTo g n ≤ M * (nzTo h n - if j < n then 1 else 0)
  | 0 => by simp [nzTo, sumTo]
  | n + 1 => by
    have ih := sum_cnt hM hj g0 hg hb n
    have hbn := hb n
    show -(M * (nzTo h (n + 1) - if j < n + 1 then 1 else 0)) ≤ sumTo g n + g n ∧ sumTo g n + g n ≤ M * (nzTo h (n + 1) - if j < n + 1 then 1 else 0)
    by_cases e : n = j
    · subst e
      have e1 : nzTo h (n + 1) = nzTo h n + 1 := by show (if gt h n = 0 then nzTo h n else nzTo h n + 1) = _; rw [if_neg hj]
      rw [if_neg (Nat.lt_irrefl _), Int.sub_zero] at ih
      rw [e1, if_pos (Nat.lt_succ_self _), g0, Int.add_zero, show nzTo h n + 1 - 1 = nzTo h n by omega]
      exact ih
    · have ej : (if j < n + 1 then (1 : Int) else 0) = if j < n then 1 else 0 := by
        by_cases q : j < n
        · rw [if_pos q, if_pos (by omega)]
        · rw [if_neg q, if_neg (by omega)]
      rw [ej]
      generalize (if j < n then (1 : Int) else 0) = d at *
      by_cases z : gt h n = 0
      · have e1 : nzTo h (n + 1) = nzTo h n := by show (if gt h n = 0 then nzTo h n else nzTo h n + 1) = _; rw [if_pos z]
        rw [e1, hg n z, Int.add_zero]
        exact ih
      · have e1 : nzTo h (n + 1) = nzTo h n + 1 := by show (if gt h n = 0 then nzTo h n else nzTo h n + 1) = _; rw [if_neg z]
        rw [e1, show nzTo h n + 1 - d = (nzTo h n - d) + 1 by omega, Int.mul_add, Int.mul_one]
        generalize M * (nzTo h n - d) = T at *
        omega
theorem abs_sq {x M : Int} (hM : 0 ≤ M) (h : x * x ≤ M * M) : -M ≤ x ∧ x ≤ M := by
  constructor
  · apply Int.not_lt.1
    intro hlt
    have h1 : M < -x := by omega
    have h2 : M * M < (-x) * (-x) := Int.mul_self_lt_mul_self hM h1
    rw [Int.neg_mul_neg] at h2
    omega
  · apply Int.not_lt.1
    intro hlt
    have h2 : M * M < x * x := Int.mul_self_lt_mul_self hM hlt
    omega
section
variable {m : List (List Int)}
def gramF (m : List (List Int)) (j c : Nat) : Int := dot (colM m j) (colM m c)
theorem gram_sum (j c : Nat) : gramF m j c = sumTo (fun i => a0 m i j * a0 m i c) m.length := by
  unfold gramF dot
  rw [colM_length]
  exact sumTo_congr _ fun i hi => by rw [gt_colM hi, gt_colM hi]; rfl
theorem gram_sym (j c : Nat) : gramF m j c = gramF m c j := by rw [gram_sum, gram_sum]; exact sumTo_congr _ fun i _ => Int.mul_comm _ _
theorem gram_ker {v : Nat → Int} (hk : KerF m v) (j : Nat) : sumTo (fun c => v c * gramF m j c) (colsM m) = 0 := by
  rw [sumTo_congr (colsM m) fun c _ => show v c * gramF m j c = sumTo (fun i => a0 m i j * (a0 m i c * v c)) m.length by
    rw [gram_sum, ← sumTo_mul]; exact sumTo_congr _ fun i _ => by grind]
  rw [sumTo_swap (fun c i => a0 m i j * (a0 m i c * v c)) m.length (colsM m)]
  refine sumZ _ fun i hi => ?_
  rw [sumTo_mul, hk i hi, Int.mul_zero]
theorem gram_nonneg (j : Nat) : 0 ≤ gramF m j j := by rw [gram_sum]; exact sumTo_nonneg _ fun i _ => sq_nonneg _
structure CohP (m : List (List Int)) (N D : Int) : Prop where
  n : 0 ≤ N
  d : 1 ≤ D
  le : ∀ j c, j < colsM m → c < colsM m → j ≠ c → gramF m j c * gramF m j c * D ≤ N * (gramF m j j * gramF m c c)
  pos : ∀ j, j < colsM m → 0 < gramF m j j
theorem cohP {N D : Int} (h : cohV m = ((N, D), 0)) : validM m = true ∧ CohP m N D := by
  unfold cohV at h
  split at h
  · rename_i hv
    split at h
    · cases h
    · rename_i h2
      split at h
      · cases h
      · rename_i hb
        refine ⟨hv, ?_⟩
        have hbest : bestL ((upPN (colsM m) (colsM m)).map fun x => (likeP m x).1) = (N, D) := congrArg Prod.fst h
        have hall : ∀ x : PN (colsM m), (likeP m x).2 = 0 := fun x => by
          have h2 : badP m (colsM m) = false := by simpa using hb
          unfold badP at h2
          have := List.any_eq_false.1 h2 x (mem_upPN x)
          simpa using this
        have key : ∀ i j, i < j → j < colsM m → gramF m i i * gramF m j j ≠ 0 ∧ ((gramF m i j * gramF m i j).toNat / Nat.gcd (gramF m i j * gramF m i j).toNat (gramF m i i * gramF m j j).toNat : Nat) = (likeC (colM m i) (colM m j)).1.1 ∧ ((gramF m i i * gramF m j j).toNat / Nat.gcd (gramF m i j * gramF m i j).toNat (gramF m i i * gramF m j j).toNat : Nat) = (likeC (colM m i) (colM m j)).1.2 := fun i j hij hj => by
          have hl := hall ⟨(i, j), hij, hj⟩
          have hl : (likeC (colM m i) (colM m j)).2 = 0 := hl
          unfold likeC at hl ⊢
          split at hl
          · cases hl
          · rename_i hne
            rw [if_neg hne]
            exact ⟨hne, rfl, rfl⟩
        have hpos : ∀ i j, i < j → j < colsM m → 0 < gramF m i i * gramF m j j := fun i j hij hj => by
          have := (key i j hij hj).1
          have := Int.mul_nonneg (gram_nonneg (m := m) i) (gram_nonneg (m := m) j)
          omega
        have hd : ∀ r ∈ (upPN (colsM m) (colsM m)).map fun x => (likeP m x).1, 1 ≤ r.2 := fun r hr => by
          obtain ⟨⟨⟨i, j⟩, hij, hj⟩, _, rfl⟩ := List.mem_map.1 hr
          have hij : i < j := hij
          have hj : j < colsM m := hj
          show 1 ≤ (likeC (colM m i) (colM m j)).1.2
          rw [← (key i j hij hj).2.2]
          have hp := hpos i j hij hj
          have h1 : 0 < (gramF m i i * gramF m j j).toNat := by omega
          have := Nat.div_pos (Nat.le_of_dvd h1 (Nat.gcd_dvd_right (gramF m i j * gramF m i j).toNat (gramF m i i * gramF m j j).toNat)) (Nat.gcd_pos_of_pos_right _ h1)
          omega
        obtain ⟨b1, _, b3, b4⟩ := bestL_is _ hd (0, 1) (by decide)
        have e : ((upPN (colsM m) (colsM m)).map fun x => (likeP m x).1).foldl bestF (0, 1) = (N, D) := hbest
        rw [e] at b1 b3 b4
        dsimp only at b1 b3 b4
        have half : ∀ i j, i < j → j < colsM m → gramF m i j * gramF m i j * D ≤ N * (gramF m i i * gramF m j j) := fun i j hij hj => by
          have h4 := b4 (likeC (colM m i) (colM m j)).1 (List.mem_map.2 ⟨⟨(i, j), hij, hj⟩, mem_upPN _, rfl⟩)
          obtain ⟨_, q1, q2⟩ := key i j hij hj
          rw [← q1, ← q2] at h4
          have hp := hpos i j hij hj
          have hs : 0 ≤ gramF m i j * gramF m i j := sq_nonneg _
          obtain ⟨a, ha⟩ := Int.eq_ofNat_of_zero_le hs
          obtain ⟨b, hb⟩ := Int.eq_ofNat_of_zero_le (Int.le_of_lt hp)
          rw [ha, hb] at h4 ⊢
          rw [Int.toNat_natCast, Int.toNat_natCast] at h4
          obtain ⟨a', ea⟩ := Nat.gcd_dvd_left a b
          obtain ⟨b', eb⟩ := Nat.gcd_dvd_right a b
          have hg : 0 < Nat.gcd a b := Nat.gcd_pos_of_pos_right _ (by omega)
          obtain ⟨g, hgg⟩ : ∃ g, Nat.gcd a b = g := ⟨_, rfl⟩
          rw [hgg] at ea eb hg h4
          have d1 : a / g = a' := by rw [ea]; exact Nat.mul_div_cancel_left _ hg
          have d2 : b / g = b' := by rw [eb]; exact Nat.mul_div_cancel_left _ hg
          rw [d1, d2] at h4
          have h5 := Int.mul_le_mul_of_nonneg_left h4 (Int.natCast_nonneg g)
          have e1 : (a : Int) = g * a' := by rw [ea]; exact Int.natCast_mul _ _
          have e2 : (b : Int) = g * b' := by rw [eb]; exact Int.natCast_mul _ _
          rw [e1, e2]
          calc (g : Int) * a' * D = g * (a' * D) := Int.mul_assoc _ _ _
            _ ≤ g * (N * b') := h5
            _ = N * (g * b') := by rw [← Int.mul_assoc, Int.mul_comm (g : Int) N, Int.mul_assoc]
        refine ⟨by omega, b1, fun j c hj hc hne => ?_, fun j hj => ?_⟩
        · rcases Nat.lt_or_gt_of_ne hne with q | q
          · exact half j c q hc
          · have := half c j q hj
            rw [gram_sym j c, Int.mul_comm (gramF m j j)]
            exact this
        · have hn := gram_nonneg (m := m) j
          have h0 : gramF m j j ≠ 0 := by
            by_cases e0 : j = 0
            · have := (key j 1 (by omega) (by omega)).1
              intro e; rw [e, Int.zero_mul] at this; exact this rfl
            · have := (key 0 j (by omega) hj).1
              intro e; rw [e, Int.mul_zero] at this; exact this rfl
          omega
  · cases h
theorem gersh {N D : Int} (hc : CohP m N D) {h : List Int} (hl : h.length = colsM m) (hk : KerF m (gt h)) (hne : ∃ j, j < colsM m ∧ gt h j ≠ 0) : D ≤ (nzTo h (colsM m) - 1) * (nzTo h (colsM m) - 1) * N := by
  obtain ⟨j0, hj0, hv0⟩ := hne
  obtain ⟨j, hj, hmax⟩ := exists_max (fun c => gt h c * gt h c * gramF m c c) (colsM m) (by omega)
  have hsq : ∀ x : Int, x ≠ 0 → 0 < x * x := fun x hx => by
    rcases Int.lt_or_gt_of_ne hx with q | q
    · exact Int.mul_pos_of_neg_of_neg q q
    · exact Int.mul_pos q q
  have hvj : gt h j ≠ 0 := fun e => by
    have h1 := hmax j0 hj0
    rw [e, Int.zero_mul, Int.zero_mul] at h1
    have := Int.mul_pos (hsq _ hv0) (hc.pos j0 hj0)
    omega
  obtain ⟨T, hT⟩ : ∃ T, gt h j * gramF m j j = T := ⟨_, rfl⟩
  have hT0 : T ≠ 0 := by
    rw [← hT]
    exact Int.mul_ne_zero hvj (by have := hc.pos j hj; omega)
  have hg : ∃ g : Nat → Int, ∀ c, g c = if c = j then 0 else if c < colsM m then gt h c * gramF m j c else 0 := ⟨_, fun _ => rfl⟩
  obtain ⟨g, hg⟩ := hg
  have hgD : ∀ c, g c * g c * D ≤ N * (T * T) := fun c => by
    have hTT : 0 ≤ N * (T * T) := Int.mul_nonneg hc.n (sq_nonneg _)
    rw [hg c]
    by_cases e : c = j
    · rw [if_pos e, Int.zero_mul, Int.zero_mul]; exact hTT
    · rw [if_neg e]
      by_cases e2 : c < colsM m
      · rw [if_pos e2]
        have h1 := hc.le j c hj e2 (fun e3 => e e3.symm)
        have h2 := hmax c e2
        have h3 := Int.mul_le_mul_of_nonneg_left h1 (sq_nonneg (gt h c))
        have h4 := Int.mul_le_mul_of_nonneg_left h2 (Int.mul_nonneg hc.n (gram_nonneg (m := m) j))
        rw [← hT]
        generalize gt h c = x at *
        generalize gt h j = y at *
        generalize gramF m j c = z at *
        generalize gramF m j j = u at *
        generalize gramF m c c = t at *
        calc x * z * (x * z) * D = x * x * (z * z * D) := by grind
          _ ≤ x * x * (N * (u * t)) := h3
          _ = N * u * (x * x * t) := by grind
          _ ≤ N * u * (y * y * u) := h4
          _ = N * (y * u * (y * u)) := by grind
      · rw [if_neg e2, Int.zero_mul, Int.zero_mul]; exact hTT
  obtain ⟨c0, _, hM⟩ := exists_max (fun c => g c * g c) (colsM m) (by omega)
  obtain ⟨M, hMd⟩ : ∃ M : Int, M = if 0 ≤ g c0 then g c0 else -g c0 := ⟨_, rfl⟩
  have hM0 : 0 ≤ M := by rw [hMd]; split <;> omega
  have hMM : M * M = g c0 * g c0 := by
    rw [hMd]
    split
    · rfl
    · exact Int.neg_mul_neg _ _
  have hb : ∀ c, -M ≤ g c ∧ g c ≤ M := fun c => by
    by_cases e : c < colsM m
    · exact abs_sq hM0 (by rw [hMM]; exact hM c e)
    · have : g c = 0 := by rw [hg c, if_neg (by omega), if_neg e]
      omega
  have hs := sum_cnt (h := h) (g := g) (j := j) hM0 hvj (by rw [hg j, if_pos rfl]) (fun c hz => by
    rw [hg c]
    split
    · rfl
    · split
      · rw [hz, Int.zero_mul]
      · rfl) hb (colsM m)
  rw [if_pos hj] at hs
  have hsum : sumTo (fun c => gt h c * gramF m j c) (colsM m) = T + sumTo g (colsM m) := by
    have e1 : sumTo (fun c => gt h c * gramF m j c) (colsM m) = sumTo (fun c => (if c = j then T else 0) + g c) (colsM m) := sumTo_congr _ fun c hcl => by
      rw [hg c]
      by_cases e : c = j
      · subst e; rw [if_pos rfl, if_pos rfl, hT, Int.add_zero]
      · rw [if_neg e, if_neg e, if_pos hcl, Int.zero_add]
    rw [e1, sumTo_add, sumOne (s := j) (colsM m) hj fun i _ ne => if_neg ne, if_pos rfl]
  rw [gram_ker hk j] at hsum
  obtain ⟨S, hS⟩ : ∃ S, nzTo h (colsM m) - 1 = S := ⟨_, rfl⟩
  rw [hS] at hs ⊢
  have hTb : -(M * S) ≤ T ∧ T ≤ M * S := by omega
  have hMS : 0 ≤ M * S := by omega
  have hT2 : T * T ≤ M * S * (M * S) := by
    rcases Int.le_total 0 T with q | q
    · exact Int.mul_le_mul hTb.2 hTb.2 q hMS
    · have : (-T) * (-T) ≤ M * S * (M * S) := Int.mul_le_mul (by omega) (by omega) (by omega) hMS
      rwa [Int.neg_mul_neg] at this
  have hTp := hsq T hT0
  have hMp : 0 < M * M := by
    apply Int.not_le.1
    intro hle
    have hMz : M * M = 0 := by have := sq_nonneg M; omega
    have : M * S * (M * S) = M * M * (S * S) := by grind
    rw [this, hMz, Int.zero_mul] at hT2
    omega
  have h1 := hgD c0
  rw [← hMM] at h1
  have h2 := Int.mul_le_mul_of_nonneg_left hT2 hc.n
  have h3 : M * M * D ≤ M * M * (S * S * N) := by
    calc M * M * D ≤ N * (T * T) := h1
      _ ≤ N * (M * S * (M * S)) := h2
      _ = M * M * (S * S * N) := by grind
  exact Int.le_of_mul_le_mul_left h3 hMp
end
end Go.Proofs.YtfnomiingelfaaaGreat
/- Pixels of layer 2: a contract (of MRead2). -/
namespace Go.Proofs.YtfnomiingelfaaaGreat
open Go.RowKit

def pixelsV (m : List (List Int)) : Int × Int := if validM m = true then (colsM m, 0) else (0, 1)
theorem pixelsV_no {m : List (List Int)} (h : validM m = false) : pixelsV m = (0, 1) := by unfold pixelsV; rw [h]; rfl
theorem pixelsV_ok {m : List (List Int)} (h : validM m = true) : pixelsV m = ((colsM m : Int), 0) := by unfold pixelsV; rw [h, if_pos rfl]

theorem mpixels_any (a : Option Addr) (m : List (List Int)) (cap : Nat) (w : World) (hm : MOk m) (hs : Ms w a m) :
    Calls Tryz.prog 42 #[.slice a m.length cap] w (NPost (pixelsV m) w) := by
  have HM := Lib.hid hm; clear hm
  have HS := Lib.hid hs; clear hs
  go_enter Tryz.func42, Tryz.ntmps42
  go_wp2_with fail
  refine (mvalid_any _ _ _ _ HM.out HS.out).mono ?_
  rintro e w1 ⟨rfl, hb1⟩
  cases hv : validM m
  · have HV := Lib.hid hv; clear hv
    go_wp2
    go_ret2
    exact ⟨hb1, by rw [pixelsV_no HV.out]; rfl⟩
  · have hm1 := (validM_of hv).1
    obtain ⟨b0, o0, a0, c0, rfl, hcell⟩ := row0 (HS.out.below hb1) hm1
    have HV := Lib.hid hv; clear hv
    go_wp2
    go_ret2
    exact ⟨hb1, by rw [pixelsV_ok HV.out]; rfl⟩
end Go.Proofs.YtfnomiingelfaaaGreat
/- Column, Product and Likeness of layer 2 and of its answers: contracts. -/
namespace Go.Proofs.YtfnomiingelfaaaGreat
open Go.RowKit

set_option maxRecDepth 100000 in
theorem named_any (a : Option Addr) (m : List (List Int)) (cap : Nat) (b : Option Addr) (ps : List Int) (cb : Nat) (w : World) (hm : MOk m) (hl : ps.length ≤ 9223372036854775807) (hs : Ms w a m) (hp : Sl w b ps) :
    Calls Tryz.prog 106 #[.slice a m.length cap, .slice b ps.length cb] w fun e w' => e = .returned (.int .i64 (namedV m ps)) ∧ w = w' := by
  have HM := Lib.hid hm; clear hm
  have HS := Lib.hid hs; clear hs
  have HP := Lib.hid hp; clear hp
  cases hv : validM m
  · have HV : Hid (namedV m ps = 1) := by show namedV m ps = 1; unfold namedV; rw [hv]; rfl
    go_enter Tryz.func106, Tryz.ntmps106
    go_wp2_with (go_at_call 48; refine (rvalid_any _ _ _ _ HM.out HS.out).mono ?_; rintro e w' ⟨rfl, rfl⟩)
    go_ret
    exact ⟨ret_i64 HV.out.symm, rfl⟩
  · obtain ⟨hm1, hm6, hc1, hc10, _⟩ := validM_of hv
    have HV : Hid (namedV m ps = if ps.all (thereB m) = true then 0 else 5) := by show namedV m ps = _; unfold namedV; rw [hv]; rfl
    obtain ⟨b0, o0, a0, c0, rfl, hcell⟩ := row0 HS.out hm1
    go_enter Tryz.func106, Tryz.ntmps106
    go_wp2_with (go_at_call 48; refine (rvalid_any _ _ _ _ HM.out HS.out).mono ?_; rintro e w' ⟨rfl, rfl⟩)
    clear hv
    go_loop [12] (fun i => ∃ k : Nat, k ≤ ps.length ∧ i = .int .i64 k ∧ ∀ j, j < k → thereB m (ps[j]?.getD 0) = true) (fun i => ps.length - (intOf i).toNat)
    case atStart => exact ⟨0, Nat.zero_le _, rfl, fun j h => by omega⟩
    case round =>
      obtain ⟨k, hk, rfl, hno⟩ := hrel
      have HO := Lib.hid hno; clear hno
      by_cases hlt : k < ps.length
      · obtain ⟨b1, o1, x, rfl, hcx, HX⟩ := HP.out.at hlt
        cases ht : thereB m x
        · have HT := Lib.hid ht; clear ht
          go_wp2_with (go_at_call 82; refine (mwithin_any _ _ _ _).mono ?_; rintro e w' ⟨rfl, rfl⟩; rw [rangeB_there, HT.out])
          go_ret
          refine ⟨ret_i64 ?_, rfl⟩
          rw [HV.out, if_neg]
          rw [List.all_eq_true]; intro h
          have := h x (List.mem_of_getElem? HX.out)
          rw [HT.out] at this; cases this
        · have HT := Lib.hid ht; clear ht
          go_wp2_with (go_at_call 82; refine (mwithin_any _ _ _ _).mono ?_; rintro e w' ⟨rfl, rfl⟩; rw [rangeB_there, HT.out])
          go_round
          case rel => exact ⟨k + 1, by omega, by go_num, fun j hj => by
              by_cases hj' : j = k
              · subst hj'; rw [HX.out]; exact HT.out
              · exact HO.out j (by omega)⟩
          case measure => simp [intOf]; omega
      · go_wp2
        go_ret
        refine ⟨ret_i64 ?_, rfl⟩
        rw [HV.out, if_pos]
        rw [List.all_eq_true]; intro x hx
        obtain ⟨i, hi, rfl⟩ := List.mem_iff_getElem.1 hx
        have := HO.out i (by omega)
        simpa [hi] using this
end Go.Proofs.YtfnomiingelfaaaGreat
/- Product and Likeness of layer 2 and of its answers: contracts. -/
namespace Go.Proofs.YtfnomiingelfaaaGreat
open Go.RowKit

theorem prod_named {m : List (List Int)} {i j : Int} {f : Int} (hf : namedV m [i, j] = f) : (f = 0 → validM m = true ∧ thereB m i = true ∧ thereB m j = true) ∧ (f ≠ 0 → prodV m i j = (0, f) ∧ likeV m i j = ((0, 0), f)) := by
  unfold namedV at hf
  unfold prodV likeV
  cases hv : validM m
  · simp [hv] at hf; subst hf; simp
  · cases hi : thereB m i
    · simp [hv, hi] at hf; subst hf; simp
    · cases hj : thereB m j
      · simp [hv, hi, hj] at hf; subst hf; simp
      · simp [hv, hi, hj] at hf; subst hf; simp
set_option maxRecDepth 100000 in
theorem mdivisor_any (n d : Nat) (hn : n ≤ 1000000) (hd : d ≤ 1000000) (w : World) :
    Calls Tryz.prog 109 #[.int .i64 n, .int .i64 d] w fun e w' => e = .returned (.int .i64 ((Nat.gcd n d : Nat) : Int)) ∧ ∃ k, w' = w.drewN k := by
  go_enter Tryz.func109, Tryz.ntmps109
  go_wp2
  go_loopw [0, 1] (fun a b wr => ∃ (x y nd : Nat), a = .int .i64 x ∧ b = .int .i64 y ∧ Nat.gcd x y = Nat.gcd n d ∧ x ≤ 1000000 ∧ y ≤ 1000000 ∧ wr = w.drewN nd) (fun _ b _ => (intOf b).toNat)
  case atStart => exact ⟨n, d, 0, rfl, rfl, rfl, hn, hd, rfl⟩
  case round =>
    obtain ⟨x, y, nd, rfl, rfl, hg, hx, hy, rfl⟩ := hrel
    have HG := Lib.hid hg; clear hg
    by_cases hy0 : y = 0
    · subst hy0
      have HX : Hid (x = Nat.gcd n d) := by show x = _; rw [← HG.out, Nat.gcd_zero_right]
      go_wp2
      go_ret
      exact ⟨ret_i64 (by rw [HX.out]), _, rfl⟩
    · have hy1 : 1 ≤ y := by omega
      have e0 : ((y : Int) == 0) = false := by simp; omega
      have e1 : ((y : Int) != 0) = true := by simp; omega
      have hm : x % y < y := Nat.mod_lt _ hy1
      have HGS : Hid (Nat.gcd y (x % y) = Nat.gcd n d) := by show _ = _; rw [gcd_step, HG.out]
      have hme : (x : Int) % (y : Int) = ((x % y : Nat) : Int) := by simp
      clear hy0
      go_wp2
      go_quiet (fail)
      go_wp2
      go_roundw
      case rel => exact ⟨y, x % y, _, rfl, by rw [hme], HGS.out, hy, by omega, World.drewN_drewN _ _ _⟩
      case measure => simp [intOf]; omega

theorem wrap_is' (n : Int) : wrap64 n = IntKind.i64.wrap n := by rw [IntKind.wrap_i64]; unfold wrap64; omega
set_option maxRecDepth 1000000 in
set_option maxHeartbeats 800000 in
theorem rLikeness_any (a : Option Addr) (m : List (List Int)) (cap : Nat) (i j : Int) (w : World) (hm : MOk m) (hs : Ms w a m) :
    Calls Tryz.prog 75 #[.slice a m.length cap, .int .i64 i, .int .i64 j] w (QPost (likeV m i j) w) := by
  have HM := Lib.hid hm; clear hm
  have HR0 := Lib.hid (RC.mk0 w 52)
  have HS := Lib.hid (hs.alloc (.cells #[.int .i64 0, .int .i64 0] 52)); clear hs
  have HB0 : Hid (Below w.heap.size w (w.alloc (.cells #[.int .i64 0, .int .i64 0] 52))) := (Below.refl _ _).alloc (Nat.le_refl _) _
  obtain ⟨f, hf⟩ : ∃ f, namedV m [i, j] = f := ⟨_, rfl⟩
  have HD := Lib.hid (prod_named hf)
  have HF := Lib.hid hf; clear hf
  go_enter Tryz.func75, Tryz.ntmps75
  go_wp2_with fail
  have HW0 : Hid ((w.alloc (.cells #[.int .i64 0, .int .i64 0] 52)).heap.size = w.heap.size + 1) := by show _ = _; simp
  generalize w.alloc (.cells #[.int .i64 0, .int .i64 0] 52) = W0 at *
  have HL : Hid (Sl (W0.alloc (.cells #[.int .i64 i, .int .i64 j] 3)) (some ⟨w.heap.size + 1, 0, none⟩) [i, j]) := sl_lit2 _ _ _ _ HW0.out.symm
  have HAL : Hid (Below W0.heap.size W0 (W0.alloc (.cells #[.int .i64 i, .int .i64 j] 3))) := (Below.refl _ _).alloc (Nat.le_refl _) _
  generalize W0.alloc (.cells #[.int .i64 i, .int .i64 j] 3) = W1 at *
  have HB1 : Hid (Below w.heap.size w W1) := Below.next HB0.out HAL.out (Nat.le_refl _)
  have HS1 := Lib.hid (HS.out.below HAL.out)
  have HR1 := Lib.hid (HR0.out.next HAL.out)
  clear HAL HW0 HB0 HS HR0
  refine (named_any _ m _ _ [i, j] _ _ HM.out (by simp) HS1.out HL.out).mono ?_
  rintro e w1 ⟨rfl, rfl⟩
  rw [HF.out]
  by_cases h0 : f = 0
  · as_aux_lemma =>
      subst h0
      obtain ⟨hv, hti, htj⟩ := HD.out.1 rfl
      have HV := Lib.hid hv; clear hv
      have HTI := Lib.hid hti; clear hti
      have HTJ := Lib.hid htj; clear htj
      obtain ⟨i, hin, hi⟩ := there_nat HTI.out
      obtain ⟨j, hjn, hj⟩ := there_nat HTJ.out
      subst hin hjn
      have ci := colM_all HV.out hi
      have cj := colM_all HV.out hj
      have h6 := (validM_of HV.out).2.1
      have l1 : (colM m i).length ≤ 10 := by rw [colM_length]; omega
      have l1j : (colM m j).length ≤ 10 := by rw [colM_length]; omega
      have l2 : (colM m i).length ≤ (colM m j).length := by rw [colM_length, colM_length]; exact Nat.le_refl _
      have l3 : (colM m j).length ≤ 9223372036854775807 := by omega
      obtain ⟨p, s, hp, hs, p100, s100, hL⟩ := likeC_parts ci cj (by rw [colM_length, colM_length]) l1
      have PXX := Lib.hid (PB_of ci ci (Nat.le_refl _) (by omega))
      have PYY := Lib.hid (PB_of cj cj (Nat.le_refl _) (by omega))
      have PXY := Lib.hid (PB_of ci cj l2 (by omega))
      have HLK : Hid (likeV m i j = _) := (likeV_ok HV.out HTI.out HTJ.out).trans hL
      clear hL ci cj
      obtain ⟨A, hA⟩ : ∃ A, dot (colM m i) (colM m i) = A := ⟨_, rfl⟩
      obtain ⟨B, hB⟩ : ∃ B, dot (colM m j) (colM m j) = B := ⟨_, rfl⟩
      obtain ⟨C, hC⟩ : ∃ C, dot (colM m i) (colM m j) = C := ⟨_, rfl⟩
      rw [hA, hB] at hs
      rw [hC] at hp
      have EA := Lib.hid hA; clear hA
      have EB := Lib.hid hB; clear hB
      have EC := Lib.hid hC; clear hC
      go_wp2_with fail
      refine (rcolumn_any _ m _ i _ HV.out hi HS1.out).mono ?_
      rintro e w3 ⟨hb3, a3, c3, rfl, s3⟩
      have HB3 : Hid (Below w.heap.size w w3) := Below.next HB1.out hb3 (Nat.le_refl _)
      have HR3 := Lib.hid (HR1.out.next hb3)
      have HSM3 := Lib.hid (HS1.out.below hb3)
      have HS3 := Lib.hid s3; clear s3 hb3
      go_wp2_with fail
      refine (rcolumn_any _ m _ j _ HV.out hj HSM3.out).mono ?_
      rintro e w4 ⟨hb4, a4, c4, rfl, s4⟩
      have HB4 : Hid (Below w.heap.size w w4) := Below.next HB3.out hb4 (Nat.le_refl _)
      have HR4 := Lib.hid (HR3.out.next hb4)
      have HSI4 := Lib.hid (HS3.out.below hb4)
      have HSJ4 := Lib.hid s4; clear s4 hb4
      go_wp2_with fail
      refine (rdot_any _ _ _ _ _ _ _ l1 l2 l3 PXY.out HSI4.out HSJ4.out).mono ?_
      rintro e w5 ⟨rfl, n5, hw5⟩
      rw [EC.out]
      have hb5 := drew_below hw5; clear hw5
      have HB5 : Hid (Below w.heap.size w w5) := Below.next HB4.out hb5 (Nat.le_refl _)
      have HR5 := Lib.hid (HR4.out.next hb5)
      have HSI5 := Lib.hid (HSI4.out.below hb5)
      have HSJ5 := Lib.hid (HSJ4.out.below hb5); clear hb5
      go_wp2_with fail
      refine (rdot_any _ _ _ _ _ _ _ l1 l2 l3 PXY.out HSI5.out HSJ5.out).mono ?_
      rintro e w6 ⟨rfl, n6, hw6⟩
      rw [EC.out]
      have hb6 := drew_below hw6; clear hw6
      have HB6 : Hid (Below w.heap.size w w6) := Below.next HB5.out hb6 (Nat.le_refl _)
      have HR6 := Lib.hid (HR5.out.next hb6)
      have HSI6 := Lib.hid (HSI5.out.below hb6)
      have HSJ6 := Lib.hid (HSJ5.out.below hb6); clear hb6
      go_wp2_with fail
      refine (rdot_any _ _ _ _ _ _ _ l1 (Nat.le_refl _) (by omega) PXX.out HSI6.out HSI6.out).mono ?_
      rintro e w7 ⟨rfl, n7, hw7⟩
      rw [EA.out]
      have hb7 := drew_below hw7; clear hw7
      have HB7 : Hid (Below w.heap.size w w7) := Below.next HB6.out hb7 (Nat.le_refl _)
      have HR7 := Lib.hid (HR6.out.next hb7)
      have HSJ7 := Lib.hid (HSJ6.out.below hb7); clear hb7
      go_wp2_with fail
      refine (rdot_any _ _ _ _ _ _ _ l1j (Nat.le_refl _) (by omega) PYY.out HSJ7.out HSJ7.out).mono ?_
      rintro e w8 ⟨rfl, n8, hw8⟩
      rw [EB.out]
      have hb8 := drew_below hw8; clear hw8
      have HB8 : Hid (Below w.heap.size w w8) := Below.next HB7.out hb8 (Nat.le_refl _)
      have HR8 := Lib.hid (HR7.out.next hb8); clear hb8
      by_cases hs0 : s = 0
      · as_aux_lemma =>
          subst hs0
          obtain ⟨c0, c1, f0, f1, lt⟩ := HR8.out
          go_wp2
          (try simp only [Exit.inBlock, Exit.then])
          refine bodyPost_ret (v := .tuple #[.agg #[.int .i64 0, .int .i64 0], .int .i64 8]) (by rw [results_cell_tmp rfl]; go_simp) rfl ⟨?_, by rw [HLK.out]; rfl⟩
          exact set2_below HB8.out (Nat.le_refl _) _ _
      · as_aux_lemma =>
          have e0 : ((s : Int) == 0) = false := by simp; omega
          have HS0 : Hid (s ≠ 0) := Lib.hid hs0
          have hs1 : 1 ≤ s := by omega
          clear hs0
          go_wp2_with fail
          refine (mdivisor_any p s (by omega) (by omega) _).mono ?_
          rintro e w9 ⟨rfl, n9, hw9⟩
          have hb9 := drew_below hw9; clear hw9
          have HB9 : Hid (Below w.heap.size w w9) := Below.next HB8.out hb9 (Nat.le_refl _)
          have HR9 := Lib.hid (HR8.out.next hb9); clear hb9
          have hg1 : 1 ≤ Nat.gcd p s := Nat.gcd_pos_of_pos_right _ hs1
          have hg2 : Nat.gcd p s ≤ s := Nat.gcd_le_right _ hs1
          obtain ⟨g, hg⟩ : ∃ g, Nat.gcd p s = g := ⟨_, rfl⟩
          rw [hg] at hg1 hg2
          have HG := Lib.hid hg
          rw [hg]
          clear hg
          obtain ⟨c0, c1, f0, f1, lt⟩ := HR9.out
          have hgz : ¬ g = 0 := by omega
          have hq1 : IntKind.i64.wrap ((p : Int) / (g : Int)) = (p : Int) / (g : Int) := (wrap_is' _).symm.trans (quo_in p g (by omega))
          have hq2 : IntKind.i64.wrap ((s : Int) / (g : Int)) = (s : Int) / (g : Int) := (wrap_is' _).symm.trans (quo_in s g (by omega))
          go_wp2
          go_still_tail 7, (by kernel_rfl)
          change wpList _ _ _ _ _ w9.drew
          clear hgz hq1 hq2
          go_wp2
          (try simp only [Exit.inBlock, Exit.then])
          refine bodyPost_ret (v := .tuple #[.agg #[.int .i64 ((p / g : Nat) : Int), .int .i64 ((s / g : Nat) : Int)], .int .i64 0]) (by rw [results_cell_tmp rfl]; go_simp) rfl ⟨?_, by rw [HLK.out, if_neg HS0.out, HG.out]⟩
          exact set2_below (Below.drew HB9.out) (Nat.le_refl _) _ _
  · as_aux_lemma =>
      have e0 : (f == 0) = false := by simpa using h0
      have e1 : (f != 0) = true := by simpa using h0
      have H0 := Lib.hid h0; clear h0
      obtain ⟨c0, c1, f0, f1, lt⟩ := HR1.out
      go_wp2
      (try simp only [Exit.inBlock, Exit.then])
      refine bodyPost_ret (v := .tuple #[.agg #[.int .i64 0, .int .i64 0], .int .i64 f]) (by rw [results_cell_tmp rfl]; go_simp) rfl ⟨?_, by rw [(HD.out.2 H0.out).2]⟩
      exact set2_below HB1.out (Nat.le_refl _) _ _
end Go.Proofs.YtfnomiingelfaaaGreat
/- Coherence of the answers of layer 2: a contract. -/
namespace Go.Proofs.YtfnomiingelfaaaGreat
open Go.RowKit

def colPN (N i j : Nat) : List (PN N) := (List.range i).filterMap (fun k => pairP N k j)
def upC (N k : Nat) : List (PN N) := (List.range k).flatMap fun j => colPN N j j
theorem colPN_zero (N j : Nat) : colPN N 0 j = [] := rfl
theorem colPN_succ {N i j : Nat} (h : i < j) (hj : j < N) : colPN N (i + 1) j = colPN N i j ++ [⟨(i, j), h, hj⟩] := by
  unfold colPN
  rw [List.range_succ, List.filterMap_append]
  simp [pairP, h, hj]
theorem upC_succ (N k : Nat) : upC N (k + 1) = upC N k ++ colPN N k k := by
  unfold upC; rw [List.range_succ, List.flatMap_append]; simp
theorem mem_upC {N : Nat} (x : PN N) : x ∈ upC N N := by
  obtain ⟨⟨i, j⟩, h1, h2⟩ := x
  unfold upC colPN
  rw [List.mem_flatMap]
  refine ⟨j, List.mem_range.2 h2, ?_⟩
  rw [List.mem_filterMap]
  exact ⟨i, List.mem_range.2 h1, by unfold pairP; rw [dif_pos ⟨h1, h2⟩]⟩
theorem likeP_in' {m : List (List Int)} {N : Nat} (hN : colsM m = N) (hv : validM m = true) (x : PN N) (h : (likeP m x).2 = 0) : Red (likeP m x).1 ∧ (likeP m x).1.1 ≤ 10000 ∧ (likeP m x).1.2 ≤ 10000 ∧ (likeP m x).1.1 ≤ (likeP m x).1.2 := by
  subst hN; exact likeP_in hv x h
theorem best_in' {m : List (List Int)} {N : Nat} (hN : colsM m = N) (hv : validM m = true) (pre : List (PN N)) (hg : ∀ x ∈ pre, (likeP m x).2 = 0) :
    0 ≤ (bestL (pre.map fun x => (likeP m x).1)).1 ∧ (bestL (pre.map fun x => (likeP m x).1)).1 ≤ 10000 ∧ 1 ≤ (bestL (pre.map fun x => (likeP m x).1)).2 ∧ (bestL (pre.map fun x => (likeP m x).1)).2 ≤ 10000 := by
  subst hN; exact best_in hv pre hg
theorem cohV_bad {m : List (List Int)} {N : Nat} (hN : colsM m = N) (hv : validM m = true) (h2 : 2 ≤ N) (x : PN N) (h : (likeP m x).2 ≠ 0) : cohV m = ((0, 0), 8) := by
  subst hN
  have hb : badP m (colsM m) = true := by
    unfold badP
    rw [List.any_eq_true]
    exact ⟨x, mem_upPN _, by simpa using h⟩
  unfold cohV
  rw [if_pos hv, if_neg (by omega), if_pos hb]
theorem cohV_good {m : List (List Int)} {N : Nat} (hN : colsM m = N) (hv : validM m = true) (h2 : 2 ≤ N) (h : ∀ x ∈ upC N N, (likeP m x).2 = 0) : cohV m = (bestL ((upC N N).map fun x => (likeP m x).1), 0) := by
  subst hN
  have hb : badP m (colsM m) = false := by
    unfold badP
    rw [List.any_eq_false]
    intro x _
    simp [h x (mem_upC x)]
  unfold cohV
  rw [if_pos hv, if_neg (by omega), if_neg (by rw [hb]; decide)]
  congr 1
  refine bestL_same (fun r hr => ?_) (fun r => ?_)
  · obtain ⟨x, hx, rfl⟩ := List.mem_map.1 hr
    exact (likeP_in hv x (h x (mem_upC x))).1
  · simp only [List.mem_map]
    exact ⟨fun ⟨x, _, e⟩ => ⟨x, mem_upC x, e⟩, fun ⟨x, _, e⟩ => ⟨x, mem_upPN x, e⟩⟩
theorem RC.later {B : Nat} {V V' : World} (h : RC B V) {n : Nat} (hb : Below n V V') (hB : B < n) : RC B V' :=
  ⟨(hb.cell (p := ⟨B, 0, none⟩) hB).trans h.c0, (hb.cell (p := ⟨B, 1, none⟩) hB).trans h.c1, (hb.frozen (p := ⟨B, 0, none⟩) hB).trans h.f0, (hb.frozen (p := ⟨B, 1, none⟩) hB).trans h.f1, Nat.lt_of_lt_of_le h.lt hb.size⟩
structure RCohI (w : World) (m : List (List Int)) (G : Nat) {N : Nat} (pre : List (PN N)) (V : World) : Prop where
  good : ∀ x ∈ pre, (likeP m x).2 = 0
  res : RC w.heap.size V
  best : FBox G (bestL (pre.map fun x => (likeP m x).1)).1 (bestL (pre.map fun x => (likeP m x).1)).2 V
  gw : w.heap.size < G
  gv : G < V.heap.size
  below : Below w.heap.size w V
set_option maxRecDepth 100000 in
set_option maxHeartbeats 1000000 in
theorem rCoherence_any (a : Option Addr) (m : List (List Int)) (cap : Nat) (w : World) (hm : MOk m) (hs : Ms w a m) :
    Calls Tryz.prog 44 #[.slice a m.length cap] w (QPost (cohV m) w) := by
  have HM := Lib.hid hm; clear hm
  have HR0 := Lib.hid (RC.mk0 w 52)
  have HB0 : Hid (Below w.heap.size w (w.alloc (.cells #[.int .i64 0, .int .i64 0] 52))) := (Below.refl _ _).alloc (Nat.le_refl _) _
  have HS := Lib.hid hs; clear hs
  go_enter Tryz.func44, Tryz.ntmps44
  go_wp2_with fail
  have HW0 : Hid ((w.alloc (.cells #[.int .i64 0, .int .i64 0] 52)).heap.size = w.heap.size + 1) := by show _ = _; simp
  have HSA := Lib.hid (HS.out.alloc (.cells #[.int .i64 0, .int .i64 0] 52))
  generalize w.alloc (.cells #[.int .i64 0, .int .i64 0] 52) = W0 at *
  refine (rvalid_any _ _ _ _ HM.out HSA.out).mono ?_
  rintro e w1 ⟨rfl, rfl⟩
  cases hv : validM m
  · have HV := Lib.hid hv; clear hv
    obtain ⟨c0, c1, f0, f1, lt⟩ := HR0.out
    go_wp2
    (try simp only [Exit.inBlock, Exit.then])
    refine bodyPost_ret (v := .tuple #[.agg #[.int .i64 0, .int .i64 0], .int .i64 1]) (by rw [results_cell_tmp rfl]; go_simp) rfl ⟨?_, by unfold cohV; rw [HV.out]; rfl⟩
    exact set2_below HB0.out (Nat.le_refl _) _ _
  · have HV := Lib.hid hv; clear hv
    obtain ⟨hm1, hm6, hc1, hc10, _⟩ := validM_of HV.out
    obtain ⟨b, o, a0, c0, rfl, hcell0⟩ := row0 HSA.out hm1
    obtain ⟨N, hN⟩ : ∃ N, colsM m = N := ⟨_, rfl⟩
    have HN := Lib.hid hN
    rw [hN] at hc1 hc10 hcell0
    clear hN
    have hz : (0 : Int) < (m.length : Int) := by omega
    by_cases h2 : N < 2
    · have HX : Hid (cohV m = ((0, 0), 8)) := by show _ = _; unfold cohV; rw [if_pos HV.out, HN.out, if_pos h2]
      obtain ⟨c0, c1, f0, f1, lt⟩ := HR0.out
      go_wp2
      (try simp only [Exit.inBlock, Exit.then])
      refine bodyPost_ret (v := .tuple #[.agg #[.int .i64 0, .int .i64 0], .int .i64 8]) (by rw [results_cell_tmp rfl]; go_simp) rfl ⟨?_, by rw [HX.out]⟩
      exact set2_below HB0.out (Nat.le_refl _) _ _
    · have h2' : 2 ≤ N := by omega
      have h2d : ¬ ((N : Int) < 2) := by omega
      clear h2
      have hbl : b < W0.heap.size := cell_lt hcell0
      have hcell1 := (alloc_old W0 (.cells #[.int .i64 0, .int .i64 1] 52) b o hbl).trans hcell0
      go_wp2
      clear hcell0 hcell1
      have HI : Hid (RCohI w m W0.heap.size (N := N) (upC N 0) (W0.alloc (.cells #[.int .i64 0, .int .i64 1] 52))) := by
        show RCohI _ _ _ _ _
        refine ⟨fun x hx => by simp [upC] at hx, HR0.out.next ((Below.refl _ _).alloc (Nat.le_refl _) _), FBox.made _ 0 1 _ rfl, by rw [HW0.out]; omega, by rw [World.size_alloc]; omega, HB0.out.alloc (by rw [HW0.out]; omega) _⟩
      have HS1 := Lib.hid (HSA.out.alloc (.cells #[.int .i64 0, .int .i64 1] 52))
      generalize W0.alloc (.cells #[.int .i64 0, .int .i64 1] 52) = W1 at *
      generalize W0.heap.size = G at *
      have HSW := Lib.hid HS.out
      clear HS1 HR0 HB0 HSA HW0 hbl
      go_loopw [24] (fun i wr => ∃ k : Nat, k ≤ N ∧ i = .int .i64 k ∧ RCohI w m G (upC N k) wr) (fun i _ => N - (intOf i).toNat)
      case atStart => exact ⟨0, Nat.zero_le _, rfl, HI.out⟩
      case round =>
        clear HI
        obtain ⟨k, hk, rfl, hI⟩ := hrel
        have HI := Lib.hid hI; clear hI
        by_cases hlt : k < N
        · have HI2 : Hid (RCohI w m G (upC N k ++ colPN N 0 k) wr) := by show RCohI _ _ _ _ _; rw [colPN_zero, List.append_nil]; exact HI.out
          clear HI
          go_wp2
          go_loopw [28] (fun i wr => ∃ j : Nat, j ≤ k ∧ i = .int .i64 j ∧ RCohI w m G (upC N k ++ colPN N j k) wr) (fun i _ => k - (intOf i).toNat)
          case atStart => exact ⟨0, Nat.zero_le _, rfl, HI2.out⟩
          case round =>
            clear HI2
            obtain ⟨j, hjk, rfl, hI⟩ := hrel
            have HI := Lib.hid hI; clear hI
            by_cases hlj : j < k
            · have HLV : Hid (likeV m (j : Nat) (k : Nat) = likeP m (N := N) ⟨(j, k), hlj, hlt⟩) := by
                show _ = _
                exact likeV_ok HV.out (by unfold thereB; rw [HN.out]; simp; omega) (by unfold thereB; rw [HN.out]; simp; omega)
              have HSN : Hid (upC N k ++ colPN N (j + 1) k = (upC N k ++ colPN N j k) ++ [⟨(j, k), hlj, hlt⟩]) := by
                show _ = _
                rw [colPN_succ hlj hlt, List.append_assoc]
              have HLI := Lib.hid (likeP_in' HN.out HV.out (⟨(j, k), hlj, hlt⟩ : PN N))
              have HLE := Lib.hid (cohV_bad HN.out HV.out h2' (⟨(j, k), hlj, hlt⟩ : PN N))
              have HER : Hid ((likeP m (⟨(j, k), hlj, hlt⟩ : PN N)).2 ≠ 0 → likeP m (⟨(j, k), hlj, hlt⟩ : PN N) = ((0, 0), 8)) := fun h => likeC_err h
              have HGB := Lib.hid (best_in' HN.out HV.out _ HI.out.good)
              have HSV := Lib.hid (HSW.out.below HI.out.below)
              generalize hx : (⟨(j, k), hlj, hlt⟩ : PN N) = x at *
              have HX := Lib.hid hx; clear hx
              obtain ⟨⟨⟨rn, rd⟩, q⟩, hr⟩ : ∃ R, likeP m x = R := ⟨_, rfl⟩
              have HRR := Lib.hid hr
              have hlv := HLV.out
              rw [hr] at hlv HLI HLE HER
              have HLV2 := Lib.hid hlv
              clear hr hlv HLV
              go_wp2_with fail
              refine (rLikeness_any _ _ _ _ _ _ HM.out HSV.out).mono ?_
              rintro e w3 ⟨hb3, rfl⟩
              rw [HLV2.out]
              have HB3 := Lib.hid hb3; clear hb3
              have HR3 := Lib.hid (HI.out.res.next HB3.out)
              have HF3 := Lib.hid (HI.out.best.later HB3.out HI.out.gv)
              have HBW : Hid (Below w.heap.size w w3) := Below.next HI.out.below HB3.out (Nat.le_refl _)
              have hG3 : G < w3.heap.size := Nat.lt_of_lt_of_le HI.out.gv HB3.out.size
              have hgw := HI.out.gw
              dsimp only
              by_cases hq : q = 0
              · subst hq
                have hli := HLI.out rfl
                obtain ⟨hred, hl1, hl2, hl3⟩ := hli
                have HRED := Lib.hid hred
                obtain ⟨hr1, hr2, _⟩ := hred
                dsimp only at hr1 hr2 hl1 hl2 hl3
                have HGOOD : Hid (∀ y ∈ (upC N k ++ colPN N j k) ++ [x], (likeP m y).2 = 0) := fun y hy => by
                  rcases List.mem_append.1 hy with h | h
                  · exact HI.out.good y h
                  · obtain rfl : y = x := by simpa using h
                    rw [HRR.out]
                obtain ⟨⟨gn, gd⟩, hbest⟩ : ∃ g, bestL ((upC N k ++ colPN N j k).map fun x => (likeP m x).1) = g := ⟨_, rfl⟩
                have hgb := HGB.out
                have hf3 := HF3.out
                rw [hbest] at hgb hf3
                have HBE := Lib.hid hbest
                obtain ⟨g1, g2, g3, g4⟩ := hgb
                dsimp only at g1 g2 g3 g4
                have HF := Lib.hid hf3
                clear hbest hf3
                have hm1' := mul_in (a := rn) (b := gd) ⟨hr1, hl1⟩ ⟨by omega, g4⟩
                have hm2' := mul_in (a := gn) (b := rd) ⟨g1, g2⟩ ⟨by omega, hl2⟩
                have M1 : Hid (wrap64 (rn * gd) = rn * gd) := IntWalk.wrap64_in _ (by omega)
                have M2 : Hid (wrap64 (gn * rd) = gn * rd) := IntWalk.wrap64_in _ (by omega)
                clear hm1' hm2'
                have HB2 : Hid (bestL (((upC N k ++ colPN N j k) ++ [x]).map fun x => (likeP m x).1) = if gn * rd < rn * gd then (rn, rd) else (gn, gd)) := by
                  show _ = _
                  rw [List.map_append, List.map_singleton, bestL_snoc, HBE.out, HRR.out]; rfl
                have m1' := M1.out
                have m2' := M2.out
                obtain ⟨p0, p1, p2, p3⟩ := HF.out
                have RN := Lib.hid (HR3.out.next ((Below.refl _ _).alloc (Nat.le_refl _) (.cells #[.int .i64 rn, .int .i64 rd] 52)))
                have FN := Lib.hid (HF.out.later ((Below.refl _ _).alloc (Nat.le_refl _) (.cells #[.int .i64 rn, .int .i64 rd] 52)) hG3)
                have BN : Hid (Below w.heap.size w (w3.alloc (.cells #[.int .i64 rn, .int .i64 rd] 52))) := HBW.out.alloc HBW.out.size _
                by_cases hlt2 : gn * rd < rn * gd
                · go_wp2
                  go_roundw
                  case rel =>
                    refine ⟨j + 1, by omega, by go_num, ?_⟩
                    rw [HSN.out]
                    have hsz : (((w3.setCell ⟨G, 0, none⟩ (.int .i64 rn)).setCell ⟨G, 1, none⟩ (.int .i64 rd))).heap.size = w3.heap.size := by rw [World.size_setCell, World.size_setCell]
                    refine ⟨HGOOD.out, HR3.out.later ((((Below.refl G w3).setCell (Nat.le_refl _) _).setCell (Nat.le_refl _) _).alloc (by rw [hsz]; omega) _) hgw, ?_, hgw, by rw [World.size_alloc, hsz]; omega, ((HBW.out.setCell (by show _ ≤ G; omega) _).setCell (by show _ ≤ G; omega) _).alloc (by rw [hsz]; exact HBW.out.size) _⟩
                    rw [HB2.out, if_pos hlt2]; exact (HF.out.over rn rd).later ((Below.refl _ _).alloc (Nat.le_refl _) _) (by rw [hsz]; exact hG3)
                  case measure => simp [intOf]; omega
                · go_wp2
                  go_roundw
                  case rel =>
                    refine ⟨j + 1, by omega, by go_num, ?_⟩
                    rw [HSN.out]
                    refine ⟨HGOOD.out, RN.out, ?_, hgw, by rw [World.size_alloc]; omega, BN.out⟩
                    rw [HB2.out, if_neg hlt2]; exact FN.out
                  case measure => simp [intOf]; omega
              · have e0 : (q == 0) = false := by simpa using hq
                have e1 : (q != 0) = true := by simpa using hq
                have HXX := Lib.hid (HLE.out hq)
                have h8 : (((rn, rd), q) : (Int × Int) × Int) = ((0, 0), 8) := HER.out hq
                obtain ⟨⟨rfl, rfl⟩, rfl⟩ : (rn = 0 ∧ rd = 0) ∧ q = 8 := by simpa using h8
                clear h8 hq
                obtain ⟨c0, c1, f0, f1, lt⟩ := HR3.out
                go_wp2
                (try simp only [Exit.inBlock, Exit.then])
                refine bodyPost_ret (v := .tuple #[.agg #[.int .i64 0, .int .i64 0], .int .i64 8]) (by rw [results_cell_tmp rfl]; go_simp) rfl ⟨?_, by rw [HXX.out]⟩
                exact (set2_below HBW.out (Nat.le_refl _) _ _).alloc (by rw [World.size_setCell, World.size_setCell]; exact HBW.out.size) _
            · obtain rfl : j = k := by omega
              have HU : Hid (upC N (j + 1) = upC N j ++ colPN N j j) := upC_succ N j
              go_wp2
              go_roundw
              case rel => exact ⟨j + 1, by omega, by go_num, by rw [HU.out]; exact HI.out⟩
              case measure => simp [intOf]; omega
        · obtain rfl : k = N := by omega
          have HE := Lib.hid (cohV_good HN.out HV.out h2' HI.out.good)
          obtain ⟨⟨gn, gd⟩, hbest⟩ : ∃ g, bestL ((upC k k).map fun x => (likeP m x).1) = g := ⟨_, rfl⟩
          have hb := HI.out.best
          rw [hbest] at hb HE
          obtain ⟨p0, p1, p2, p3⟩ := hb
          obtain ⟨c0, c1, f0, f1, lt⟩ := HI.out.res
          have hgw := HI.out.gw
          clear hbest
          go_wp2
          (try simp only [Exit.inBlock, Exit.then])
          refine bodyPost_ret (v := .tuple #[.agg #[.int .i64 gn, .int .i64 gd], .int .i64 0]) (by rw [results_cell_tmp rfl]; go_simp) rfl ⟨?_, by rw [HE.out]⟩
          exact set2_below HI.out.below (Nat.le_refl _) _ _
end Go.Proofs.YtfnomiingelfaaaGreat
/- Sure and Bound of layer 4, both sides: contracts. Written by mk_spsure.py. -/
namespace Go.Proofs.YtfnomiingelfaaaGreat
open Go.RowKit Go.Shelf

def sureV (m : List (List Int)) : Int × Int := if (sparkV m).2 = 8 then ((colsM m : Int), 0) else if (sparkV m).2 = 0 then (((sparkV m).1 - 1).tdiv 2, 0) else (0, (sparkV m).2)
theorem spark_in (m : List (List Int)) : 0 ≤ (sparkV m).1 ∧ (sparkV m).1 ≤ 10 := by
  unfold sparkV
  split
  · have h1 := nzTo_in (circuitV m).1 (circuitV m).1.length
    have h2 := circuitV_len (m := m)
    dsimp only
    omega
  · exact ⟨Int.le_refl 0, by omega⟩
theorem spark_none {m : List (List Int)} (h : (sparkV m).2 = 8) : validM m = true := by
  unfold sparkV at h
  split at h
  · cases h
  · unfold circuitV at h
    split at h
    · assumption
    · cases h
def bndFrom (n d : Int) : Nat → Nat → Nat
  | _, 0 => 0
  | k, f + 1 => if (2 * (k : Int) + 1) * (2 * (k : Int) + 1) * n < d then bndFrom n d (k + 1) f + 1 else 0
def bndTo (n d : Int) (N : Nat) : Nat := bndFrom n d 0 N
def boundV (m : List (List Int)) : Int × Int := if (cohV m).2 = 0 then (((bndTo (cohV m).1.1 (cohV m).1.2 (colsM m) : Nat) : Int), 0) else (0, (cohV m).2)
theorem coh_in {m : List (List Int)} {n d e : Int} (h : cohV m = ((n, d), e)) (h0 : e = 0) : validM m = true ∧ 0 ≤ n ∧ n ≤ 10000 ∧ 1 ≤ d ∧ d ≤ 10000 := by
  subst h0
  unfold cohV at h
  split at h
  · rename_i hv
    refine ⟨hv, ?_⟩
    obtain ⟨_, hm6, _, _, _⟩ := validM_of hv
    split at h
    · cases h
    · split at h
      · cases h
      · rename_i hb
        have hbest : bestL ((upPN (colsM m) (colsM m)).map fun x => (likeP m x).1) = (n, d) := congrArg Prod.fst h
        have hall : ∀ r ∈ (upPN (colsM m) (colsM m)).map fun x => (likeP m x).1, (0 ≤ r.1 ∧ r.1 ≤ 10000) ∧ 1 ≤ r.2 ∧ r.2 ≤ 10000 := fun r hr => by
          obtain ⟨x, hx, rfl⟩ := List.mem_map.1 hr
          have h3 : badP m (colsM m) = false := by simpa using hb
          unfold badP at h3
          have h2 := List.any_eq_false.1 h3 x hx
          have h2 : (likeC (colM m x.1.1) (colM m x.1.2)).2 = 0 := by simpa [likeP] using h2
          have ha : ∀ j, j < colsM m → allB 1 (colM m j) = true := fun j hj => colM_all hv hj
          have hl := likeC_in (ha x.1.1 (Nat.lt_trans x.2.1 x.2.2)) (ha x.1.2 x.2.2) (by rw [colM_length, colM_length]) (by rw [colM_length]; omega) h2
          obtain ⟨⟨r1, r2, _⟩, r3, r4, _⟩ := hl
          exact ⟨⟨r1, r3⟩, r2, r4⟩
        obtain ⟨_, b2, _, _⟩ := bestL_is _ (fun r hr => (hall r hr).2.1) (0, 1) (by decide)
        have e : ((upPN (colsM m) (colsM m)).map fun x => (likeP m x).1).foldl bestF (0, 1) = (n, d) := hbest
        rw [e] at b2
        rcases b2 with b2 | b2
        · obtain ⟨rfl, rfl⟩ : n = 0 ∧ d = 1 := by simpa using b2
          exact ⟨by decide, by decide, by decide, by decide⟩
        · have := hall _ b2
          dsimp only at this
          omega
  · cases h
set_option maxRecDepth 100000 in
set_option maxHeartbeats 800000 in
theorem ssure_any (a : Option Addr) (m : List (List Int)) (cap : Nat) (w : World) (hm : MOk m) (hs : Ms w a m) :
    Calls Tryz.prog 16 #[.slice a m.length cap] w fun e w' => e = .returned (.tuple #[.int .i64 (sureV m).1, .int .i64 (sureV m).2]) ∧ Below w.heap.size w w' := by
  have HSP := Lib.hid (spark_any a m cap w hm hs)
  obtain ⟨⟨s, e0⟩, hse⟩ : ∃ r, sparkV m = r := ⟨_, rfl⟩
  have HSV : Hid (sureV m = if e0 = 8 then ((colsM m : Int), 0) else if e0 = 0 then ((s - 1).tdiv 2, 0) else (0, e0)) := by show _ = _; unfold sureV; rw [hse]
  have hs01 := spark_in m
  rw [hse] at HSP hs01
  dsimp only at HSP hs01
  by_cases h8 : e0 = 8
  · subst h8
    obtain ⟨N, hN⟩ : ∃ N, colsM m = N := ⟨_, rfl⟩
    have hE8 := spark_none (m := m) (by rw [hse])
    have hv := hE8
    have HE : Hid (sureV m = ((N : Int), 0)) := by show _ = _; rw [HSV.out, if_pos rfl, hN]
    rw [HE.out]
    obtain ⟨hm1, hm6, hc1, hc10, hrows⟩ := validM_of hv
    · clear hse HSV hs01
      have HPI : Hid (∀ W, Below w.heap.size w W → Calls Tryz.prog 42 #[.slice a m.length cap] W (NPost ((N : Int), 0) W)) := fun W hb => by
        have h := mpixels_any a m cap W hm (hs.below hb)
        rw [show pixelsV m = ((N : Int), 0) by unfold pixelsV; rw [if_pos hv, hN]] at h
        exact h
      clear hs hm hrows hc1 hc10 hm1 hm6 hN hv hE8
      go_enter Tryz.func16, Tryz.ntmps16
      go_wp2_with (first
        | (go_at_call 41; refine HSP.out.mono ?_; rintro e w2 ⟨rfl, hb⟩; have HB := Lib.hid hb;  clear hb)
        | (go_at_call 42; refine (HPI.out _ HB.out).mono ?_; rintro e w3 ⟨hb3, rfl⟩; have HB3 : Hid (Below w.heap.size w w3) := HB.out.trans (hb3.mono HB.out.size); clear hb3))
      go_ret2
      exact ⟨rfl, HB3.out⟩
  · have y8 : (e0 == 8) = false := by simpa using h8
    by_cases h0 : e0 = 0
    · subst h0
      have HE : Hid (sureV m = ((s - 1).tdiv 2, 0)) := by show _ = _; rw [HSV.out, if_neg h8, if_pos rfl]
      rw [HE.out]
      have hs1 : IntKind.i64.wrap (s - 1) = s - 1 := IntWalk.i64_in _ (by omega)
      have hs2 : IntKind.i64.wrap ((s - 1).tdiv 2) = (s - 1).tdiv 2 := by
        have h1 : ((s - 1).tdiv 2).natAbs = (s - 1).natAbs / 2 := Int.natAbs_tdiv _ _
        exact IntWalk.i64_in _ (by omega)
      clear hse HSV hm hs h8
      go_enter Tryz.func16, Tryz.ntmps16
      go_wp2_with (go_at_call 41; refine HSP.out.mono ?_; rintro e w2 ⟨rfl, hb⟩; have HB := Lib.hid hb; clear hb)
      go_ret2
      exact ⟨by first | rfl | (congr 3; omega), HB.out⟩
    · have y1 : (e0 == 0) = false := by simpa using h0
      have y2 : (e0 != 0) = true := by simpa using h0
      have HE : Hid (sureV m = (0, e0)) := by show _ = _; rw [HSV.out, if_neg h8, if_neg h0]
      rw [HE.out]
      clear hse HSV hm hs h8 h0 hs01
      go_enter Tryz.func16, Tryz.ntmps16
      go_wp2_with (go_at_call 41; refine HSP.out.mono ?_; rintro e w2 ⟨rfl, hb⟩; have HB := Lib.hid hb; clear hb)
      go_ret2
      exact ⟨rfl, HB.out⟩
set_option maxRecDepth 100000 in
set_option maxHeartbeats 800000 in
theorem rsure_any (a : Option Addr) (m : List (List Int)) (cap : Nat) (w : World) (hm : MOk m) (hs : Ms w a m) :
    Calls Tryz.prog 17 #[.slice a m.length cap] w fun e w' => e = .returned (.tuple #[.int .i64 (sureV m).1, .int .i64 (sureV m).2]) ∧ Below w.heap.size w w' := by
  have HSP := Lib.hid (rspark_any a m cap w hm hs)
  obtain ⟨⟨s, e0⟩, hse⟩ : ∃ r, sparkV m = r := ⟨_, rfl⟩
  have HSV : Hid (sureV m = if e0 = 8 then ((colsM m : Int), 0) else if e0 = 0 then ((s - 1).tdiv 2, 0) else (0, e0)) := by show _ = _; unfold sureV; rw [hse]
  have hs01 := spark_in m
  rw [hse] at HSP hs01
  dsimp only at HSP hs01
  by_cases h8 : e0 = 8
  · subst h8
    obtain ⟨N, hN⟩ : ∃ N, colsM m = N := ⟨_, rfl⟩
    have hE8 := spark_none (m := m) (by rw [hse])
    have hv := hE8
    have HE : Hid (sureV m = ((N : Int), 0)) := by show _ = _; rw [HSV.out, if_pos rfl, hN]
    rw [HE.out]
    obtain ⟨hm1, hm6, hc1, hc10, hrows⟩ := validM_of hv
    · clear hse HSV hs01
      obtain ⟨b0, o0, a0, r0, c0, rfl, hcw, _, hr0⟩ := hs.at (i := 0) (by omega)
      have hr0N : r0.length = N := by rw [← hN]; exact (hrows r0 (List.mem_of_getElem? hr0.out)).1
      rw [hr0N, Nat.add_zero] at hcw
      have hml : 0 < m.length := by omega
      clear hs hm hrows hr0 hr0N hc1 hc10 hm1 hm6 hN hv hE8
      go_enter Tryz.func17, Tryz.ntmps17
      go_wp2_with (first
        | (go_at_call 23; refine HSP.out.mono ?_; rintro e w2 ⟨rfl, hb⟩; have HB := Lib.hid hb; have hcw2 := (hb.cell (p := ⟨b0, o0, none⟩) (cell_lt hcw)).trans hcw; clear hb))
      go_ret2
      exact ⟨rfl, HB.out⟩
  · have y8 : (e0 == 8) = false := by simpa using h8
    by_cases h0 : e0 = 0
    · subst h0
      have HE : Hid (sureV m = ((s - 1).tdiv 2, 0)) := by show _ = _; rw [HSV.out, if_neg h8, if_pos rfl]
      rw [HE.out]
      have hs1 : IntKind.i64.wrap (s - 1) = s - 1 := IntWalk.i64_in _ (by omega)
      have hs2 : IntKind.i64.wrap ((s - 1).tdiv 2) = (s - 1).tdiv 2 := by
        have h1 : ((s - 1).tdiv 2).natAbs = (s - 1).natAbs / 2 := Int.natAbs_tdiv _ _
        exact IntWalk.i64_in _ (by omega)
      clear hse HSV hm hs h8
      go_enter Tryz.func17, Tryz.ntmps17
      go_wp2_with (go_at_call 23; refine HSP.out.mono ?_; rintro e w2 ⟨rfl, hb⟩; have HB := Lib.hid hb; clear hb)
      go_ret2
      exact ⟨by first | rfl | (congr 3; omega), HB.out⟩
    · have y1 : (e0 == 0) = false := by simpa using h0
      have y2 : (e0 != 0) = true := by simpa using h0
      have HE : Hid (sureV m = (0, e0)) := by show _ = _; rw [HSV.out, if_neg h8, if_neg h0]
      rw [HE.out]
      clear hse HSV hm hs h8 h0 hs01
      go_enter Tryz.func17, Tryz.ntmps17
      go_wp2_with (go_at_call 23; refine HSP.out.mono ?_; rintro e w2 ⟨rfl, hb⟩; have HB := Lib.hid hb; clear hb)
      go_ret2
      exact ⟨rfl, HB.out⟩
set_option maxRecDepth 100000 in
set_option maxHeartbeats 1600000 in
theorem sbound_any (a : Option Addr) (m : List (List Int)) (cap : Nat) (w : World) (hm : MOk m) (hs : Ms w a m) :
    Calls Tryz.prog 18 #[.slice a m.length cap] w fun e w' => e = .returned (.tuple #[.int .i64 (boundV m).1, .int .i64 (boundV m).2]) ∧ Below w.heap.size w w' := by
  have HCO := Lib.hid (coherence_any a m cap w hm hs)
  obtain ⟨⟨⟨n, d⟩, e0⟩, hco⟩ : ∃ r, cohV m = r := ⟨_, rfl⟩
  have HBV : Hid (boundV m = if e0 = 0 then (((bndTo n d (colsM m) : Nat) : Int), 0) else (0, e0)) := by show _ = _; unfold boundV; rw [hco]
  have hin := coh_in hco
  rw [hco] at HCO
  unfold QPost at HCO
  dsimp only at HCO
  by_cases h0 : e0 = 0
  · subst h0
    obtain ⟨hv, hn0, hn1, hd0, hd1⟩ := hin rfl
    obtain ⟨hm1, hm6, hc1, hc10, hrows⟩ := validM_of hv
    obtain ⟨N, hN⟩ : ∃ N, colsM m = N := ⟨_, rfl⟩
    have HE : Hid (boundV m = (((bndTo n d N : Nat) : Int), 0)) := by show _ = _; rw [HBV.out, if_pos rfl, hN]
    rw [HE.out]
    obtain ⟨b0, o0, a0, r0, c0, rfl, hcw, _, hr0⟩ := hs.at (i := 0) (by omega)
    have hr0N : r0.length = N := by rw [← hN]; exact (hrows r0 (List.mem_of_getElem? hr0.out)).1
    rw [hr0N, Nat.add_zero] at hcw
    rw [hN] at hc10
    have HCW := Lib.hid hcw
    have hml : 0 < m.length := by omega
    clear hs hm hrows hr0 hr0N hc1 hm1 hm6 hN hv hco hin hcw HBV
    go_enter Tryz.func18, Tryz.ntmps18
    go_wp2_with (go_at_call 43; refine HCO.out.mono ?_; rintro e w2 ⟨hb2, rfl⟩
                 obtain ⟨x2, hx2⟩ : ∃ x2, w2.alloc (.cells #[.int .i64 n, .int .i64 d] 52) = x2 := ⟨_, rfl⟩
                 have hbx : Below w2.heap.size w2 x2 := by rw [← hx2]; exact (Below.refl _ _).alloc (Nat.le_refl _) _
                 have HB2 : Hid (Below w.heap.size w x2) := hb2.trans (hbx.mono hb2.size)
                 obtain ⟨z0, z1, _, _⟩ := box2 hx2 x2 (Below.refl _ _)
                 have hcx := (HB2.out.cell (p := ⟨b0, o0, none⟩) (cell_lt HCW.out)).trans HCW.out; clear hb2 hbx)
    go_loopw [6] (fun v wr => ∃ k : Nat, k ≤ N ∧ v = .int .i64 k ∧ wr = x2 ∧ bndTo n d N = k + bndFrom n d k (N - k)) (fun v _ => N - (intOf v).toNat)
    case atStart => exact ⟨0, Nat.zero_le _, rfl, rfl, by unfold bndTo; rw [Nat.zero_add, Nat.sub_zero]⟩
    case round =>
      obtain ⟨k, hk, rfl, rfl, hbk⟩ := hrel
      have HBK := Lib.hid hbk; clear hbk
      have hq : 0 ≤ (2 * (k : Int) + 1) * (2 * (k : Int) + 1) ∧ (2 * (k : Int) + 1) * (2 * (k : Int) + 1) ≤ 441 := ⟨Int.mul_nonneg (by omega) (by omega), by
        have := Int.mul_le_mul (show 2 * (k : Int) + 1 ≤ 21 by omega) (show 2 * (k : Int) + 1 ≤ 21 by omega) (by omega) (by omega)
        omega⟩
      have hq2 : 0 ≤ (2 * (k : Int) + 1) * (2 * (k : Int) + 1) * n ∧ (2 * (k : Int) + 1) * (2 * (k : Int) + 1) * n ≤ 441 * 10000 := ⟨Int.mul_nonneg hq.1 hn0, Int.mul_le_mul hq.2 hn1 hn0 (by omega)⟩
      have m1 : IntKind.i64.wrap (2 * (k : Int)) = 2 * (k : Int) := IntWalk.i64_in _ (by omega)
      have m2 : IntKind.i64.wrap (2 * (k : Int) + 1) = 2 * (k : Int) + 1 := IntWalk.i64_in _ (by omega)
      have m3 : IntKind.i64.wrap ((2 * (k : Int) + 1) * (2 * (k : Int) + 1)) = (2 * (k : Int) + 1) * (2 * (k : Int) + 1) := IntWalk.i64_in _ (by omega)
      have m4 : IntKind.i64.wrap ((2 * (k : Int) + 1) * (2 * (k : Int) + 1) * n) = (2 * (k : Int) + 1) * (2 * (k : Int) + 1) * n := IntWalk.i64_in _ (by omega)
      obtain ⟨Q, hQ⟩ : ∃ Q, (2 * (k : Int) + 1) * (2 * (k : Int) + 1) * n = Q := ⟨_, rfl⟩
      rw [hQ] at m4
      have HQ := Lib.hid hQ
      have hQ' : (2 * (k : Int) + 1) * (2 * (k : Int) + 1) * n = Q := hQ
      clear hq hq2
      by_cases hlt : k < N
      · have hk0 : (k : Int) < (N : Int) := by omega
        have HST : Hid (bndFrom n d k (N - k) = if Q < d then bndFrom n d (k + 1) (N - (k + 1)) + 1 else 0) := by
          show _ = _
          rw [show N - k = (N - (k + 1)) + 1 by omega]
          show (if (2 * (k : Int) + 1) * (2 * (k : Int) + 1) * n < d then _ else _) = _
          rw [HQ.out]
        by_cases hqd : Q < d
        · have HNX : Hid (bndTo n d N = (k + 1) + bndFrom n d (k + 1) (N - (k + 1))) := by show _ = _; rw [HBK.out, HST.out, if_pos hqd]; omega
          clear HST HBK hQ
          go_wp2
          go_roundw
          case rel => exact ⟨k + 1, by omega, by go_num, by first | rfl | trivial, HNX.out⟩
          case measure => simp [intOf]; omega
        · have HNX : Hid (bndTo n d N = k) := by show _ = _; rw [HBK.out, HST.out, if_neg hqd]; omega
          have hqd2 : d ≤ Q := by omega
          clear HST HBK hQ
          go_wp2
          go_ret2
          exact ⟨by rw [HNX.out]; rfl, HB2.out⟩
      · obtain rfl : k = N := by omega
        have HNX : Hid (bndTo n d k = k) := by show _ = _; rw [HBK.out, Nat.sub_self]; rfl
        clear HBK hQ hQ' m1 m2 m3 m4
        go_wp2
        go_ret2
        exact ⟨by rw [HNX.out]; rfl, HB2.out⟩
  · have HE : Hid (boundV m = (0, e0)) := by show _ = _; rw [HBV.out, if_neg h0]
    rw [HE.out]
    have y1 : (e0 == 0) = false := by simpa using h0
    have y2 : (e0 != 0) = true := by simpa using h0
    clear hco hin HBV hm hs h0
    go_enter Tryz.func18, Tryz.ntmps18
    go_wp2_with (go_at_call 43; refine HCO.out.mono ?_; rintro e w2 ⟨hb2, rfl⟩; have HB2 := Lib.hid hb2; clear hb2)
    go_ret2
    exact ⟨rfl, HB2.out.alloc HB2.out.size _⟩
set_option maxRecDepth 100000 in
set_option maxHeartbeats 1600000 in
theorem rbound_any (a : Option Addr) (m : List (List Int)) (cap : Nat) (w : World) (hm : MOk m) (hs : Ms w a m) :
    Calls Tryz.prog 19 #[.slice a m.length cap] w fun e w' => e = .returned (.tuple #[.int .i64 (boundV m).1, .int .i64 (boundV m).2]) ∧ Below w.heap.size w w' := by
  have HCO := Lib.hid (rCoherence_any a m cap w hm hs)
  obtain ⟨⟨⟨n, d⟩, e0⟩, hco⟩ : ∃ r, cohV m = r := ⟨_, rfl⟩
  have HBV : Hid (boundV m = if e0 = 0 then (((bndTo n d (colsM m) : Nat) : Int), 0) else (0, e0)) := by show _ = _; unfold boundV; rw [hco]
  have hin := coh_in hco
  rw [hco] at HCO
  unfold QPost at HCO
  dsimp only at HCO
  by_cases h0 : e0 = 0
  · subst h0
    obtain ⟨hv, hn0, hn1, hd0, hd1⟩ := hin rfl
    obtain ⟨hm1, hm6, hc1, hc10, hrows⟩ := validM_of hv
    obtain ⟨N, hN⟩ : ∃ N, colsM m = N := ⟨_, rfl⟩
    have HE : Hid (boundV m = (((bndTo n d N : Nat) : Int), 0)) := by show _ = _; rw [HBV.out, if_pos rfl, hN]
    rw [HE.out]
    obtain ⟨b0, o0, a0, r0, c0, rfl, hcw, _, hr0⟩ := hs.at (i := 0) (by omega)
    have hr0N : r0.length = N := by rw [← hN]; exact (hrows r0 (List.mem_of_getElem? hr0.out)).1
    rw [hr0N, Nat.add_zero] at hcw
    rw [hN] at hc10
    have HCW := Lib.hid hcw
    have hml : 0 < m.length := by omega
    clear hs hm hrows hr0 hr0N hc1 hm1 hm6 hN hv hco hin hcw HBV
    go_enter Tryz.func19, Tryz.ntmps19
    go_wp2_with (go_at_call 44; refine HCO.out.mono ?_; rintro e w2 ⟨hb2, rfl⟩
                 obtain ⟨x2, hx2⟩ : ∃ x2, w2.alloc (.cells #[.int .i64 n, .int .i64 d] 52) = x2 := ⟨_, rfl⟩
                 have hbx : Below w2.heap.size w2 x2 := by rw [← hx2]; exact (Below.refl _ _).alloc (Nat.le_refl _) _
                 have HB2 : Hid (Below w.heap.size w x2) := hb2.trans (hbx.mono hb2.size)
                 obtain ⟨z0, z1, _, _⟩ := box2 hx2 x2 (Below.refl _ _)
                 have hcx := (HB2.out.cell (p := ⟨b0, o0, none⟩) (cell_lt HCW.out)).trans HCW.out; clear hb2 hbx)
    go_loopw [6] (fun v wr => ∃ k : Nat, k ≤ N ∧ v = .int .i64 k ∧ wr = x2 ∧ bndTo n d N = k + bndFrom n d k (N - k)) (fun v _ => N - (intOf v).toNat)
    case atStart => exact ⟨0, Nat.zero_le _, rfl, rfl, by unfold bndTo; rw [Nat.zero_add, Nat.sub_zero]⟩
    case round =>
      obtain ⟨k, hk, rfl, rfl, hbk⟩ := hrel
      have HBK := Lib.hid hbk; clear hbk
      have hq : 0 ≤ (2 * (k : Int) + 1) * (2 * (k : Int) + 1) ∧ (2 * (k : Int) + 1) * (2 * (k : Int) + 1) ≤ 441 := ⟨Int.mul_nonneg (by omega) (by omega), by
        have := Int.mul_le_mul (show 2 * (k : Int) + 1 ≤ 21 by omega) (show 2 * (k : Int) + 1 ≤ 21 by omega) (by omega) (by omega)
        omega⟩
      have hq2 : 0 ≤ (2 * (k : Int) + 1) * (2 * (k : Int) + 1) * n ∧ (2 * (k : Int) + 1) * (2 * (k : Int) + 1) * n ≤ 441 * 10000 := ⟨Int.mul_nonneg hq.1 hn0, Int.mul_le_mul hq.2 hn1 hn0 (by omega)⟩
      have m1 : IntKind.i64.wrap (2 * (k : Int)) = 2 * (k : Int) := IntWalk.i64_in _ (by omega)
      have m2 : IntKind.i64.wrap (2 * (k : Int) + 1) = 2 * (k : Int) + 1 := IntWalk.i64_in _ (by omega)
      have m3 : IntKind.i64.wrap ((2 * (k : Int) + 1) * (2 * (k : Int) + 1)) = (2 * (k : Int) + 1) * (2 * (k : Int) + 1) := IntWalk.i64_in _ (by omega)
      have m4 : IntKind.i64.wrap ((2 * (k : Int) + 1) * (2 * (k : Int) + 1) * n) = (2 * (k : Int) + 1) * (2 * (k : Int) + 1) * n := IntWalk.i64_in _ (by omega)
      obtain ⟨Q, hQ⟩ : ∃ Q, (2 * (k : Int) + 1) * (2 * (k : Int) + 1) * n = Q := ⟨_, rfl⟩
      rw [hQ] at m4
      have HQ := Lib.hid hQ
      have hQ' : (2 * (k : Int) + 1) * (2 * (k : Int) + 1) * n = Q := hQ
      clear hq hq2
      by_cases hlt : k < N
      · have hk0 : (k : Int) < (N : Int) := by omega
        have HST : Hid (bndFrom n d k (N - k) = if Q < d then bndFrom n d (k + 1) (N - (k + 1)) + 1 else 0) := by
          show _ = _
          rw [show N - k = (N - (k + 1)) + 1 by omega]
          show (if (2 * (k : Int) + 1) * (2 * (k : Int) + 1) * n < d then _ else _) = _
          rw [HQ.out]
        by_cases hqd : Q < d
        · have HNX : Hid (bndTo n d N = (k + 1) + bndFrom n d (k + 1) (N - (k + 1))) := by show _ = _; rw [HBK.out, HST.out, if_pos hqd]; omega
          clear HST HBK hQ
          go_wp2
          go_roundw
          case rel => exact ⟨k + 1, by omega, by go_num, by first | rfl | trivial, HNX.out⟩
          case measure => simp [intOf]; omega
        · have HNX : Hid (bndTo n d N = k) := by show _ = _; rw [HBK.out, HST.out, if_neg hqd]; omega
          have hqd2 : d ≤ Q := by omega
          clear HST HBK hQ
          go_wp2
          go_ret2
          exact ⟨by rw [HNX.out]; rfl, HB2.out⟩
      · obtain rfl : k = N := by omega
        have HNX : Hid (bndTo n d k = k) := by show _ = _; rw [HBK.out, Nat.sub_self]; rfl
        clear HBK hQ hQ' m1 m2 m3 m4
        go_wp2
        go_ret2
        exact ⟨by rw [HNX.out]; rfl, HB2.out⟩
  · have HE : Hid (boundV m = (0, e0)) := by show _ = _; rw [HBV.out, if_neg h0]
    rw [HE.out]
    have y1 : (e0 == 0) = false := by simpa using h0
    have y2 : (e0 != 0) = true := by simpa using h0
    clear hco hin HBV hm hs h0
    go_enter Tryz.func19, Tryz.ntmps19
    go_wp2_with (go_at_call 44; refine HCO.out.mono ?_; rintro e w2 ⟨hb2, rfl⟩; have HB2 := Lib.hid hb2; clear hb2)
    go_ret2
    exact ⟨rfl, HB2.out.alloc HB2.out.size _⟩
end Go.Proofs.YtfnomiingelfaaaGreat
/- The bound is at most what is sure. Plain words. Speaks of no program. -/
namespace Go.Proofs.YtfnomiingelfaaaGreat
open Go.RowKit

theorem bndFrom_lt {n d : Int} : ∀ f k i, i < bndFrom n d k f → (2 * ((k + i : Nat) : Int) + 1) * (2 * ((k + i : Nat) : Int) + 1) * n < d
  | 0, k, i, h => by unfold bndFrom at h; omega
  | f + 1, k, i, h => by
    unfold bndFrom at h
    split at h
    · rename_i h1
      cases i with
      | zero => exact h1
      | succ i =>
        have := bndFrom_lt (n := n) (d := d) f (k + 1) i (by omega)
        rw [show k + (i + 1) = k + 1 + i by omega]
        exact this
    · omega
theorem nz_one {h : List Int} {k : Nat} (hk : gt h k ≠ 0) : ∀ n, k < n → 1 ≤ nzTo h n
  | 0, hn => by omega
  | n + 1, hn => by
    have hb := nzTo_in h n
    show 1 ≤ (if gt h n = 0 then nzTo h n else nzTo h n + 1)
    by_cases e : n = k
    · subst e; rw [if_neg hk]; omega
    · have := nz_one hk n (by omega)
      split <;> omega
theorem bound_le {m : List (List Int)} (hb : (boundV m).2 = 0) (hs : (sparkV m).2 = 0) : (boundV m).1 ≤ (sureV m).1 := by
  obtain ⟨⟨⟨n, d⟩, e0⟩, hco⟩ : ∃ r, cohV m = r := ⟨_, rfl⟩
  unfold boundV at hb ⊢
  rw [hco] at hb ⊢
  dsimp only at hb ⊢
  by_cases h0 : e0 = 0
  · subst h0
    rw [if_pos rfl]
    obtain ⟨hv, hc⟩ := cohP hco
    have hsu : (sureV m).1 = ((sparkV m).1 - 1).tdiv 2 := by unfold sureV; rw [if_neg (by rw [hs]; decide), if_pos hs]
    rw [hsu]
    unfold sparkV at hs ⊢
    split at hs
    · rename_i hcz
      rw [if_pos hcz]
      dsimp only
      unfold circuitV at hcz ⊢
      rw [if_pos hv] at hcz ⊢
      split at hcz
      · cases hcz
      · rename_i h t hall
        obtain ⟨S, hS, h1, hB, he⟩ := (circsAll_mem hv).1 (show h ∈ circsAll m by rw [hall]; exact List.mem_cons_self)
        have hcp := circP hv hS h1 hB
        rw [← he] at hcp
        have hpos := hcp.first
        have hg := gersh hc hcp.len hcp.ker ⟨pos S 0, hS.lt h1, by omega⟩
        rw [← hcp.len] at hg
        have hs1 : 1 ≤ nzTo h h.length := nz_one (k := pos S 0) (by omega) h.length (by rw [hcp.len]; exact hS.lt h1)
        generalize nzTo h h.length = s at *
        obtain ⟨B, hBd⟩ : ∃ B, bndTo n d (colsM m) = B := ⟨_, rfl⟩
        rw [hBd]
        have hq : (s - 1).tdiv 2 = (s - 1) / 2 := Int.tdiv_eq_ediv_of_nonneg (by omega)
        rw [hq]
        apply Int.not_lt.1
        intro hlt
        have hB1 : 1 ≤ B := by omega
        have hlast := bndFrom_lt (n := n) (d := d) (colsM m) 0 (B - 1) (by show B - 1 < bndTo n d (colsM m); omega)
        rw [Nat.zero_add] at hlast
        obtain ⟨b, rfl⟩ : ∃ b, B = b + 1 := ⟨B - 1, by omega⟩
        rw [Nat.add_sub_cancel] at hlast
        have h3 : s - 1 ≤ 2 * (b : Int) + 1 := by omega
        have h4 := Int.mul_le_mul h3 h3 (by omega) (by omega)
        have h5 := Int.mul_le_mul_of_nonneg_right h4 hc.n
        omega
    · rename_i hcz
      exact absurd hs hcz
  · rw [if_neg h0] at hb
    exact absurd hb h0
end Go.Proofs.YtfnomiingelfaaaGreat
/- validFraction: a contract. -/
namespace Go.Proofs.YtfnomiingelfaaaGreat
open Go.RowKit

def validR (n d : Int) : Bool := decide (1 ≤ d) && decide (d ≤ 400) && decide (-10000000000 ≤ n) && decide (n ≤ 10000000000) && decide (gcd2 n d = 1)
set_option maxRecDepth 1000000 in
set_option maxHeartbeats 1600000 in
theorem validR_any (n d : Int) (w : World) : Calls Tryz.prog 141 #[.agg #[.int .i64 n, .int .i64 d]] w fun e w' => e = .returned (.bool (validR n d)) ∧ Below w.heap.size w w' := by
  obtain ⟨V, hV⟩ : ∃ V, w.alloc (.cells #[.int .i64 n, .int .i64 d] 52) = V := ⟨_, rfl⟩
  have HBV : Hid (Below w.heap.size w V) := by rw [← hV]; exact (Below.refl _ _).alloc (Nat.le_refl _) _
  have c0 : V.cell? ⟨w.heap.size, 0, none⟩ = some (.int .i64 n) := by rw [← hV]; exact alloc_cell _ _ _ _ _ rfl
  have c1 : V.cell? ⟨w.heap.size, 1, none⟩ = some (.int .i64 d) := by rw [← hV]; exact alloc_cell _ _ _ _ _ rfl
  by_cases h1 : d < 1
  · have HV : Hid (validR n d = false) := by show _ = _; unfold validR; rw [decide_eq_false (by omega : ¬ 1 ≤ d)]; rfl
    go_enter Tryz.func141, Tryz.ntmps141
    go_wp2
    go_ret
    exact ⟨ret_bool HV.out.symm, HBV.out⟩
  by_cases h2 : 400 < d
  · have HV : Hid (validR n d = false) := by show _ = _; unfold validR; rw [decide_eq_false (by omega : ¬ d ≤ 400)]; simp
    go_enter Tryz.func141, Tryz.ntmps141
    go_wp2
    go_ret
    exact ⟨ret_bool HV.out.symm, HBV.out⟩
  by_cases h3 : n < -10000000000
  · have HV : Hid (validR n d = false) := by show _ = _; unfold validR; rw [decide_eq_false (by omega : ¬ -10000000000 ≤ n)]; simp
    go_enter Tryz.func141, Tryz.ntmps141
    go_wp2
    go_ret
    exact ⟨ret_bool HV.out.symm, HBV.out⟩
  by_cases h4 : 10000000000 < n
  · have HV : Hid (validR n d = false) := by show _ = _; unfold validR; rw [decide_eq_false (by omega : ¬ n ≤ 10000000000)]; simp
    go_enter Tryz.func141, Tryz.ntmps141
    go_wp2
    go_ret
    exact ⟨ret_bool HV.out.symm, HBV.out⟩
  obtain ⟨G, hG⟩ : ∃ G, gcd2 n d = G := ⟨_, rfl⟩
  have HDV : Hid (∀ W b cap, Sl W (some ⟨b, 0, none⟩) [n, d] → Calls Tryz.prog 150 #[.slice (some ⟨b, 0, none⟩) 2 cap] W fun e w' => e = .returned (.int .i64 G) ∧ ∃ nd, w' = W.drewN nd) := fun W b cap h => by
    have h := divisor_any (some ⟨b, 0, none⟩) [n, d] cap W (by simp) (fun x hx => by
      rcases List.mem_cons.1 hx with e | hx
      · rw [e]; unfold Mid; omega
      · rw [List.mem_singleton.1 hx]; unfold Mid; omega) h
    rw [gcdL_two, hG] at h
    exact h
  obtain ⟨q, hq⟩ : ∃ q, decide (G = 1) = q := ⟨_, rfl⟩
  have HV : Hid (validR n d = q) := by
    show _ = _
    unfold validR
    rw [decide_eq_true (by omega : 1 ≤ d), decide_eq_true (by omega : d ≤ 400), decide_eq_true (by omega : -10000000000 ≤ n), decide_eq_true (by omega : n ≤ 10000000000), hG, hq]; rfl
  have y0 : (G == 1) = q := by rw [← hq]; rfl
  clear hG hq
  go_enter Tryz.func141, Tryz.ntmps141
  go_wp2_with (go_at_call 150; refine (HDV.out _ _ _ (sl_new _ _ _)).mono ?_; rintro e w1 ⟨rfl, nd, rfl⟩)
  go_ret
  exact ⟨ret_bool HV.out.symm, below_drewN (HBV.out.alloc HBV.out.size _) nd⟩
end Go.Proofs.YtfnomiingelfaaaGreat
/- Makes of the program: a contract. -/
namespace Go.Proofs.YtfnomiingelfaaaGreat
open Go.RowKit

def makesB (m : List (List Int)) (ps : List (Int × Int)) (y : List Int) : Bool :=
  decide (readE m y = 0) && decide (ps.length = colsM m) && (ps.all fun p => validR p.1 p.2) && (List.range m.length).all fun i => upB (rowL m i) ps (gt y i)
theorem validR_bd {n d : Int} (h : validR n d = true) : I64' d ∧ -10000000000 ≤ n ∧ n ≤ 10000000000 ∧ 1 ≤ d ∧ d ≤ 400 := by
  unfold validR at h
  simp only [Bool.and_eq_true, decide_eq_true_eq] at h
  unfold I64'; omega
set_option maxRecDepth 1000000 in
set_option maxHeartbeats 3200000 in
theorem lmakes_any (ma : Option Addr) (m : List (List Int)) (mc : Nat) (xa : Option Addr) (ps : List (Int × Int)) (xc : Nat) (ya : Option Addr) (y : List Int) (yc : Nat) (w : World) (hm : MOk m) (hly : y.length ≤ 9223372036854775807) (hlx : ps.length ≤ 9223372036854775807) (hs : Ms w ma m) (hx : Rr w xa ps) (hy : Sl w ya y) :
    Calls Tryz.prog 112 #[.slice ma m.length mc, .slice xa ps.length xc, .slice ya y.length yc] w fun e w' => e = .returned (.bool (makesB m ps y)) ∧ Below w.heap.size w w' := by
  have HS := Lib.hid hs
  have HX := Lib.hid hx
  have HY := Lib.hid hy
  obtain ⟨rv, hrv⟩ : ∃ rv, decide (readE m y = 0) = rv := ⟨_, rfl⟩
  have HRD : Hid (Calls Tryz.prog 140 #[.slice ma m.length mc, .slice ya y.length yc] w fun e w' => e = .returned (.bool rv) ∧ Below w.heap.size w w') := by rw [← hrv]; exact lreading_any ma m mc ya y yc w hm hly hs hy
  have HD0 : Hid (makesB m ps y = (rv && decide (ps.length = colsM m) && (ps.all fun p => validR p.1 p.2) && (List.range m.length).all fun i => upB (rowL m i) ps (gt y i))) := by show _ = _; unfold makesB; rw [hrv]
  cases rv with
  | false =>
    have HD : Hid (makesB m ps y = false) := by show _ = _; rw [HD0.out]; rfl
    clear hs hx hy hm hrv HD0
    go_enter Tryz.func112, Tryz.ntmps112
    go_wp2_with (go_at_call 140; refine HRD.out.mono ?_; rintro e w1 ⟨rfl, hb1⟩; have HB1 := Lib.hid hb1; clear hb1)
    go_ret
    exact ⟨ret_bool HD.out.symm, HB1.out⟩
  | true =>
    obtain ⟨hv, hyl, hyb⟩ := readE_ok (of_decide_eq_true hrv)
    obtain ⟨hm1, hm6, hc1, hc10, hrows⟩ := validM_of hv
    obtain ⟨bm, om, ai, ci, rfl, hcell, _⟩ := hs 0 hm1
    obtain ⟨c, hc⟩ : ∃ c, colsM m = c := ⟨_, rfl⟩
    have hl0 : (m[0]?.getD []).length = c := by rw [← hc]; rfl
    rw [hl0, Nat.add_zero] at hcell
    have HM0 : Hid (∀ W, Below w.heap.size w W → W.cell? ⟨bm, om, none⟩ = some (.slice ai c ci)) := fun W hW => (hW.cell (p := ⟨bm, om, none⟩) (cell_lt hcell)).trans hcell
    rw [hc] at hc10 hc1 HD0 hrows
    have HROW : Hid (∀ i, i < m.length → (rowL m i).length = c ∧ ∀ k, k < (rowL m i).length → -1 ≤ gt (rowL m i) k ∧ gt (rowL m i) k ≤ 1) := fun i hi => by
      have h := hrows _ (rowL_mem hi)
      exact ⟨h.1, fun k hk => gt_in h.2 hk⟩
    have HYB : Hid (∀ i, i < m.length → I64' (gt y i)) := fun i hi => by
      have := gt_in hyb (k := i) (by omega)
      unfold I64'; omega
    have HMN := Lib.hid (show m.length = y.length from hyl.symm)
    obtain ⟨n, hn⟩ : ∃ n, m.length = n := ⟨_, rfl⟩
    have HNL := Lib.hid hn
    obtain ⟨L, hL⟩ : ∃ L, ps.length = L := ⟨_, rfl⟩
    have HLL := Lib.hid hL
    rw [hn] at HRD hm1 hm6 HD0 HROW HYB HMN ⊢
    rw [hL] at HD0 hlx ⊢
    have hn0 : (0 : Int) < (n : Int) := by omega
    have h100 : n ≤ 100 := by omega
    by_cases hlc : L = c
    case neg =>
      have HD : Hid (makesB m ps y = false) := by show _ = _; rw [HD0.out, decide_eq_false hlc]; rfl
      have q1 : ¬ ((L : Int) = (c : Int)) := by omega
      have q2 : ((L : Int) != (c : Int)) = true := by simpa using q1
      clear hs hx hy hm hrv HD0 hv hyl hyb hrows hcell hl0 hc hlc hn hL
      go_enter Tryz.func112, Tryz.ntmps112
      go_wp2_with (go_at_call 140; refine HRD.out.mono ?_; rintro e w1 ⟨rfl, hb1⟩; have HB1 := Lib.hid hb1; have k0 := HM0.out w1 hb1; clear hb1)
      go_ret
      exact ⟨ret_bool HD.out.symm, HB1.out⟩
    case pos =>
      subst hlc
      clear hs hx hy hm hrv hv hyl hyb hrows hcell hl0 hc hn hL
      go_enter Tryz.func112, Tryz.ntmps112
      go_wp2_with (go_at_call 140; refine HRD.out.mono ?_; rintro e w1 ⟨rfl, hb1⟩; have HB1 := Lib.hid hb1; have k0 := HM0.out w1 hb1; clear hb1)
      clear k0
      go_loopw [26] (fun i wr => ∃ k : Nat, k ≤ L ∧ i = .int .i64 k ∧ (∀ t p, t < k → ps[t]? = some p → validR p.1 p.2 = true) ∧ Below w.heap.size w wr) (fun i _ => L - (intOf i).toNat)
      case atStart => exact ⟨0, Nat.zero_le _, rfl, fun t p h => by omega, HB1.out⟩
      case round =>
        obtain ⟨k, hk, rfl, hok, hb⟩ := hrel
        have HOK := Lib.hid hok; clear hok
        have HB := Lib.hid hb; clear hb
        by_cases hlt : k < L
        · obtain ⟨⟨p1, p2⟩, hp⟩ : ∃ p, ps[k]? = some p := ⟨ps[k]'(by rw [HLL.out]; exact hlt), by simp [HLL.out, hlt]⟩
          have HPK := Lib.hid hp
          obtain ⟨xb, xo, rfl, x0, x1⟩ := (HX.out.below HB.out) k _ hp
          dsimp only at x0 x1
          obtain ⟨vb, hvb⟩ : ∃ vb, validR p1 p2 = vb := ⟨_, rfl⟩
          have HVR : Hid (∀ W, Calls Tryz.prog 141 #[.agg #[.int .i64 p1, .int .i64 p2]] W fun e w' => e = .returned (.bool vb) ∧ Below W.heap.size W w') := fun W => by rw [← hvb]; exact validR_any p1 p2 W
          have HVB := Lib.hid hvb
          have hk0 : (k : Int) < (L : Int) := by omega
          clear hp hvb
          cases vb with
          | false =>
            have HD : Hid (makesB m ps y = false) := by
              show _ = _
              rw [HD0.out]
              have e : (ps.all fun p => validR p.1 p.2) = false := by
                rw [List.all_eq_false]
                exact ⟨(p1, p2), List.mem_of_getElem? HPK.out, by rw [HVB.out]; decide⟩
              rw [e, Bool.and_false]; rfl
            go_wp2_with (go_at_call 141; refine (HVR.out _).mono ?_; rintro e w2 ⟨rfl, hb2⟩)
            go_ret
            exact ⟨ret_bool HD.out.symm, (HB.out.alloc HB.out.size _).trans (hb2.mono (by rw [World.size_alloc]; have := HB.out.size; omega))⟩
          | true =>
            go_wp2_with (go_at_call 141; refine (HVR.out _).mono ?_; rintro e w2 ⟨rfl, hb2⟩)
            go_roundw
            case rel => exact ⟨k + 1, by omega, by go_num, fun t p ht hp => by
              by_cases e : t = k
              · subst e
                rw [HPK.out] at hp
                obtain rfl := Option.some.inj hp
                exact HVB.out
              · exact HOK.out t p (by omega) hp, (HB.out.alloc HB.out.size _).trans (hb2.mono (by rw [World.size_alloc]; have := HB.out.size; omega))⟩
            case measure => simp [intOf]; omega
        · obtain rfl : k = L := by omega
          have HALL : Hid ((ps.all fun p => validR p.1 p.2) = true) := by
            show _ = _
            rw [List.all_eq_true]
            intro p hp
            obtain ⟨t, ht, rfl⟩ := List.mem_iff_getElem.1 hp
            exact HOK.out t _ (by rw [HLL.out] at ht; exact ht) (by simp [ht])
          have HBD : Hid (∀ (t : Nat) (p : Int × Int), ps[t]? = some p → I64' p.2 ∧ -10000000000 ≤ p.1 ∧ p.1 ≤ 10000000000) := fun t p hp => by
            have h := HALL.out
            rw [List.all_eq_true] at h
            have := validR_bd (h p (List.mem_of_getElem? hp))
            exact ⟨this.1, this.2.1, this.2.2.1⟩
          have HB0 := HB
          go_wp2
          go_loopw [36] (fun i wr => ∃ j : Nat, j ≤ n ∧ i = .int .i64 j ∧ (∀ t, t < j → upB (rowL m t) ps (gt y t) = true) ∧ Below w.heap.size w wr) (fun i _ => n - (intOf i).toNat)
          case atStart => exact ⟨0, Nat.zero_le _, rfl, fun t h => by omega, HB0.out⟩
          case round =>
            clear HB0 HB
            obtain ⟨j, hj, rfl, hok, hb⟩ := hrel
            have HOJ := Lib.hid hok; clear hok
            have HB := Lib.hid hb; clear hb
            by_cases hlt : j < n
            · obtain ⟨rb, ro, ri, rci, hrb, hcr0, hsr0⟩ := (HS.out.below HB.out) j (by rw [HNL.out]; exact hlt)
              cases hrb
              obtain ⟨h1, h2⟩ := HROW.out j hlt
              have hcr : wr.cell? ⟨bm, om + j, none⟩ = some (.slice ri k rci) := by rw [← h1]; exact hcr0
              have HSR : Hid (Sl wr ri (rowL m j)) := hsr0
              obtain ⟨yb, yo, u, rfl, hcu, hu⟩ := (HY.out.below HB.out).at (k := j) (by rw [← HMN.out]; exact hlt)
              have hgu := gt_some' hu.out
              have hy64 := HYB.out j hlt
              rw [hgu] at hy64
              obtain ⟨ub, hub⟩ : ∃ ub, upB (rowL m j) ps u = ub := ⟨_, rfl⟩
              have HAU : Hid (∀ W, Below wr.heap.size wr W → Calls Tryz.prog 142 #[.slice ri k rci, .slice xa k xc, .int .i64 u] W fun e w' => e = .returned (.bool ub) ∧ Below W.heap.size W w') := fun W hb => by
                have h := addUp_any ri (rowL m j) rci xa ps xc u W (by rw [h1]; exact HLL.out) (by rw [h1]; omega) (HSR.out.below hb) (HX.out.below (HB.out.trans (hb.mono HB.out.size))) h2 HBD.out hy64
                rw [h1, HLL.out, hub] at h
                exact h
              have HUBE : Hid (upB (rowL m j) ps (gt y j) = ub) := by show _ = _; rw [hgu]; exact hub
              have hj0 : (j : Int) < (n : Int) := by omega
              have hj1 : (j : Int) < (y.length : Int) := by rw [← HMN.out]; exact hj0
              clear hcr0 hsr0 hu hgu hub hy64 h1 h2
              cases ub with
              | false =>
                have HD : Hid (makesB m ps y = false) := by
                  show _ = _
                  rw [HD0.out, Bool.and_eq_false_iff]
                  right
                  rw [List.all_eq_false]
                  exact ⟨j, List.mem_range.2 hlt, by rw [HUBE.out]; decide⟩
                go_wp2_with (go_at_call 142; refine (HAU.out _ (Below.refl _ _)).mono ?_; rintro e w2 ⟨rfl, hb2⟩)
                go_ret
                exact ⟨ret_bool HD.out.symm, HB.out.trans (hb2.mono HB.out.size)⟩
              | true =>
                go_wp2_with (go_at_call 142; refine (HAU.out _ (Below.refl _ _)).mono ?_; rintro e w2 ⟨rfl, hb2⟩)
                go_roundw
                case rel => exact ⟨j + 1, by omega, by go_num, fun t ht => by
                  by_cases e : t = j
                  · rw [e]; exact HUBE.out
                  · exact HOJ.out t (by omega), HB.out.trans (hb2.mono HB.out.size)⟩
                case measure => simp [intOf]; omega
            · obtain rfl : j = n := by omega
              have HD : Hid (makesB m ps y = true) := by
                show _ = _
                rw [HD0.out, HALL.out]
                have e : ((List.range j).all fun i => upB (rowL m i) ps (gt y i)) = true := by
                  rw [List.all_eq_true]
                  intro t ht
                  exact HOJ.out t (List.mem_range.1 ht)
                rw [e]; simp
              go_wp2
              go_ret
              exact ⟨ret_bool HD.out.symm, HB.out⟩
end Go.Proofs.YtfnomiingelfaaaGreat
/- valid and validFraction of layer 4: contracts. -/
namespace Go.Proofs.YtfnomiingelfaaaGreat
open Go.RowKit Go.Shelf

theorem makes_one (n d : Int) : makesB [[0]] [(n, d)] [0] = validR n d := by
  have h1 : readE [[0]] [0] = 0 := by decide
  have h2 : colsM [[0]] = 1 := by decide
  have h3 : upB [0] [(n, d)] 0 = true := by
    unfold upB upN wideEq
    simp [upN, gt]
  unfold makesB
  rw [h1, h2]
  have h4 : gt [(0 : Int)] 0 = 0 := rfl
  have h5 : rowL [[(0 : Int)]] 0 = [0] := rfl
  simp [h3, h4, h5, List.range_succ]
theorem mok_one : MOk [[0]] := mok_of (by decide)
set_option maxRecDepth 100000 in
set_option maxHeartbeats 800000 in
theorem svalidR_any (n d : Int) (w : World) : Calls Tryz.prog 79 #[.agg #[.int .i64 n, .int .i64 d]] w fun e w' => e = .returned (.bool (validR n d)) ∧ Below w.heap.size w w' := by
  obtain ⟨V1, hV1⟩ : ∃ V1, w.alloc (.cells #[.int .i64 n, .int .i64 d] 52) = V1 := ⟨_, rfl⟩
  obtain ⟨V2, hV2⟩ : ∃ V2, V1.alloc (.cells #[.int .i64 0] 3) = V2 := ⟨_, rfl⟩
  obtain ⟨V3, hV3⟩ : ∃ V3, V2.alloc (.cells #[.slice (some ⟨V1.heap.size, 0, none⟩) 1 1] 24) = V3 := ⟨_, rfl⟩
  obtain ⟨V4, hV4⟩ : ∃ V4, V3.alloc (.cells #[.int .i64 n, .int .i64 d] 52) = V4 := ⟨_, rfl⟩
  obtain ⟨V5, hV5⟩ : ∃ V5, V4.alloc (.cells #[.int .i64 0] 3) = V5 := ⟨_, rfl⟩
  have b1 : Below w.heap.size w V1 := by rw [← hV1]; exact (Below.refl _ _).alloc (Nat.le_refl _) _
  have b2 : Below V1.heap.size V1 V2 := by rw [← hV2]; exact (Below.refl _ _).alloc (Nat.le_refl _) _
  have b3 : Below V2.heap.size V2 V3 := by rw [← hV3]; exact (Below.refl _ _).alloc (Nat.le_refl _) _
  have b4 : Below V3.heap.size V3 V4 := by rw [← hV4]; exact (Below.refl _ _).alloc (Nat.le_refl _) _
  have b5 : Below V4.heap.size V4 V5 := by rw [← hV5]; exact (Below.refl _ _).alloc (Nat.le_refl _) _
  have b35 : Below V3.heap.size V3 V5 := b4.trans (b5.mono b4.size)
  have b25 : Below V2.heap.size V2 V5 := b3.trans (b35.mono b3.size)
  have b15 : Below V1.heap.size V1 V5 := b2.trans (b25.mono b2.size)
  have HB5 : Hid (Below w.heap.size w V5) := b1.trans (b15.mono b1.size)
  have s2 : Sl V2 (some ⟨V1.heap.size, 0, none⟩) [0] := by rw [← hV2]; exact sl_new V1 [0] _
  have hms : Ms V5 (some ⟨V2.heap.size, 0, none⟩) [[0]] := by
    intro i hi
    match i, hi with
    | 0, _ => exact ⟨_, 0, _, 1, rfl, (b35.cell (p := ⟨V2.heap.size, 0, none⟩) (by rw [← hV3, World.size_alloc]; show V2.heap.size < _; omega)).trans (by rw [← hV3]; exact alloc_cell _ _ _ _ _ rfl), s2.below b25⟩
  have hrr : Rr V5 (some ⟨V3.heap.size, 0, none⟩) [(n, d)] := by
    have h : Rl V4 (some ⟨V3.heap.size, 0, none⟩) [(n, d)] := by rw [← hV4]; exact rl_new1 V3 n d _
    intro j p hj
    obtain ⟨b, e, q1, q2⟩ := (h.below b5) j p hj
    exact ⟨b, 0, e, by rw [Nat.zero_add]; exact q1, by rw [Nat.zero_add]; exact q2⟩
  have hsl : Sl V5 (some ⟨V4.heap.size, 0, none⟩) [0] := by rw [← hV5]; exact sl_new V4 [0] _
  have HMA : Hid (Calls Tryz.prog 112 #[.slice (some ⟨V2.heap.size, 0, none⟩) 1 1, .slice (some ⟨V3.heap.size, 0, none⟩) 1 1, .slice (some ⟨V4.heap.size, 0, none⟩) 1 1] V5 fun e w' => e = .returned (.bool (validR n d)) ∧ Below V5.heap.size V5 w') := by
    have h := lmakes_any (some ⟨V2.heap.size, 0, none⟩) [[0]] 1 (some ⟨V3.heap.size, 0, none⟩) [(n, d)] 1 (some ⟨V4.heap.size, 0, none⟩) [0] 1 V5 mok_one (by decide) (by simp) hms hrr hsl
    rw [makes_one] at h
    exact h
  obtain ⟨t0, t1, _, _⟩ := box2 hV1 V1 (Below.refl _ _)
  have b13 : Below V1.heap.size V1 V3 := b2.trans (b3.mono b2.size)
  obtain ⟨u0, u1, _, _⟩ := box2 hV1 V3 b13
  clear b1 b2 b3 b4 b5 b35 b25 b15 s2 hms hrr hsl b13
  go_enter Tryz.func79, Tryz.ntmps79
  go_wp2_with (go_at_call 112; refine HMA.out.mono ?_; rintro e w6 ⟨rfl, hb6⟩; have HB6 : Hid (Below w.heap.size w w6) := HB5.out.trans (hb6.mono HB5.out.size); clear hb6)
  go_ret
  exact ⟨rfl, HB6.out⟩
def fitB (px : List Int) (vs : List (Int × Int)) : Bool := decide (px.length = vs.length) && vs.all (fun p => validR p.1 p.2 && p.1 != 0) && rascB px
theorem fitB_len {px : List Int} {vs : List (Int × Int)} (h : px.length ≠ vs.length) : fitB px vs = false := by unfold fitB; simp [h]
theorem fitB_bad {px : List Int} {vs : List (Int × Int)} {k : Nat} {p : Int × Int} (hp : vs[k]? = some p) (h : (validR p.1 p.2 && p.1 != 0) = false) : fitB px vs = false := by
  have : vs.all (fun p => validR p.1 p.2 && p.1 != 0) = false := List.all_eq_false.2 ⟨p, List.mem_of_getElem? hp, by rw [h]; decide⟩
  unfold fitB; rw [this]; simp
theorem fitB_asc {px : List Int} {vs : List (Int × Int)} (h : rascB px = false) : fitB px vs = false := by unfold fitB; rw [h]; simp
theorem fitB_yes {px : List Int} {vs : List (Int × Int)} (hl : px.length = vs.length) (h : ∀ (k : Nat) (p : Int × Int), vs[k]? = some p → (validR p.1 p.2 && p.1 != 0) = true) (ha : rascB px = true) : fitB px vs = true := by
  have h2 : vs.all (fun p => validR p.1 p.2 && p.1 != 0) = true := List.all_eq_true.2 fun p hp => by
    obtain ⟨k, hk, rfl⟩ := List.mem_iff_getElem.1 hp
    exact h k _ (List.getElem?_eq_getElem hk)
  unfold fitB; rw [h2, ha]; simp [hl]
set_option maxRecDepth 1000000 in
set_option maxHeartbeats 3200000 in
theorem svalid_any (pa : Option Addr) (px : List Int) (pc : Nat) (va : Option Addr) (vs : List (Int × Int)) (vc : Nat) (w : World) (hlp : px.length ≤ 1000) (hlv : vs.length ≤ 1000) (hp : Sl w pa px) (hv : Rr w va vs) :
    Calls Tryz.prog 46 #[.agg #[.slice pa px.length pc, .slice va vs.length vc]] w fun e w' => e = .returned (.bool (fitB px vs)) ∧ Below w.heap.size w w' := by
  obtain ⟨V, hV⟩ : ∃ V, w.alloc (.cells #[.slice pa px.length pc, .slice va vs.length vc] 27) = V := ⟨_, rfl⟩
  have hbv : Below w.heap.size w V := by rw [← hV]; exact (Below.refl _ _).alloc (Nat.le_refl _) _
  have HBV := Lib.hid hbv
  have HVW := Lib.hid (box2 hV)
  obtain ⟨t0, t1, t2, t3⟩ := HVW.out V (Below.refl _ _)
  have HP : Hid (Sl V pa px) := hp.below hbv
  have HV : Hid (Rr V va vs) := hv.below hbv
  obtain ⟨r, hr⟩ : ∃ r, fitB px vs = r := ⟨_, rfl⟩
  have HR := Lib.hid hr
  rw [hr]
  obtain ⟨pn, hpn⟩ : ∃ pn, px.length = pn := ⟨_, rfl⟩
  obtain ⟨vn, hvn⟩ : ∃ vn, vs.length = vn := ⟨_, rfl⟩
  have HPN := Lib.hid hpn
  have HVN := Lib.hid hvn
  rw [hpn] at HVW t0 hV hlp ⊢
  rw [hvn] at HVW t1 hV hlv ⊢
  clear hp hv hbv hr hpn hvn
  by_cases hne : pn = vn
  case neg =>
    have hF : Hid (r = false) := by show _ = _; rw [← HR.out]; exact fitB_len (by rw [HPN.out, HVN.out]; exact hne)
    have hb : ((pn : Int) == (vn : Int)) = false := by simp; omega
    have hb' : ((pn : Int) != (vn : Int)) = true := by simp; omega
    clear hne
    go_enter Tryz.func46, Tryz.ntmps46
    go_wp2
    go_ret
    exact ⟨ret_bool hF.out.symm, HBV.out⟩
  case pos =>
    have HNE := Lib.hid hne
    have hb : ((pn : Int) == (vn : Int)) = true := by simp; omega
    have hb' : ((pn : Int) != (vn : Int)) = false := by simp; omega
    clear hne
    go_enter Tryz.func46, Tryz.ntmps46
    go_wp2
    clear hb hb'
    go_loopw [15] (fun i wr => ∃ k : Nat, k ≤ vn ∧ i = .int .i64 k ∧ Below V.heap.size V wr ∧ (∀ j p, j < k → vs[j]? = some p → (validR p.1 p.2 && p.1 != 0) = true) ∧ ∀ j, j < k → j ≠ 0 → gt px (j - 1) < gt px j) (fun i _ => vn - (intOf i).toNat)
    case atStart => exact ⟨0, Nat.zero_le _, rfl, Below.refl _ _, fun j p h => by omega, fun j h => by omega⟩
    case round =>
      obtain ⟨k, hk, rfl, hB, hok, hasc⟩ := hrel
      have HB := Lib.hid hB; clear hB
      have HOK := Lib.hid hok; clear hok
      have HASC := Lib.hid hasc; clear hasc
      by_cases hlt : k < vn
      · obtain ⟨p, hq⟩ : ∃ p, vs[k]? = some p := ⟨vs[k]'(by rw [HVN.out]; exact hlt), by simp [HVN.out, hlt]⟩
        have HQ := Lib.hid hq
        obtain ⟨b1, o1, rfl, a1, a2⟩ := (HV.out.below HB.out) k p hq
        obtain ⟨p1, p2⟩ := p
        dsimp only at a1 a2
        obtain ⟨wb, hwb⟩ : ∃ wb, wr.alloc (.cells #[.int .i64 p1, .int .i64 p2] 52) = wb := ⟨_, rfl⟩
        have hbb : Below wr.heap.size wr wb := by rw [← hwb]; exact (Below.refl _ _).alloc (Nat.le_refl _) _
        obtain ⟨x0, x1, _, _⟩ := box2 hwb wb (Below.refl _ _)
        have HWB : Hid (Below V.heap.size V wb) := HB.out.trans (hbb.mono HB.out.size)
        have HXB := Lib.hid (box2 hwb)
        obtain ⟨z, hz⟩ : ∃ z, (p1 == 0) = z := ⟨_, rfl⟩
        have HZE : Hid (∀ W, Calls Tryz.prog 30 #[.agg #[.int .i64 p1, .int .i64 p2]] W fun e w' => e = .returned (.bool z) ∧ Below W.heap.size W w') := fun W => by rw [← hz]; exact zero_any p1 p2 W
        obtain ⟨q, hqv⟩ : ∃ q, validR p1 p2 = q := ⟨_, rfl⟩
        have HVF : Hid (∀ W, Calls Tryz.prog 79 #[.agg #[.int .i64 p1, .int .i64 p2]] W fun e w' => e = .returned (.bool q) ∧ Below W.heap.size W w') := fun W => by rw [← hqv]; exact svalidR_any p1 p2 W
        have HBAD : Hid ((q && !z) = false → r = false) := fun h => by rw [← HR.out]; exact fitB_bad HQ.out (by rw [← h, ← hz, ← hqv]; rfl)
        have HGOOD : Hid ((q && !z) = true → (validR (p1, p2).1 (p1, p2).2 && (p1, p2).1 != 0) = true) := fun h => by rw [← h, ← hz, ← hqv]; rfl
        have hk0 : (k : Int) < (vn : Int) := by omega
        clear hq hz hqv hbb
        obtain ⟨u0, u1, _, _⟩ := HVW.out wb HWB.out
        have r0 := cell_regrown x0
        have r1 := cell_regrown x1
        have r2 := cell_regrown u0
        have cZ : ∀ d os, Calls Tryz.prog 30 #[.agg #[.int .i64 p1, .int .i64 p2]] (Sort.grow (redrawn wb d) os) fun e w'' => e = .returned (.bool z) ∧ ∃ p : Regrown, w'' = Sort.grow (redrawn wb p.d) p.os := fun d os => Calls.regrown_of (HZE.out _)
        have cV : ∀ d os, Calls Tryz.prog 79 #[.agg #[.int .i64 p1, .int .i64 p2]] (Sort.grow (redrawn wb d) os) fun e w'' => e = .returned (.bool q) ∧ ∃ p : Regrown, w'' = Sort.grow (redrawn wb p.d) p.os := fun d os => Calls.regrown_of (HVF.out _)
        clear x0 x1 u0 u1
        cases z with
        | true =>
          have hF : Hid (r = false) := HBAD.out (by simp)
          go_wp2
          refine wp_region_quiet_below (by kernel_rfl) (by kernel_rfl) ?_
          repeat (go_big_quiet_step (first | with_reducible exact cZ _ _ | with_reducible exact cV _ _))
          refine wpQuiet_nil ?_
          intro w6 hw6
          have HB6 : Hid (Below wb.heap.size wb w6) := by
            obtain ⟨⟨d6, o6⟩, rfl⟩ := hw6
            exact below_regrown _ _ _
          clear hw6
          go_wp2
          go_ret
          exact ⟨ret_bool hF.out.symm, HBV.out.trans ((HWB.out.trans (HB6.out.mono HWB.out.size)).mono HBV.out.size)⟩
        | false =>
          cases q with
          | false =>
            have hF : Hid (r = false) := HBAD.out (by simp)
            go_wp2
            refine wp_region_quiet_below (by kernel_rfl) (by kernel_rfl) ?_
            repeat (go_big_quiet_step (first | with_reducible exact cZ _ _ | with_reducible exact cV _ _))
            refine wpQuiet_nil ?_
            intro w6 hw6
            have HB6 : Hid (Below wb.heap.size wb w6) := by
              obtain ⟨⟨d6, o6⟩, rfl⟩ := hw6
              exact below_regrown _ _ _
            clear hw6
            go_wp2
            go_ret
            exact ⟨ret_bool hF.out.symm, HBV.out.trans ((HWB.out.trans (HB6.out.mono HWB.out.size)).mono HBV.out.size)⟩
          | true =>
            have HG2 : Hid (∀ j p, j < k + 1 → vs[j]? = some p → (validR p.1 p.2 && p.1 != 0) = true) := fun j p hj hp => by
              by_cases e : j = k
              · subst e
                rw [HQ.out] at hp
                obtain rfl := Option.some.inj hp
                exact HGOOD.out rfl
              · exact HOK.out j p (by omega) hp
            by_cases hk00 : k = 0
            · have hkz : ¬ (0 : Int) < (k : Int) := by omega
              have y9 : decide (0 < k) = false := by simp; omega
              have HKZ := Lib.hid hk00
              clear hk00
              go_wp2
              refine wp_region_quiet_below (by kernel_rfl) (by kernel_rfl) ?_
              repeat (go_big_quiet_step (first | with_reducible exact cZ _ _ | with_reducible exact cV _ _))
              refine wpQuiet_nil ?_
              intro w6 hw6
              have HB6 : Hid (Below wb.heap.size wb w6) := by
                obtain ⟨⟨d6, o6⟩, rfl⟩ := hw6
                exact below_regrown _ _ _
              clear hw6
              go_wp2
              go_roundw
              case rel => exact ⟨k + 1, by omega, by go_num, HWB.out.trans (HB6.out.mono HWB.out.size), HG2.out, fun j hj h0 => by have := HKZ.out; omega⟩
              case measure => simp [intOf]; omega
            · obtain ⟨q3, rfl⟩ : ∃ q3, k = q3 + 1 := ⟨k - 1, by omega⟩
              obtain ⟨pb, po, x, rfl, hcx, hx⟩ := HP.out.at (k := q3 + 1) (by rw [HPN.out, HNE.out]; exact hlt)
              obtain ⟨pb2, po2, y, e2, hcy, hy⟩ := HP.out.at (k := q3) (by rw [HPN.out, HNE.out]; omega)
              cases e2
              have HGX := Lib.hid (gt_some' hx.out)
              have HGY := Lib.hid (gt_some' hy.out)
              obtain ⟨K, hK⟩ : ∃ K, q3 + 1 = K := ⟨_, rfl⟩
              have hK1 : (K : Int) - 1 = (q3 : Int) := by omega
              have hK2 : (0 : Int) < (K : Int) := by omega
              have hK3 : (K : Int) < (pn : Int) := by rw [HNE.out]; omega
              have hq3 : (q3 : Int) < (pn : Int) := by omega
              have HXK : Hid (gt px K = x) := by show _ = _; rw [← hK]; exact HGX.out
              have HKM : Hid (K - 1 = q3) := by show _ = _; omega
              have HK0 : Hid (K ≠ 0) := by show _ ≠ _; omega
              have hK4 : 0 < K := by omega
              have m1 : IntKind.i64.wrap ((K : Int) - 1) = (q3 : Int) := by rw [hK1]; exact IntWalk.i64_in _ (by omega)
              have y9 : decide (0 < K) = true := by simp; omega
              rw [hK] at hcx hlt hk0 HG2 HASC HQ a1 a2 ⊢
              have HLT := Lib.hid hlt
              have r3 := cell_regrown ((HWB.out.cell (p := ⟨pb, po + K, none⟩) (cell_lt hcx)).trans hcx)
              have r4 := cell_regrown ((HWB.out.cell (p := ⟨pb, po + q3, none⟩) (cell_lt hcy)).trans hcy)
              clear hx hy hk00 HOK hK hcx hcy hk
              by_cases hle : x ≤ y
              · have z0 : decide (x ≤ y) = true := by simp [hle]
                have hF : Hid (r = false) := by
                  show _ = _
                  rw [← HR.out]
                  exact fitB_asc (rascB_no (k := K) (by rw [HPN.out, HNE.out]; exact HLT.out) HK0.out (by rw [HXK.out, HKM.out, HGY.out]; omega))
                go_wp2
                refine wp_region_quiet_below (by kernel_rfl) (by kernel_rfl) ?_
                repeat (go_big_quiet_step (first | with_reducible exact cZ _ _ | with_reducible exact cV _ _))
                refine wpQuiet_nil ?_
                intro w6 hw6
                have HB6 : Hid (Below wb.heap.size wb w6) := by
                  obtain ⟨⟨d6, o6⟩, rfl⟩ := hw6
                  exact below_regrown _ _ _
                clear hw6
                go_wp2
                go_ret
                exact ⟨ret_bool hF.out.symm, HBV.out.trans ((HWB.out.trans (HB6.out.mono HWB.out.size)).mono HBV.out.size)⟩
              · have z0 : decide (x ≤ y) = false := by simp; omega
                have HAS2 : Hid (∀ j, j < K + 1 → j ≠ 0 → gt px (j - 1) < gt px j) := fun j hj h0 => by
                  by_cases e : j = K
                  · subst e
                    rw [HXK.out, HKM.out, HGY.out]; omega
                  · exact HASC.out j (by omega) h0
                go_wp2
                refine wp_region_quiet_below (by kernel_rfl) (by kernel_rfl) ?_
                repeat (go_big_quiet_step (first | with_reducible exact cZ _ _ | with_reducible exact cV _ _))
                refine wpQuiet_nil ?_
                intro w6 hw6
                have HB6 : Hid (Below wb.heap.size wb w6) := by
                  obtain ⟨⟨d6, o6⟩, rfl⟩ := hw6
                  exact below_regrown _ _ _
                clear hw6
                go_wp2
                go_roundw
                case rel => exact ⟨K + 1, by have := HLT.out; omega, by go_num, HWB.out.trans (HB6.out.mono HWB.out.size), HG2.out, HAS2.out⟩
                case measure => simp [intOf]; omega
      · obtain rfl : k = vn := by omega
        have hT : Hid (r = true) := by
          show _ = _
          rw [← HR.out]
          refine fitB_yes (by rw [HPN.out, HVN.out, HNE.out]) (fun j p h => HOK.out j p (by rw [← HVN.out]; exact (List.getElem?_eq_some_iff.1 h).1) h) (rascB_yes fun j h h0 => HASC.out j (by rw [← HNE.out, ← HPN.out]; exact h) h0)
        go_wp2
        go_ret
        exact ⟨ret_bool hT.out.symm, HBV.out.trans (HB.out.mono HBV.out.size)⟩
end Go.Proofs.YtfnomiingelfaaaGreat
/- slices.Repeat of one fraction: copy of elements of two cells, and the contract. -/
namespace Go.Proofs.YtfnomiingelfaaaGreat
open Go.RowKit Go.Shelf

theorem run_copy_row2 {P : Program} (w : World) (dT sT ty elem : TypeId) (g o dLen dCap : Nat) (a : Addr) (sLen sCap : Nat) (cur : Array Value) (t : TypeId) (cs : List Value) (k : Nat)
    (hu : P.underlying dT = some (.slice elem)) (hs : (P.info? elem).map (·.size) = some 2)
    (hg : w.heap[g]? = some (.cells cur t (0, 0))) (hk : k = Nat.min sLen dLen) (hn : cs.length = k * 2)
    (hsrc : ∀ j v, cs[j]? = some v → w.cell? (a.add j) = some v) (hfit : o + cs.length ≤ cur.size) (h1 : ∀ v ∈ cs, v.oneCell' = true) :
    (Builtin.copy_ #[dT, sT] ty #[.slice (some ⟨g, o, none⟩) dLen dCap, .slice (some a) sLen sCap]).run P w =
      .ok (goInt k) (w.setRow g (cur.toList.take o ++ cs ++ cur.toList.drop (o + cs.length)).toArray) := by
  have hl := run_loadCells_list (P := P) w a cs hsrc
  have hst := run_storeCells_at P g o t cs 0 cur w hg (by simpa using hfit) h1
  cases hq : P.info? elem with
  | none => simp [hq] at hs
  | some i =>
    have hi : i.size = 2 := by simpa [hq] using hs
    simp [Builtin.copy_, run_underlying hu, Builtin.lenOf, Builtin.firstCells, sizeOf, typeInfo, hq, hi, ← hk, ← hn, hl, hst]
theorem wpList_copy2 {P : Program} {w : World} {ops : Array Oper} {rest : List Oper} {o : Oper} {a : Act} {Q : Exit → Act → World → Prop} (hgd : o.guard = none) (d s : Operand) (dT sT : TypeId)
    (ho : o.op = .call { callee := .builtin .copy, args := #[d, s], argTypes := #[dT, sT] }) (elem : TypeId) (hu : P.underlying dT = some (.slice elem)) (hsz : (P.info? elem).map (·.size) = some 2)
    (g off dLen dCap : Nat) (ad : Addr) (sLen sCap : Nat) (hd : a.eval d = .slice (some ⟨g, off, none⟩) dLen dCap) (hs : a.eval s = .slice (some ad) sLen sCap)
    (cur : List Value) (t : TypeId) (hg : w.heap[g]? = some (.cells cur.toArray t (0, 0))) (cs : List Value) (k : Nat) (hk : k = Nat.min sLen dLen) (hn : cs.length = k * 2)
    (hsrc : ∀ j v, cs[j]? = some v → w.cell? (ad.add j) = some v) (hfit : off + cs.length ≤ cur.length) (h1 : ∀ v ∈ cs, v.oneCell' = true) (B : Nat) (w0 : World) (hb : Below B w0 w) (hBg : B ≤ g)
    (h : ∀ w', Hid (w'.heap[g]? = some (.cells (splice cur off cs).toArray t (0, 0))) → Below B w0 w' → wpList P ops Q rest (a.put o.dst (goInt k)) w') : wpList P ops Q (o :: rest) a w := by
  refine wpList_plain hgd fun K hK => ?_
  have hrun := run_copy_row2 (P := P) w dT sT o.type elem g off dLen dCap ad sLen sCap cur.toArray t cs k hu hsz hg hk hn hsrc (by simpa using hfit) h1
  unfold Oper.wp
  simp [execOp, ho, resolve, invoke, builtin, hd, hs, hrun, Result.andThen]
  exact hK _ _ (h _ (show _ = _ by simpa [splice] using setRow_heap w g _ _ t _ hg) (below_setRow hb hBg _))
theorem flatR_app : ∀ (a b : List (Int × Int)), flatR (a ++ b) = flatR a ++ flatR b
  | [], _ => rfl
  | p :: ps, b => by simp only [List.cons_append, flatR, flatR_app ps b]
theorem flatR_one : ∀ (ps : List (Int × Int)), ∀ v ∈ flatR ps, v.oneCell' = true
  | [], v, h => by cases h
  | p :: ps, v, h => by
    simp only [flatR, List.mem_cons] at h
    rcases h with rfl | rfl | h
    · rfl
    · rfl
    · exact flatR_one ps v h
theorem splice_zero {n c k : Nat} (h : c + k ≤ n) : splice (flatR (zeroTo n c)) (c * 2) (flatR (List.replicate k (0, 1))) = flatR (zeroTo n (c + k)) := by
  have e1 : zeroTo n c = List.replicate c (0, 1) ++ (List.replicate k (0, 0) ++ List.replicate (n - (c + k)) (0, 0)) := by
    unfold zeroTo
    rw [List.replicate_append_replicate]
    congr 2
    omega
  have l1 : (flatR (List.replicate c ((0 : Int), (1 : Int)))).length = c * 2 := by rw [flatR_len, List.length_replicate]
  have l2 : (flatR (List.replicate k ((0 : Int), (0 : Int)))).length = k * 2 := by rw [flatR_len, List.length_replicate]
  have l3 : (flatR (List.replicate k ((0 : Int), (1 : Int)))).length = k * 2 := by rw [flatR_len, List.length_replicate]
  rw [e1, flatR_app, flatR_app]
  unfold splice
  rw [List.take_left' l1, l3, ← List.drop_drop, List.drop_left' l1, List.drop_left' l2, ← flatR_app, ← flatR_app]
  unfold zeroTo
  rw [← List.append_assoc, List.replicate_append_replicate]
set_option maxRecDepth 1000000 in
set_option maxHeartbeats 1600000 in
theorem srepeat_any (n : Nat) (b c : Nat) (w : World) (hn : 1 ≤ n) (hn2 : n ≤ 1000) (hx : Rl w (some ⟨b, 0, none⟩) [(0, 1)]) :
    Calls Tryz.prog 47 #[.slice (some ⟨b, 0, none⟩) 1 c, .int .i64 n] w fun e w' => ∃ g, e = .returned (.slice (some ⟨g, 0, none⟩) n n) ∧ OwnR w' w.heap.size (.slice (some ⟨g, 0, none⟩) n n) (List.replicate n (0, 1)) ∧ Below w.heap.size w w' := by
  have HMU : Hid (∀ V, Calls Tryz.prog 80 #[.int .u64 1, .int .u64 (n : Int)] V fun e w' => e = .returned (.tuple #[.int .u64 0, .int .u64 (n : Int)]) ∧ w' = V) := fun V => by
    have h := Tryz.bits_Mul 1 n (by omega) (by omega) V
    rw [show 1 * n / 18446744073709551616 = 0 by omega, show 1 * n % 18446744073709551616 = n by omega] at h
    exact h
  obtain ⟨b2, e2, hc1, hc2⟩ := hx 0 (0, 1) rfl
  obtain rfl : b = b2 := by simpa using e2
  obtain ⟨i0, hi, hz0, hz1, hz2⟩ := info_parts Tryz.infoRatio
  have hx1 : w.cell? ⟨b, 0, none⟩ = some (.int .i64 0) := hc1
  have hx2 : w.cell? ⟨b, 1, none⟩ = some (.int .i64 1) := hc2
  have HX1 := Lib.hid hx1
  have HX2 := Lib.hid hx2
  have HSZ : Hid ((Tryz.prog.info? 52).map (·.size) = some 2) := by show _ = _; rw [hi]; show some i0.size = _; rw [hz1]
  have m1 : IntKind.u64.wrap (n : Int) = n := IntWalk.u64_in _ (by omega)
  have m2 : IntKind.i64.wrap (n : Int) = n := IntWalk.i64_in _ (by omega)
  have hn0 : ¬ (n : Int) < 0 := by omega
  have hn3 : ¬ (9223372036854775807 : Int) < (n : Int) := by omega
  clear hx hc1 hc2 hx1 hx2 e2
  go_enter Tryz.func47, Tryz.ntmps47
  go_wp2_with (first
    | (go_at_call 80; refine (HMU.out _).mono ?_; rintro e w1 ⟨rfl, hw1⟩; obtain rfl := hw1.symm)
    | (with_reducible refine wpList_make_full _ rfl (.tmp 29) (.tmp 29) 25 rfl w.heap.size 52 i0 (.agg #[.int .i64 0, .int .i64 0]) 2 Tryz.underlying25 hi hz0 hz1 .i64 .i64 (n : Int) (n : Int) n rfl rfl rfl rfl (by rw [hz2]; omega) (by unfold maxLen; omega) (Nat.le_refl _) ?_))
  intro w4 hown hgrow
  have hb4 : Below w.heap.size w w4 := (Below.refl _ _).grown hgrow (Nat.le_refl _) (fun k e => by cases e)
  have hO4 : OwnR w4 w.heap.size (.slice (some ⟨w.heap.size, 0, none⟩) n n) (zeroTo n 0) := by
    show World.ownsRow _ _ _ _ _ _ _
    rw [zeroTo_len (Nat.zero_le _), show zeroTo n 0 = List.replicate n (0, 0) by simp [zeroTo], ← flatR_rep]
    exact hown
  obtain ⟨G, hG⟩ : ∃ G, w.heap.size = G := ⟨_, rfl⟩
  rw [hG] at hO4 hb4 ⊢
  have hheap : w4.heap[G]? = some (.cells (flatR (zeroTo n 0)).toArray 52 (0, 0)) := by
    have hzl : (zeroTo n 0).length = n := zeroTo_len (Nat.zero_le _)
    obtain ⟨_, ⟨e, _⟩ | ⟨g9, cap9, cur, e9, _, h9, _, _, hsz, htk⟩⟩ := hO4
    · cases e
    · obtain ⟨h1, h2, h3⟩ : G = g9 ∧ n = (zeroTo n 0).length ∧ n = cap9 := by simpa using e9
      subst h1
      subst h3
      rw [hzl, List.take_of_length_le (by simp; omega)] at htk
      rw [h9, ← htk]
  have HH := Lib.hid hheap
  have HB4 := Lib.hid hb4
  have HGW := Lib.hid hG
  clear hown hgrow hb4 hO4 hG hheap
  have HB0 : Hid (Below w.heap.size w w4) := by have := HB4.out; rw [← HGW.out] at this; exact this
  have HGL : Hid (w.heap.size ≤ G) := by rw [HGW.out]; exact Nat.le_refl _
  have HK1 : Hid (∀ n, 1 ≤ n → 1 = Nat.min 1 n) := fun n h => by show 1 = min 1 n; omega
  have HN1 := Lib.hid hn
  have HN2 := Lib.hid hn2
  have HFT : Hid (0 + (flatR [((0 : Int), (1 : Int))]).length ≤ (flatR (zeroTo n 0)).length) := by
    show _ ≤ _
    rw [flatR_len, flatR_len, zeroTo_len (Nat.zero_le _)]
    show 0 + 1 * 2 ≤ n * 2
    omega
  have HSRC : Hid (∀ (j : Nat) (v : Value), (flatR [((0 : Int), (1 : Int))])[j]? = some v → w4.cell? ((⟨b, 0, none⟩ : Addr).add j) = some v) := fun j v hj => by
    have y1 := (HB0.out.cell (p := ⟨b, 0, none⟩) (cell_lt HX1.out)).trans HX1.out
    have y2 := (HB0.out.cell (p := ⟨b, 1, none⟩) (cell_lt HX2.out)).trans HX2.out
    rw [addr_add]
    match j, hj with
    | 0, hj => obtain rfl : Value.int .i64 0 = v := by simpa [flatR] using hj
               exact y1
    | 1, hj => obtain rfl : Value.int .i64 1 = v := by simpa [flatR] using hj
               exact y2
    | j + 2, hj => simp [flatR] at hj
  go_wp2_with (refine wpList_copy2 rfl (.tmp 31) (.tmp 32) 25 25 rfl 52 Tryz.underlying25 HSZ.out G 0 n n ⟨b, 0, none⟩ 1 c rfl rfl (flatR (zeroTo n 0)) 52 HH.out (flatR [(0, 1)]) 1 (HK1.out n HN1.out) rfl HSRC.out HFT.out (flatR_one _) w.heap.size w HB0.out HGL.out ?_; intro w5 h5 hb5)
  have HH5 : Hid (w5.heap[G]? = some (.cells (flatR (zeroTo n 1)).toArray 52 (0, 0))) := by
    have h := h5.out
    have e := splice_zero (n := n) (c := 0) (k := 1) (by have := HN1.out; omega)
    rw [Nat.zero_mul, show List.replicate 1 ((0 : Int), (1 : Int)) = [(0, 1)] from rfl, Nat.zero_add] at e
    rw [e] at h
    exact h
  have HB5 := Lib.hid hb5
  clear h5 hb5 HSRC HFT
  go_loopw [8] (fun v wr => ∃ k : Nat, 1 ≤ k ∧ k ≤ n ∧ v = .int .i64 k ∧ wr.heap[G]? = some (.cells (flatR (zeroTo n k)).toArray 52 (0, 0)) ∧ Below w.heap.size w wr) (fun v _ => n - (intOf v).toNat)
  case atStart => exact ⟨1, Nat.le_refl _, hn, rfl, HH5.out, HB5.out⟩
  case round =>
    obtain ⟨k, hk1, hk, rfl, hG, hB⟩ := hrel
    have HG := Lib.hid hG
    have HB := Lib.hid hB
    clear hG hB
    by_cases hlt : k < n
    · have hk0 : (k : Int) < (n : Int) := by omega
      have hne : ¬ n = k := by omega
      obtain ⟨d, hd⟩ : ∃ d, Nat.min k (n - k) = d := ⟨_, rfl⟩
      have hd' : min k (n - k) = d := hd
      have hd1 : 1 ≤ d := by omega
      have hd2 : k + d ≤ n := by omega
      have m3 : IntKind.i64.wrap ((k : Int) + (d : Int)) = ((k + d : Nat) : Int) := by rw [Int.natCast_add]; exact IntWalk.i64_in _ (by omega)
      have HD := Lib.hid hd.symm
      have HKD := Lib.hid hd2
      have HSRC : Hid (∀ (j : Nat) (v : Value), (flatR (List.replicate d ((0 : Int), (1 : Int))))[j]? = some v → wr.drew.cell? ((⟨G, 0, none⟩ : Addr).add j) = some v) := fun j v hj => by
        have e1 : zeroTo n k = List.replicate d (0, 1) ++ (List.replicate (k - d) (0, 1) ++ List.replicate (n - k) (0, 0)) := by
          unfold zeroTo
          rw [← List.append_assoc, List.replicate_append_replicate]
          congr 2
          omega
        have e2 : wr.cell? ⟨G, j, none⟩ = (flatR (zeroTo n k))[j]? := by
          unfold World.cell?
          rw [HG.out]
          simp
        rw [addr_add]
        show wr.cell? ⟨G, 0 + j, none⟩ = _
        rw [Nat.zero_add, e2, e1, flatR_app, List.getElem?_append_left (List.getElem?_eq_some_iff.1 hj).1]
        exact hj
      have HLN : Hid ((flatR (List.replicate d ((0 : Int), (1 : Int)))).length = d * 2) := by show _ = _; rw [flatR_len, List.length_replicate]
      have HFT : Hid (k * 2 + (flatR (List.replicate d ((0 : Int), (1 : Int)))).length ≤ (flatR (zeroTo n k)).length) := by
        show _ ≤ _
        rw [HLN.out, flatR_len, zeroTo_len (by omega)]
        omega
      have HBD : Hid (Below w.heap.size w wr.drew) := HB.out.drew
      obtain ⟨w6, hw6⟩ : ∃ w6, wr.drew.setRow G ((flatR (zeroTo n k)).toArray.toList.take (k * 2) ++ flatR (List.replicate d (0, 1)) ++ (flatR (zeroTo n k)).toArray.toList.drop (k * 2 + (flatR (List.replicate d (0, 1))).length)).toArray = w6 := ⟨_, rfl⟩
      have hrun : (Builtin.copy_ #[25, 25] 3 #[.slice (some ⟨G, k * 2, none⟩) (n - k) (n - k), .slice (some ⟨G, 0, none⟩) k n]).run Tryz.prog wr.drew = .ok (.int .i64 d) w6 := by
        rw [← hw6]
        exact run_copy_row2 (P := Tryz.prog) wr.drew 25 25 3 52 G (k * 2) (n - k) (n - k) ⟨G, 0, none⟩ k n (flatR (zeroTo n k)).toArray 52 (flatR (List.replicate d (0, 1))) d Tryz.underlying25 HSZ.out HG.out HD.out HLN.out HSRC.out (by simpa using HFT.out) (flatR_one _)
      have HG6 : Hid (w6.heap[G]? = some (.cells (flatR (zeroTo n (k + d))).toArray 52 (0, 0))) := by
        show _ = _
        rw [← hw6, ← splice_zero hd2]
        simpa [splice] using setRow_heap wr.drew G _ _ 52 _ HG.out
      have HB6 : Hid (Below w.heap.size w w6) := by rw [← hw6]; exact below_setRow HBD.out HGL.out _
      clear hd hd' hw6
      go_wp2
      go_region_law (fail)
      all_goals
        simp only [Act.put, List.getElem_toArray, List.getElem_cons_zero, List.getElem_cons_succ, List.setIfInBounds_toArray, List.set_cons_zero, List.set_cons_succ]
        go_roundw
        case rel => exact ⟨.int .i64 ((k : Int) + (d : Int)), _, _, _, _, _, _, _, _, _, _, _, _, _, ⟨k + d, by omega, HKD.out, by simp, HG6.out, HB6.out⟩, rfl⟩
        case measure => simp [intOf]; omega
    · obtain rfl : k = n := by omega
      have HOR : Hid (OwnR wr w.heap.size (.slice (some ⟨G, 0, none⟩) k k) (List.replicate k (0, 1))) := by
        show World.ownsRow _ _ _ _ _ _ _
        have hl : (List.replicate k ((0 : Int), (1 : Int))).length = k := List.length_replicate
        have hz : zeroTo k k = List.replicate k (0, 1) := by simp [zeroTo]
        have hg := HG.out
        rw [hz] at hg
        rw [hl]
        refine ⟨by rw [flatR_len, hl], .inr ⟨G, k, _, rfl, HGL.out, hg, Nat.le_refl _, by unfold maxLen; omega, by simp [flatR_len], ?_⟩⟩
        rw [List.take_of_length_le (by simp [flatR_len])]
      go_wp2
      go_ret
      exact ⟨G, rfl, HOR.out, HB.out⟩
end Go.Proofs.YtfnomiingelfaaaGreat
/- Picture of layer 4: a contract. -/
namespace Go.Proofs.YtfnomiingelfaaaGreat
open Go.RowKit Go.Shelf

def spreadTo (n : Nat) (px : List Int) (vs : List (Int × Int)) : Nat → List (Int × Int)
  | 0 => List.replicate n (0, 1)
  | k + 1 => (spreadTo n px vs k).set (gt px k).toNat (vs[k]?.getD (0, 0))
theorem spreadTo_len (n : Nat) (px : List Int) (vs : List (Int × Int)) : ∀ k, (spreadTo n px vs k).length = n
  | 0 => List.length_replicate
  | k + 1 => by unfold spreadTo; rw [List.length_set]; exact spreadTo_len n px vs k
def picE (m : List (List Int)) (px : List Int) (vs : List (Int × Int)) : Int := if validM m = true then (if fitB px vs = true then (if px.all (thereB m) = true then 0 else 5) else 1) else 1
def picV (m : List (List Int)) (px : List Int) (vs : List (Int × Int)) : List (Int × Int) × Int := if picE m px vs = 0 then (spreadTo (colsM m) px vs px.length, 0) else ([], picE m px vs)
theorem picV_no {m : List (List Int)} {px : List Int} {vs : List (Int × Int)} {e : Int} (h : picE m px vs = e) (h0 : e ≠ 0) : picV m px vs = ([], e) := by unfold picV; rw [h, if_neg h0]
set_option maxRecDepth 1000000 in
set_option maxHeartbeats 3200000 in
theorem spicture_any (ma : Option Addr) (m : List (List Int)) (mc : Nat) (pa : Option Addr) (px : List Int) (pc : Nat) (va : Option Addr) (vs : List (Int × Int)) (vc : Nat) (w : World) (hm : MOk m) (hlp : px.length ≤ 1000) (hlv : vs.length ≤ 1000) (hs : Ms w ma m) (hp : Sl w pa px) (hv : Rr w va vs) :
    Calls Tryz.prog 20 #[.slice ma m.length mc, .agg #[.slice pa px.length pc, .slice va vs.length vc]] w (RLPost (picV m px vs) w) := by
  obtain ⟨V, hV⟩ : ∃ V, w.alloc (.cells #[.slice pa px.length pc, .slice va vs.length vc] 27) = V := ⟨_, rfl⟩
  have hbv : Below w.heap.size w V := by rw [← hV]; exact (Below.refl _ _).alloc (Nat.le_refl _) _
  have HBV := Lib.hid hbv
  have HVW := Lib.hid (box2 hV)
  obtain ⟨t0, t1, t2, t3⟩ := HVW.out V (Below.refl _ _)
  obtain ⟨z, hz⟩ : ∃ z, validM m = z := ⟨_, rfl⟩
  have HMV : Hid (Calls Tryz.prog 45 #[.slice ma m.length mc] V fun e w' => e = .returned (.bool z) ∧ Below V.heap.size V w') := by rw [← hz]; exact mvalid_any ma m mc V hm (hs.below hbv)
  cases z with
  | false =>
    have HE : Hid (picV m px vs = ([], 1)) := picV_no (by unfold picE; rw [hz]; rfl) (by decide)
    rw [HE.out]
    clear hm hs hp hv hz hbv hlp hlv
    go_enter Tryz.func20, Tryz.ntmps20
    go_wp2_with (go_at_call 45; refine HMV.out.mono ?_; rintro e w1 ⟨rfl, hb1⟩; have HB1 : Hid (Below w.heap.size w w1) := HBV.out.trans (hb1.mono HBV.out.size); clear hb1)
    go_ret2
    exact RLPost.err HB1.out
  | true =>
    obtain ⟨hm1, hm6, hc1, hc10, hrows⟩ := validM_of hz
    obtain ⟨q, hq⟩ : ∃ q, fitB px vs = q := ⟨_, rfl⟩
    have HSV : Hid (∀ W, Below w.heap.size w W → Calls Tryz.prog 46 #[.agg #[.slice pa px.length pc, .slice va vs.length vc]] W fun e w' => e = .returned (.bool q) ∧ Below W.heap.size W w') := fun W hb => by rw [← hq]; exact svalid_any pa px pc va vs vc W hlp hlv (hp.below hb) (hv.below hb)
    cases q with
    | false =>
      have HE : Hid (picV m px vs = ([], 1)) := picV_no (by unfold picE; rw [hz, hq]; rfl) (by decide)
      rw [HE.out]
      clear hm hs hp hv hz hbv hlp hlv hrows hm1 hm6 hc1 hc10 hq
      go_enter Tryz.func20, Tryz.ntmps20
      go_wp2_with (first
        | (go_at_call 45; refine HMV.out.mono ?_; rintro e w1 ⟨rfl, hb1⟩; obtain ⟨u0, u1, _, _⟩ := HVW.out w1 hb1; have HB1 : Hid (Below w.heap.size w w1) := HBV.out.trans (hb1.mono HBV.out.size); clear hb1)
        | (go_at_call 46; refine (HSV.out _ HB1.out).mono ?_; rintro e w2 ⟨rfl, hb2⟩; have HB2 : Hid (Below w.heap.size w w2) := HB1.out.trans (hb2.mono HB1.out.size); clear hb2))
      go_ret2
      exact RLPost.err HB2.out
    | true =>
      have HPE : Hid (picE m px vs = if px.all (thereB m) = true then 0 else 5) := by show _ = _; unfold picE; rw [if_pos hz, if_pos hq]
      have HPL : Hid (px.length = vs.length) := by
        have := hq
        unfold fitB at this
        simp only [Bool.and_eq_true, decide_eq_true_eq] at this
        exact this.1.1
      obtain ⟨b0, o0, a0, r0, c0, rfl, hcw, _, hr0⟩ := hs.at (i := 0) (by omega)
      obtain ⟨N, hN⟩ : ∃ N, colsM m = N := ⟨_, rfl⟩
      have HN := Lib.hid hN
      have hr0N : r0.length = N := by rw [← hN]; exact (hrows r0 (List.mem_of_getElem? hr0.out)).1
      rw [hr0N, Nat.add_zero] at hcw
      rw [hN] at hc1 hc10
      have HCW := Lib.hid hcw
      have hml : 0 < m.length := by omega
      have HPX := Lib.hid hp
      have HVX := Lib.hid hv
      have HC1 := Lib.hid hc1
      have HC10 := Lib.hid hc10
      obtain ⟨pn, hpn⟩ : ∃ pn, px.length = pn := ⟨_, rfl⟩
      obtain ⟨vn, hvn⟩ : ∃ vn, vs.length = vn := ⟨_, rfl⟩
      have HPN := Lib.hid hpn
      have HVN := Lib.hid hvn
      rw [hpn] at HVW HSV t0 hV hlp HPL
      rw [hvn] at HVW HSV t1 hV hlv HPL
      rw [hpn, hvn]
      clear hm hs hp hv hz hbv hrows hm1 hm6 hc1 hc10 hq hr0 hr0N hN hcw hpn hvn
      go_enter Tryz.func20, Tryz.ntmps20
      go_wp2_with (first
        | (go_at_call 45; refine HMV.out.mono ?_; rintro e w1 ⟨rfl, hb1⟩; obtain ⟨u0, u1, _, _⟩ := HVW.out w1 hb1; have HV1 := Lib.hid hb1; have HB1 : Hid (Below w.heap.size w w1) := HBV.out.trans (hb1.mono HBV.out.size); clear hb1)
        | (go_at_call 46; refine (HSV.out _ HB1.out).mono ?_; rintro e w2 ⟨rfl, hb2⟩
           obtain ⟨w3, hw3⟩ : ∃ w3, w2.alloc (.cells #[.int .i64 0, .int .i64 1] 52) = w3 := ⟨_, rfl⟩
           have hb3 : Below w2.heap.size w2 w3 := by rw [← hw3]; exact (Below.refl _ _).alloc (Nat.le_refl _) _
           have HV3 : Hid (Below V.heap.size V w3) := HV1.out.trans ((hb2.trans (hb3.mono hb2.size)).mono HV1.out.size)
           have HB3 : Hid (Below w.heap.size w w3) := HBV.out.trans (HV3.out.mono HBV.out.size)
           have HRL : Hid (Rl w3 (some ⟨w2.heap.size, 0, none⟩) [(0, 1)]) := by rw [← hw3]; exact rl_new1 w2 0 1 _
           have c0' : w3.cell? ⟨b0, o0, none⟩ = some (.slice a0 N c0) := (HB3.out.cell (p := ⟨b0, o0, none⟩) (cell_lt HCW.out)).trans HCW.out
           clear hb2 hb3)
        | (go_at_call 47; refine (srepeat_any N w2.heap.size 1 w3 HC1.out (by have := HC10.out; omega) HRL.out).mono ?_; rintro e w4 ⟨g, rfl, ho4, hb4⟩
           obtain ⟨v0, v1, _, _⟩ := HVW.out w4 (HV3.out.trans (hb4.mono HV3.out.size))
           have HO4 := Lib.hid ho4; have HV4 : Hid (Below V.heap.size V w4) := HV3.out.trans (hb4.mono HV3.out.size); have HB34 := Lib.hid hb4; clear ho4 hb4))
      have HS3 : Hid (w.heap.size ≤ w3.heap.size) := HB3.out.size
      clear HB3 HRL c0' HMV HSV
      go_loopw [27] (fun i wr => ∃ k : Nat, k ≤ pn ∧ i = .int .i64 k ∧ OwnR wr w3.heap.size (.slice (some ⟨g, 0, none⟩) N N) (spreadTo N px vs k) ∧ Below V.heap.size V wr ∧ ∀ j, j < k → thereB m (gt px j) = true) (fun i _ => pn - (intOf i).toNat)
      case atStart => exact ⟨0, Nat.zero_le _, rfl, HO4.out, HV4.out, fun j h => by omega⟩
      case round =>
        clear HO4 HV4 v0 v1 HB34
        obtain ⟨k, hk, rfl, hO, hB, hok⟩ := hrel
        have HO := Lib.hid hO; clear hO
        have HB := Lib.hid hB; clear hB
        have HOK := Lib.hid hok; clear hok
        have HBW : Hid (Below w.heap.size w wr) := HBV.out.trans (HB.out.mono HBV.out.size)
        obtain ⟨x0, x1, _, _⟩ := HVW.out wr HB.out
        by_cases hlt : k < pn
        · obtain ⟨pb, po, v, hpa, hcv, hgx⟩ := (HPX.out.below HBW.out).at (k := k) (by rw [HPN.out]; exact hlt)
          subst hpa
          have HGX := Lib.hid (gt_some' hgx.out)
          have HG0 := Lib.hid hgx.out
          have hk0 : (k : Int) < (pn : Int) := by omega
          obtain ⟨th, hth⟩ : ∃ th, thereB m v = th := ⟨_, rfl⟩
          have HTH := Lib.hid hth
          have hth2 : (decide (0 ≤ v) && decide (v < (N : Int))) = th := by rw [← hth]; unfold thereB; rw [HN.out]
          clear hgx hth
          cases th with
          | false =>
            have hall : px.all (thereB m) = false := all_no (k := k) (v := v) HG0.out HTH.out
            have HE : Hid (picV m px vs = ([], 5)) := picV_no (by rw [HPE.out, hall]; rfl) (by decide)
            clear hall
            rw [HE.out]
            by_cases hv0 : v < 0
            · clear hth2
              go_wp2
              go_ret2
              exact RLPost.err HBW.out
            · have hv1 : ¬ v < (N : Int) := by
                intro h
                have : (decide (0 ≤ v) && decide (v < (N : Int))) = true := by simp; omega
                rw [hth2] at this
                cases this
              have hv2 : (N : Int) ≤ v := by omega
              clear hth2
              go_wp2
              go_ret2
              exact RLPost.err HBW.out
          | true =>
            have hvv : 0 ≤ v ∧ v < (N : Int) := by simpa using hth2
            obtain ⟨j, rfl⟩ := Int.eq_ofNat_of_zero_le hvv.1
            have hj : j < N := by omega
            have hv1 : ¬ (N : Int) ≤ (j : Int) := by omega
            have hv2 : (j : Int) < (N : Int) := by omega
            clear hth2 hvv
            obtain ⟨p, hp⟩ : ∃ p, vs[k]? = some p := ⟨vs[k]'(by rw [HVN.out, ← HPL.out]; exact hlt), by simp [HVN.out, ← HPL.out, hlt]⟩
            have HP := Lib.hid hp
            obtain ⟨vb, vo, rfl, a1, a2⟩ := (HVX.out.below HBW.out) k p hp
            have hk1 : (k : Int) < (vn : Int) := by rw [← HPL.out]; omega
            have HSL : Hid ((spreadTo N px vs k).length = N) := spreadTo_len _ _ _ _
            have HO5 : Hid (OwnR wr w3.heap.size (.slice (some ⟨g, 0, none⟩) (spreadTo N px vs k).length N) (spreadTo N px vs k)) := HSL.out.symm ▸ HO.out
            obtain ⟨qq, hqq⟩ : ∃ qq, (spreadTo N px vs k)[j]? = some qq := ⟨(spreadTo N px vs k)[j]'(by rw [HSL.out]; exact hj), by simp [HSL.out, hj]⟩
            obtain ⟨⟨cz, fz⟩, cy, fy⟩ := HO5.out.cell hqq
            have HSU : Hid (spreadTo N px vs (k + 1) = (spreadTo N px vs k).set j p) := by
              show (spreadTo N px vs k).set (gt px k).toNat (vs[k]?.getD (0, 0)) = _
              rw [HGX.out, HP.out]
              rfl
            have HGW : Hid (V.heap.size ≤ w3.heap.size) := HV3.out.size
            obtain ⟨p1, p2⟩ := p
            dsimp only at a1 a2
            clear hp hqq
            go_wp2
            go_roundw
            case rel => exact ⟨k + 1, by omega, by go_num, by have h := HO5.out.stored j p1 p2; rw [HSL.out, ← HSU.out] at h; exact h, (HB.out.setCell (p := ⟨g, j * 2, none⟩) (Nat.le_trans HGW.out HO5.out.lt.1) _).setCell (p := ⟨g, j * 2 + 1, none⟩) (Nat.le_trans HGW.out HO5.out.lt.1) _, fun i hi => by
              by_cases e : i = k
              · subst e; rw [HGX.out]; exact HTH.out
              · exact HOK.out i (by omega)⟩
            case measure => simp [intOf]; omega
        · obtain rfl : k = pn := by omega
          have HA : Hid (px.all (thereB m) = true) := all_yes fun j hj => HOK.out j (by rw [← HPN.out]; exact hj)
          have HE : Hid (picV m px vs = (spreadTo N px vs k, 0)) := by
            show _ = _
            unfold picV
            rw [if_pos (by rw [HPE.out, if_pos HA.out]), HN.out, HPN.out]
          rw [HE.out]
          have HSL : Hid ((spreadTo N px vs k).length = N) := spreadTo_len _ _ _ _
          have HRO : Hid (Rl wr (some ⟨g, 0, none⟩) (spreadTo N px vs k)) := by
            have h : OwnR wr w3.heap.size (.slice (some ⟨g, 0, none⟩) (spreadTo N px vs k).length N) (spreadTo N px vs k) := HSL.out.symm ▸ HO.out
            exact h.rl
          go_wp2
          go_ret2
          (try rw [HE.out])
          exact ⟨HBW.out, some ⟨g, 0, none⟩, N, by dsimp only; rw [HSL.out]; rfl, HRO.out⟩
end Go.Proofs.YtfnomiingelfaaaGreat
/- ValidRatio and ValidRatios of the answers: contracts. -/
namespace Go.Proofs.YtfnomiingelfaaaGreat
open Go.RowKit

set_option maxRecDepth 1000000 in
set_option maxHeartbeats 1600000 in
theorem rvalidR_any (n d : Int) (w : World) : Calls Tryz.prog 83 #[.agg #[.int .i64 n, .int .i64 d]] w fun e w' => e = .returned (.bool (validR n d)) ∧ Below w.heap.size w w' := by
  obtain ⟨V, hV⟩ : ∃ V, w.alloc (.cells #[.int .i64 n, .int .i64 d] 52) = V := ⟨_, rfl⟩
  have HBV : Hid (Below w.heap.size w V) := by rw [← hV]; exact (Below.refl _ _).alloc (Nat.le_refl _) _
  have c0 : V.cell? ⟨w.heap.size, 0, none⟩ = some (.int .i64 n) := by rw [← hV]; exact alloc_cell _ _ _ _ _ rfl
  have c1 : V.cell? ⟨w.heap.size, 1, none⟩ = some (.int .i64 d) := by rw [← hV]; exact alloc_cell _ _ _ _ _ rfl
  have HE : Hid (validR n d = (rangeB d 1 400 && rangeB n (-10000000000) 10000000000 && decide (gcd2 n d = 1))) := by
    show _ = _
    unfold validR rangeB
    rw [Bool.and_assoc (decide (1 ≤ d) && decide (d ≤ 400))]
  obtain ⟨q1, h1⟩ : ∃ q, rangeB d 1 400 = q := ⟨_, rfl⟩
  obtain ⟨q2, h2⟩ : ∃ q, rangeB n (-10000000000) 10000000000 = q := ⟨_, rfl⟩
  rw [h1, h2] at HE
  have HW1 : Hid (∀ W, Calls Tryz.prog 64 #[.int .i64 d, .int .i64 1, .int .i64 400] W fun e w' => e = .returned (.bool q1) ∧ W = w') := fun W => by rw [← h1]; exact rwithin3_any _ _ _ W
  have HW2 : Hid (∀ W, Calls Tryz.prog 64 #[.int .i64 n, .int .i64 (-10000000000), .int .i64 10000000000] W fun e w' => e = .returned (.bool q2) ∧ W = w') := fun W => by rw [← h2]; exact rwithin3_any _ _ _ W
  cases q1
  · have HV : Hid (validR n d = false) := by show _ = _; rw [HE.out]; rfl
    clear h1 h2
    go_enter Tryz.func83, Tryz.ntmps83
    go_wp2_with (first | (go_at_call 64; with_reducible refine (HW1.out _).mono ?_; rintro e w1 ⟨rfl, rfl⟩))
    go_ret
    exact ⟨ret_bool HV.out.symm, HBV.out⟩
  cases q2
  · have HV : Hid (validR n d = false) := by show _ = _; rw [HE.out]; rfl
    clear h1 h2
    go_enter Tryz.func83, Tryz.ntmps83
    go_wp2_with (first | (go_at_call 64; with_reducible refine (HW1.out _).mono ?_; rintro e w1 ⟨rfl, rfl⟩) | (go_at_call 64; with_reducible refine (HW2.out _).mono ?_; rintro e w1 ⟨rfl, rfl⟩))
    go_ret
    exact ⟨ret_bool HV.out.symm, HBV.out⟩
  unfold rangeB at h1 h2
  simp only [Bool.and_eq_true, decide_eq_true_eq] at h1 h2
  have HDV : Hid (∀ W, Calls Tryz.prog 115 #[.int .i64 n, .int .i64 d] W fun e w' => e = .returned (.int .i64 (gcd2 n d)) ∧ ∃ nd, w' = W.drewN nd) := fun W => rdivisor_any n d W (by unfold Mid; omega) (by unfold Mid; omega)
  obtain ⟨G, hG⟩ : ∃ G, gcd2 n d = G := ⟨_, rfl⟩
  rw [hG] at HDV HE
  obtain ⟨q, hq⟩ : ∃ q, decide (G = 1) = q := ⟨_, rfl⟩
  have HV : Hid (validR n d = q) := by show _ = _; rw [HE.out, hq]; rfl
  have y0 : (G == 1) = q := by rw [← hq]; rfl
  clear h1 h2 hG hq HE
  go_enter Tryz.func83, Tryz.ntmps83
  go_wp2_with (first | (go_at_call 64; with_reducible refine (HW1.out _).mono ?_; rintro e w1 ⟨rfl, rfl⟩) | (go_at_call 64; with_reducible refine (HW2.out _).mono ?_; rintro e w1 ⟨rfl, rfl⟩) | (go_at_call 115; refine (HDV.out _).mono ?_; rintro e w2 ⟨rfl, nd, rfl⟩))
  go_ret
  exact ⟨ret_bool HV.out.symm, below_drewN HBV.out nd⟩
set_option maxRecDepth 1000000 in
set_option maxHeartbeats 1600000 in
theorem rvalidRs_any (xa : Option Addr) (ps : List (Int × Int)) (xc : Nat) (w : World) (hlx : ps.length ≤ 9223372036854775807) (hx : Rr w xa ps) : Calls Tryz.prog 49 #[.slice xa ps.length xc] w fun e w' => e = .returned (.bool (ps.all fun p => validR p.1 p.2)) ∧ Below w.heap.size w w' := by
  have HX := Lib.hid hx
  obtain ⟨L, hL⟩ : ∃ L, ps.length = L := ⟨_, rfl⟩
  have HLL := Lib.hid hL
  rw [hL] at hlx ⊢
  clear hx hL
  go_enter Tryz.func49, Tryz.ntmps49
  go_wp2
  go_loopw [7] (fun i wr => ∃ k : Nat, k ≤ L ∧ i = .int .i64 k ∧ (∀ t p, t < k → ps[t]? = some p → validR p.1 p.2 = true) ∧ Below w.heap.size w wr) (fun i _ => L - (intOf i).toNat)
  case atStart => exact ⟨0, Nat.zero_le _, rfl, fun t p h => by omega, Below.refl _ _⟩
  case round =>
    obtain ⟨k, hk, rfl, hok, hb⟩ := hrel
    have HOK := Lib.hid hok; clear hok
    have HB := Lib.hid hb; clear hb
    by_cases hlt : k < L
    · obtain ⟨⟨p1, p2⟩, hp⟩ : ∃ p, ps[k]? = some p := ⟨ps[k]'(by rw [HLL.out]; exact hlt), by simp [HLL.out, hlt]⟩
      have HPK := Lib.hid hp
      obtain ⟨xb, xo, rfl, x0, x1⟩ := (HX.out.below HB.out) k _ hp
      dsimp only at x0 x1
      obtain ⟨vb, hvb⟩ : ∃ vb, validR p1 p2 = vb := ⟨_, rfl⟩
      have HVR : Hid (∀ W, Calls Tryz.prog 83 #[.agg #[.int .i64 p1, .int .i64 p2]] W fun e w' => e = .returned (.bool vb) ∧ Below W.heap.size W w') := fun W => by rw [← hvb]; exact rvalidR_any p1 p2 W
      have HVB := Lib.hid hvb
      have hk0 : (k : Int) < (L : Int) := by omega
      clear hp hvb
      cases vb with
      | false =>
        have HD : Hid ((ps.all fun p => validR p.1 p.2) = false) := by
          show _ = _
          rw [List.all_eq_false]
          exact ⟨(p1, p2), List.mem_of_getElem? HPK.out, by rw [HVB.out]; decide⟩
        go_wp2_with (go_at_call 83; refine (HVR.out _).mono ?_; rintro e w2 ⟨rfl, hb2⟩)
        go_ret
        exact ⟨ret_bool HD.out.symm, (HB.out.alloc HB.out.size _).trans (hb2.mono (by rw [World.size_alloc]; have := HB.out.size; omega))⟩
      | true =>
        go_wp2_with (go_at_call 83; refine (HVR.out _).mono ?_; rintro e w2 ⟨rfl, hb2⟩)
        go_roundw
        case rel => exact ⟨k + 1, by omega, by go_num, fun t p ht hp => by
          by_cases e : t = k
          · subst e
            rw [HPK.out] at hp
            obtain rfl := Option.some.inj hp
            exact HVB.out
          · exact HOK.out t p (by omega) hp, (HB.out.alloc HB.out.size _).trans (hb2.mono (by rw [World.size_alloc]; have := HB.out.size; omega))⟩
        case measure => simp [intOf]; omega
    · obtain rfl : k = L := by omega
      have HALL : Hid ((ps.all fun p => validR p.1 p.2) = true) := by
        show _ = _
        rw [List.all_eq_true]
        intro p hp
        obtain ⟨t, ht, rfl⟩ := List.mem_iff_getElem.1 hp
        exact HOK.out t _ (by rw [HLL.out] at ht; exact ht) (by simp [ht])
      go_wp2
      go_ret
      exact ⟨ret_bool HALL.out.symm, HB.out⟩
end Go.Proofs.YtfnomiingelfaaaGreat
/- Spread and Picture of the answers of layer 4: contracts. -/
namespace Go.Proofs.YtfnomiingelfaaaGreat
open Go.RowKit Go.Shelf

set_option maxRecDepth 1000000 in
set_option maxHeartbeats 3200000 in
theorem rspread_any (ma : Option Addr) (m : List (List Int)) (mc : Nat) (pa : Option Addr) (px : List Int) (pc : Nat) (va : Option Addr) (vs : List (Int × Int)) (vc : Nat) (w : World) (hvm : validM m = true) (hlp : px.length ≤ 1000) (hle : px.length = vs.length) (hin : px.all (thereB m) = true) (hs : Ms w ma m) (hp : Sl w pa px) (hv : Rr w va vs) :
    Calls Tryz.prog 51 #[.slice ma m.length mc, .agg #[.slice pa px.length pc, .slice va vs.length vc]] w fun e w' => ∃ g, e = .returned (.slice (some ⟨g, 0, none⟩) (colsM m) (colsM m)) ∧ Rl w' (some ⟨g, 0, none⟩) (spreadTo (colsM m) px vs px.length) ∧ Below w.heap.size w w' := by
  obtain ⟨V, hV⟩ : ∃ V, w.alloc (.cells #[.slice pa px.length pc, .slice va vs.length vc] 27) = V := ⟨_, rfl⟩
  have hbv : Below w.heap.size w V := by rw [← hV]; exact (Below.refl _ _).alloc (Nat.le_refl _) _
  have HBV := Lib.hid hbv
  have HVW := Lib.hid (box2 hV)
  obtain ⟨t0, t1, t2, t3⟩ := HVW.out V (Below.refl _ _)
  obtain ⟨hm1, hm6, hc1, hc10, hrows⟩ := validM_of hvm
  obtain ⟨b0, o0, a0, r0, c0, rfl, hcw, _, hr0⟩ := (hs.below hbv).at (i := 0) (by omega)
  obtain ⟨N, hN⟩ : ∃ N, colsM m = N := ⟨_, rfl⟩
  have HN := Lib.hid hN
  have hr0N : r0.length = N := by rw [← hN]; exact (hrows r0 (List.mem_of_getElem? hr0.out)).1
  rw [hr0N, Nat.add_zero] at hcw
  rw [hN] at hc1 hc10 ⊢
  have hml : 0 < m.length := by omega
  have HPX := Lib.hid hp
  have HVX := Lib.hid hv
  have HIN := Lib.hid hin
  obtain ⟨pn, hpn⟩ : ∃ pn, px.length = pn := ⟨_, rfl⟩
  obtain ⟨vn, hvn⟩ : ∃ vn, vs.length = vn := ⟨_, rfl⟩
  have HPN := Lib.hid hpn
  have HVN := Lib.hid hvn
  have HPL : Hid (pn = vn) := by show _ = _; omega
  rw [hpn] at HVW t0 hV hlp
  rw [hvn] at HVW t1 hV
  rw [hpn, hvn]
  obtain ⟨i0, hi, hz0, hz1, hz2⟩ := info_parts Tryz.infoRatio
  clear hs hp hv hbv hrows hm1 hm6 hr0 hr0N hN hpn hvn hle hin hvm
  go_enter Tryz.func51, Tryz.ntmps51
  go_wp2_with (with_reducible refine wpList_make_full _ rfl (.tmp 12) (.tmp 12) 25 rfl V.heap.size 52 i0 (.agg #[.int .i64 0, .int .i64 0]) 2 Tryz.underlying25 hi hz0 hz1 .i64 .i64 (N : Int) (N : Int) N rfl rfl rfl rfl (by rw [hz2]; omega) (by unfold maxLen; omega) (Nat.le_refl _) ?_)
  intro w4 hown hgrow
  have hb4 : Below V.heap.size V w4 := (Below.refl _ _).grown hgrow (Nat.le_refl _) (fun k e => by cases e)
  have HO4 : Hid (OwnR w4 V.heap.size (.slice (some ⟨V.heap.size, 0, none⟩) N N) (zeroTo N 0)) := by
    show World.ownsRow _ _ _ _ _ _ _
    rw [zeroTo_len (Nat.zero_le _), show zeroTo N 0 = List.replicate N (0, 0) by simp [zeroTo], ← flatR_rep]
    exact hown
  have HB4 := Lib.hid hb4
  clear hown hgrow hb4 hcw
  go_wp2
  go_loopw [16] (fun i wr => ∃ k : Nat, k ≤ N ∧ i = .int .i64 k ∧ OwnR wr V.heap.size (.slice (some ⟨V.heap.size, 0, none⟩) N N) (zeroTo N k) ∧ Below V.heap.size V wr) (fun i _ => N - (intOf i).toNat)
  case atStart => exact ⟨0, Nat.zero_le _, rfl, HO4.out, HB4.out⟩
  case round =>
    clear HO4 HB4
    obtain ⟨k, hk, rfl, hO, hB⟩ := hrel
    have HO := Lib.hid hO; clear hO
    have HB := Lib.hid hB; clear hB
    by_cases hlt : k < N
    · have hk0 : (k : Int) < (N : Int) := by omega
      have HZL : Hid ((zeroTo N k).length = N) := zeroTo_len hk
      have HO5 : Hid (OwnR wr V.heap.size (.slice (some ⟨V.heap.size, 0, none⟩) (zeroTo N k).length N) (zeroTo N k)) := HZL.out.symm ▸ HO.out
      obtain ⟨⟨cz, fz⟩, cy, fy⟩ := HO5.out.cell (zeroTo_at hlt)
      go_wp2
      go_roundw
      case rel => exact ⟨k + 1, by omega, by go_num, by have h := HO5.out.stored k 0 1; rw [HZL.out, zeroTo_set hlt] at h; exact h, (HB.out.setCell (p := ⟨V.heap.size, k * 2, none⟩) (Nat.le_refl _) _).setCell (p := ⟨V.heap.size, k * 2 + 1, none⟩) (Nat.le_refl _) _⟩
      case measure => simp [intOf]; omega
    · obtain rfl : k = N := by omega
      have HS0 : Hid (OwnR wr V.heap.size (.slice (some ⟨V.heap.size, 0, none⟩) k k) (spreadTo k px vs 0)) := by
        have h := HO.out
        rw [show zeroTo k k = spreadTo k px vs 0 by simp [zeroTo, spreadTo]] at h
        exact h
      have HB0 := HB
      obtain ⟨c0, c1, _, _⟩ := HVW.out wr HB.out
      clear HO HB
      go_wp2
      clear c0 c1
      go_loopw [27] (fun i wr => ∃ t : Nat, t ≤ pn ∧ i = .int .i64 t ∧ OwnR wr V.heap.size (.slice (some ⟨V.heap.size, 0, none⟩) k k) (spreadTo k px vs t) ∧ Below V.heap.size V wr) (fun i _ => pn - (intOf i).toNat)
      case atStart => exact ⟨0, Nat.zero_le _, rfl, HS0.out, HB0.out⟩
      case round =>
        clear HS0 HB0
        obtain ⟨t, ht, rfl, hO, hB⟩ := hrel
        have HO := Lib.hid hO; clear hO
        have HB := Lib.hid hB; clear hB
        have HBW : Hid (Below w.heap.size w wr) := HBV.out.trans (HB.out.mono HBV.out.size)
        obtain ⟨x0, x1, _, _⟩ := HVW.out wr HB.out
        by_cases hlt : t < pn
        · obtain ⟨pb, po, v, hpa, hcv, hgx⟩ := (HPX.out.below HBW.out).at (k := t) (by rw [HPN.out]; exact hlt)
          subst hpa
          have HGX := Lib.hid (gt_some' hgx.out)
          have hth : thereB m v = true := List.all_eq_true.1 HIN.out v (List.mem_of_getElem? hgx.out)
          have hvv : 0 ≤ v ∧ v < (k : Int) := by unfold thereB at hth; rw [HN.out] at hth; simpa using hth
          obtain ⟨j, rfl⟩ := Int.eq_ofNat_of_zero_le hvv.1
          have hj : j < k := by omega
          have hv2 : (j : Int) < (k : Int) := by omega
          clear hth hvv hgx
          obtain ⟨p, hp⟩ : ∃ p, vs[t]? = some p := ⟨vs[t]'(by rw [HVN.out, ← HPL.out]; exact hlt), by simp [HVN.out, ← HPL.out, hlt]⟩
          have HP := Lib.hid hp
          obtain ⟨vb, vo, rfl, a1, a2⟩ := (HVX.out.below HBW.out) t p hp
          have hk1 : (t : Int) < (vn : Int) := by rw [← HPL.out]; omega
          have hk2 : (t : Int) < (pn : Int) := by omega
          have HSL : Hid ((spreadTo k px vs t).length = k) := spreadTo_len _ _ _ _
          have HO5 : Hid (OwnR wr V.heap.size (.slice (some ⟨V.heap.size, 0, none⟩) (spreadTo k px vs t).length k) (spreadTo k px vs t)) := HSL.out.symm ▸ HO.out
          obtain ⟨qq, hqq⟩ : ∃ qq, (spreadTo k px vs t)[j]? = some qq := ⟨(spreadTo k px vs t)[j]'(by rw [HSL.out]; exact hj), by simp [HSL.out, hj]⟩
          obtain ⟨⟨cz, fz⟩, cy, fy⟩ := HO5.out.cell hqq
          have HSU : Hid (spreadTo k px vs (t + 1) = (spreadTo k px vs t).set j p) := by
            show (spreadTo k px vs t).set (gt px t).toNat (vs[t]?.getD (0, 0)) = _
            rw [HGX.out, HP.out]
            rfl
          obtain ⟨p1, p2⟩ := p
          dsimp only at a1 a2
          clear hp hqq
          go_wp2
          go_roundw
          case rel => exact ⟨t + 1, by omega, by go_num, by have h := HO5.out.stored j p1 p2; rw [HSL.out, ← HSU.out] at h; exact h, (HB.out.setCell (p := ⟨V.heap.size, j * 2, none⟩) (Nat.le_refl _) _).setCell (p := ⟨V.heap.size, j * 2 + 1, none⟩) (Nat.le_refl _) _⟩
          case measure => simp [intOf]; omega
        · obtain rfl : t = pn := by omega
          have HSL : Hid ((spreadTo k px vs t).length = k) := spreadTo_len _ _ _ _
          have HRO : Hid (Rl wr (some ⟨V.heap.size, 0, none⟩) (spreadTo k px vs t)) := by
            have h : OwnR wr V.heap.size (.slice (some ⟨V.heap.size, 0, none⟩) (spreadTo k px vs t).length k) (spreadTo k px vs t) := HSL.out.symm ▸ HO.out
            exact h.rl
          go_wp2
          go_ret
          exact ⟨_, rfl, HRO.out, HBW.out⟩
set_option maxRecDepth 1000000 in
set_option maxHeartbeats 3200000 in
theorem rpicture_any (ma : Option Addr) (m : List (List Int)) (mc : Nat) (pa : Option Addr) (px : List Int) (pc : Nat) (va : Option Addr) (vs : List (Int × Int)) (vc : Nat) (w : World) (hm : MOk m) (hlp : px.length ≤ 1000) (hlv : vs.length ≤ 1000) (hs : Ms w ma m) (hp : Sl w pa px) (hv : Rr w va vs) :
    Calls Tryz.prog 21 #[.slice ma m.length mc, .agg #[.slice pa px.length pc, .slice va vs.length vc]] w (RLPost (picV m px vs) w) := by
  obtain ⟨V, hV⟩ : ∃ V, w.alloc (.cells #[.slice pa px.length pc, .slice va vs.length vc] 27) = V := ⟨_, rfl⟩
  have hbv : Below w.heap.size w V := by rw [← hV]; exact (Below.refl _ _).alloc (Nat.le_refl _) _
  have HBV := Lib.hid hbv
  have HVW := Lib.hid (box2 hV)
  obtain ⟨t0, t1, t2, t3⟩ := HVW.out V (Below.refl _ _)
  obtain ⟨z, hz⟩ : ∃ z, validM m = z := ⟨_, rfl⟩
  have HMV : Hid (Calls Tryz.prog 48 #[.slice ma m.length mc] V fun e w' => e = .returned (.bool z) ∧ V = w') := by rw [← hz]; exact rvalid_any ma m mc V hm (hs.below hbv)
  obtain ⟨q1, hq1⟩ : ∃ q1, (vs.all fun p => validR p.1 p.2) = q1 := ⟨_, rfl⟩
  have HVR : Hid (∀ W, Below w.heap.size w W → Calls Tryz.prog 49 #[.slice va vs.length vc] W fun e w' => e = .returned (.bool q1) ∧ Below W.heap.size W w') := fun W hb => by rw [← hq1]; exact rvalidRs_any va vs vc W (by omega) (hv.below hb)
  obtain ⟨q2, hq2⟩ : ∃ q2, rascB px = q2 := ⟨_, rfl⟩
  have HAS : Hid (∀ W, Below w.heap.size w W → Calls Tryz.prog 50 #[.slice pa px.length pc] W fun e w' => e = .returned (.bool q2) ∧ Below W.heap.size W w') := fun W hb => by
    rw [← hq2]
    refine (rasc_any pa px pc W (by omega) (hp.below hb)).mono ?_
    rintro e w' ⟨k1, n, rfl⟩
    exact ⟨k1, below_drewN (Below.refl _ _) _⟩
  have HQ1 := Lib.hid hq1
  have HQ2 := Lib.hid hq2
  have HPX := Lib.hid hp
  have HVX := Lib.hid hv
  have HZ := Lib.hid hz
  have HNAM : Hid (validM m = true → ∀ W, Below w.heap.size w W → Calls Tryz.prog 32 #[.slice ma m.length mc, .slice pa px.length pc] W fun e w' => e = .returned (.int .i64 (listV m px)) ∧ Below W.heap.size W w') := fun h W hb => rnamed_any ma m mc pa px pc W h hlp (hs.below hb) (hp.below hb)
  have HSPR : Hid (validM m = true → px.length = vs.length → px.all (thereB m) = true → ∀ W, Below w.heap.size w W → Calls Tryz.prog 51 #[.slice ma m.length mc, .agg #[.slice pa px.length pc, .slice va vs.length vc]] W fun e w' => ∃ g, e = .returned (.slice (some ⟨g, 0, none⟩) (colsM m) (colsM m)) ∧ Rl w' (some ⟨g, 0, none⟩) (spreadTo (colsM m) px vs px.length) ∧ Below W.heap.size W w') := fun h1 h2 h3 W hb => rspread_any ma m mc pa px pc va vs vc W h1 hlp h2 h3 (hs.below hb) (hp.below hb) (hv.below hb)
  have HBAD : Hid (fitB px vs = false → picV m px vs = ([], 1)) := fun h => picV_no (by unfold picE; rw [h]; split <;> rfl) (by decide)
  obtain ⟨pn, hpn⟩ : ∃ pn, px.length = pn := ⟨_, rfl⟩
  obtain ⟨vn, hvn⟩ : ∃ vn, vs.length = vn := ⟨_, rfl⟩
  have HPN := Lib.hid hpn
  have HVN := Lib.hid hvn
  rw [hpn] at HVW t0 hV hlp HAS HNAM HSPR
  rw [hvn] at HVW t1 hV hlv HVR HSPR
  rw [hpn, hvn]
  clear hm hs hp hv hbv hq1 hq2 hz hpn hvn
  cases z with
  | false =>
    have HE : Hid (picV m px vs = ([], 1)) := picV_no (by unfold picE; rw [HZ.out]; rfl) (by decide)
    rw [HE.out]
    go_enter Tryz.func21, Tryz.ntmps21
    go_wp2_with (go_at_call 48; refine HMV.out.mono ?_; rintro e w1 ⟨rfl, rfl⟩)
    go_ret2
    exact RLPost.err HBV.out
  | true =>
    by_cases hne : pn = vn
    case neg =>
      have HE := Lib.hid (HBAD.out (fitB_len (by rw [HPN.out, HVN.out]; exact hne)))
      have hb : ((pn : Int) == (vn : Int)) = false := by simp; omega
      have hb' : ((pn : Int) != (vn : Int)) = true := by simp; omega
      rw [HE.out]
      clear hne
      go_enter Tryz.func21, Tryz.ntmps21
      go_wp2_with (go_at_call 48; refine HMV.out.mono ?_; rintro e w1 ⟨rfl, rfl⟩)
      go_ret2
      exact RLPost.err HBV.out
    case pos =>
      have HNE := Lib.hid hne
      have hb : ((pn : Int) == (vn : Int)) = true := by simp; omega
      have hb' : ((pn : Int) != (vn : Int)) = false := by simp; omega
      clear hne
      cases q1 with
      | false =>
        have HE : Hid (picV m px vs = ([], 1)) := HBAD.out (by
          obtain ⟨p, hp, hb⟩ := List.all_eq_false.1 HQ1.out
          obtain ⟨k, hk, rfl⟩ := List.mem_iff_getElem.1 hp
          exact fitB_bad (List.getElem?_eq_getElem hk) (by simp only [Bool.not_eq_true] at hb; rw [hb]; rfl))
        rw [HE.out]
        go_enter Tryz.func21, Tryz.ntmps21
        go_wp2_with (first
          | (go_at_call 48; refine HMV.out.mono ?_; rintro e w1 ⟨rfl, rfl⟩)
          | (go_at_call 49; refine (HVR.out _ HBV.out).mono ?_; rintro e w2 ⟨rfl, hb2⟩; have HB2 : Hid (Below w.heap.size w w2) := HBV.out.trans (hb2.mono HBV.out.size); clear hb2))
        go_ret2
        exact RLPost.err HB2.out
      | true =>
        cases q2 with
        | false =>
          have HE := Lib.hid (HBAD.out (fitB_asc HQ2.out))
          rw [HE.out]
          go_enter Tryz.func21, Tryz.ntmps21
          go_wp2_with (first
            | (go_at_call 48; refine HMV.out.mono ?_; rintro e w1 ⟨rfl, rfl⟩)
            | (go_at_call 49; refine (HVR.out _ HBV.out).mono ?_; rintro e w2 ⟨rfl, hb2⟩; have HV2 := Lib.hid hb2; obtain ⟨u0, u1, _, _⟩ := HVW.out w2 hb2; have HB2 : Hid (Below w.heap.size w w2) := HBV.out.trans (hb2.mono HBV.out.size); clear hb2)
            | (go_at_call 50; refine (HAS.out _ HB2.out).mono ?_; rintro e w3 ⟨rfl, hb3⟩; have HB3 : Hid (Below w.heap.size w w3) := HB2.out.trans (hb3.mono HB2.out.size); clear hb3))
          go_ret2
          exact RLPost.err HB3.out
        | true =>
          go_enter Tryz.func21, Tryz.ntmps21
          go_wp2_with (first
            | (go_at_call 48; refine HMV.out.mono ?_; rintro e w1 ⟨rfl, rfl⟩)
            | (go_at_call 49; refine (HVR.out _ HBV.out).mono ?_; rintro e w2 ⟨rfl, hb2⟩; have HV2 := Lib.hid hb2; obtain ⟨u0, u1, _, _⟩ := HVW.out w2 hb2; have HB2 : Hid (Below w.heap.size w w2) := HBV.out.trans (hb2.mono HBV.out.size); clear hb2)
            | (go_at_call 50; refine (HAS.out _ HB2.out).mono ?_; rintro e w3 ⟨rfl, hb3⟩; have HV3 : Hid (Below V.heap.size V w3) := HV2.out.trans (hb3.mono HV2.out.size); obtain ⟨v0, v1, _, _⟩ := HVW.out w3 HV3.out; have HB3 : Hid (Below w.heap.size w w3) := HB2.out.trans (hb3.mono HB2.out.size); clear hb3))
          clear u0 u1 v0 v1
          go_loopw [36] (fun i wr => ∃ k : Nat, k ≤ vn ∧ i = .int .i64 k ∧ Below w3.heap.size w3 wr ∧ ∀ j p, j < k → vs[j]? = some p → p.1 ≠ 0) (fun i _ => vn - (intOf i).toNat)
          case atStart => exact ⟨0, Nat.zero_le _, rfl, Below.refl _ _, fun j p h => by omega⟩
          case round =>
            obtain ⟨k, hk, rfl, hB, hno⟩ := hrel
            have HB4 := Lib.hid hB
            have HBW : Hid (Below w.heap.size w wr) := HB3.out.trans (hB.mono HB3.out.size)
            have HVR4 : Hid (Below V.heap.size V wr) := HV3.out.trans (hB.mono HV3.out.size)
            have HNO := Lib.hid hno
            clear hB hno
            obtain ⟨x0, x1, _, _⟩ := HVW.out wr HVR4.out
            by_cases hlt : k < vn
            · obtain ⟨p, hp⟩ : ∃ p, vs[k]? = some p := ⟨vs[k]'(by rw [HVN.out]; exact hlt), by simp [HVN.out, hlt]⟩
              have HP := Lib.hid hp
              obtain ⟨vb, vo, rfl, a1, a2⟩ := (HVX.out.below HBW.out) k p hp
              obtain ⟨p1, p2⟩ := p
              dsimp only at a1 a2
              have hk0 : (k : Int) < (vn : Int) := by omega
              obtain ⟨wb, hwb⟩ : ∃ wb, wr.alloc (.cells #[.int .i64 p1, .int .i64 p2] 52) = wb := ⟨_, rfl⟩
              have hbb : Below wr.heap.size wr wb := by rw [← hwb]; exact (Below.refl _ _).alloc (Nat.le_refl _) _
              obtain ⟨y0, y1, _, _⟩ := box2 hwb wb (Below.refl _ _)
              have HBB := Lib.hid hbb
              clear hp hbb
              by_cases hz : p1 = 0
              · subst hz
                have HE := Lib.hid (HBAD.out (fitB_bad HP.out (by simp)))
                go_wp2
                go_ret2
                rw [HE.out]
                exact RLPost.err (HBW.out.trans (HBB.out.mono HBW.out.size))
              · have z1 : (p1 == 0) = false := by simpa using hz
                have HZ1 := Lib.hid hz
                clear hz
                go_wp2
                go_roundw
                case rel => exact ⟨k + 1, by omega, by go_num, HB4.out.trans (HBB.out.mono HB4.out.size), fun j p hj hp => by
                  by_cases e : j = k
                  · subst e
                    rw [HP.out] at hp
                    obtain rfl := Option.some.inj hp
                    exact HZ1.out
                  · exact HNO.out j p (by omega) hp⟩
                case measure => simp [intOf]; omega
            · obtain rfl : k = vn := by omega
              have hfb : fitB px vs = true := fitB_yes (by rw [HPN.out, HVN.out, HNE.out]) (fun j p h => by
                have h1 := List.all_eq_true.1 HQ1.out p (List.mem_of_getElem? h)
                have h2 := HNO.out j p (by rw [← HVN.out]; exact (List.getElem?_eq_some_iff.1 h).1) h
                rw [h1]
                simpa using h2) HQ2.out
              have hlv2 : listV m px = if px.all (thereB m) = true then 0 else 5 := by unfold listV; rw [if_pos HQ2.out]
              have hpe : picE m px vs = if px.all (thereB m) = true then 0 else 5 := by unfold picE; rw [if_pos HZ.out, if_pos hfb]
              have HNA := Lib.hid (HNAM.out HZ.out wr HBW.out)
              by_cases hall : px.all (thereB m) = true
              · have HE : Hid (picV m px vs = (spreadTo (colsM m) px vs pn, 0)) := by
                  show _ = _
                  unfold picV
                  rw [if_pos (by rw [hpe, if_pos hall]), HPN.out]
                rw [hlv2, if_pos hall] at HNA
                have HSP := Lib.hid (HSPR.out HZ.out HNE.out hall)
                have HSL : Hid ((spreadTo (colsM m) px vs pn).length = colsM m) := spreadTo_len _ _ _ _
                clear hfb hlv2 hpe hall
                go_wp2_with (first
                  | (go_at_call 32; refine HNA.out.mono ?_; rintro e w5 ⟨rfl, hb5⟩; obtain ⟨z0, z1, _, _⟩ := HVW.out w5 (HVR4.out.trans (hb5.mono HVR4.out.size)); have HB5 : Hid (Below w.heap.size w w5) := HBW.out.trans (hb5.mono HBW.out.size); clear hb5)
                  | (go_at_call 51; refine (HSP.out w5 HB5.out).mono ?_; rintro e w6 ⟨g, rfl, hrl, hb6⟩; have HRL := Lib.hid hrl; have HB6 : Hid (Below w.heap.size w w6) := HB5.out.trans (hb6.mono HB5.out.size); clear hb6 hrl))
                go_ret2
                rw [HE.out]
                exact ⟨HB6.out, some ⟨g, 0, none⟩, colsM m, by dsimp only; rw [HSL.out]; rfl, HRL.out⟩
              · have HE : Hid (picV m px vs = ([], 5)) := picV_no (by rw [hpe, if_neg hall]) (by decide)
                rw [hlv2, if_neg hall] at HNA
                clear hfb hlv2 hpe hall
                go_wp2_with (go_at_call 32; refine HNA.out.mono ?_; rintro e w5 ⟨rfl, hb5⟩; have HB5 : Hid (Below w.heap.size w w5) := HBW.out.trans (hb5.mono HBW.out.size); clear hb5)
                go_ret2
                rw [HE.out]
                exact RLPost.err HB5.out
end Go.Proofs.YtfnomiingelfaaaGreat
