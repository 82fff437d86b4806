/- Parts of the proof of TopWalsh: plain words, walks and contracts, each under its own heading. -/
import Derived.RangeFuncNested
import Derived.RangeFuncBound
import Derived.RangeFuncCalls
import Derived.RangeFuncLeaves
import Derived.Shelf.Abstract
import Derived.Shelf.RegionOpen
import Derived.OwnWalkIn
import Derived.TacticsInMore
import Derived.LoopNIn
import Derived.LoopIn
import Derived.Laws.BitsAllLaws
import Derived.Test.YtgbnfhfkehpfaaaGreatTopWalshPD
import Derived.Test.YtgbnfhfkehpfaaaGreatTopWalshPA
import Derived.Test.YtgbnfhfkehpfaaaGreatTopWalshPB
import Derived.RangeFuncBox
import Derived.BigQuiet
import Derived.Deep.QuietTactic
import Derived.Deep.RegionLaw
/- The iterator over pairs of indexes that differ in one bit: its contract (layer 1, pairs). -/
namespace Go.Proofs.YtgbnfhfkehpfaaaGreat
open Go.RowKit Go.Shelf
attribute [local go_sem] Oper.semAt_some

theorem i64_or (a b : Nat) (ha : a < 4294967296) (hb : b < 4294967296) : bits .or .i64 (a : Int) (b : Int) = ((a ||| b : Nat) : Int) := by
  have hx : a ||| b < 2 ^ 32 := Nat.or_lt_two_pow (by omega) (by omega)
  show IntKind.i64.wrap ((BitVec.ofInt 64 (a : Int) ||| BitVec.ofInt 64 (b : Int)).toNat : Int) = _
  rw [BitVec.toNat_or, ofInt_u64 a (by omega), ofInt_u64 b (by omega), IntWalk.i64_in _ (by omega)]

abbrev PN (N : Nat) := { p : Nat × Nat // p.1 < p.2 ∧ p.2 < N }
abbrev encP {N : Nat} (x : PN N) : Array Value := #[.int .i64 (x.1.1 : Int), .int .i64 (x.1.2 : Int)]
def pairAt (N bit i : Nat) : Option (PN N) := if h : i &&& bit = 0 ∧ i < i ||| bit ∧ i ||| bit < N then some ⟨(i, i ||| bit), h.2⟩ else none
def pairsTo (N bit k : Nat) : List (PN N) := (List.range k).filterMap (pairAt N bit)
theorem pairsTo_succ (N bit k : Nat) : pairsTo N bit (k + 1) = pairsTo N bit k ++ (pairAt N bit k).toList := by
  simp only [pairsTo, List.range_succ, List.filterMap_append]
  cases h : pairAt N bit k <;> simp [h]
theorem pairsTo_length (N bit k : Nat) : (pairsTo N bit k).length ≤ k := by
  have := List.length_filterMap_le (pairAt N bit) (List.range k)
  simpa [pairsTo] using this
theorem pairsTo_yes {N bit k : Nat} (h : k &&& bit = 0) (hk : k < k ||| bit) (hb : k ||| bit < N) : pairsTo N bit (k + 1) = pairsTo N bit k ++ [⟨(k, k ||| bit), hk, hb⟩] := by
  rw [pairsTo_succ]; simp [pairAt, h, hk, hb]
theorem pairsTo_no {N bit k : Nat} (h : ¬ k &&& bit = 0) : pairsTo N bit (k + 1) = pairsTo N bit k := by
  rw [pairsTo_succ]; simp [pairAt, h]

def keepC (B : Nat) (W W' : World) : Prop := W'.cell? ⟨B, 0, none⟩ = W.cell? ⟨B, 0, none⟩
theorem keepC_t {B : Nat} {A W C : World} (h : keepC B A W) (k : keepC B W C) : keepC B A C := Eq.trans k h
theorem keepC_b {B : Nat} {w : World} (hB : B < w.heap.size) (W : World) (l : Nat) (o o' : Obj) (hl : w.heap.size ≤ l) (_ : W.heap[l]? = some o) (_ : o.isCells = false) (_ : o.isWalk = false) : keepC B W (W.putObj l o') :=
  World.cell?_of_block (World.putObj_heap_other (by show B ≠ l; omega))

set_option maxRecDepth 100000 in
set_option maxHeartbeats 2000000 in
theorem pairs1_in (F : Fence) (n : Nat) (hf : F.fn 93) (hro : F.round = none) (hn : 1 ≤ n) (l B1 B2 N bit : Nat) (hN : N ≤ 65536) (hbit : bit ≤ 65536) (hor : ∀ k, k < N → k &&& bit = 0 → k < k ||| bit ∧ k ||| bit < N) (J Jx : List (PN N) → World → Prop)
    (hY : ∀ pre x W, J pre W → pre.length < N → YieldAt F (n - 1) Tryz.prog l (encP x) W fun e W' =>
      (e = .returned (.bool true) ∧ J (pre ++ [x]) W' ∧ keepC B2 W W') ∨ (e = .returned (.bool false) ∧ Jx (pre ++ [x]) W'))
    (W : World) (hB1 : W.cell? ⟨B1, 0, none⟩ = some (.int .i64 N)) (hB2 : W.cell? ⟨B2, 0, none⟩ = some (.int .i64 bit)) (h0 : J [] W) :
    CallsIn F n Tryz.prog 93 #[.func (.yield l) #[] #[], .pointer (some ⟨B1, 0, none⟩), .pointer (some ⟨B2, 0, none⟩)] W fun e W' => (∃ v, e = .returned v) ∧
      ((∃ ys, ys = pairsTo N bit N ∧ J ys W') ∨ (∃ pre, True ∧ Jx pre W')) := by
  have HO := Lib.hid hor; clear hor
  refine callsIn_of_wp Tryz.func93 rfl hf ?_ hro
  simp only [Tryz.ntmps93, List.size_toArray, List.length_cons, List.length_nil, Nat.reduceAdd, Nat.reduceSub, Array.replicate_succ, Array.replicate_zero, List.push_toArray, List.append_toArray, List.nil_append, List.cons_append]
  gi_wp2
  gi_loopw [6] (fun i wr => ∃ k : Nat, k ≤ N ∧ i = .int .i64 k ∧ J (pairsTo N bit k) wr ∧ wr.cell? ⟨B2, 0, none⟩ = some (.int .i64 bit)) (fun i _ => N - (intOf i).toNat)
  case atStart => exact ⟨0, Nat.zero_le _, rfl, h0, hB2⟩
  case round =>
    obtain ⟨k, hk, rfl, hJs, hc2⟩ := hrel
    by_cases hlt : k < N
    · have ha := i64_and k bit (by omega) (by omega)
      have ho := i64_or k bit (by omega) (by omega)
      by_cases hz : k &&& bit = 0
      · have hz' : (((k &&& bit : Nat) : Int) == 0) = true := by rw [hz]; rfl
        have HZ := Lib.hid hz; clear hz
        obtain ⟨fn, tmps, assign, body, hy, hR⟩ := hY _ ⟨(k, k ||| bit), HO.out k hlt HZ.out⟩ wr hJs (Nat.lt_of_le_of_lt (pairsTo_length _ _ _) hlt)
        dsimp only [encP] at hy
        gi_wp2
        refine hR.mono ?_
        rintro e W3 (⟨rfl, hJ3, hk3⟩ | ⟨rfl, hJx3⟩)
        · have hc3 : W3.cell? ⟨B2, 0, none⟩ = some (.int .i64 bit) := Eq.trans hk3 hc2
          have HK := Lib.hid hk3; clear hk3
          gi_wp2
          go_roundw
          case rel => exact ⟨k + 1, by omega, by simp, by rw [pairsTo_yes HZ.out (HO.out k hlt HZ.out).1 (HO.out k hlt HZ.out).2]; exact hJ3, hc3⟩
          case measure => simp [intOf]; omega
        · gi_wp2
          refine bodyPost_ret (results_none rfl _ _ _) rfl ?_
          exact ⟨⟨_, rfl⟩, .inr ⟨_, trivial, hJx3⟩⟩
      · have hz' : (((k &&& bit : Nat) : Int) == 0) = false := by simp; omega
        have HZ := Lib.hid hz; clear hz
        gi_wp2
        refine ⟨fun _ h => (by cases h), ?_⟩
        gi_wp2
        go_roundw
        case rel => exact ⟨k + 1, by omega, by simp, by rw [pairsTo_no HZ.out]; exact hJs, hc2⟩
        case measure => simp [intOf]; omega
    · obtain rfl : k = N := by omega
      gi_wp2
      go_end0
      exact ⟨⟨_, rfl⟩, .inl ⟨_, rfl, hJs⟩⟩

theorem pairs_any (N bit : Nat) (w : World) :
    Calls Tryz.prog 64 #[.int .i64 N, .int .i64 bit] w fun e w' =>
      e = .returned (.func (.func 93) #[] #[.pointer (some ⟨w.heap.size, 0, none⟩), .pointer (some ⟨w.heap.size + 1, 0, none⟩)]) ∧ w' = (w.alloc (.cells #[.int .i64 N] 3)).alloc (.cells #[.int .i64 bit] 3) := by
  go_enter Tryz.func64, Tryz.ntmps64
  go_wp2
  go_ret
  exact ⟨rfl, rfl⟩

theorem pairs_stops (F : Fence) (n : Nat) (hf : F.fn 93) (hro : F.round = none) (hn : 1 ≤ n) (B1 B2 N bit : Nat) (hN : N ≤ 65536) (hbit : bit ≤ 65536) (hor : ∀ k, k < N → k &&& bit = 0 → k < k ||| bit ∧ k ||| bit < N) (w : World)
    (hB1 : w.cell? ⟨B1, 0, none⟩ = some (.int .i64 N)) (hB2 : w.cell? ⟨B2, 0, none⟩ = some (.int .i64 bit)) :
    SeqStopsK F n Tryz.prog 93 #[.pointer (some ⟨B1, 0, none⟩), .pointer (some ⟨B2, 0, none⟩)] (encP (N := N)) (keepC B2) (fun ys => ys = pairsTo N bit N) (fun _ => True) N w := fun l J Jx W hW _ _ hY h0 =>
  pairs1_in F n hf hro hn l B1 B2 N bit hN hbit hor J Jx hY W ((hW.cell (p := ⟨B1, 0, none⟩) (cell_lt hB1)).trans hB1) ((hW.cell (p := ⟨B2, 0, none⟩) (cell_lt hB2)).trans hB2) h0
end Go.Proofs.YtgbnfhfkehpfaaaGreat
/- The Walsh transform in place: what pic's transformed computes, level by level: a contract. -/
namespace Go.Proofs.YtgbnfhfkehpfaaaGreat
open Go.RowKit Go.Shelf
attribute [local go_sem] Oper.semAt_some

def bfly (ys : List Int) (p : Nat × Nat) : List Int := (ys.set p.1 (IntKind.i64.wrap (ys[p.1]?.getD 0 + ys[p.2]?.getD 0))).set p.2 (IntKind.i64.wrap (ys[p.1]?.getD 0 - ys[p.2]?.getD 0))
def bflies {N : Nat} (ys : List Int) (ps : List (PN N)) : List Int := ps.foldl (fun ys p => bfly ys p.1) ys
def level (N bit : Nat) (ys : List Int) : List Int := bflies ys (pairsTo N bit N)
def walshTo (xs : List Int) : Nat → List Int
  | 0 => xs
  | k + 1 => level xs.length (2 ^ k) (walshTo xs k)
theorem bfly_length (ys : List Int) (p : Nat × Nat) : (bfly ys p).length = ys.length := by simp [bfly]
theorem bflies_length {N : Nat} (ps : List (PN N)) : ∀ ys : List Int, (bflies ys ps).length = ys.length := by
  induction ps with
  | nil => intro ys; rfl
  | cons p ps ih => intro ys; show (bflies (bfly ys p.1) ps).length = _; rw [ih, bfly_length]
theorem bflies_snoc {N : Nat} (ys : List Int) (ps : List (PN N)) (p : PN N) : bflies ys (ps ++ [p]) = bfly (bflies ys ps) p.1 := by simp [bflies]
theorem walshTo_length (xs : List Int) (k : Nat) : (walshTo xs k).length = xs.length := by
  induction k with
  | zero => rfl
  | succ k ih => show (bflies _ _).length = _; rw [bflies_length, ih]

theorem OwnI.putObj {w : World} {base : Nat} {v : Value} {xs : List Int} (h : OwnI w base v xs) {l : Nat} {o : Obj} (o' : Obj) (hl : w.heap[l]? = some o) (ho : o.isCells = false) : OwnI (w.putObj l o') base v xs := ownsRow_putObj h o' hl ho
def swapS (B g i j : Nat) (bv yi yj : Value) (s : Nat) (L : Array Bool) (W : World) : Prop :=
  W.cell? ⟨B, 0, none⟩ = some bv ∧ (L.getD s false = false → W.cell? ⟨g, i, none⟩ = some yi ∧ W.cell? ⟨g, j, none⟩ = some yj)
theorem swapS_set {B g i j : Nat} {bv yi yj : Value} {s k : Nat} (h : k ≠ s) (L : Array Bool) (W : World) : swapS B g i j bv yi yj s (L.setIfInBounds k true) W ↔ swapS B g i j bv yi yj s L W := by
  unfold swapS; rw [getD_set_ne false h]

theorem powB_two {n : Nat} (h : powB n = true) : ∃ p, p ≤ 8 ∧ n = 2 ^ p := by
  simp [powB] at h
  rcases h with (((((((rfl | rfl) | rfl) | rfl) | rfl) | rfl) | rfl) | rfl) | rfl
  · exact ⟨0, by omega, rfl⟩
  · exact ⟨1, by omega, rfl⟩
  · exact ⟨2, by omega, rfl⟩
  · exact ⟨3, by omega, rfl⟩
  · exact ⟨4, by omega, rfl⟩
  · exact ⟨5, by omega, rfl⟩
  · exact ⟨6, by omega, rfl⟩
  · exact ⟨7, by omega, rfl⟩
  · exact ⟨8, by omega, rfl⟩
theorem or_gt : ∀ k : Nat, k < 256 → ∀ m : Nat, m < 8 → k &&& 2 ^ m = 0 → k < k ||| 2 ^ m := by decide +kernel
theorem pairs_ok {n k0 : Nat} (h : powB n = true) (hlt : 2 ^ k0 < n) : ∀ k, k < n → k &&& 2 ^ k0 = 0 → k < k ||| 2 ^ k0 ∧ k ||| 2 ^ k0 < n := by
  intro k hk hz
  obtain ⟨p, hp, rfl⟩ := powB_two h
  have hkp : k0 < p := (Nat.pow_lt_pow_iff_right (by omega)).1 hlt
  have h8 : 2 ^ p ≤ 2 ^ 8 := Nat.pow_le_pow_right (by omega) hp
  exact ⟨or_gt k (by omega) k0 (by omega) hz, Nat.or_lt_two_pow hk hlt⟩
theorem pow_next {n k0 : Nat} (h : powB n = true) (hlt : 2 ^ k0 < n) : 2 ^ (k0 + 1) ≤ n := by
  obtain ⟨p, hp, rfl⟩ := powB_two h
  exact Nat.pow_le_pow_right (by omega) ((Nat.pow_lt_pow_iff_right (by omega)).1 hlt)
theorem pow_end {n k0 : Nat} (hle : 2 ^ k0 ≤ n) (hn : ¬ 2 ^ k0 < n) : n = 2 ^ k0 := by omega

set_option maxRecDepth 100000 in
set_option maxHeartbeats 2000000 in
theorem transformed_in (b off : Nat) (xs : List Int) (cap : Nat) (w : World) (n : Nat) (hn : 4 ≤ n) (hp : powB xs.length = true) (hs : Sl w (some ⟨b, off, none⟩) xs) :
    CallsIn Fence.wide n Tryz.prog 31 #[.slice (some ⟨b, off, none⟩) xs.length cap] w fun e w' =>
      ∃ g cap' k, e = .returned (.slice (some ⟨g, 0, none⟩) xs.length cap') ∧ xs.length = 2 ^ k ∧ OwnI w' w.heap.size (.slice (some ⟨g, 0, none⟩) xs.length cap') (walshTo xs k) ∧ Below w.heap.size w w' := by
  have HS := Lib.hid hs; clear hs
  have hl := powB_le hp
  have h1 : 1 ≤ n := by omega
  refine callsIn_of_wp_marks Tryz.func31 rfl trivial ?_ rfl
  simp only [Tryz.ntmps31, List.size_toArray, List.length_cons, List.length_nil, Nat.reduceAdd, Nat.reduceSub, Array.replicate_succ, Array.replicate_zero, List.push_toArray, List.append_toArray, List.nil_append, List.cons_append]
  gi_wp2_with (refine ⟨trivial, ?_⟩; gi_at_call 63; refine (callsIn_wide.2 (clone_any b off xs cap w (by omega) (by omega) HS.out)).mono ?_; rintro e w1 ⟨g, cap', rfl, ho, hb⟩; have HO := Lib.hid ho; clear ho; have HB := Lib.hid hb; clear hb)
  have hg1 := HO.out.lt
  refine wpIn_loop (fun a' W => ∃ (k : Nat) (bit : Nat) (ms : List Nat) (u5 u6 u9 u10 u11 u12 u13 u14 u15 u16 u17 u18 u19 u20 u21 u22 u23 u24 u25 u26 u27 u28 u29 u30 u31 u32 u33 u34 u35 u36 u37 u38 u39 u40 u41 u42 u43 u44 : Value), a' = { tmps := #[.slice (some ⟨b, off, none⟩) xs.length cap, undef, .slice none 0 0, .pointer (some ⟨w1.heap.size, 0, none⟩), .int .i64 (bit : Nat), u5, u6, .slice (some ⟨b, off, none⟩) xs.length cap, .slice (some ⟨g, 0, none⟩) xs.length cap', u9, u10, u11, u12, u13, u14, u15, u16, u17, u18, u19, u20, u21, u22, u23, u24, u25, u26, u27, u28, u29, u30, u31, u32, u33, u34, u35, u36, u37, u38, u39, u40, u41, u42, u43, u44, undef], defers := ms.map mark } ∧ bit = 2 ^ k ∧ bit ≤ xs.length ∧ OwnI W w.heap.size (.slice (some ⟨g, 0, none⟩) xs.length cap') (walshTo xs k) ∧ Below w.heap.size w W ∧ W.cell? ⟨w1.heap.size, 0, none⟩ = some (.slice (some ⟨g, 0, none⟩) xs.length cap') ∧ Marks w.heap.size ms W)
    (fun a' _ => 512 - (intOf (a'.tmps.getD 4 undef)).toNat) ?start ?round
  case start =>
    exact ⟨0, 1, [], _, _, _, _, _, _, _, _, _, _, _, _, _, _, _, _, _, _, _, _, _, _, _, _, _, _, _, _, _, _, _, _, _, _, _, _, _, _, rfl, rfl, hl.1, HO.out.below ((Below.refl _ _).alloc (Nat.le_refl _) _), HB.out.trans (((Below.refl _ _).alloc HB.out.size _)), by simp, ⟨List.nodup_nil, fun D hD => by cases hD⟩⟩
  case round =>
    rintro a' W ⟨k, bit, ms, u5, u6, u9, u10, u11, u12, u13, u14, u15, u16, u17, u18, u19, u20, u21, u22, u23, u24, u25, u26, u27, u28, u29, u30, u31, u32, u33, u34, u35, u36, u37, u38, u39, u40, u41, u42, u43, u44, rfl, hbit, hbl, hO, hB, hc, hM⟩
    have HBit := Lib.hid hbit; clear hbit
    have HO := Lib.hid hO; clear hO
    have HB := Lib.hid hB; clear hB
    have HM := Lib.hid hM; clear hM
    have hgW := HO.out.lt
    have hbW := cell_lt hc
    by_cases hlt : bit < xs.length
    · gi_wp2_with (refine ⟨trivial, ?_⟩; gi_at_call 64; refine (callsIn_wide.2 (pairs_any xs.length bit W)).mono ?_; rintro e w2 ⟨rfl, rfl⟩)
      obtain ⟨V0, hV0⟩ : ∃ V0, (W.alloc (.cells #[.int .i64 (xs.length : Nat)] 3)).alloc (.cells #[.int .i64 (bit : Nat)] 3) = V0 := ⟨_, rfl⟩
      have hsz : V0.heap.size = W.heap.size + 2 := by rw [← hV0]; simp
      have hc1 : V0.cell? ⟨W.heap.size, 0, none⟩ = some (.int .i64 xs.length) := by rw [← hV0]; simp
      have hc2 : V0.cell? ⟨W.heap.size + 1, 0, none⟩ = some (.int .i64 bit) := by rw [← hV0]; simp
      have hBV : Below W.heap.size W V0 := by rw [← hV0]; exact ((Below.refl _ _).alloc (Nat.le_refl _) _).alloc (by simp) _
      rw [hV0]
      have hor : ∀ k, k < xs.length → k &&& bit = 0 → k < k ||| bit ∧ k ||| bit < xs.length := by rw [HBit.out]; exact pairs_ok hp (HBit.out ▸ hlt)
      have hI0 : OwnI V0 w.heap.size (.slice (some ⟨g, 0, none⟩) xs.length cap') (walshTo xs k) := HO.out.below hBV
      have hbox := (hBV.cell (p := ⟨w1.heap.size, 0, none⟩) (cell_lt hc)).trans hc
      have hBw : Below w.heap.size w V0 := HB.out.trans (hBV.mono HB.out.size)
      have hMs : Marks w.heap.size ms V0 := HM.out.kept (fun D hD => hBV.block D (HM.out.lt hD))
      refine wpIn_rangeFunc_ownF rfl h1 (gf := 93) (lb := #[.pointer (some ⟨W.heap.size, 0, none⟩), .pointer (some ⟨W.heap.size + 1, 0, none⟩)]) rfl trivial (enters_of Tryz.func93 (by kernel_rfl) rfl)
        (pairs_stops Fence.wide (n - 1) trivial rfl (by omega) W.heap.size (W.heap.size + 1) xs.length bit (by omega) (by omega) hor V0 hc1 hc2) keepC_t (keepC_b (by omega)) (Below.refl _ _) (fun _ => rfl)
        (fun pre V => OwnI V w.heap.size (.slice (some ⟨g, 0, none⟩) xs.length cap') (bflies (walshTo xs k) pre) ∧ V.cell? ⟨w1.heap.size, 0, none⟩ = some (.slice (some ⟨g, 0, none⟩) xs.length cap') ∧ Below w.heap.size w V ∧ Marks w.heap.size ms V)
        (fun _ _ _ => False) ?hI (fun _ _ _ _ _ hs _ _ => hs) ⟨hI0, hbox, hBw, hMs⟩
        (fun x => { tmps := #[Value.slice (some { block := b, off := off }) xs.length cap, undef, Value.slice none 0 0, Value.pointer (some { block := w1.heap.size, off := 0 }), Value.int IntKind.i64 ↑bit, .int .i64 (x.1.1 : Int), .int .i64 (x.1.2 : Int), Value.slice (some { block := b, off := off }) xs.length cap, Value.slice (some { block := g, off := 0 }) xs.length cap', Value.int IntKind.i64 ↑bit, Value.slice (some { block := g, off := 0 }) xs.length cap', Value.int IntKind.i64 ↑xs.length, Value.bool true, u13, u14, Value.slice (some { block := g, off := 0 }) xs.length cap', Value.int IntKind.i64 ↑xs.length, Value.int IntKind.i64 ↑bit, Value.func (Fn.func 93) #[] #[Value.pointer (some { block := W.heap.size, off := 0 }), Value.pointer (some { block := W.heap.size + 1, off := 0 })], .int .i64 (x.1.1 : Int), .int .i64 (x.1.2 : Int), u21, u22, u23, u24, u25, u26, u27, u28, u29, u30, u31, u32, u33, u34, u35, u36, u37, u38, u39, u40, u41, u42, u43, u44, undef], defers := [] }) ?assign ?body ?done ?stop
      case hI =>
        intro pre A C row hs hg hr
        obtain ⟨q1, q2, q3, q4⟩ := hs
        refine ⟨q1.kept hg ?_, cell_kept q2 hg (fun r e => (hr r e).2), q3.grown hg (by have := q3.size; omega) (fun r e => by have := (hr r e).1; have := HB.out.size; omega), q4.kept (fun D hD => hg.block D (q4.lt hD) (fun e => ?_))⟩
        · right
          intro e
          have := (hr g e.symm).1
          omega
        · have h1 := (hr D e.symm).1
          have h2 := HM.out.lt hD
          omega
      case stop => rintro D c pre V _ _ h _; exact h.elim
      case assign =>
        intro l x V K hK
        gi_wp2
        exact hK
      case body =>
        rintro l pre x V ⟨hO, hbx, hBl, hMk⟩ _
        obtain ⟨⟨i, j⟩, hi, hj⟩ := x
        have hsn := bflies_snoc (walshTo xs k) pre ⟨(i, j), hi, hj⟩
        have hln : (bflies (walshTo xs k) pre).length = xs.length := by rw [bflies_length, walshTo_length]
        dsimp only at hi hj
        obtain ⟨ci, fi⟩ := hO.cell (j := i) (by omega)
        obtain ⟨cj, fj⟩ := hO.cell (j := j) (by omega)
        have hgV := hO.lt
        rw [show bfly (bflies (walshTo xs k) pre) (i, j) = ((bflies (walshTo xs k) pre).set i (IntKind.i64.wrap ((bflies (walshTo xs k) pre)[i]?.getD 0 + (bflies (walshTo xs k) pre)[j]?.getD 0))).set j (IntKind.i64.wrap ((bflies (walshTo xs k) pre)[i]?.getD 0 - (bflies (walshTo xs k) pre)[j]?.getD 0)) from rfl] at hsn
        have HSN := Lib.hid hsn; clear hsn
        generalize (bflies (walshTo xs k) pre)[i]?.getD 0 = yi at ci HSN
        generalize (bflies (walshTo xs k) pre)[j]?.getD 0 = yj at cj HSN
        have H1 := Lib.hid hO; clear hO
        have H2 := Lib.hid hBl; clear hBl
        have H3 := Lib.hid hMk; clear hMk
        clear hbl hc hc1 hc2 hBV hI0 hbox hBw hMs hsz hV0 hln hor
        have hne : ¬ i = j := by omega
        have hne' : ¬ j = i := by omega
        have hil : i < xs.length := by omega
        have hgb : ¬ g = w1.heap.size := by omega
        have hgb' : ¬ w1.heap.size = g := by omega
        gi_wp2
        refine wpIn_region_G_round (S := swapS w1.heap.size g i j (.slice (some ⟨g, 0, none⟩) xs.length cap') (.int .i64 yi) (.int .i64 yj) 23) (by kernel_rfl) (by kernel_rfl) ?hq ⟨hbx, fun _ => ⟨ci, cj⟩⟩ (fun hc hS => ?_)
        case hq => rintro ⟨_, _, h⟩; exact h
        refine wpAnyG_take (i := 0) (oi := ?oi0) (v := ?v0) ?hi0 (by kernel_rfl) (by kernel_rfl) (by kernel_rfl) ?hQ0 (swapS_set (by decide)) hc ?hy0 hS ?rest0
        case hi0 => (simp only [List.getElem?_toArray, List.getElem?_cons_zero]; exact rfl)
        case hQ0 => exact fun _ _ _ h => h
        case hy0 => (refine Or.inl ⟨rfl, ?_⟩; (rintro w ⟨L, _, _, hb, _⟩; go_simp; (try with_reducible rfl)))
        clear hc hS; intro hc hS
        simp only [Act.put, List.setIfInBounds_toArray, List.set_cons_zero, List.set_cons_succ]
        refine wpAnyG_take (i := 1) (oi := ?oi1) (v := ?v1) ?hi1 (by kernel_rfl) (by kernel_rfl) (by kernel_rfl) ?hQ1 (swapS_set (by decide)) hc ?hy1 hS ?rest1
        case hi1 => (simp only [List.getElem?_toArray, List.getElem?_cons_succ, List.getElem?_cons_zero]; exact rfl)
        case hQ1 => exact fun _ _ _ h => h
        case hy1 => (refine Or.inl ⟨rfl, ?_⟩; (intro w _; go_simp; (try with_reducible rfl)))
        clear hc hS; intro hc hS
        simp only [Act.put, List.setIfInBounds_toArray, List.set_cons_zero, List.set_cons_succ]
        refine wpAnyG_take (i := 2) (oi := ?oi2) (v := ?v2) ?hi2 (by kernel_rfl) (by kernel_rfl) (by kernel_rfl) ?hQ2 (swapS_set (by decide)) hc ?hy2 hS ?rest2
        case hi2 => (simp only [List.getElem?_toArray, List.getElem?_cons_succ, List.getElem?_cons_zero]; exact rfl)
        case hQ2 => exact fun _ _ _ h => h
        case hy2 => (refine Or.inl ⟨rfl, ?_⟩; (rintro w ⟨L, _, _, hb, _⟩; go_simp; (try with_reducible rfl)))
        clear hc hS; intro hc hS
        simp only [Act.put, List.setIfInBounds_toArray, List.set_cons_zero, List.set_cons_succ]
        refine wpAnyG_take (i := 3) (oi := ?oi3) (v := ?v3) ?hi3 (by kernel_rfl) (by kernel_rfl) (by kernel_rfl) ?hQ3 (swapS_set (by decide)) hc ?hy3 hS ?rest3
        case hi3 => (simp only [List.getElem?_toArray, List.getElem?_cons_succ, List.getElem?_cons_zero]; exact rfl)
        case hQ3 => exact fun _ _ _ h => h
        case hy3 => (refine Or.inl ⟨rfl, ?_⟩; (intro w _; go_simp; (try with_reducible rfl)))
        clear hc hS; intro hc hS
        simp only [Act.put, List.setIfInBounds_toArray, List.set_cons_zero, List.set_cons_succ]
        refine wpAnyG_take (i := 4) (oi := ?oi4) (v := ?v4) ?hi4 (by kernel_rfl) (by kernel_rfl) (by kernel_rfl) ?hQ4 (swapS_set (by decide)) hc ?hy4 hS ?rest4
        case hi4 => (simp only [List.getElem?_toArray, List.getElem?_cons_succ, List.getElem?_cons_zero]; exact rfl)
        case hQ4 => exact fun _ _ _ h => h
        case hy4 => (refine Or.inl ⟨rfl, ?_⟩; (rintro w ⟨L, _, _, hb, _⟩; go_simp; (try with_reducible rfl)))
        clear hc hS; intro hc hS
        simp only [Act.put, List.setIfInBounds_toArray, List.set_cons_zero, List.set_cons_succ]
        refine wpAnyG_take (i := 5) (oi := ?oi5) (v := ?v5) ?hi5 (by kernel_rfl) (by kernel_rfl) (by kernel_rfl) ?hQ5 (swapS_set (by decide)) hc ?hy5 hS ?rest5
        case hi5 => (simp only [List.getElem?_toArray, List.getElem?_cons_succ, List.getElem?_cons_zero]; exact rfl)
        case hQ5 => exact fun _ _ _ h => h
        case hy5 => (refine Or.inl ⟨rfl, ?_⟩; (intro w _; go_simp; (try with_reducible rfl)))
        clear hc hS; intro hc hS
        simp only [Act.put, List.setIfInBounds_toArray, List.set_cons_zero, List.set_cons_succ]
        refine wpAnyG_take (i := 6) (oi := ?oi6) (v := ?v6) ?hi6 (by kernel_rfl) (by kernel_rfl) (by kernel_rfl) ?hQ6 (swapS_set (by decide)) hc ?hy6 hS ?rest6
        case hi6 => (simp only [List.getElem?_toArray, List.getElem?_cons_succ, List.getElem?_cons_zero]; exact rfl)
        case hQ6 => exact fun _ _ _ h => h
        case hy6 => (refine Or.inl ⟨rfl, ?_⟩; (intro w _; go_simp; (try with_reducible rfl)))
        clear hc hS; intro hc hS
        simp only [Act.put, List.setIfInBounds_toArray, List.set_cons_zero, List.set_cons_succ]
        refine wpAnyG_take (i := 7) (oi := ?oi7) (v := ?v7) ?hi7 (by kernel_rfl) (by kernel_rfl) (by kernel_rfl) ?hQ7 (swapS_set (by decide)) hc ?hy7 hS ?rest7
        case hi7 => (simp only [List.getElem?_toArray, List.getElem?_cons_succ, List.getElem?_cons_zero]; exact rfl)
        case hQ7 => exact fun _ _ _ h => h
        case hy7 => (refine Or.inl ⟨rfl, ?_⟩; (rintro w ⟨L, hsd, hL, _, hcl⟩; obtain ⟨c1, c2⟩ := hcl (hsd.not (i := 7) (by kernel_rfl) hL); clear hcl; go_simp; (try with_reducible rfl)))
        clear hc hS; intro hc hS
        simp only [Act.put, List.setIfInBounds_toArray, List.set_cons_zero, List.set_cons_succ]
        refine wpAnyG_take (i := 8) (oi := ?oi8) (v := ?v8) ?hi8 (by kernel_rfl) (by kernel_rfl) (by kernel_rfl) ?hQ8 (swapS_set (by decide)) hc ?hy8 hS ?rest8
        case hi8 => (simp only [List.getElem?_toArray, List.getElem?_cons_succ, List.getElem?_cons_zero]; exact rfl)
        case hQ8 => exact fun _ _ _ h => h
        case hy8 => (refine Or.inl ⟨rfl, ?_⟩; (rintro w ⟨L, _, _, hb, _⟩; go_simp; (try with_reducible rfl)))
        clear hc hS; intro hc hS
        simp only [Act.put, List.setIfInBounds_toArray, List.set_cons_zero, List.set_cons_succ]
        refine wpAnyG_take (i := 9) (oi := ?oi9) (v := ?v9) ?hi9 (by kernel_rfl) (by kernel_rfl) (by kernel_rfl) ?hQ9 (swapS_set (by decide)) hc ?hy9 hS ?rest9
        case hi9 => (simp only [List.getElem?_toArray, List.getElem?_cons_succ, List.getElem?_cons_zero]; exact rfl)
        case hQ9 => exact fun _ _ _ h => h
        case hy9 => (refine Or.inl ⟨rfl, ?_⟩; (intro w _; go_simp; (try with_reducible rfl)))
        clear hc hS; intro hc hS
        simp only [Act.put, List.setIfInBounds_toArray, List.set_cons_zero, List.set_cons_succ]
        refine wpAnyG_take (i := 10) (oi := ?oi10) (v := ?v10) ?hi10 (by kernel_rfl) (by kernel_rfl) (by kernel_rfl) ?hQ10 (swapS_set (by decide)) hc ?hy10 hS ?rest10
        case hi10 => (simp only [List.getElem?_toArray, List.getElem?_cons_succ, List.getElem?_cons_zero]; exact rfl)
        case hQ10 => exact fun _ _ _ h => h
        case hy10 => (refine Or.inl ⟨rfl, ?_⟩; (intro w _; go_simp; (try with_reducible rfl)))
        clear hc hS; intro hc hS
        simp only [Act.put, List.setIfInBounds_toArray, List.set_cons_zero, List.set_cons_succ]
        refine wpAnyG_take (i := 11) (oi := ?oi11) (v := ?v11) ?hi11 (by kernel_rfl) (by kernel_rfl) (by kernel_rfl) ?hQ11 (swapS_set (by decide)) hc ?hy11 hS ?rest11
        case hi11 => (simp only [List.getElem?_toArray, List.getElem?_cons_succ, List.getElem?_cons_zero]; exact rfl)
        case hQ11 => exact fun _ _ _ h => h
        case hy11 => (refine Or.inl ⟨rfl, ?_⟩; (rintro w ⟨L, hsd, hL, _, hcl⟩; obtain ⟨c1, c2⟩ := hcl (hsd.not (i := 11) (by kernel_rfl) hL); clear hcl; go_simp; (try with_reducible rfl)))
        clear hc hS; intro hc hS
        simp only [Act.put, List.setIfInBounds_toArray, List.set_cons_zero, List.set_cons_succ]
        refine wpAnyG_take (i := 12) (oi := ?oi12) (v := ?v12) ?hi12 (by kernel_rfl) (by kernel_rfl) (by kernel_rfl) ?hQ12 (swapS_set (by decide)) hc ?hy12 hS ?rest12
        case hi12 => (simp only [List.getElem?_toArray, List.getElem?_cons_succ, List.getElem?_cons_zero]; exact rfl)
        case hQ12 => exact fun _ _ _ h => h
        case hy12 => (refine Or.inl ⟨rfl, ?_⟩; (intro w _; go_simp; (try with_reducible rfl)))
        clear hc hS; intro hc hS
        simp only [Act.put, List.setIfInBounds_toArray, List.set_cons_zero, List.set_cons_succ]
        refine wpAnyG_take (i := 13) (oi := ?oi13) (v := ?v13) ?hi13 (by kernel_rfl) (by kernel_rfl) (by kernel_rfl) ?hQ13 (swapS_set (by decide)) hc ?hy13 hS ?rest13
        case hi13 => (simp only [List.getElem?_toArray, List.getElem?_cons_succ, List.getElem?_cons_zero]; exact rfl)
        case hQ13 => exact fun _ _ _ h => h
        case hy13 => (refine Or.inl ⟨rfl, ?_⟩; (rintro w ⟨L, _, _, hb, _⟩; go_simp; (try with_reducible rfl)))
        clear hc hS; intro hc hS
        simp only [Act.put, List.setIfInBounds_toArray, List.set_cons_zero, List.set_cons_succ]
        refine wpAnyG_take (i := 14) (oi := ?oi14) (v := ?v14) ?hi14 (by kernel_rfl) (by kernel_rfl) (by kernel_rfl) ?hQ14 (swapS_set (by decide)) hc ?hy14 hS ?rest14
        case hi14 => (simp only [List.getElem?_toArray, List.getElem?_cons_succ, List.getElem?_cons_zero]; exact rfl)
        case hQ14 => exact fun _ _ _ h => h
        case hy14 => (refine Or.inl ⟨rfl, ?_⟩; (intro w _; go_simp; (try with_reducible rfl)))
        clear hc hS; intro hc hS
        simp only [Act.put, List.setIfInBounds_toArray, List.set_cons_zero, List.set_cons_succ]
        refine wpAnyG_take (i := 15) (oi := ?oi15) (v := ?v15) ?hi15 (by kernel_rfl) (by kernel_rfl) (by kernel_rfl) ?hQ15 (swapS_set (by decide)) hc ?hy15 hS ?rest15
        case hi15 => (simp only [List.getElem?_toArray, List.getElem?_cons_succ, List.getElem?_cons_zero]; exact rfl)
        case hQ15 => exact fun _ _ _ h => h
        case hy15 => (refine Or.inl ⟨rfl, ?_⟩; (intro w _; go_simp; (try with_reducible rfl)))
        clear hc hS; intro hc hS
        simp only [Act.put, List.setIfInBounds_toArray, List.set_cons_zero, List.set_cons_succ]
        refine wpAnyG_take (i := 16) (oi := ?oi16) (v := ?v16) ?hi16 (by kernel_rfl) (by kernel_rfl) (by kernel_rfl) ?hQ16 (swapS_set (by decide)) hc ?hy16 hS ?rest16
        case hi16 => (simp only [List.getElem?_toArray, List.getElem?_cons_succ, List.getElem?_cons_zero]; exact rfl)
        case hQ16 => exact fun _ _ _ h => h
        case hy16 => (refine Or.inl ⟨rfl, ?_⟩; (rintro w ⟨L, hsd, hL, _, hcl⟩; obtain ⟨c1, c2⟩ := hcl (hsd.not (i := 16) (by kernel_rfl) hL); clear hcl; go_simp; (try with_reducible rfl)))
        clear hc hS; intro hc hS
        simp only [Act.put, List.setIfInBounds_toArray, List.set_cons_zero, List.set_cons_succ]
        refine wpAnyG_take (i := 17) (oi := ?oi17) (v := ?v17) ?hi17 (by kernel_rfl) (by kernel_rfl) (by kernel_rfl) ?hQ17 (swapS_set (by decide)) hc ?hy17 hS ?rest17
        case hi17 => (simp only [List.getElem?_toArray, List.getElem?_cons_succ, List.getElem?_cons_zero]; exact rfl)
        case hQ17 => exact fun _ _ _ h => h
        case hy17 => (refine Or.inl ⟨rfl, ?_⟩; (rintro w ⟨L, _, _, hb, _⟩; go_simp; (try with_reducible rfl)))
        clear hc hS; intro hc hS
        simp only [Act.put, List.setIfInBounds_toArray, List.set_cons_zero, List.set_cons_succ]
        refine wpAnyG_take (i := 18) (oi := ?oi18) (v := ?v18) ?hi18 (by kernel_rfl) (by kernel_rfl) (by kernel_rfl) ?hQ18 (swapS_set (by decide)) hc ?hy18 hS ?rest18
        case hi18 => (simp only [List.getElem?_toArray, List.getElem?_cons_succ, List.getElem?_cons_zero]; exact rfl)
        case hQ18 => exact fun _ _ _ h => h
        case hy18 => (refine Or.inl ⟨rfl, ?_⟩; (intro w _; go_simp; (try with_reducible rfl)))
        clear hc hS; intro hc hS
        simp only [Act.put, List.setIfInBounds_toArray, List.set_cons_zero, List.set_cons_succ]
        refine wpAnyG_take (i := 19) (oi := ?oi19) (v := ?v19) ?hi19 (by kernel_rfl) (by kernel_rfl) (by kernel_rfl) ?hQ19 (swapS_set (by decide)) hc ?hy19 hS ?rest19
        case hi19 => (simp only [List.getElem?_toArray, List.getElem?_cons_succ, List.getElem?_cons_zero]; exact rfl)
        case hQ19 => exact fun _ _ _ h => h
        case hy19 => (refine Or.inl ⟨rfl, ?_⟩; (intro w _; go_simp; (try with_reducible rfl)))
        clear hc hS; intro hc hS
        simp only [Act.put, List.setIfInBounds_toArray, List.set_cons_zero, List.set_cons_succ]
        refine wpAnyG_take (i := 20) (oi := ?oi20) (v := ?v20) ?hi20 (by kernel_rfl) (by kernel_rfl) (by kernel_rfl) ?hQ20 (swapS_set (by decide)) hc ?hy20 hS ?rest20
        case hi20 => (simp only [List.getElem?_toArray, List.getElem?_cons_succ, List.getElem?_cons_zero]; exact rfl)
        case hQ20 => exact fun _ _ _ h => h
        case hy20 => (refine Or.inl ⟨rfl, ?_⟩; (rintro w ⟨L, hsd, hL, _, hcl⟩; obtain ⟨c1, c2⟩ := hcl (hsd.not (i := 20) (by kernel_rfl) hL); clear hcl; go_simp; (try with_reducible rfl)))
        clear hc hS; intro hc hS
        simp only [Act.put, List.setIfInBounds_toArray, List.set_cons_zero, List.set_cons_succ]
        refine wpAnyG_take (i := 21) (oi := ?oi21) (v := ?v21) ?hi21 (by kernel_rfl) (by kernel_rfl) (by kernel_rfl) ?hQ21 (swapS_set (by decide)) hc ?hy21 hS ?rest21
        case hi21 => (simp only [List.getElem?_toArray, List.getElem?_cons_succ, List.getElem?_cons_zero]; exact rfl)
        case hQ21 => exact fun _ _ _ h => h
        case hy21 => (refine Or.inl ⟨rfl, ?_⟩; (intro w _; go_simp; (try with_reducible rfl)))
        clear hc hS; intro hc hS
        simp only [Act.put, List.setIfInBounds_toArray, List.set_cons_zero, List.set_cons_succ]
        refine wpAnyG_take (i := 22) (oi := ?oi22) (v := ?v22) ?hi22 (by kernel_rfl) (by kernel_rfl) (by kernel_rfl) ?hQ22 (swapS_set (by decide)) hc ?hy22 hS ?rest22
        case hi22 => (simp only [List.getElem?_toArray, List.getElem?_cons_succ, List.getElem?_cons_zero]; exact rfl)
        case hQ22 => exact fun _ _ _ h => h
        case hy22 => (refine Or.inl ⟨rfl, ?_⟩; (intro w _; go_simp; (try with_reducible rfl)))
        clear hc hS; intro hc hS
        simp only [Act.put, List.setIfInBounds_toArray, List.set_cons_zero, List.set_cons_succ]
        refine wpAnyG_only (i := 23) (o := ?oi23) (by kernel_rfl) ?hi23 hc ?rest23
        case hi23 => (simp only [List.getElem?_toArray, List.getElem?_cons_succ, List.getElem?_cons_zero]; exact rfl)
        clear hc; intro hc K hK; have HK := Lib.hid hK; clear hK
        go_simp
        refine HK.out _ _ ⟨by go_simp, fun h => by simp at h⟩ ?_
        clear HK K hS; intro hS
        refine wpAnyG_take (i := 24) (oi := ?oi24) (v := ?v24) ?hi24 (by kernel_rfl) (by kernel_rfl) (by kernel_rfl) ?hQ24 (swapS_set (by decide)) hc ?hy24 hS ?rest24
        case hi24 => (simp only [List.getElem?_toArray, List.getElem?_cons_succ, List.getElem?_cons_zero]; exact rfl)
        case hQ24 => exact fun _ _ _ h => h
        case hy24 => (refine Or.inl ⟨rfl, ?_⟩; (intro w _; go_simp; (try with_reducible rfl)))
        clear hc hS; intro hc hS
        simp only [Act.put, List.setIfInBounds_toArray, List.set_cons_zero, List.set_cons_succ]
        refine wpAnyG_only (i := 25) (o := ?oi25) (by kernel_rfl) ?hi25 hc ?rest25
        case hi25 => (simp only [List.getElem?_toArray, List.getElem?_cons_succ, List.getElem?_cons_zero]; exact rfl)
        clear hc; intro hc K hK; have HK := Lib.hid hK; clear hK
        go_simp
        refine HK.out _ _ ⟨by go_simp, fun h => by simp at h⟩ ?_
        clear HK K hS; intro hS
        refine wpAnyG_done (by kernel_rfl) ?_ _
        have h1 := H1.out
        have ho := ((h1.stored i (IntKind.i64.wrap (yi + yj))).stored j (IntKind.i64.wrap (yi - yj))).drew
        rw [← HSN.out] at ho
        have hko : KeepsOthers V (((V.setCell ⟨g, i, none⟩ (.int .i64 (IntKind.i64.wrap (yi + yj)))).setCell ⟨g, j, none⟩ (.int .i64 (IntKind.i64.wrap (yi - yj)))).drew) := ((KeepsOthers.setCell _ _ _).trans (KeepsOthers.setCell _ _ _)).trans (KeepsOthers.drew _)
        refine ⟨hko, ?_, ho, hS.1, ((H2.out.setCell (p := ⟨g, i, none⟩) hgV.2 _).setCell (p := ⟨g, j, none⟩) hgV.2 _).drew, H3.out.others hko⟩
        show World.cell? _ _ = _
        go_simp
      case done =>
        rintro D ys V hD rfl ⟨hO2, hbx, hBl, hMk⟩ hK
        have hO3 : OwnI V w.heap.size (.slice (some ⟨g, 0, none⟩) xs.length cap') (walshTo xs (k + 1)) := by
          show OwnI V _ _ (level xs.length (2 ^ k) (walshTo xs k))
          rw [← HBit.out]; exact hO2
        have hb2 : bit * 2 = 2 ^ (k + 1) := by rw [HBit.out, Nat.pow_succ]
        have hb1 : 1 ≤ bit := by rw [HBit.out]; exact Nat.one_le_two_pow
        have hb3 : bit * 2 ≤ xs.length := by rw [hb2]; exact pow_next hp (HBit.out ▸ hlt)
        have hM3 : Marks w.heap.size (D :: ms) V := ⟨List.nodup_cons.2 ⟨fun hm => by have := HM.out.lt hm; omega, hMk.1⟩, fun E hE => by
          rcases List.mem_cons.1 hE with rfl | hE
          · exact ⟨by have := HB.out.size; omega, hK⟩
          · exact hMk.2 E hE⟩
        have X1 := Lib.hid hO2; clear hO2
        have X2 := Lib.hid hO3; clear hO3
        have X3 := Lib.hid hb2; clear hb2
        have X4 := Lib.hid hM3; clear hM3
        have X5 := Lib.hid hMk; clear hMk
        have X6 := Lib.hid hBl; clear hBl
        have X7 := Lib.hid hK; clear hK
        clear hc1 hc2 hBV hI0 hbox hBw hMs hV0 hor
        gi_wp2
        refine ⟨?_, ?_⟩
        · refine ⟨k + 1, bit * 2, D :: ms, ?_⟩
          (repeat apply Exists.intro)
          refine ⟨?_, X3.out, hb3, X2.out, X6.out, hbx, X4.out⟩
          simp only [List.map_cons, mark]
          congr 1
        · simp [intOf]; omega
    · have HXK := Lib.hid (pow_end (k0 := k) (n := xs.length) (by rw [← HBit.out]; exact hbl) (by rw [← HBit.out]; exact hlt))
      gi_wp2
      refine leaves_marks (B := w.heap.size) (fun W' => OwnI W' w.heap.size (.slice (some ⟨g, 0, none⟩) xs.length cap') (walshTo xs k) ∧ Below w.heap.size w W') ?_ ?_ ms W HM.out ⟨HO.out, HB.out⟩
      · rintro V D hD hV ⟨q1, q2⟩
        have hsz := q2.size
        exact ⟨q1.putObj _ hV rfl, q2.grown (grownBy_putObj' V D _) hsz (fun r e => by cases e; exact hD)⟩
      · rintro V ⟨q1, q2⟩
        exact ⟨_, results_tmp rfl _ _ _, g, cap', rfl, k, HXK.out, q1, q2⟩

theorem transformed_any (b off : Nat) (xs : List Int) (cap : Nat) (w : World) (hp : powB xs.length = true) (hs : Sl w (some ⟨b, off, none⟩) xs) :
    Calls Tryz.prog 31 #[.slice (some ⟨b, off, none⟩) xs.length cap] w fun e w' =>
      ∃ g cap' k, e = .returned (.slice (some ⟨g, 0, none⟩) xs.length cap') ∧ xs.length = 2 ^ k ∧ OwnI w' w.heap.size (.slice (some ⟨g, 0, none⟩) xs.length cap') (walshTo xs k) ∧ Below w.heap.size w w' :=
  callsIn_wide.1 (transformed_in b off xs cap w 4 (by omega) hp hs)
end Go.Proofs.YtgbnfhfkehpfaaaGreat
/- The transform behind all levels as a function of indexes: undone by itself, its squares; plain facts that speak of no program. -/
namespace Go.Proofs.YtgbnfhfkehpfaaaGreat
open Go.RowKit

def Bk (k : Nat) (f : Nat → Int) (i : Nat) : Int := if i.testBit k then f (i ^^^ 2 ^ k) - f i else f i + f (i ^^^ 2 ^ k)
def Wf (f : Nat → Int) : Nat → Nat → Int
  | 0 => f
  | k + 1 => Bk k (Wf f k)
theorem tb_same (i k : Nat) : (i ^^^ 2 ^ k).testBit k = !i.testBit k := by simp [Nat.testBit_xor]
theorem xx (i b : Nat) : i ^^^ b ^^^ b = i := by rw [Nat.xor_assoc, Nat.xor_self, Nat.xor_zero]
theorem xc (i a b : Nat) : i ^^^ a ^^^ b = i ^^^ b ^^^ a := by rw [Nat.xor_assoc, Nat.xor_comm a b, Nat.xor_assoc]
theorem xor_lt {p k i : Nat} (hk : k < p) (h : i < 2 ^ p) : i ^^^ 2 ^ k < 2 ^ p := Nat.xor_lt_two_pow h (Nat.pow_lt_pow_right (by omega) hk)
theorem bit_facts : ∀ k, k < 8 → ∀ i, i < 256 → (i.testBit k = !decide (i &&& 2 ^ k = 0)) ∧ (i &&& 2 ^ k = 0 → i ||| 2 ^ k = i ^^^ 2 ^ k ∧ i < i ^^^ 2 ^ k) := by decide +kernel
theorem pair_yes {p k i : Nat} (hp : p < 9) (hk : k < p) (hi : i < 2 ^ p) (h : i.testBit k = false) : ∃ q, pairAt (2 ^ p) (2 ^ k) i = some q ∧ q.1 = (i, i ^^^ 2 ^ k) := by
  have hp8 : 2 ^ p ≤ 2 ^ 8 := Nat.pow_le_pow_right (by omega) (by omega)
  obtain ⟨h1, h2⟩ := bit_facts k (by omega) i (by omega)
  have h0 : i &&& 2 ^ k = 0 := by rw [h] at h1; simpa using h1.symm
  obtain ⟨h3, h4⟩ := h2 h0
  have h5 := xor_lt hk hi
  unfold pairAt
  rw [dif_pos ⟨h0, by omega, by omega⟩]
  exact ⟨_, rfl, by rw [← h3]⟩
theorem pair_no {p k i : Nat} (hp : p < 9) (hk : k < p) (hi : i < 2 ^ p) (h : i.testBit k = true) : pairAt (2 ^ p) (2 ^ k) i = none := by
  have hp8 : 2 ^ p ≤ 2 ^ 8 := Nat.pow_le_pow_right (by omega) (by omega)
  obtain ⟨h1, h2⟩ := bit_facts k (by omega) i (by omega)
  unfold pairAt
  rw [dif_neg]
  rintro ⟨h0, _⟩
  rw [h, h0] at h1
  simp at h1
def low (k i : Nat) : Nat := if i.testBit k then i ^^^ 2 ^ k else i
theorem level_part {p k : Nat} (hp : p < 9) (hk : k < p) (ys : List Int) (hy : ys.length = 2 ^ p) : ∀ n, n ≤ 2 ^ p → ∀ i, i < 2 ^ p →
    gt (bflies ys (pairsTo (2 ^ p) (2 ^ k) n)) i = if low k i < n then IntKind.i64.wrap (Bk k (gt ys) i) else gt ys i
  | 0, _, i, _ => by simp [pairsTo, bflies]
  | n + 1, hn, i, hi => by
    have ih := level_part hp hk ys hy n (by omega)
    cases hb : n.testBit k
    · obtain ⟨q, hq, hq1⟩ := pair_yes hp hk (show n < 2 ^ p by omega) hb
      have hx := xor_lt hk (show n < 2 ^ p by omega)
      have hne : n ^^^ 2 ^ k ≠ n := fun e => by have := tb_same n k; rw [e] at this; simp at this
      have l1 : low k n = n := by simp [low, hb]
      have l2 : low k (n ^^^ 2 ^ k) = n := by simp [low, hb, xx]
      have i1 := ih n (by omega)
      have i2 := ih (n ^^^ 2 ^ k) hx
      rw [l1, if_neg (by omega)] at i1
      rw [l2, if_neg (by omega)] at i2
      have hlen : (bflies ys (pairsTo (2 ^ p) (2 ^ k) n)).length = 2 ^ p := by rw [bflies_length, hy]
      rw [pairsTo_succ, hq]
      show gt (bflies ys (pairsTo (2 ^ p) (2 ^ k) n ++ [q])) i = _
      rw [bflies_snoc]
      unfold bfly
      rw [hq1]
      dsimp only
      rw [gt_set (by simp [hlen]; exact hx), gt_set (by omega)]
      have i1' : (bflies ys (pairsTo (2 ^ p) (2 ^ k) n))[n]?.getD 0 = gt ys n := i1
      have i2' : (bflies ys (pairsTo (2 ^ p) (2 ^ k) n))[n ^^^ 2 ^ k]?.getD 0 = gt ys (n ^^^ 2 ^ k) := i2
      rw [i1', i2']
      by_cases c1 : i = n ^^^ 2 ^ k
      · rw [if_pos c1, c1, l2, if_pos (by omega)]
        simp [Bk, hb, xx]
      · rw [if_neg c1]
        by_cases c2 : i = n
        · rw [if_pos c2, c2, l1, if_pos (by omega)]
          simp [Bk, hb]
        · rw [if_neg c2, ih i hi]
          have hl : low k i ≠ n := by
            unfold low
            cases ht : i.testBit k
            · simpa using c2
            · intro e
              simp only [if_true] at e
              exact c1 (by rw [← e, xx])
          by_cases c3 : low k i < n
          · rw [if_pos c3, if_pos (by omega)]
          · rw [if_neg c3, if_neg (by omega)]
    · rw [pairsTo_succ, pair_no hp hk (by omega) hb]
      show gt (bflies ys (pairsTo (2 ^ p) (2 ^ k) n ++ [])) i = _
      rw [List.append_nil, ih i hi]
      have hl : low k i ≠ n := by
        unfold low
        cases ht : i.testBit k
        · simp only [Bool.false_eq_true, if_false]; rintro rfl; rw [ht] at hb; cases hb
        · simp only [if_true]; intro e; rw [← e, tb_same, ht] at hb; cases hb
      by_cases c3 : low k i < n
      · rw [if_pos c3, if_pos (by omega)]
      · rw [if_neg c3, if_neg (by omega)]
theorem low_lt {p k i : Nat} (hk : k < p) (hi : i < 2 ^ p) : low k i < 2 ^ p := by
  unfold low; cases i.testBit k
  · simpa using hi
  · simpa using xor_lt hk hi
theorem level_get {p k : Nat} (hp : p < 9) (hk : k < p) (ys : List Int) (hy : ys.length = 2 ^ p) {i : Nat} (hi : i < 2 ^ p) : gt (level (2 ^ p) (2 ^ k) ys) i = IntKind.i64.wrap (Bk k (gt ys) i) := by
  unfold level
  rw [level_part hp hk ys hy _ (Nat.le_refl _) i hi, if_pos (low_lt hk hi)]
theorem Bk_congr {p k : Nat} (hk : k < p) {f g : Nat → Int} (h : ∀ i, i < 2 ^ p → f i = g i) {i : Nat} (hi : i < 2 ^ p) : Bk k f i = Bk k g i := by
  unfold Bk; rw [h i hi, h _ (xor_lt hk hi)]
theorem Bk_bound {p k : Nat} (hk : k < p) {f : Nat → Int} {M : Int} (h : ∀ i, i < 2 ^ p → -M ≤ f i ∧ f i ≤ M) {i : Nat} (hi : i < 2 ^ p) : -(2 * M) ≤ Bk k f i ∧ Bk k f i ≤ 2 * M := by
  have h1 := h i hi
  have h2 := h _ (xor_lt hk hi)
  unfold Bk; split <;> omega
theorem walshTo_get {p : Nat} (hp : p < 9) (xs : List Int) (hx : xs.length = 2 ^ p) {M : Int} (hM : M ≤ 1000000000000) (hb : ∀ i, i < 2 ^ p → -M ≤ gt xs i ∧ gt xs i ≤ M) : ∀ k, k ≤ p → ∀ i, i < 2 ^ p →
    gt (walshTo xs k) i = Wf (gt xs) k i ∧ -(2 ^ k * M) ≤ Wf (gt xs) k i ∧ Wf (gt xs) k i ≤ 2 ^ k * M
  | 0, _, i, hi => by simpa [walshTo, Wf] using hb i hi
  | k + 1, h, i, hi => by
    have ih := walshTo_get hp xs hx hM hb k (by omega)
    have hB := Bk_bound (p := p) (k := k) (by omega) (fun i hi => (ih i hi).2) hi
    have e : (2 : Int) ^ (k + 1) * M = 2 * (2 ^ k * M) := by rw [Int.pow_succ, Int.mul_comm ((2 : Int) ^ k) 2, Int.mul_assoc]
    have h0 : 0 ≤ M := by have := hb i hi; omega
    have hc : (2 : Int) ^ k * M ≤ 2 ^ 8 * M := Int.mul_le_mul_of_nonneg_right (by
      have : (2 : Nat) ^ k ≤ 2 ^ 8 := Nat.pow_le_pow_right (by omega) (by omega)
      exact_mod_cast this) h0
    have hW : Wf (gt xs) (k + 1) i = Bk k (Wf (gt xs) k) i := rfl
    rw [e, hW]
    refine ⟨?_, hB⟩
    show gt (level xs.length (2 ^ k) (walshTo xs k)) i = _
    rw [hx, level_get hp (by omega) _ (by rw [walshTo_length, hx]) hi, Bk_congr (by omega) (fun i hi => (ih i hi).1) hi]
    exact IntWalk.i64_in _ (by omega)
end Go.Proofs.YtgbnfhfkehpfaaaGreat
/- Lifting: halves rounded down, halves of a slice, one step of lifting: contracts. -/
namespace Go.Proofs.YtgbnfhfkehpfaaaGreat
open Go.RowKit Go.Shelf
attribute [local go_sem] Oper.semAt_some

end Go.Proofs.YtgbnfhfkehpfaaaGreat
/- Walsh and Lift of layer 1, SameInts of its answers, and awake of the statements: contracts. -/
namespace Go.Proofs.YtgbnfhfkehpfaaaGreat
open Go.RowKit

theorem some_of {w : World} {a : Option Addr} {xs : List Int} (h : Sl w a xs) (h1 : 1 ≤ xs.length) : ∃ b off, a = some ⟨b, off, none⟩ := by
  obtain ⟨b, off, e, _⟩ := h 0 (by omega)
  exact ⟨b, off, e⟩
theorem powerB_of {xs : List Int} (h : powerB xs = true) : validListB xs = true ∧ powB xs.length = true := by simpa [powerB] using h
def lg (n : Nat) : Nat := Nat.log2 n
theorem lg_of : ∀ k : Nat, k ≤ 8 → lg (2 ^ k) = k := by decide +kernel
theorem lg_pow {n k : Nat} (hp : powB n = true) (h : n = 2 ^ k) : lg n = k := by
  have hk : k ≤ 8 := by
    have := powB_le hp
    rw [h] at this
    exact (Nat.pow_le_pow_iff_right (a := 2) (by omega)).1 (show 2 ^ k ≤ 2 ^ 8 by omega)
  rw [h]; exact lg_of k hk

def WalshPost (base : Nat) (xs : List Int) (w : World) (e : Ending) (w' : World) : Prop :=
  Below base w w' ∧
  ((powerB xs = true ∧ ∃ g cap, e = .returned (.tuple #[.slice (some ⟨g, 0, none⟩) xs.length cap, .int .i64 0]) ∧ OwnI w' base (.slice (some ⟨g, 0, none⟩) xs.length cap) (walshTo xs (lg xs.length))) ∨
   (powerB xs = false ∧ e = .returned (.tuple #[.slice none 0 0, .int .i64 1])))
theorem walsh_any (a : Option Addr) (xs : List Int) (cap : Nat) (w : World) (hl : xs.length ≤ 140737488351232) (hs : Sl w a xs) :
    Calls Tryz.prog 10 #[.slice a xs.length cap] w (WalshPost w.heap.size xs w) := by
  cases hp : powerB xs
  · have HS := Lib.hid hs; clear hs
    go_enter Tryz.func10, Tryz.ntmps10
    go_wp2_with (go_at_call 30; refine (power_any _ _ _ _ hl HS.out).mono ?_; rintro e w1 ⟨rfl, hb⟩)
    go_ret2
    exact ⟨hb, .inr ⟨hp, rfl⟩⟩
  · have hpw := (powerB_of hp).2
    have hle := powB_le hpw
    obtain ⟨b, off, rfl⟩ := some_of hs hle.1
    have HS := Lib.hid hs; clear hs
    have HP := Lib.hid hpw; clear hpw
    go_enter Tryz.func10, Tryz.ntmps10
    go_wp2_with (first | (go_at_call 30; refine (power_any _ _ _ _ hl HS.out).mono ?_; rintro e w1 ⟨rfl, hb⟩; have HB := Lib.hid hb; clear hb) | (go_at_call 31; refine (transformed_any b off xs cap _ HP.out (HS.out.below HB.out)).mono ?_; rintro e w2 ⟨g, cap', k, rfl, hk, ho, hb2⟩; have HK := Lib.hid hk; clear hk; have HO := Lib.hid ho; clear ho; have HB2 := Lib.hid hb2; clear hb2))
    go_ret2
    refine ⟨HB.out.trans (HB2.out.mono HB.out.size), .inl ⟨hp, g, cap', rfl, ?_⟩⟩
    rw [lg_pow HP.out HK.out]
    exact HO.out.mono HB.out.size

end Go.Proofs.YtgbnfhfkehpfaaaGreat
/- The transform by its sums: each value is a sum with signs; plain facts that speak of no program. -/
namespace Go.Proofs.YtgbnfhfkehpfaaaGreat
open Go.RowKit

def par (n : Nat) : Bool := decide ((popc n).tmod 2 = 1)
def sg (i j : Nat) (x : Int) : Int := if par (i &&& j) then -x else x
theorem j_facts : ∀ k, k < 8 → ∀ j, j < 2 ^ k → 2 ^ k ||| j = 2 ^ k + j ∧ 2 ^ k &&& j = 0 ∧ par (2 ^ k + j) = !par j ∧ 2 ^ k ||| j < 256 := by decide +kernel
theorem i_facts : ∀ k, k < 8 → ∀ i, i < 256 → i &&& 2 ^ k = (if i.testBit k then 2 ^ k else 0) ∧ (i.testBit k = false → 2 ^ (k + 1) * (i / 2 ^ (k + 1)) = 2 ^ k * (i / 2 ^ k) ∧ 2 ^ k * ((i ^^^ 2 ^ k) / 2 ^ k) = 2 ^ k * (i / 2 ^ k) + 2 ^ k) ∧
    (i.testBit k = true → 2 ^ (k + 1) * (i / 2 ^ (k + 1)) = 2 ^ k * ((i ^^^ 2 ^ k) / 2 ^ k) ∧ 2 ^ k * (i / 2 ^ k) = 2 ^ k * ((i ^^^ 2 ^ k) / 2 ^ k) + 2 ^ k) := by decide +kernel
theorem sg_flip {k i j : Nat} (hk : k < 8) (hj : j < 2 ^ k) (x : Int) : sg (i ^^^ 2 ^ k) j x = sg i j x := by
  unfold sg; rw [Nat.and_xor_distrib_right, (j_facts k hk j hj).2.1, Nat.xor_zero]
theorem sg_high {k i j : Nat} (hk : k < 8) (hi : i < 256) (hj : j < 2 ^ k) (x : Int) : sg i (2 ^ k + j) x = if i.testBit k then - sg i j x else sg i j x := by
  have h1 := (j_facts k hk j hj).1
  have h2 := (i_facts k hk i hi).1
  have hm : i &&& j < 2 ^ k := Nat.lt_of_le_of_lt Nat.and_le_right hj
  have h3 := j_facts k hk (i &&& j) hm
  unfold sg
  rw [← h1, Nat.and_or_distrib_left, h2]
  cases i.testBit k
  · simp
  · simp only [if_true]
    rw [h3.1, h3.2.2.1]
    cases par (i &&& j) <;> simp
theorem par_0 : par 0 = false := by decide +kernel
theorem Wf_sum (f : Nat → Int) : ∀ k, k ≤ 8 → ∀ i, i < 256 → Wf f k i = sumTo (fun j => sg i j (f (2 ^ k * (i / 2 ^ k) + j))) (2 ^ k)
  | 0, _, i, _ => by simp [Wf, sumTo, sg, par_0]
  | k + 1, hk, i, hi => by
    have ih := Wf_sum f k (by omega)
    have hx : i ^^^ 2 ^ k < 256 := xor_lt (p := 8) (by omega) hi
    obtain ⟨_, h0, h1⟩ := i_facts k (by omega) i hi
    have e : 2 ^ (k + 1) = 2 ^ k + 2 ^ k := by rw [Nat.pow_succ]; omega
    show Bk k (Wf f k) i = _
    unfold Bk
    rw [ih i hi, ih _ hx]
    conv => rhs; rw [show sumTo (fun j => sg i j (f (2 ^ (k + 1) * (i / 2 ^ (k + 1)) + j))) (2 ^ (k + 1)) = sumTo (fun j => sg i j (f (2 ^ (k + 1) * (i / 2 ^ (k + 1)) + j))) (2 ^ k + 2 ^ k) from by rw [e], sumTo_split]
    cases hb : i.testBit k
    · obtain ⟨a1, a2⟩ := h0 hb
      simp only [Bool.false_eq_true, if_false]
      rw [a1, a2]
      congr 1
      refine sumTo_congr _ fun j hj => ?_
      rw [sg_flip (by omega) hj, sg_high (by omega) hi hj, hb, Nat.add_assoc]
      simp
    · obtain ⟨a1, a2⟩ := h1 hb
      simp only [if_true]
      rw [a1, a2]
      generalize 2 ^ k * ((i ^^^ 2 ^ k) / 2 ^ k) = c
      have e1 : sumTo (fun j => sg (i ^^^ 2 ^ k) j (f (c + j))) (2 ^ k) = sumTo (fun j => sg i j (f (c + j))) (2 ^ k) := sumTo_congr _ fun j hj => by rw [sg_flip (by omega) hj]
      have e2 : sumTo (fun j => sg i (2 ^ k + j) (f (c + (2 ^ k + j)))) (2 ^ k) = sumTo (fun j => (-1) * sg i j (f (c + 2 ^ k + j))) (2 ^ k) := sumTo_congr _ fun j hj => by
        rw [sg_high (by omega) hi hj, hb, Nat.add_assoc]; simp
      rw [e1, e2, sumTo_mul]; omega
def wsum (xs : List Int) (i : Nat) : Nat → Int := sumTo (fun j => sg i j (gt xs j))
theorem walshTo_sums {xs : List Int} (hpw : powB xs.length = true) {M : Int} (hM : M ≤ 1000000000000) (hall : allB M xs = true) : walshTo xs (lg xs.length) = (List.range xs.length).map (fun i => wsum xs i xs.length) := by
  obtain ⟨p, hp8, hx⟩ := powB_two hpw
  have hle := powB_le hpw
  have hlg : lg xs.length = p := lg_pow hpw hx
  rw [hlg]
  have hb : ∀ i, i < 2 ^ p → -M ≤ gt xs i ∧ gt xs i ≤ M := fun i hi => by
    have := allB_get hall (k := i) (x := xs[i]'(by omega)) (by simp)
    unfold gt; simpa [show i < xs.length by omega] using this
  have G := walshTo_get (by omega) xs hx hM hb p (Nat.le_refl _)
  refine list_ext_gt (by rw [walshTo_length]; simp) fun k hk => ?_
  rw [walshTo_length] at hk
  rw [gt_map_range _ hk, (G k (by omega)).1, Wf_sum _ _ hp8 k (by omega)]
  unfold wsum
  rw [hx]
  refine sumTo_congr _ fun j hj => ?_
  rw [Nat.div_eq_of_lt (by omega)]; simp
end Go.Proofs.YtgbnfhfkehpfaaaGreat
/- long over a list of slices just built; a box of a pair. -/
namespace Go.Proofs.YtgbnfhfkehpfaaaGreat
open Go.RowKit

def PicIn (w : World) (b : Nat) (v0 v1 v2 : Value) (V : World) : Prop :=
  V.cell? ⟨b, 0, none⟩ = some v0 ∧ V.cell? ⟨b, 1, none⟩ = some v1 ∧ V.cell? ⟨b, 2, none⟩ = some v2 ∧ Hid (Box b #[v0, v1, v2] V ∧ Below w.heap.size w V)
theorem PicIn.mk {w : World} {b : Nat} {v0 v1 v2 : Value} {V : World} (h : Box b #[v0, v1, v2] V) (hb : Below w.heap.size w V) : PicIn w b v0 v1 v2 V :=
  ⟨h.2 0 v0 rfl, h.2 1 v1 rfl, h.2 2 v2 rfl, Lib.hid ⟨h, hb⟩⟩
theorem PicIn.below {w : World} {b : Nat} {v0 v1 v2 : Value} {V : World} (h : PicIn w b v0 v1 v2 V) : Below w.heap.size w V := h.2.2.2.out.2
theorem PicIn.next {w : World} {b : Nat} {v0 v1 v2 : Value} {V V' : World} (h : PicIn w b v0 v1 v2 V) (hb : Below V.heap.size V V') : PicIn w b v0 v1 v2 V' :=
  PicIn.mk (h.2.2.2.out.1.next hb) (h.below.trans (hb.mono h.below.size))
theorem PicIn.drew {w : World} {b : Nat} {v0 v1 v2 : Value} {V : World} (h : PicIn w b v0 v1 v2 V) : PicIn w b v0 v1 v2 V.drew := h.next ((Below.refl _ _).drew)
end Go.Proofs.YtgbnfhfkehpfaaaGreat
/- The answers' Walsh: odd, walsh by its sums, Walsh: contracts; one element appended. -/
namespace Go.Proofs.YtgbnfhfkehpfaaaGreat
open Go.RowKit

end Go.Proofs.YtgbnfhfkehpfaaaGreat
/- Unwalsh of layer 1 and of its answers, Walsh of the answers: contracts. -/
namespace Go.Proofs.YtgbnfhfkehpfaaaGreat
open Go.RowKit

def walV (xs : List Int) : List Int × Int := if powerB xs = true then (walshTo xs (lg xs.length), 0) else ([], 1)
theorem walsh_post (a : Option Addr) (xs : List Int) (cap : Nat) (w : World) (hl : xs.length ≤ 140737488351232) (hs : Sl w a xs) :
    Calls Tryz.prog 10 #[.slice a xs.length cap] w (LPost (walV xs) w) := by
  refine (walsh_any a xs cap w hl hs).mono ?_
  rintro e w' ⟨hb, ⟨hp, g, c, rfl, ho⟩ | ⟨hp, rfl⟩⟩
  · exact LPost.ok (by simp [walV, hp]) hb ho (by rw [walshTo_length])
  · exact LPost.err 1 (by simp [walV, hp]) hb
structure Div (zs : List Int) (n k : Nat) (ys : List Int) : Prop where
  len : ys.length = zs.length
  no : ∀ j, j < k → (gt zs j).tmod n = 0 ∧ gt ys j = (gt zs j).tdiv n
  rest : ∀ j, k ≤ j → gt ys j = gt zs j
theorem Div.start (zs : List Int) (n : Nat) : Div zs n 0 zs := ⟨rfl, fun j h => absurd h (by omega), fun _ _ => rfl⟩
theorem Div.next {zs ys : List Int} {n k : Nat} (h : Div zs n k ys) (hk : k < zs.length) (x : Int) (hx : gt zs k = x) (hm : x.tmod n = 0) : Div zs n (k + 1) (ys.set k (x.tdiv n)) := by
  have hky : k < ys.length := by rw [h.len]; exact hk
  refine ⟨by rw [List.length_set]; exact h.len, fun j hj => ?_, fun j hj => ?_⟩
  · rw [gt_set hky]
    by_cases e : j = k
    · subst e; rw [if_pos rfl, hx]; exact ⟨hm, rfl⟩
    · rw [if_neg e]; exact h.no j (by omega)
  · rw [gt_set hky, if_neg (by omega)]; exact h.rest j (by omega)
theorem gt_mem {zs : List Int} {z : Int} (h : z ∈ zs) : ∃ j, j < zs.length ∧ gt zs j = z := by
  obtain ⟨j, hj, rfl⟩ := List.mem_iff_getElem.1 h
  exact ⟨j, hj, by unfold gt; simp [hj]⟩
theorem Div.all {zs ys : List Int} {n : Nat} (h : Div zs n zs.length ys) : (∀ z ∈ zs, z.tmod n = 0) ∧ ys = zs.map (fun z => z.tdiv n) := by
  refine ⟨fun z hz => ?_, list_ext_gt (by rw [h.len]; simp) fun j hj => ?_⟩
  · obtain ⟨j, hj, rfl⟩ := gt_mem hz; exact (h.no j hj).1
  · rw [h.len] at hj
    rw [(h.no j hj).2]
    unfold gt; simp [hj]
end Go.Proofs.YtgbnfhfkehpfaaaGreat
/- Seeded of layer 2 and of its answers: contracts. -/
namespace Go.Proofs.YtgbnfhfkehpfaaaGreat
open Go.RowKit

end Go.Proofs.YtgbnfhfkehpfaaaGreat
/- Rows of Walsh masks, and the beginnings of seeded masks: plain facts. -/
namespace Go.Proofs.YtgbnfhfkehpfaaaGreat
open Go.RowKit

theorem wsign_bd (i j : Nat) : -1 ≤ wsign i j ∧ wsign i j ≤ 1 := by
  unfold wsign
  have := popc_bd (i &&& j)
  omega
theorem walshRow_all (n i : Nat) : allB 1 (walshRow n i) = true := by
  unfold allB; rw [List.all_eq_true]
  intro x hx
  obtain ⟨j, _, rfl⟩ := List.mem_map.1 hx
  have := wsign_bd i j
  simp [outB]; omega
theorem walshRow_len (n i : Nat) : (walshRow n i).length = n := by simp [walshRow]
structure WalshIs (ms : List (List Int)) : Prop where
  len : ms.length ≤ 6
  row : ∀ (i : Nat) (r : List Int), ms[i]? = some r → r.length ≤ 8 ∧ allB 1 r = true
  same : ∀ (i k : Nat) (r r' : List Int), ms[i]? = some r → ms[k]? = some r' → r.length = r'.length
  dots : ∀ (i k : Nat) (r r' : List Int), k < i → ms[i]? = some r → ms[k]? = some r' → dot r r' = 0
theorem WalshIs.nil : WalshIs [] := ⟨by simp, fun i r e => by simp at e, fun i k r r' e => by simp at e, fun i k r r' _ e => by simp at e⟩
end Go.Proofs.YtgbnfhfkehpfaaaGreat
/- A mask of Walsh rows reads what the Walsh transform has there: plain facts. -/
namespace Go.Proofs.YtgbnfhfkehpfaaaGreat
open Go.RowKit

theorem sg_wsign (i j : Nat) (v : Int) : sg i j v = wsign i j * v := by
  unfold sg par wsign
  obtain ⟨h1, h2⟩ := popc_bd (i &&& j)
  obtain ⟨c, hc⟩ : ∃ c, popc (i &&& j) = c := ⟨_, rfl⟩
  rw [hc] at h1 h2 ⊢
  have : c = 0 ∨ c = 1 ∨ c = 2 ∨ c = 3 ∨ c = 4 ∨ c = 5 ∨ c = 6 ∨ c = 7 ∨ c = 8 ∨ c = 9 := by omega
  rcases this with rfl | rfl | rfl | rfl | rfl | rfl | rfl | rfl | rfl | rfl <;> simp
theorem gt_walshRow {n i j : Nat} (hj : j < n) : gt (walshRow n i) j = wsign i j := by
  unfold walshRow gt; simp [hj]
theorem walsh_dot (n i : Nat) (x : List Int) : dot (walshRow n i) x = wsum x i n := by
  unfold dot wsum
  rw [walshRow_len]
  refine sumTo_congr _ fun j hj => ?_
  rw [gt_walshRow hj, sg_wsign]
theorem wrowsB_of {p : Int} {rows : List Int} (h : (longB p && wrowsB p rows) = true) : longB p = true ∧ (1 ≤ rows.length ∧ rows.length ≤ 6) ∧ ∀ k, k < rows.length → 0 ≤ gt rows k ∧ gt rows k < p := by
  rw [Bool.and_eq_true] at h
  obtain ⟨h1, h2⟩ := h
  unfold wrowsB at h2
  rw [Bool.and_eq_true, Bool.and_eq_true] at h2
  refine ⟨h1, ?_, fun k hk => ?_⟩
  · have := h2.1; simp [rangeB] at this; omega
  · have := allR_get h2.2.1 hk; omega
theorem walshM_valid {n : Nat} {rows : List Int} (h : (longB n && wrowsB n rows) = true) : validM (walshM n rows) = true ∧ colsM (walshM n rows) = n := by
  obtain ⟨h1, h2, h3⟩ := wrowsB_of h
  have hn := longB_of h1
  have hl : (walshM n rows).length = rows.length := by simp [walshM]
  have hrow : ∀ i, i < rows.length → (walshM n rows)[i]?.getD [] = walshRow n (gt rows i).toNat := fun i hi => by unfold walshM; simp [hi]
  have hc : colsM (walshM n rows) = n := by
    unfold colsM; rw [hrow 0 (by omega), walshRow_len]
  refine ⟨validM_yes (by rw [hl]; simp [rangeB]; omega) fun i hi => ?_, hc⟩
  rw [hl] at hi
  rw [hc, hrow i hi, walshRow_len]
  simp only [decide_true, Bool.true_and]
  unfold rowB
  rw [walshRow_len, walshRow_all]
  simp [rangeB]; omega
theorem walsh_reads {x rows : List Int} (h : (longB x.length && wrowsB x.length rows) = true) (hp : powerB x = true) :
    readV (walshM x.length rows) x = (readL (walshM x.length rows) x, 0) ∧ (readL (walshM x.length rows) x).length = rows.length ∧ ∀ k, k < rows.length → 0 ≤ gt rows k ∧ gt rows k < x.length ∧ gt (readL (walshM x.length rows) x) k = gt (walshTo x (lg x.length)) (gt rows k).toNat := by
  have hall : allB 1000000 x = true := by
    have h5 := (powerB_of hp).1
    unfold validListB at h5
    rw [Bool.and_eq_true] at h5
    exact h5.2
  obtain ⟨_, _, h3⟩ := wrowsB_of h
  obtain ⟨hv, hc⟩ := walshM_valid h
  refine ⟨readV_ok hv (by unfold fitsV; rw [hc, if_pos rfl, if_pos hall]), by simp [readL, walshM], fun k hk => ⟨(h3 k hk).1, (h3 k hk).2, ?_⟩⟩
  have hk2 := h3 k hk
  rw [walshTo_sums (powerB_of hp).2 (by omega) hall, gt_map_range _ (by omega), ← walsh_dot]
  unfold readL walshM gt
  simp [hk]
theorem walV_len' {x : List Int} (hp : powerB x = true) : (walV x).1.length = x.length := by
  have hall : allB 1000000 x = true := by
    have h5 := (powerB_of hp).1
    unfold validListB at h5
    rw [Bool.and_eq_true] at h5
    exact h5.2
  unfold walV
  rw [if_pos hp]
  show (walshTo x (lg x.length)).length = _
  rw [walshTo_sums (powerB_of hp).2 (by omega) hall]
  simp
end Go.Proofs.YtgbnfhfkehpfaaaGreat
/- TopWalsh: the walk. -/
namespace Go.Proofs.YtgbnfhfkehpfaaaGreat.topWalsh
open Go.RowKit Go.Shelf
set_option maxRecDepth 1000000 in
set_option maxHeartbeats 3200000 in
theorem walk (b0 : Option Addr) (xs0 : List Int) (c0 : Nat) (b1 : Option Addr) (xs1 : List Int) (c1 : Nat) (w : World) (h0 : Sl w b0 xs0) (l0 : xs0.length ≤ 9223372036854775807) (_r0 : ∀ x ∈ xs0, I64 x) (h1 : Sl w b1 xs1) (l1 : xs1.length ≤ 9223372036854775807) (_r1 : ∀ x ∈ xs1, I64 x) :
    Calls Tryz.prog 3 #[.slice b0 xs0.length c0, .slice b1 xs1.length c1] w fun e w' => e = .returned (.bool true) ∧ Below w.heap.size w w' := by
  have HAW : Hid (∀ V, Calls Tryz.prog 8 #[] V fun e w' => e = .returned (.bool true) ∧ Below V.heap.size V w') := fun V => awake5_any V
  by_cases hx : 20 < xs0.length
  · obtain ⟨xl, hxl⟩ : ∃ xl, xs0.length = xl := ⟨_, rfl⟩
    obtain ⟨rl, hrl⟩ : ∃ rl, xs1.length = rl := ⟨_, rfl⟩
    rw [hxl] at hx l0 ⊢
    rw [hrl] at l1 ⊢
    have y1 : decide ((20 : Int) < (xl : Int)) = true := by simp; omega
    have y1' : decide (20 < xl) = true := by simp; omega
    clear h0 h1 hxl hrl hx
    go_enter Tryz.func3, Tryz.ntmps3
    go_wp2_with (go_at_call 8; refine (HAW.out _).mono ?_; rintro e w1 ⟨rfl, hb1⟩)
    go_ret
    exact ⟨rfl, hb1⟩
  by_cases hr : 20 < xs1.length
  · obtain ⟨xl, hxl⟩ : ∃ xl, xs0.length = xl := ⟨_, rfl⟩
    obtain ⟨rl, hrl⟩ : ∃ rl, xs1.length = rl := ⟨_, rfl⟩
    rw [hxl] at hx l0 ⊢
    rw [hrl] at hr l1 ⊢
    have y1 : decide ((20 : Int) < (xl : Int)) = false := by simp; omega
    have y1' : decide (20 < xl) = false := by simp; omega
    have y2 : decide ((20 : Int) < (rl : Int)) = true := by simp; omega
    have y2' : decide (20 < rl) = true := by simp; omega
    clear h0 h1 hxl hrl hx hr
    go_enter Tryz.func3, Tryz.ntmps3
    go_wp2_with (go_at_call 8; refine (HAW.out _).mono ?_; rintro e w1 ⟨rfl, hb1⟩)
    go_ret
    exact ⟨rfl, hb1⟩
  have HPW : Hid (∀ W, Sl W b0 xs0 → Calls Tryz.prog 7 #[.slice b0 xs0.length c0] W fun e w' => e = .returned (.bool (powerB xs0)) ∧ W = w') := fun W h => rPower_any b0 xs0 c0 W (by omega) h
  have HMW : Hid (Calls Tryz.prog 9 #[.int .i64 xs0.length, .slice b1 xs1.length c1] w (MPost (walshV xs0.length xs1) w)) := mWalsh_any xs0.length b1 xs1 c1 w (by omega) h1
  have HPI : Hid (∀ W, Below w.heap.size w W → Calls Tryz.prog 10 #[.slice b0 xs0.length c0] W (LPost (walV xs0) W)) := fun W hb => walsh_post b0 xs0 c0 W (by omega) (h0.below hb)
  have HRD : Hid (∀ W a M c, Below w.heap.size w W → MOk M → Ms W a M → Calls Tryz.prog 11 #[.slice a M.length c, .slice b0 xs0.length c0] W (LPost (readV M xs0) W)) := fun W a M c hb hm hs => mread_any a M c b0 xs0 c0 W hm (by omega) hs (h0.below hb)
  have H0 := Lib.hid h0
  have H1 := Lib.hid h1
  obtain ⟨q, hq⟩ : ∃ q, powerB xs0 = q := ⟨_, rfl⟩
  rw [hq] at HPW
  obtain ⟨⟨M, e0⟩, hM⟩ : ∃ r, walshV xs0.length xs1 = r := ⟨_, rfl⟩
  rw [hM] at HMW
  have HQ := Lib.hid hq
  have HM := Lib.hid hM
  obtain ⟨xl, hxl⟩ : ∃ xl, xs0.length = xl := ⟨_, rfl⟩
  obtain ⟨rl, hrl⟩ : ∃ rl, xs1.length = rl := ⟨_, rfl⟩
  have HXL := Lib.hid hxl
  have HRL := Lib.hid hrl
  rw [hxl] at hx HPW HMW HPI HRD HM ⊢
  rw [hrl] at hr HMW ⊢
  have y1 : decide ((20 : Int) < (xl : Int)) = false := by simp; omega
  have y1' : decide (20 < xl) = false := by simp; omega
  have y2 : decide ((20 : Int) < (rl : Int)) = false := by simp; omega
  have y2' : decide (20 < rl) = false := by simp; omega
  clear h0 h1 hxl hrl hq hM l0 l1
  cases q with
  | false =>
    go_enter Tryz.func3, Tryz.ntmps3
    go_wp2_with (first
      | (go_at_call 7; refine (HPW.out _ H0.out).mono ?_; rintro e w1 ⟨rfl, rfl⟩)
      | (go_at_call 8; refine (HAW.out _).mono ?_; rintro e w1 ⟨rfl, hb1⟩))
    go_ret
    exact ⟨rfl, hb1⟩
  | true =>
    by_cases he : e0 = 0
    · subst he
      have hcond : (longB xl && wrowsB xl xs1) = true := by
        have h := HM.out
        unfold walshV at h
        split at h
        · assumption
        · cases h
      have hM2 : M = walshM xl xs1 := by
        have h := HM.out
        unfold walshV at h
        rw [if_pos hcond] at h
        have := congrArg Prod.fst h
        simpa using this.symm
      have hr2 := walsh_reads (x := xs0) (rows := xs1) (by rw [HXL.out]; exact hcond) HQ.out
      rw [HXL.out, ← hM2, HRL.out] at hr2
      obtain ⟨e1, e2, e3⟩ := hr2
      have hMo : MOk M := mok_of (by rw [hM2]; exact (walshM_valid hcond).1)
      have hwv : walV xs0 = (walshTo xs0 (lg xl), 0) := by unfold walV; rw [HQ.out, if_pos rfl, HXL.out]
      have hwl : (walshTo xs0 (lg xl)).length = xl := by
        have h := walV_len' HQ.out
        rw [hwv, HXL.out] at h
        exact h
      rw [hwv] at HPI
      obtain ⟨wv, hwv2⟩ : ∃ wv, walshTo xs0 (lg xl) = wv := ⟨_, rfl⟩
      rw [hwv2] at HPI hwl e3
      obtain ⟨rv, hrv⟩ : ∃ rv, readL M xs0 = rv := ⟨_, rfl⟩
      rw [hrv] at e1 e2 e3
      have HMO := Lib.hid hMo
      have HE1 := Lib.hid e1
      have HE3 := Lib.hid e3
      have HE2 := Lib.hid e2
      have HWL := Lib.hid hwl
      clear hcond hM2 e1 e2 e3 hMo hwv hwl hwv2 hrv
      go_enter Tryz.func3, Tryz.ntmps3
      go_wp2_with (first
        | (go_at_call 7; refine (HPW.out _ H0.out).mono ?_; rintro e w1 ⟨rfl, rfl⟩)
        | (go_at_call 9; refine HMW.out.mono ?_; rintro e w1 ⟨hb1, ma, mc, _, rfl, hm1⟩; dsimp only at hm1 ⊢; have HB1 := Lib.hid hb1; have HM1 := Lib.hid hm1; clear hb1 hm1)
        | (go_at_call 10; refine (HPI.out _ HB1.out).mono ?_; rintro e w2 ⟨hb2, wa, wc, rfl, hw2⟩; dsimp only at hw2 ⊢; have HB2 : Hid (Below w.heap.size w w2) := HB1.out.trans (hb2.mono HB1.out.size); have HM2 := Lib.hid (HM1.out.below hb2); have HW2 := Lib.hid hw2; rw [HWL.out]; clear hb2 hw2)
        | (go_at_call 11; refine (HRD.out _ _ _ _ HB2.out HMO.out HM2.out).mono ?_; rw [HE1.out]; rintro e w3 ⟨hb3, ra, rc, rfl, hr3⟩; dsimp only at hr3 ⊢; have HB3 : Hid (Below w.heap.size w w3) := HB2.out.trans (hb3.mono HB2.out.size); have HW3 := Lib.hid (HW2.out.below hb3); have HR3 := Lib.hid hr3; rw [HE2.out]; clear hb3 hr3))
      go_loopw [70] (fun i wr => ∃ k : Nat, k ≤ rl ∧ i = .int .i64 k ∧ Below w3.heap.size w3 wr) (fun i _ => rl - (intOf i).toNat)
      case atStart => exact ⟨0, Nat.zero_le _, rfl, Below.refl _ _⟩
      case round =>
        obtain ⟨k, hk, rfl, hbr⟩ := hrel
        have HBR := Lib.hid hbr; clear hbr
        have HBWR : Hid (Below w.heap.size w wr) := HB3.out.trans (HBR.out.mono HB3.out.size)
        by_cases hlt : k < rl
        · obtain ⟨e1, e2, e3⟩ := HE3.out k hlt
          obtain ⟨bx, ox, v, rfl, hcx, hvx⟩ := (H1.out.below HBWR.out).at (k := k) (by rw [HRL.out]; exact hlt)
          rw [gt_some' hvx] at e1 e2 e3
          obtain ⟨vn, rfl⟩ := Int.eq_ofNat_of_zero_le e1
          have hvn : vn < xl := by omega
          rw [Int.toNat_natCast] at e3
          obtain ⟨br, or', yk, rfl, hcr, hyk⟩ := (HR3.out.below HBR.out).at (k := k) (by rw [HE2.out]; exact hlt)
          obtain ⟨bw, ow, zk, rfl, hcw, hzk⟩ := (HW3.out.below HBR.out).at (k := vn) (by rw [HWL.out]; exact hvn)
          rw [gt_some' hyk, gt_some' hzk] at e3
          subst e3
          have r0 := cell_regrown hcr
          have r1 := cell_regrown hcw
          have hk0 : (k : Int) < (rl : Int) := by omega
          have hv0 : (vn : Int) < (xl : Int) := by omega
          have z1 : decide ((vn : Int) < 0) = false := by simp
          have z2 : decide ((xl : Int) ≤ (vn : Int)) = false := by simp; omega
          have z3 : decide (xl ≤ vn) = false := by simp; omega
          clear hvx hyk hzk e1 e2
          go_wp2
          refine wp_region_quiet_below (by kernel_rfl) (by kernel_rfl) ?_
          repeat (go_big_quiet_step (first | fail))
          refine wpQuiet_nil ?_
          intro w6 hw6
          have HB6 : Hid (Below w3.heap.size w3 w6) := by
            obtain ⟨⟨d6, o6⟩, rfl⟩ := hw6
            exact HBR.out.trans ((below_regrown _ _ _).mono HBR.out.size)
          clear hw6 r0 r1
          go_wp2
          go_roundw
          case rel => exact ⟨k + 1, by omega, by go_num, HB6.out⟩
          case measure => simp [intOf]; omega
        · obtain rfl : k = rl := by omega
          go_wp2_with (go_at_call 8; refine (HAW.out _).mono ?_; rintro e w7 ⟨rfl, hb7⟩)
          go_ret
          exact ⟨rfl, HBWR.out.trans (hb7.mono HBWR.out.size)⟩
    · have y3 : (e0 == 0) = false := by simpa using he
      have y4 : (e0 != 0) = true := by simpa using he
      clear he
      go_enter Tryz.func3, Tryz.ntmps3
      go_wp2_with (first
        | (go_at_call 7; refine (HPW.out _ H0.out).mono ?_; rintro e w1 ⟨rfl, rfl⟩)
        | (go_at_call 9; refine HMW.out.mono ?_; rintro e w1 ⟨hb1, ma, mc, _, rfl, hm1⟩; dsimp only at hm1 ⊢; have HB1 := Lib.hid hb1; clear hb1 hm1)
        | (go_at_call 8; refine (HAW.out _).mono ?_; rintro e w1 ⟨rfl, hb1⟩))
      go_ret
      exact ⟨rfl, HB1.out.trans (hb1.mono HB1.out.size)⟩
end Go.Proofs.YtgbnfhfkehpfaaaGreat.topWalsh
