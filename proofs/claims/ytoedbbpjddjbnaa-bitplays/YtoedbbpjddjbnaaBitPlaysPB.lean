/- Parts of the proof of BitPlays: plain words, walks and contracts, each under its own heading. -/
import Derived.Test.YtoedbbpjddjbnaaBitPlaysPA
import Derived.Deep.RegionLaw
import Derived.Deep.Matrix
import Derived.Deep.Fields
import Derived.Deep.Strs
import Derived.ChangeSame
import Derived.Maps.RangeWalk
import Derived.Maps.OwnOps
import Derived.Maps.OwnSet
import Derived.Maps.Views
import Derived.Carry
import Derived.Test.YtoedbbpjddjbnaaShelf
import Derived.Laws.CopyOwn
import Derived.BigQuiet
import Derived.TacticsIn
/- How many pictures a field has, in layer 7 and in its answers: contracts. -/
namespace Go.Proofs.Ytoedbbpjddjbnaa
open Go.RowKit

def picN (p t : Int) : Int × Int := if vfB p t = true then ((((t.toNat + 1) ^ p.toNat : Nat) : Int), 0) else (0, 1)
/-- So many pictures of k pixels. -/
def pw (T k : Nat) : Nat := (T + 1) ^ k
theorem vf_of {p t : Int} (h : vfB p t = true) : ∃ P T : Nat, p = (P : Int) ∧ t = (T : Int) ∧ 1 ≤ P ∧ P ≤ 8 ∧ T ≤ 3 := by
  simp only [vfB, rangeB, Bool.and_eq_true, decide_eq_true_eq] at h
  obtain ⟨⟨h1, h2⟩, h3, h4⟩ := h
  exact ⟨p.toNat, t.toNat, by omega, by omega, by omega, by omega, by omega⟩
set_option maxRecDepth 100000 in
theorem bpictures_any (p t : Int) (w : World) :
    Calls Try.prog 13 #[.agg #[.int .i64 p, .int .i64 t]] w fun e w' => e = .returned (.tuple #[.int .i64 (picN p t).1, .int .i64 (picN p t).2]) ∧ Below w.heap.size w w' := by
  have HF := Lib.hid (Fb.new w p t 23)
  cases h : vfB p t
  · have HV := Lib.hid (show picN p t = (0, 1) by unfold picN; rw [h]; rfl)
    go_enter Try.func13, Try.ntmps13
    go_wp2_with (go_at_call 19; refine (vfield_any _ _ _).mono ?_; rintro e w1 ⟨rfl, hb1⟩; have F1 := Fb.next HF.out hb1; obtain ⟨k0, k1⟩ := And.intro F1.c0 F1.c1; rw [h])
    go_ret2
    exact ⟨by rw [HV.out]; rfl, F1.below⟩
  · obtain ⟨P, T, rfl, rfl, hP1, hP, hT⟩ := vf_of h
    have HV := Lib.hid (show picN P T = ((pw T P : Int), 0) by unfold picN pw; rw [h]; simp)
    have HPB := Lib.hid (fun k (hk : k ≤ 8) => show pw T k ≤ 65536 from pow_bd (T := T) (k := k) hT hk)
    go_enter Try.func13, Try.ntmps13
    go_wp2_with (go_at_call 19; refine (vfield_any _ _ _).mono ?_; rintro e w1 ⟨rfl, hb1⟩; have F1 := Fb.next HF.out hb1; obtain ⟨k0, k1⟩ := And.intro F1.c0 F1.c1; rw [h])
    go_loop [4, 10] (fun s i => ∃ k : Nat, k ≤ P ∧ i = .int .i64 k ∧ s = .int .i64 (pw T k : Int)) (fun _ i => P - (intOf i).toNat)
    case atStart => exact ⟨0, Nat.zero_le _, rfl, rfl⟩
    case round =>
      obtain ⟨k, hk, rfl, rfl⟩ := hrel
      by_cases hlt : k < P
      · have hb : pw T k ≤ 65536 := HPB.out k (by omega)
        have HS := Lib.hid (show pw T (k + 1) = pw T k * (T + 1) from Nat.pow_succ ..)
        generalize pw T k = A at *
        have hm1 : (A : Int) * ((T : Int) + 1) = ((A * (T + 1) : Nat) : Int) := by simp
        have hm2 : A * (T + 1) ≤ 65536 * 4 := Nat.mul_le_mul hb (by omega)
        have hm3 : IntKind.i64.wrap ((A : Int) * ((T : Int) + 1)) = ((A * (T + 1) : Nat) : Int) := by rw [hm1]; exact IntWalk.i64_in _ (by omega)
        clear hm1
        go_wp2
        all_goals go_round
        case rel => exact ⟨k + 1, by omega, by go_num, by rw [HS.out]; simp⟩
        case measure => simp [intOf]; omega
      · obtain rfl : k = P := by omega
        go_wp2
        go_ret2
        exact ⟨by rw [HV.out]; rfl, F1.below⟩
set_option maxRecDepth 100000 in
theorem rpicN_any (p t : Int) (w : World) :
    Calls Try.prog 14 #[.agg #[.int .i64 p, .int .i64 t]] w fun e w' => e = .returned (.tuple #[.int .i64 (picN p t).1, .int .i64 (picN p t).2]) ∧ Below w.heap.size w w' := by
  have HF := Lib.hid (Fb.new w p t 23)
  cases h : vfB p t
  · have HV := Lib.hid (show picN p t = (0, 1) by unfold picN; rw [h]; rfl)
    go_enter Try.func14, Try.ntmps14
    go_wp2_with (go_at_call 20; refine (rvfield_any _ _ _).mono ?_; rintro e w1 ⟨rfl, hb1⟩; have F1 := Fb.next HF.out hb1; obtain ⟨k0, k1⟩ := And.intro F1.c0 F1.c1; rw [h])
    go_ret2
    exact ⟨by rw [HV.out]; rfl, F1.below⟩
  · obtain ⟨P, T, rfl, rfl, hP1, hP, hT⟩ := vf_of h
    have HV := Lib.hid (show picN P T = ((((picsTo T P).length : Nat) : Int), 0) by unfold picN; rw [h, picsTo_len]; simp)
    go_enter Try.func14, Try.ntmps14
    go_wp2_with (first
      | (go_at_call 20; refine (rvfield_any _ _ _).mono ?_; rintro e w1 ⟨rfl, hb1⟩; have F1 := Fb.next HF.out hb1; obtain ⟨k0, k1⟩ := And.intro F1.c0 F1.c1; rw [h])
      | (go_at_call 52; refine (rpictures_any P T hP hT _).mono ?_; rintro e w2 ⟨v, ads, rfl, hr, hb2⟩; have F2 := Fb.next F1 hb2; rcases hr.shape with ⟨_, hL0⟩ | ⟨g, lcap, rfl, hg1, hg2⟩; (have := picsTo_pos T P; rw [hL0] at this; simp at this)))
    go_ret2
    exact ⟨by rw [HV.out]; rfl, F2.below⟩
end Go.Proofs.Ytoedbbpjddjbnaa
/- Count of layer 7: a contract. -/
namespace Go.Proofs.Ytoedbbpjddjbnaa
open Go.RowKit Go.Shelf
attribute [local go_sem] Oper.semAt_some

/-- What Count keeps between two pictures: the box of its number. -/
structure CntI (w : World) (X : Nat) (pre : List PicV) (C T : Blk) (W : World) : Prop where
  r : W.cell? ⟨X, 0, none⟩ = some (.int .i64 (pre.length : Int))
  fr : W.frozen? ⟨X, 0, none⟩ = false
  bw : Below w.heap.size w W
  cC : ∀ b, C b ↔ b = X
  nt : ∀ b, b < w.heap.size ∨ b = X → ¬ T b
theorem CntI.keep {w : World} {X : Nat} {pre : List PicV} {C T T' : Blk} {W W' : World} (h : CntI w X pre C T W) (ht : Turned T W W') (hT : ∀ b, T' b → T b ∨ W.heap.size ≤ b) : CntI w X pre C T' W' := by
  have l := cell_lt h.r
  dsimp only at l
  refine ⟨ht.cell h.r (h.nt _ (.inr rfl)), (ht.frozen l (h.nt _ (.inr rfl))).trans h.fr, h.bw.trans (ht.below h.bw.size fun b hb => h.nt b (.inl hb)), h.cC, fun b hb e => ?_⟩
  rcases hT b e with q | q
  · exact h.nt b hb q
  · have := h.bw.size
    rcases hb with hb | rfl <;> omega
theorem CntI.client {w : World} {X : Nat} : Client (CntI w X) where
  lt := fun h b hb => by
    obtain rfl := (h.cC b).1 hb
    exact ⟨cell_lt h.r, h.nt _ (.inr rfl)⟩
  keep := fun h ht hT => h.keep ht hT
theorem CntI.more {w : World} {X : Nat} {pre : List PicV} {x : PicV} {C T : Blk} {W : World} (hX : w.heap.size ≤ X) (h : CntI w X pre C T W) : CntI w X (pre ++ [x]) C T (W.setCell ⟨X, 0, none⟩ (.int .i64 ((pre.length : Int) + 1))) :=
  ⟨by rw [World.cell?_setCell_same _ _ _ h.r, List.length_append]; rfl, by rw [World.frozen?_setCell]; exact h.fr, h.bw.trans ((Below.refl _ _).setCell (p := ⟨X, 0, none⟩) hX _), h.cC, h.nt⟩
theorem fittingmk_any (p t : Int) (ca : Option Addr) (n cap : Nat) (w : World) : Calls Try.prog 67 #[.agg #[.int .i64 p, .int .i64 t], .slice ca n cap] w fun e w' =>
    e = .returned (.func (.func 95) #[] #[.pointer (some ⟨w.heap.size, 0, none⟩), .pointer (some ⟨w.heap.size + 1, 0, none⟩)]) ∧ w' = (w.alloc (.cells #[.int .i64 p, .int .i64 t] 23)).alloc (.cells #[.slice ca n cap] 24) := by
  go_enter Try.func67, Try.ntmps67
  go_wp2
  go_ret
  exact ⟨rfl, rfl⟩
def countV (p t : Int) (cs : List Cl) : Int × Int := if valsB p t cs = true then (((fitP t.toNat p.toNat cs).length : Int), 0) else (0, 1)
theorem fitP_len {T P : Nat} (hT : T ≤ 3) (hP : P ≤ 8) (cs : List Cl) : (fitP T P cs).length ≤ 65536 := Nat.le_trans (List.length_filter_le _ _) (picsTo_bd hT hP)
theorem vals_of {P T : Nat} {cs : List Cl} (h : valsB P T cs = true) : vfB P T = true ∧ ∀ c ∈ cs, c.1.length = P ∧ okL (-1) 1 c.1 = true := by
  simp only [valsB, Bool.and_eq_true, List.all_eq_true] at h
  refine ⟨h.1, fun c hc => ?_⟩
  have h := h.2.2 c hc
  unfold ccB at h
  rw [Bool.and_eq_true] at h
  obtain ⟨_, _, _, _, q, q2⟩ := brow_of h.1
  exact ⟨by omega, q2⟩
set_option maxRecDepth 100000 in
set_option maxHeartbeats 2000000 in
theorem bcount_any (p t : Int) (a : Option Addr) (cs : List Cl) (cap : Nat) (w : World) (hn : cs.length ≤ 1000000) (hlc : CLen cs) (hs : Cs w a cs) :
    Calls Try.prog 25 #[.agg #[.int .i64 p, .int .i64 t], .slice a cs.length cap] w fun e w' => e = .returned (.tuple #[.int .i64 (countV p t cs).1, .int .i64 (countV p t cs).2]) ∧ Below w.heap.size w w' := by
  have HF := Lib.hid (Fb.new w p t 23)
  have HS := Lib.hid hs; clear hs
  have HLC := Lib.hid hlc; clear hlc
  cases h : valsB p t cs
  · have HV := Lib.hid (show countV p t cs = (0, 1) by unfold countV; rw [h]; rfl)
    go_enter Try.func25, Try.ntmps25
    go_wp2_with (go_at_call 21; refine (bvalid_any p t a cs cap _ hn HLC.out (HF.out.below_cs HS.out)).mono ?_; rintro e w1 ⟨rfl, hb1⟩; have F1 := Fb.next HF.out hb1; obtain ⟨k0, k1⟩ := And.intro F1.c0 F1.c1; rw [h])
    go_ret2
    exact ⟨by rw [HV.out]; rfl, F1.below⟩
  · obtain ⟨P, T, rfl, rfl, hP1, hP, hT⟩ : ∃ P T : Nat, p = (P : Int) ∧ t = (T : Int) ∧ 1 ≤ P ∧ P ≤ 8 ∧ T ≤ 3 := by
      have h1 : vfB p t = true := by simp only [valsB, Bool.and_eq_true] at h; exact h.1
      exact vf_of h1
    have HV := Lib.hid (show countV P T cs = (((fitP T P cs).length : Int), 0) by unfold countV; rw [h]; simp)
    have HVO := Lib.hid (vals_of h).2
    have HLN := Lib.hid (fitP_len hT hP cs)
    refine (callsIn_wide (n := 50)).1 ?_
    refine callsIn_of_wp_marks Try.func25 rfl trivial ?_ rfl
    simp only [Try.ntmps25, List.size_toArray, List.length_cons, List.length_nil, Nat.reduceAdd, Nat.reduceSub, Array.replicate_succ, Array.replicate_zero, List.push_toArray, List.append_toArray, List.nil_append, List.cons_append]
    gi_wp2_with (first
      | (refine ⟨trivial, ?_⟩; gi_at_call 21; refine (callsIn_wide.2 (bvalid_any P T a cs cap _ hn HLC.out (HF.out.below_cs HS.out))).mono ?_; rintro e w1 ⟨rfl, hb1⟩; have F1 := Fb.next HF.out hb1; have hX := F1.below.size; have F2 := Fb.next F1 ((Below.refl w1.heap.size w1).alloc (Nat.le_refl _) (.cells #[.int .i64 0] 3)); obtain ⟨z0, z1⟩ := And.intro F2.c0 F2.c1; rw [h])
      | (refine ⟨trivial, ?_⟩; gi_at_call 67; refine (callsIn_wide.2 (fittingmk_any _ _ _ _ _ _)).mono ?_; rintro e w2 ⟨rfl, rfl⟩))
    obtain ⟨W2, hW2⟩ : ∃ W2, w1.alloc (.cells #[.int .i64 0] 3) = W2 := ⟨_, rfl⟩
    have s2 : W2.heap.size = w1.heap.size + 1 := by rw [← hW2]; exact World.size_alloc _ _
    have x0 : W2.cell? ⟨w1.heap.size, 0, none⟩ = some (.int .i64 0) := by rw [← hW2]; exact alloc_cell _ _ _ _ _ rfl
    have x1 : W2.frozen? ⟨w1.heap.size, 0, none⟩ = false := by rw [← hW2]; simp
    rw [hW2] at F2
    rw [hW2]
    obtain ⟨W3, hW3⟩ : ∃ W3, (W2.alloc (.cells #[.int .i64 P, .int .i64 T] 23)).alloc (.cells #[.slice a cs.length cap] 24) = W3 := ⟨_, rfl⟩
    have HB3 : Hid (Below W2.heap.size W2 W3) := by rw [← hW3]; exact ((Below.refl _ _).alloc (Nat.le_refl _) _).alloc (by rw [World.size_alloc]; omega) _
    have e1 : (W2.alloc (.cells #[.int .i64 P, .int .i64 T] 23)).heap.size = W2.heap.size + 1 := World.size_alloc _ _
    have hs3 : W3.heap.size = W2.heap.size + 2 := by rw [← hW3, World.size_alloc, e1]
    have g0 : W3.cell? ⟨W2.heap.size, 0, none⟩ = some (.int .i64 P) := by rw [← hW3]; exact (alloc_old _ _ _ _ (by rw [e1]; omega)).trans (alloc_cell _ _ _ _ _ rfl)
    have g1 : W3.cell? ⟨W2.heap.size, 1, none⟩ = some (.int .i64 T) := by rw [← hW3]; exact (alloc_old _ _ _ _ (by rw [e1]; omega)).trans (alloc_cell _ _ _ _ _ rfl)
    have g2 : W3.cell? ⟨W2.heap.size + 1, 0, none⟩ = some (.slice a cs.length cap) := by rw [← hW3, ← e1]; exact alloc_cell _ _ _ _ _ rfl
    have hBW3 : Below w.heap.size w W3 := F2.below.trans (HB3.out.mono F2.below.size)
    rw [s2] at g0 g1 g2
    have HSEQ := Lib.hid (fitting1_seq P T (w1.heap.size + 1) (w1.heap.size + 1 + 1) hP1 hP hT a cs cap hn HVO.out w W3 HS.out hBW3 g0 g1 g2)
    have HI0 : Hid (CntI w w1.heap.size [] (fun b => b = w1.heap.size) (fun _ => False) W3) := ⟨(HB3.out.cell (p := ⟨w1.heap.size, 0, none⟩) (by show w1.heap.size < _; omega)).trans x0, (HB3.out.frozen (p := ⟨w1.heap.size, 0, none⟩) (by show w1.heap.size < _; omega)).trans x1, hBW3, fun _ => Iff.rfl, fun _ _ e => e⟩
    have HX := Lib.hid hX
    have HSZ : Hid (W2.heap.size = w1.heap.size + 1 ∧ W3.heap.size = W2.heap.size + 2) := ⟨s2, hs3⟩
    have HLT := Lib.hid F1.lt
    (try rw [hW3])
    clear g0 g1 g2 hBW3 e1 hW3 hW2 x0 x1 z0 z1 hb1 F1 F2 hX s2 hs3
    refine wpIn_rangeFunc_M (by omega) (gf := 95) (lb := #[.pointer (some ⟨w1.heap.size + 1, 0, none⟩), .pointer (some ⟨w1.heap.size + 1 + 1, 0, none⟩)]) rfl (enters_of Try.func95 (by kernel_rfl) rfl)
      HSEQ.out (Below.refl _ _) (fun _ => rfl) memP_put
      (fun s C T W' => CntI w w1.heap.size s C T W') (fun _ _ _ _ _ => False) CntI.client (fun _ => ⟨fun h => h.elim, fun h => h.elim⟩) (fun b => b = w1.heap.size) (fun _ => False) ?need (fun _ e => e.elim) HI0.out
      (fun x => { tmps := #[.agg #[.int .i64 P, .int .i64 T], .slice a cs.length cap, .pointer (some ⟨w.heap.size, 0, none⟩), undef, .int .i64 0, .int .i64 0, .pointer (some ⟨w1.heap.size, 0, none⟩), .agg #[.int .i64 P, .int .i64 T], .slice a cs.length cap, .bool true, .bool false, .agg #[.int .i64 P, .int .i64 T], .slice a cs.length cap, .func (.func 95) #[] #[.pointer (some ⟨w1.heap.size + 1, 0, none⟩), .pointer (some ⟨w1.heap.size + 1 + 1, 0, none⟩)], .slice (some ⟨x.1, 0, none⟩) x.2.length x.2.length, undef, undef, undef], defers := [] }) ?assign ?body ?done ?stop
    case need =>
      have h1 := HSZ.out
      have h2 := HX.out
      have h3 := HLT.out
      rintro b (hb | rfl | rfl)
      · exact ⟨fun e => by omega, by omega⟩
      · exact ⟨fun e => by omega, by omega⟩
      · exact ⟨fun e => by omega, by omega⟩
    case assign =>
      intro l2 x V K hK
      refine wpIn_skip ?_
      show K _ _
      simpa using hK
    case body =>
      rintro l2 pre ⟨xb, xs⟩ C T' V hI hmem - ⟨rest, hrest⟩
      have hpl : pre.length + 1 ≤ 65536 := by
        have e := congrArg List.length hrest
        have := HLN.out
        simp at e
        omega
      have HI := Lib.hid hI
      obtain ⟨r0, r1⟩ := And.intro hI.r hI.fr
      have HM := Lib.hid (hI.more (x := (xb, xs)) HX.out)
      clear hI hmem hrest
      dsimp only
      obtain ⟨L, hL⟩ : ∃ L, pre.length = L := ⟨_, rfl⟩
      rw [hL] at hpl r0 HM
      gi_wp2
      exact ⟨C, T', HM.out, fun b hb _ _ => hb, fun b hb => .inl hb, turned_set _ _ (.inl ((HI.out.cC _).2 rfl))⟩
    case done =>
      rintro D ys C T' V hD hys hI hTD hK
      have HI := Lib.hid hI
      have HT := Lib.hid hTD
      have HK := Lib.hid hK
      obtain ⟨r0, r1⟩ := And.intro hI.r hI.fr
      have hyl : ys.length = (fitP T P cs).length := by rw [← hys]; simp
      rw [hyl] at r0
      clear hI hys hTD hK hD hyl
      gi_wp2
      refine leavesP_marks (fun W => CntI w w1.heap.size ys C T' W) [D] ?_ ?_ [D] V (fun _ h => h) (by simp) ?_ HI.out
      · intro W E hE hW
        obtain rfl : E = D := by simpa using hE
        exact hW.keep (turned_put W _ HT.out) fun b e => .inl e
      · intro W hW
        exact ⟨.tuple #[.int .i64 ((fitP T P cs).length : Int), .int .i64 0], by simp [results, Try.results25, go_sem], by rw [HV.out], hW.bw⟩
      · intro E hE; rw [List.mem_singleton.1 hE]; exact HK.out
    case stop =>
      rintro D c pre C T' V hD h
      exact h.elim
end Go.Proofs.Ytoedbbpjddjbnaa
/- The span of a row's sums, in layer 7 and in its answers: contracts. -/
namespace Go.Proofs.Ytoedbbpjddjbnaa
open Go.RowKit

/-- A box of two values that may be written. -/
structure Bp (W : World) (b : Nat) (u v : Value) : Prop where
  lt : b < W.heap.size
  c0 : W.cell? ⟨b, 0, none⟩ = some u
  c1 : W.cell? ⟨b, 1, none⟩ = some v
  f0 : W.frozen? ⟨b, 0, none⟩ = false
  f1 : W.frozen? ⟨b, 1, none⟩ = false
theorem Bp.next {W W' : World} {b : Nat} {u v : Value} (h : Bp W b u v) (hb : Below W.heap.size W W') : Bp W' b u v :=
  ⟨Nat.lt_of_lt_of_le h.lt hb.size, (hb.cell (p := ⟨b, 0, none⟩) h.lt).trans h.c0, (hb.cell (p := ⟨b, 1, none⟩) h.lt).trans h.c1, (hb.frozen (p := ⟨b, 0, none⟩) h.lt).trans h.f0, (hb.frozen (p := ⟨b, 1, none⟩) h.lt).trans h.f1⟩
theorem Bp.new (W : World) (u v : Value) (t : TypeId) : Bp (W.alloc (.cells #[u, v] t)) W.heap.size u v := ⟨by rw [World.size_alloc]; omega, alloc_cell _ _ _ _ _ rfl, alloc_cell _ _ _ _ _ rfl, by simp, by simp⟩
theorem Bp.set0 {W : World} {b : Nat} {u v : Value} (h : Bp W b u v) (x : Value) : Bp (W.setCell ⟨b, 0, none⟩ x) b x v :=
  ⟨by rw [World.size_setCell]; exact h.lt, World.cell?_setCell_same _ _ _ h.c0, (World.cell?_setCell_other _ ⟨b, 0, none⟩ ⟨b, 1, none⟩ _ (by simp)).trans h.c1, by rw [World.frozen?_setCell]; exact h.f0, by rw [World.frozen?_setCell]; exact h.f1⟩
theorem Bp.set1 {W : World} {b : Nat} {u v : Value} (h : Bp W b u v) (x : Value) : Bp (W.setCell ⟨b, 1, none⟩ x) b u x :=
  ⟨by rw [World.size_setCell]; exact h.lt, (World.cell?_setCell_other _ ⟨b, 1, none⟩ ⟨b, 0, none⟩ _ (by simp)).trans h.c0, World.cell?_setCell_same _ _ _ h.c1, by rw [World.frozen?_setCell]; exact h.f0, by rw [World.frozen?_setCell]; exact h.f1⟩
theorem Bp.other {W : World} {b : Nat} {u v : Value} (h : Bp W b u v) {B : Nat} (hB : b ≠ B) (i : Nat) (x : Value) : Bp (W.setCell ⟨B, i, none⟩ x) b u v :=
  ⟨by rw [World.size_setCell]; exact h.lt, (cell_other _ _ _ _ hB).trans h.c0, (cell_other _ _ _ _ hB).trans h.c1, by rw [World.frozen?_setCell]; exact h.f0, by rw [World.frozen?_setCell]; exact h.f1⟩
theorem Fb.set {w : World} {p t : Int} {W : World} (h : Fb w p t W) {b i : Nat} (hb : w.heap.size < b) (x : Value) : Fb w p t (W.setCell ⟨b, i, none⟩ x) :=
  ⟨h.below.trans ((Below.refl _ _).setCell (p := ⟨b, i, none⟩) (by show _ ≤ b; omega) x), (cell_other _ _ _ _ (show w.heap.size ≠ b by omega)).trans h.c0, (cell_other _ _ _ _ (show w.heap.size ≠ b by omega)).trans h.c1, by rw [World.size_setCell]; exact h.lt⟩
/-- The least and the greatest sum of the first k numbers. -/
def loTo (t : Int) (xs : List Int) : Nat → Int
  | 0 => 0
  | k + 1 => loTo t xs k + min (gt xs k) 0 * t
def hiTo (t : Int) (xs : List Int) : Nat → Int
  | 0 => 0
  | k + 1 => hiTo t xs k + max (gt xs k) 0 * t
def sightV (p t : Int) (xs : List Int) : (Int × Int) × Int := if browB p t xs = true then ((loTo t xs xs.length, hiTo t xs xs.length), 0) else ((0, 0), 1)
theorem loTo_bd {t : Int} {xs : List Int} (h1 : okL (-1) 1 xs = true) (ht : 0 ≤ t ∧ t ≤ 3) : ∀ k, k ≤ xs.length → -(3 * (k : Int)) ≤ loTo t xs k ∧ loTo t xs k ≤ 0
  | 0, _ => by simp [loTo]
  | k + 1, hk => by
    have ih := loTo_bd h1 ht k (by omega)
    have a := okL_get h1 (show k < xs.length by omega)
    simp only [loTo]
    obtain c | c | c : gt xs k = -1 ∨ gt xs k = 0 ∨ gt xs k = 1 := by omega
    · rw [c, show min (-1 : Int) 0 = -1 by decide]; omega
    · rw [c, show min (0 : Int) 0 = 0 by decide]; omega
    · rw [c, show min (1 : Int) 0 = 0 by decide]; omega
theorem hiTo_bd {t : Int} {xs : List Int} (h1 : okL (-1) 1 xs = true) (ht : 0 ≤ t ∧ t ≤ 3) : ∀ k, k ≤ xs.length → 0 ≤ hiTo t xs k ∧ hiTo t xs k ≤ 3 * k
  | 0, _ => by simp [hiTo]
  | k + 1, hk => by
    have ih := hiTo_bd h1 ht k (by omega)
    have a := okL_get h1 (show k < xs.length by omega)
    simp only [hiTo]
    obtain c | c | c : gt xs k = -1 ∨ gt xs k = 0 ∨ gt xs k = 1 := by omega
    · rw [c, show max (-1 : Int) 0 = 0 by decide]; omega
    · rw [c, show max (0 : Int) 0 = 0 by decide]; omega
    · rw [c, show max (1 : Int) 0 = 1 by decide]; omega
set_option maxRecDepth 100000 in
set_option maxHeartbeats 1000000 in
theorem bsight_any (p t : Int) (a : Option Addr) (xs : List Int) (ca : Nat) (w : World) (hl : xs.length ≤ 140737488351232) (ha : Sl w a xs) :
    Calls Try.prog 17 #[.agg #[.int .i64 p, .int .i64 t], .slice a xs.length ca] w fun e w' => e = .returned (.tuple #[.agg #[.int .i64 (sightV p t xs).1.1, .int .i64 (sightV p t xs).1.2], .int .i64 (sightV p t xs).2]) ∧ Below w.heap.size w w' := by
  have HF := Lib.hid (Fb.new w p t 23)
  have HA := Lib.hid ha; clear ha
  obtain ⟨U, hU⟩ : ∃ U, (w.alloc (.cells #[.int .i64 p, .int .i64 t] 23)).alloc (.cells #[.int .i64 0, .int .i64 0] 34) = U := ⟨_, rfl⟩
  have HR : Hid (Bp U (w.heap.size + 1) (.int .i64 0) (.int .i64 0)) := by
    have h := Bp.new (w.alloc (.cells #[.int .i64 p, .int .i64 t] 23)) (.int .i64 0) (.int .i64 0) 34
    rw [World.size_alloc, hU] at h; exact h
  have HFU : Hid (Fb w p t U) := by rw [← hU]; exact HF.out.next ((Below.refl _ _).alloc (Nat.le_refl _) _)
  obtain ⟨z0, z1, z2, z3, z4, z5⟩ := And.intro HFU.out.c0 (And.intro HFU.out.c1 (And.intro HR.out.c0 (And.intro HR.out.c1 (And.intro HR.out.f0 HR.out.f1))))
  cases h : browB p t xs
  · have HV := Lib.hid (show sightV p t xs = ((0, 0), 1) by unfold sightV; rw [h]; rfl)
    go_enter Try.func17, Try.ntmps17
    go_wp2_with (go_at_call 53; refine (vrow_any p t a xs ca _ hl (HFU.out.sl HA.out)).mono ?_; rintro e w1 ⟨rfl, hb1⟩; have F1 := Fb.next HFU.out hb1; have R1 := HR.out.next hb1; obtain ⟨j0, j1, k0, k1, k2, k3⟩ := And.intro F1.c0 (And.intro F1.c1 (And.intro R1.c0 (And.intro R1.c1 (And.intro R1.f0 R1.f1)))); rw [h])
    have R2 := (R1.set0 (.int .i64 0)).set1 (.int .i64 0)
    have F2 := (F1.set (b := w.heap.size + 1) (i := 0) (by omega) (.int .i64 0)).set (b := w.heap.size + 1) (i := 1) (by omega) (.int .i64 0)
    obtain ⟨e0, e1⟩ := And.intro R2.c0 R2.c1
    refine bodyPost_ret (v := .tuple #[.agg #[.int .i64 0, .int .i64 0], .int .i64 1]) ?_ rfl ⟨by rw [HV.out], F2.below⟩
    rw [results_cell_tmp rfl]; go_simp
  · have HV := Lib.hid (show sightV p t xs = ((loTo t xs xs.length, hiTo t xs xs.length), 0) by unfold sightV; rw [h]; rfl)
    go_enter Try.func17, Try.ntmps17
    go_wp2_with (go_at_call 53; refine (vrow_any p t a xs ca _ hl (HFU.out.sl HA.out)).mono ?_; rintro e w1 ⟨rfl, hb1⟩; have F1 := Fb.next HFU.out hb1; have R1 := HR.out.next hb1; obtain ⟨j0, j1, k0, k1, k2, k3⟩ := And.intro F1.c0 (And.intro F1.c1 (And.intro R1.c0 (And.intro R1.c1 (And.intro R1.f0 R1.f1)))); rw [h])
    obtain ⟨V, hV⟩ : ∃ V, w1.alloc (.cells #[.int .i64 0, .int .i64 0] 34) = V := ⟨_, rfl⟩
    have hbV : Below w1.heap.size w1 V := by rw [← hV]; exact (Below.refl _ _).alloc (Nat.le_refl _) _
    have I0 := Lib.hid (F1.next hbV)
    have I1 := Lib.hid (R1.next hbV)
    have I2 : Hid (Bp V w1.heap.size (.int .i64 0) (.int .i64 0)) := by show Bp _ _ _ _; rw [← hV]; exact Bp.new _ _ _ _
    have HX : Hid (w.heap.size + 1 < w1.heap.size) := R1.lt
    have HO := Lib.hid (brow_of h)
    rw [hV]
    clear hV hbV F1 R1 j0 j1 k0 k1 k2 k3 hb1 z0 z1 z2 z3 z4 z5 h
    generalize w1.heap.size = X at *
    go_loopw [16] (fun i wr => ∃ k : Nat, k ≤ xs.length ∧ i = .int .i64 k ∧ Fb w p t wr ∧ Bp wr (w.heap.size + 1) (.int .i64 0) (.int .i64 0) ∧ Bp wr X (.int .i64 (loTo t xs k)) (.int .i64 (hiTo t xs k))) (fun i _ => xs.length - (intOf i).toNat)
    case atStart => exact ⟨0, Nat.zero_le _, rfl, I0.out, I1.out, I2.out⟩
    case round =>
      clear I0 I1 I2
      obtain ⟨k, hk, rfl, f, r, q⟩ := hrel
      have HF1 := Lib.hid f
      have HR1 := Lib.hid r
      have HQ := Lib.hid q
      by_cases hlt : k < xs.length
      · obtain ⟨b1, o1, x, rfl, hcx, HX1⟩ := (f.sl HA.out).at hlt
        have hx : gt xs k = x := gt_some' HX1.out
        have hL := Lib.hid (show loTo t xs (k + 1) = loTo t xs k + min x 0 * t by show loTo t xs k + min (gt xs k) 0 * t = _; rw [hx])
        have hH := Lib.hid (show hiTo t xs (k + 1) = hiTo t xs k + max x 0 * t by show hiTo t xs k + max (gt xs k) 0 * t = _; rw [hx])
        have xb := okL_get HO.out.2.2.2.2.2 hlt
        have lb := loTo_bd HO.out.2.2.2.2.2 ⟨HO.out.2.2.1, HO.out.2.2.2.1⟩ k hk
        have hb := hiTo_bd HO.out.2.2.2.2.2 ⟨HO.out.2.2.1, HO.out.2.2.2.1⟩ k hk
        have hne : w.heap.size ≠ X := by have := HX.out; omega
        have hne2 : w.heap.size + 1 ≠ X := by have := HX.out; omega
        have HN := Lib.hid (And.intro hne hne2)
        have HS' : Hid (∀ u v, Fb w p t ((wr.setCell ⟨X, 0, none⟩ u).setCell ⟨X, 1, none⟩ v) ∧ Bp ((wr.setCell ⟨X, 0, none⟩ u).setCell ⟨X, 1, none⟩ v) (w.heap.size + 1) (.int .i64 0) (.int .i64 0) ∧ Bp ((wr.setCell ⟨X, 0, none⟩ u).setCell ⟨X, 1, none⟩ v) X u v) := fun u v =>
          ⟨(f.set (by have := HX.out; omega) u).set (by have := HX.out; omega) v, (r.other hne2 0 u).other hne2 1 v, (q.set0 u).set1 v⟩
        obtain ⟨_, _⟩ := And.intro f.c0 f.c1
        obtain ⟨_, _, _, _⟩ := And.intro q.c0 (And.intro q.c1 (And.intro q.f0 q.f1))
        obtain ⟨t0, t1⟩ := And.intro HO.out.2.2.1 HO.out.2.2.2.1
        clear f r q
        generalize loTo t xs k = A at *
        generalize hiTo t xs k = B at *
        obtain rfl | rfl | rfl : x = -1 ∨ x = 0 ∨ x = 1 := by rw [hx] at xb; omega
        · have hA : A + min (-1 : Int) 0 * t = A + -t := by rw [show min (-1 : Int) 0 = -1 by decide]; omega
          have hB : B + max (-1 : Int) 0 * t = B := by rw [show max (-1 : Int) 0 = 0 by decide]; omega
          have HE := Lib.hid (And.intro (hL.out.trans hA) (hH.out.trans hB))
          clear hA hB
          go_wp2
          refine ⟨⟨k + 1, by omega, by go_num, ?_⟩, by simp [intOf]; omega⟩
          rw [HE.out.1, HE.out.2]
          exact HS'.out _ _
        · have hA : A + min (0 : Int) 0 * t = A := by rw [show min (0 : Int) 0 = 0 by decide]; omega
          have hB : B + max (0 : Int) 0 * t = B := by rw [show max (0 : Int) 0 = 0 by decide]; omega
          have HE := Lib.hid (And.intro (hL.out.trans hA) (hH.out.trans hB))
          clear hA hB
          go_wp2
          refine ⟨⟨k + 1, by omega, by go_num, ?_⟩, by simp [intOf]; omega⟩
          rw [HE.out.1, HE.out.2]
          exact HS'.out _ _
        · have hA : A + min (1 : Int) 0 * t = A := by rw [show min (1 : Int) 0 = 0 by decide]; omega
          have hB : B + max (1 : Int) 0 * t = B + t := by rw [show max (1 : Int) 0 = 1 by decide]; omega
          have HE := Lib.hid (And.intro (hL.out.trans hA) (hH.out.trans hB))
          clear hA hB
          go_wp2
          refine ⟨⟨k + 1, by omega, by go_num, ?_⟩, by simp [intOf]; omega⟩
          rw [HE.out.1, HE.out.2]
          exact HS'.out _ _
      · obtain rfl : k = xs.length := by omega
        obtain ⟨_, _, _, _⟩ := And.intro r.c0 (And.intro r.c1 (And.intro r.f0 r.f1))
        obtain ⟨_, _⟩ := And.intro q.c0 q.c1
        clear f r q
        go_wp2
        refine bodyPost_ret (v := .tuple #[.agg #[.int .i64 (loTo t xs xs.length), .int .i64 (hiTo t xs xs.length)], .int .i64 0]) ?_ rfl ⟨by rw [HV.out], ?_⟩
        · have R2 := (HR1.out.set0 (.int .i64 (loTo t xs xs.length))).set1 (.int .i64 (hiTo t xs xs.length))
          obtain ⟨e0, e1⟩ := And.intro R2.c0 R2.c1
          rw [results_cell_tmp rfl]; go_simp
        · exact ((HF1.out.set (b := w.heap.size + 1) (i := 0) (by omega) _).set (b := w.heap.size + 1) (i := 1) (by omega) _).below
end Go.Proofs.Ytoedbbpjddjbnaa
/- The span of a row's sums, in layer 7's answers: a contract. -/
namespace Go.Proofs.Ytoedbbpjddjbnaa
open Go.RowKit

set_option maxRecDepth 100000 in
set_option maxHeartbeats 1000000 in
theorem rsight_any (p t : Int) (a : Option Addr) (xs : List Int) (ca : Nat) (w : World) (hl : xs.length ≤ 140737488351232) (ha : Sl w a xs) :
    Calls Try.prog 18 #[.agg #[.int .i64 p, .int .i64 t], .slice a xs.length ca] w fun e w' => e = .returned (.tuple #[.agg #[.int .i64 (sightV p t xs).1.1, .int .i64 (sightV p t xs).1.2], .int .i64 (sightV p t xs).2]) ∧ Below w.heap.size w w' := by
  have HF := Lib.hid (Fb.new w p t 23)
  have HA := Lib.hid ha; clear ha
  obtain ⟨U, hU⟩ : ∃ U, (w.alloc (.cells #[.int .i64 p, .int .i64 t] 23)).alloc (.cells #[.int .i64 0, .int .i64 0] 34) = U := ⟨_, rfl⟩
  have HR : Hid (Bp U (w.heap.size + 1) (.int .i64 0) (.int .i64 0)) := by
    have h := Bp.new (w.alloc (.cells #[.int .i64 p, .int .i64 t] 23)) (.int .i64 0) (.int .i64 0) 34
    rw [World.size_alloc, hU] at h; exact h
  have HFU : Hid (Fb w p t U) := by rw [← hU]; exact HF.out.next ((Below.refl _ _).alloc (Nat.le_refl _) _)
  obtain ⟨z0, z1, z2, z3, z4, z5⟩ := And.intro HFU.out.c0 (And.intro HFU.out.c1 (And.intro HR.out.c0 (And.intro HR.out.c1 (And.intro HR.out.f0 HR.out.f1))))
  cases h : browB p t xs
  · have HV := Lib.hid (show sightV p t xs = ((0, 0), 1) by unfold sightV; rw [h]; rfl)
    have hr : rowE p t xs = 1 := by unfold rowE; rw [h]; rfl
    go_enter Try.func18, Try.ntmps18
    go_wp2_with (go_at_call 56; refine (rowed_any p t a xs ca _ hl (HFU.out.sl HA.out)).mono ?_; rintro e w1 ⟨rfl, hb1⟩; have F1 := Fb.next HFU.out hb1; have R1 := HR.out.next hb1; obtain ⟨j0, j1, k0, k1, k2, k3⟩ := And.intro F1.c0 (And.intro F1.c1 (And.intro R1.c0 (And.intro R1.c1 (And.intro R1.f0 R1.f1)))); rw [hr])
    have R2 := (R1.set0 (.int .i64 0)).set1 (.int .i64 0)
    have F2 := (F1.set (b := w.heap.size + 1) (i := 0) (by omega) (.int .i64 0)).set (b := w.heap.size + 1) (i := 1) (by omega) (.int .i64 0)
    obtain ⟨e0, e1⟩ := And.intro R2.c0 R2.c1
    refine bodyPost_ret (v := .tuple #[.agg #[.int .i64 0, .int .i64 0], .int .i64 1]) ?_ rfl ⟨by rw [HV.out], F2.below⟩
    rw [results_cell_tmp rfl]; go_simp
  · have HV := Lib.hid (show sightV p t xs = ((loTo t xs xs.length, hiTo t xs xs.length), 0) by unfold sightV; rw [h]; rfl)
    have hr : rowE p t xs = 0 := by unfold rowE; rw [h]; rfl
    go_enter Try.func18, Try.ntmps18
    go_wp2_with (go_at_call 56; refine (rowed_any p t a xs ca _ hl (HFU.out.sl HA.out)).mono ?_; rintro e w1 ⟨rfl, hb1⟩; have F1 := Fb.next HFU.out hb1; have R1 := HR.out.next hb1; obtain ⟨j0, j1, k0, k1, k2, k3⟩ := And.intro F1.c0 (And.intro F1.c1 (And.intro R1.c0 (And.intro R1.c1 (And.intro R1.f0 R1.f1)))); rw [hr])
    obtain ⟨V, hV⟩ : ∃ V, w1.alloc (.cells #[.int .i64 0, .int .i64 0] 34) = V := ⟨_, rfl⟩
    have hbV : Below w1.heap.size w1 V := by rw [← hV]; exact (Below.refl _ _).alloc (Nat.le_refl _) _
    have I0 := Lib.hid (F1.next hbV)
    have I1 := Lib.hid (R1.next hbV)
    have I2 : Hid (Bp V w1.heap.size (.int .i64 0) (.int .i64 0)) := by show Bp _ _ _ _; rw [← hV]; exact Bp.new _ _ _ _
    have HX : Hid (w.heap.size + 1 < w1.heap.size) := R1.lt
    have HO := Lib.hid (brow_of h)
    rw [hV]
    clear hV hbV F1 R1 j0 j1 k0 k1 k2 k3 hb1 z0 z1 z2 z3 z4 z5 h
    generalize w1.heap.size = X at *
    go_loopw [20] (fun i wr => ∃ k : Nat, k ≤ xs.length ∧ i = .int .i64 k ∧ Fb w p t wr ∧ Bp wr (w.heap.size + 1) (.int .i64 0) (.int .i64 0) ∧ Bp wr X (.int .i64 (loTo t xs k)) (.int .i64 (hiTo t xs k))) (fun i _ => xs.length - (intOf i).toNat)
    case atStart => exact ⟨0, Nat.zero_le _, rfl, I0.out, I1.out, I2.out⟩
    case round =>
      clear I0 I1 I2
      obtain ⟨k, hk, rfl, f, r, q⟩ := hrel
      have HF1 := Lib.hid f
      have HR1 := Lib.hid r
      have HQ := Lib.hid q
      by_cases hlt : k < xs.length
      · obtain ⟨b1, o1, x, rfl, hcx, HX1⟩ := (f.sl HA.out).at hlt
        have hx : gt xs k = x := gt_some' HX1.out
        have hL := Lib.hid (show loTo t xs (k + 1) = loTo t xs k + min x 0 * t by show loTo t xs k + min (gt xs k) 0 * t = _; rw [hx])
        have hH := Lib.hid (show hiTo t xs (k + 1) = hiTo t xs k + max x 0 * t by show hiTo t xs k + max (gt xs k) 0 * t = _; rw [hx])
        have xb := okL_get HO.out.2.2.2.2.2 hlt
        have lb := loTo_bd HO.out.2.2.2.2.2 ⟨HO.out.2.2.1, HO.out.2.2.2.1⟩ k hk
        have hb := hiTo_bd HO.out.2.2.2.2.2 ⟨HO.out.2.2.1, HO.out.2.2.2.1⟩ k hk
        have hne : w.heap.size ≠ X := by have := HX.out; omega
        have hne2 : w.heap.size + 1 ≠ X := by have := HX.out; omega
        have HN := Lib.hid (And.intro hne hne2)
        have HS0 : Hid (∀ u, Fb w p t (wr.setCell ⟨X, 0, none⟩ u) ∧ Bp (wr.setCell ⟨X, 0, none⟩ u) (w.heap.size + 1) (.int .i64 0) (.int .i64 0) ∧ Bp (wr.setCell ⟨X, 0, none⟩ u) X u (.int .i64 (hiTo t xs k))) := fun u =>
          ⟨f.set (by have := HX.out; omega) u, r.other hne2 0 u, q.set0 u⟩
        have HS1 : Hid (∀ u, Fb w p t (wr.setCell ⟨X, 1, none⟩ u) ∧ Bp (wr.setCell ⟨X, 1, none⟩ u) (w.heap.size + 1) (.int .i64 0) (.int .i64 0) ∧ Bp (wr.setCell ⟨X, 1, none⟩ u) X (.int .i64 (loTo t xs k)) u) := fun u =>
          ⟨f.set (by have := HX.out; omega) u, r.other hne2 1 u, q.set1 u⟩
        obtain ⟨_, _⟩ := And.intro f.c0 f.c1
        obtain ⟨_, _, _, _⟩ := And.intro q.c0 (And.intro q.c1 (And.intro q.f0 q.f1))
        obtain ⟨t0, t1⟩ := And.intro HO.out.2.2.1 HO.out.2.2.2.1
        clear f r q
        generalize loTo t xs k = A at *
        generalize hiTo t xs k = B at *
        obtain rfl | rfl | rfl : x = -1 ∨ x = 0 ∨ x = 1 := by rw [hx] at xb; omega
        · have hA : A + min (-1 : Int) 0 * t = A - t := by rw [show min (-1 : Int) 0 = -1 by decide]; omega
          have hB : B + max (-1 : Int) 0 * t = B := by rw [show max (-1 : Int) 0 = 0 by decide]; omega
          have HE := Lib.hid (And.intro (hL.out.trans hA) (hH.out.trans hB))
          clear hA hB
          go_wp2
          refine ⟨⟨k + 1, by omega, by go_num, ?_⟩, by simp [intOf]; omega⟩
          rw [HE.out.1, HE.out.2]
          exact HS0.out _
        · have hA : A + min (0 : Int) 0 * t = A := by rw [show min (0 : Int) 0 = 0 by decide]; omega
          have hB : B + max (0 : Int) 0 * t = B := by rw [show max (0 : Int) 0 = 0 by decide]; omega
          have HE := Lib.hid (And.intro (hL.out.trans hA) (hH.out.trans hB))
          clear hA hB
          go_wp2
          refine ⟨⟨k + 1, by omega, by go_num, ?_⟩, by simp [intOf]; omega⟩
          rw [HE.out.1, HE.out.2]
          exact ⟨HF1.out, HR1.out, HQ.out⟩
        · have hA : A + min (1 : Int) 0 * t = A := by rw [show min (1 : Int) 0 = 0 by decide]; omega
          have hB : B + max (1 : Int) 0 * t = B + t := by rw [show max (1 : Int) 0 = 1 by decide]; omega
          have HE := Lib.hid (And.intro (hL.out.trans hA) (hH.out.trans hB))
          clear hA hB
          go_wp2
          refine ⟨⟨k + 1, by omega, by go_num, ?_⟩, by simp [intOf]; omega⟩
          rw [HE.out.1, HE.out.2]
          exact HS1.out _
      · obtain rfl : k = xs.length := by omega
        obtain ⟨_, _, _, _⟩ := And.intro r.c0 (And.intro r.c1 (And.intro r.f0 r.f1))
        obtain ⟨_, _⟩ := And.intro q.c0 q.c1
        clear f r q
        go_wp2
        refine bodyPost_ret (v := .tuple #[.agg #[.int .i64 (loTo t xs xs.length), .int .i64 (hiTo t xs xs.length)], .int .i64 0]) ?_ rfl ⟨by rw [HV.out], ?_⟩
        · have R2 := (HR1.out.set0 (.int .i64 (loTo t xs xs.length))).set1 (.int .i64 (hiTo t xs xs.length))
          obtain ⟨e0, e1⟩ := And.intro R2.c0 R2.c1
          rw [results_cell_tmp rfl]; go_simp
        · exact ((HF1.out.set (b := w.heap.size + 1) (i := 0) (by omega) _).set (b := w.heap.size + 1) (i := 1) (by omega) _).below
end Go.Proofs.Ytoedbbpjddjbnaa
/- awake, few and fit of layer 7's laws. -/
namespace Go.Proofs.Ytoedbbpjddjbnaa
open Go.RowKit

theorem sl_two (W : World) (ty : TypeId) : Sl (W.alloc (.cells #[.int .i64 1, .int .i64 1] ty)) (some ⟨W.heap.size, 0, none⟩) [1, 1] := by
  intro k hk
  refine ⟨W.heap.size, 0, rfl, ?_⟩
  rw [Nat.zero_add]
  match k, hk with
  | 0, _ => exact alloc_cell _ _ _ _ _ rfl
  | 1, _ => exact alloc_cell _ _ _ _ _ rfl
theorem cs_one (W : World) (A : Nat) (ty : TypeId) (hs : Sl W (some ⟨A, 0, none⟩) [1, 1]) : Cs (W.alloc (.cells #[.slice (some ⟨A, 0, none⟩) 2 2, .int .i64 1, .int .i64 1] ty)) (some ⟨W.heap.size, 0, none⟩) [([1, 1], 1, 1)] := by
  intro j c hj
  match j, hj with
  | 0, hj =>
    simp at hj; subst hj
    exact ⟨W.heap.size, 0, some ⟨A, 0, none⟩, 2, rfl, alloc_cell _ _ _ _ _ rfl, alloc_cell _ _ _ _ _ rfl, alloc_cell _ _ _ _ _ rfl, hs.below ((Below.refl _ _).alloc (Nat.le_refl _) _)⟩
theorem count_two : countV 2 1 [([1, 1], 1, 1)] = (2, 0) := by decide +kernel
theorem sight_two : sightV 2 1 [1, 1] = ((0, 2), 0) := by decide +kernel
set_option maxRecDepth 1000000 in
set_option maxHeartbeats 2000000 in
theorem awake7_any (w : World) : Calls Try.prog 12 #[] w fun e w' => e = .returned (.bool true) ∧ Below w.heap.size w w' := by
  have HCO : Hid (∀ B W, Cs W (some ⟨B, 0, none⟩) [([1, 1], 1, 1)] → Calls Try.prog 25 #[.agg #[.int .i64 2, .int .i64 1], .slice (some ⟨B, 0, none⟩) 1 1] W fun e w' => e = .returned (.tuple #[.int .i64 2, .int .i64 0]) ∧ Below W.heap.size W w') := fun B W h => by
    have k := bcount_any 2 1 (some ⟨B, 0, none⟩) [([1, 1], 1, 1)] 1 W (by simp) (fun c hc => by simp at hc; subst hc; simp) h
    rw [count_two] at k; exact k
  have HSI : Hid (∀ B W, Sl W (some ⟨B, 0, none⟩) [1, 1] → Calls Try.prog 17 #[.agg #[.int .i64 2, .int .i64 1], .slice (some ⟨B, 0, none⟩) 2 2] W fun e w' => e = .returned (.tuple #[.agg #[.int .i64 0, .int .i64 2], .int .i64 0]) ∧ Below W.heap.size W w') := fun B W h => by
    have k := bsight_any 2 1 (some ⟨B, 0, none⟩) [1, 1] 2 W (by simp) h
    rw [sight_two] at k; exact k
  obtain ⟨U1, hU1⟩ : ∃ U, w.alloc (.cells #[.int .i64 2, .int .i64 1] 23) = U := ⟨_, rfl⟩
  obtain ⟨U2, hU2⟩ : ∃ U, U1.alloc (.cells #[.int .i64 1, .int .i64 1] 3) = U := ⟨_, rfl⟩
  obtain ⟨U3, hU3⟩ : ∃ U, U2.alloc (.cells #[.slice (some ⟨U1.heap.size, 0, none⟩) 2 2, .int .i64 1, .int .i64 1] 49) = U := ⟨_, rfl⟩
  have f1 : Fb w 2 1 U1 := by rw [← hU1]; exact Fb.new _ _ _ _
  have f2 : Fb w 2 1 U2 := f1.next (by rw [← hU2]; exact (Below.refl _ _).alloc (Nat.le_refl _) _)
  have f3 : Fb w 2 1 U3 := f2.next (by rw [← hU3]; exact (Below.refl _ _).alloc (Nat.le_refl _) _)
  have HF3 := Lib.hid f3
  have HCS : Hid (Cs U3 (some ⟨U2.heap.size, 0, none⟩) [([1, 1], 1, 1)]) := by
    have h2 : Sl U2 (some ⟨U1.heap.size, 0, none⟩) [1, 1] := by rw [← hU2]; exact sl_two U1 _
    show Cs _ _ _
    rw [← hU3]; exact cs_one U2 U1.heap.size _ h2
  have HC3 := Lib.hid (HCO.out _ _ HCS.out)
  have HFW : Hid (∀ W, Fb w 2 1 W → Calls Try.prog 17 #[.agg #[.int .i64 2, .int .i64 1], .slice (some ⟨W.heap.size, 0, none⟩) 2 2] (W.alloc (.cells #[.int .i64 1, .int .i64 1] 3)) fun e w' => e = .returned (.tuple #[.agg #[.int .i64 0, .int .i64 2], .int .i64 0]) ∧ Fb w 2 1 w') := fun W h =>
    (HSI.out _ _ (sl_two W 3)).mono fun e w' ⟨k1, k2⟩ => ⟨k1, (h.next ((Below.refl _ _).alloc (Nat.le_refl _) _)).next k2⟩
  obtain ⟨z0, z1⟩ := And.intro f1.c0 f1.c1
  obtain ⟨z2, z3⟩ := And.intro f3.c0 f3.c1
  clear f1 f2 f3
  go_enter Try.func12, Try.ntmps12
  go_wp2_with (first
    | (go_at_call 25; refine HC3.out.mono ?_; rintro e w4 ⟨rfl, hb4⟩; have F4 := HF3.out.next hb4; obtain ⟨y0, y1⟩ := And.intro F4.c0 F4.c1)
    | (go_at_call 17; refine (HFW.out _ F4).mono ?_; rintro e w5 ⟨rfl, F5⟩))
  go_ret
  exact ⟨rfl, (F5.next ((Below.refl _ _).alloc (Nat.le_refl _) _)).below⟩
/-- What few answers. -/
def fewB (p t most : Int) : Bool := if vfB p t = true then decide ((pw t.toNat p.toNat : Int) ≤ most) else true
set_option maxRecDepth 100000 in
theorem few7_any (p t most : Int) (w : World) : Calls Try.prog 10 #[.agg #[.int .i64 p, .int .i64 t], .int .i64 most] w fun e w' => e = .returned (.bool (fewB p t most)) ∧ Below w.heap.size w w' := by
  have HF := Lib.hid (Fb.new w p t 23)
  cases h : vfB p t
  · have HV := Lib.hid (show fewB p t most = true by unfold fewB; rw [h]; rfl)
    go_enter Try.func10, Try.ntmps10
    go_wp2_with (go_at_call 20; refine (rvfield_any _ _ _).mono ?_; rintro e w1 ⟨rfl, hb1⟩; have F1 := Fb.next HF.out hb1; obtain ⟨k0, k1⟩ := And.intro F1.c0 F1.c1; rw [h])
    go_ret
    exact ⟨ret_bool HV.out.symm, F1.below⟩
  · obtain ⟨P, T, rfl, rfl, hP1, hP, hT⟩ := vf_of h
    have HV := Lib.hid (show fewB P T most = decide ((pw T P : Int) ≤ most) by unfold fewB; rw [h]; simp)
    have HPB := Lib.hid (fun k (hk : k ≤ 8) => show pw T k ≤ 65536 from pow_bd (T := T) (k := k) hT hk)
    go_enter Try.func10, Try.ntmps10
    go_wp2_with (go_at_call 20; refine (rvfield_any _ _ _).mono ?_; rintro e w1 ⟨rfl, hb1⟩; have F1 := Fb.next HF.out hb1; obtain ⟨k0, k1⟩ := And.intro F1.c0 F1.c1; rw [h])
    go_loop [5, 11] (fun s i => ∃ k : Nat, k ≤ P ∧ i = .int .i64 k ∧ s = .int .i64 (pw T k : Int)) (fun _ i => P - (intOf i).toNat)
    case atStart => exact ⟨0, Nat.zero_le _, rfl, rfl⟩
    case round =>
      obtain ⟨k, hk, rfl, rfl⟩ := hrel
      by_cases hlt : k < P
      · have hb : pw T k ≤ 65536 := HPB.out k (by omega)
        have HS := Lib.hid (show pw T (k + 1) = pw T k * (T + 1) from Nat.pow_succ ..)
        generalize pw T k = A at *
        have hm1 : (A : Int) * ((T : Int) + 1) = ((A * (T + 1) : Nat) : Int) := by simp
        have hm2 : A * (T + 1) ≤ 65536 * 4 := Nat.mul_le_mul hb (by omega)
        have hm3 : IntKind.i64.wrap ((A : Int) * ((T : Int) + 1)) = ((A * (T + 1) : Nat) : Int) := by rw [hm1]; exact IntWalk.i64_in _ (by omega)
        clear hm1
        go_wp2
        all_goals go_round
        case rel => exact ⟨k + 1, by omega, by go_num, by rw [HS.out]; simp⟩
        case measure => simp [intOf]; omega
      · obtain rfl : k = P := by omega
        go_wp2
        all_goals go_ret
        all_goals exact ⟨ret_bool HV.out.symm, F1.below⟩
def fitB (cs : List Cl) : Bool := (cs.all fun c => decide (c.1.length ≤ 20)) && decide (cs.length ≤ 35)
set_option maxRecDepth 100000 in
set_option maxHeartbeats 1000000 in
theorem fit7_any (a : Option Addr) (cs : List Cl) (cap : Nat) (w : World) (hn : cs.length ≤ 9223372036854775807) (hlc : ∀ c ∈ cs, c.1.length ≤ 9223372036854775807) (hs : Cs w a cs) :
    Calls Try.prog 11 #[.slice a cs.length cap] w fun e w' => e = .returned (.bool (fitB cs)) ∧ Below w.heap.size w w' := by
  have HS := Lib.hid hs; clear hs
  have HLC := Lib.hid hlc; clear hlc
  go_enter Try.func11, Try.ntmps11
  go_wp2
  go_loopw [7] (fun i wr => ∃ k : Nat, k ≤ cs.length ∧ i = .int .i64 k ∧ (∀ (j : Nat) (y : Cl), j < k → cs[j]? = some y → y.1.length ≤ 20) ∧ Below w.heap.size w wr) (fun i _ => cs.length - (intOf i).toNat)
  case atStart => exact ⟨0, Nat.zero_le _, rfl, fun j y h => by omega, Below.refl _ _⟩
  case round =>
    obtain ⟨k, hk, rfl, hno, hb⟩ := hrel
    have HN := Lib.hid hno; clear hno
    have HB0 := Lib.hid hb; clear hb
    by_cases hlt : k < cs.length
    · obtain ⟨⟨xs, lo, hi⟩, hcc⟩ : ∃ c, cs[k]? = some c := ⟨cs[k], by simp [hlt]⟩
      obtain ⟨b, o, ra, rc, rfl, q0, q1, q2, q3⟩ := (HS.out.below HB0.out) k _ hcc
      dsimp only at q0 q1 q2
      have HCC := Lib.hid hcc
      have hxl : xs.length ≤ 9223372036854775807 := HLC.out _ (List.mem_of_getElem? hcc)
      obtain ⟨U, hU⟩ : ∃ U, wr.alloc (.cells #[.slice ra xs.length rc, .int .i64 lo, .int .i64 hi] 49) = U := ⟨_, rfl⟩
      have HB : Hid (Below wr.heap.size wr U) := by rw [← hU]; exact (Below.refl _ _).alloc (Nat.le_refl _) _
      have HBU : Hid (Below w.heap.size w U) := HB0.out.trans (HB.out.mono HB0.out.size)
      have HC : Hid (Cb wr.heap.size ra xs.length rc lo hi U) := by show Cb _ _ _ _ _ _ _; rw [← hU]; exact Cb.new _ _ _ _ _ _ _
      obtain ⟨z2, z3, z4⟩ := And.intro HC.out.c0 (And.intro HC.out.c1 HC.out.c2)
      clear q3 hcc
      by_cases hx : (20 : Int) < (xs.length : Int)
      · go_wp2
        go_ret
        have e : fitB cs = false := by
          unfold fitB
          have : (cs.all fun c => decide (c.1.length ≤ 20)) = false := by rw [List.all_eq_false]; exact ⟨_, List.mem_of_getElem? HCC.out, by simp; omega⟩
          rw [this]; rfl
        exact ⟨ret_bool e.symm, HBU.out⟩
      · go_wp2
        go_roundw
        case rel => exact ⟨k + 1, by omega, by go_num, fun j y hj hy => by
            by_cases hj' : j = k
            · subst hj'; rw [HCC.out] at hy; cases hy; show xs.length ≤ 20; omega
            · exact HN.out j y (by omega) hy, HBU.out⟩
        case measure => simp [intOf]; omega
    · have HA : Hid ((cs.all fun c => decide (c.1.length ≤ 20)) = true) := by
        show _ = _
        rw [List.all_eq_true]
        intro c hc
        obtain ⟨i, hi, rfl⟩ := List.mem_iff_getElem.1 hc
        have := HN.out i cs[i] (by omega) (List.getElem?_eq_getElem hi)
        simpa using this
      go_wp2
      all_goals go_ret
      all_goals exact ⟨ret_bool (by unfold fitB; rw [HA.out, Bool.true_and]; first | (simp; done) | (simp; omega)), HB0.out⟩
end Go.Proofs.Ytoedbbpjddjbnaa
/- Masks: how a slice of slices of ints reads, and how it is opened as an argument. Speaks of no function. -/
namespace Go.Proofs.Ytoedbbpjddjbnaa
open Go.ChangeShapes Go.WideShapes Go.ChangeAt Go.RowKit Go.Joins

theorem Below.next {n : Nat} {w w1 w2 : World} (h : Below n w w1) (h2 : Below w1.heap.size w1 w2) (hn : n ≤ w.heap.size) : Below n w w2 := h.trans (h2.mono (Nat.le_trans hn h.size))
theorem drew_below {w w' : World} {n : Nat} (h : w' = w.drewN n) : Below w.heap.size w w' := by subst h; exact below_drewN (Below.refl _ _) _
/-- The cells behind a slice's address read as slices of the rows of numbers. -/
def Ms (w : World) (a : Option Addr) (m : List (List Int)) : Prop :=
  ∀ i, i < m.length → ∃ b off ai ci, a = some ⟨b, off, none⟩ ∧ w.cell? ⟨b, off + i, none⟩ = some (.slice ai (m[i]?.getD []).length ci) ∧ Sl w ai (m[i]?.getD [])

theorem Ms.at {w : World} {a : Option Addr} {m : List (List Int)} (h : Ms w a m) {i : Nat} (hi : i < m.length) :
    ∃ b off ai r ci, a = some ⟨b, off, none⟩ ∧ w.cell? ⟨b, off + i, none⟩ = some (.slice ai r.length ci) ∧ Sl w ai r ∧ Hid (m[i]? = some r) := by
  obtain ⟨b, off, ai, ci, h1, h2, h3⟩ := h i hi
  have e : m[i]? = some m[i] := by simp [hi]
  rw [e] at h2 h3
  exact ⟨b, off, ai, m[i], ci, h1, h2, h3, e⟩
theorem Ms.below {w w' : World} {a : Option Addr} {m : List (List Int)} (h : Ms w a m) (hb : Below w.heap.size w w') : Ms w' a m := by
  intro i hi
  obtain ⟨b, off, ai, ci, h1, h2, h3⟩ := h i hi
  exact ⟨b, off, ai, ci, h1, (hb.cell (p := ⟨b, off + i, none⟩) (cell_lt h2)).trans h2, h3.below hb⟩
theorem Ms.alloc {w : World} {a : Option Addr} {m : List (List Int)} (h : Ms w a m) (o : Obj) : Ms (w.alloc o) a m := h.below ((Below.refl _ _).alloc (Nat.le_refl _) _)
theorem Ms.drew {w : World} {a : Option Addr} {m : List (List Int)} (h : Ms w a m) : Ms w.drew a m := h.below ((Below.refl _ _).drew)
/-- What an int and a slice's length may be. -/
def MOk (m : List (List Int)) : Prop := m.length ≤ 9223372036854775807 ∧ ∀ r ∈ m, r.length ≤ 9223372036854775807 ∧ ∀ x ∈ r, I64 x
theorem MOk.row {m : List (List Int)} (h : MOk m) {i : Nat} {r : List Int} (e : m[i]? = some r) : r.length ≤ 9223372036854775807 ∧ ∀ x ∈ r, I64 x := h.2 r (List.mem_of_getElem? e)
def InMask (w : World) (v : Value) (a : Option Addr) (m : List (List Int)) (cap : Nat) : Prop := v = .slice a m.length cap ∧ Ms w a m ∧ MOk m

section
variable {H : Type} {enc : TypeId × Value → H} {P : Program} {w : World} {base : Nat} {held : Bool}
theorem addr_flat {ad : Addr} {v : Value} (h : w.cell? (ad.add 0) = some v) : ∃ b off, ad = ⟨b, off, none⟩ := by
  obtain ⟨b, off, sp⟩ := ad
  cases sp with
  | none => exact ⟨b, off, rfl⟩
  | some s =>
    have e : (⟨b, off, some s⟩ : Addr).add 0 = ⟨b, off, some s⟩ := by simp [Addr.add]
    rw [e] at h
    unfold World.cell? at h
    split at h <;> simp at h
theorem flat_add (b off k : Nat) : (⟨b, off, none⟩ : Addr).add k = ⟨b, off + k, none⟩ := by
  unfold Addr.add; split
  · subst_vars; rfl
  · rfl
theorem sl_of_cells {A : Option Addr} {C L : Nat} {zs : List Int} (hC : zs.length = C) (hL : L ≤ C) (hn : A = none → C = 0) (h : ∀ a', A = some a' → ∀ c, c < C → w.cell? (a'.add c) = some (.int .i64 (zs.getD c 0))) : Sl w A (zs.take L) := by
  intro k hk
  have hk' : k < L := by simp at hk; omega
  cases A with
  | none => have := hn rfl; omega
  | some ad =>
    obtain ⟨b, off, rfl⟩ := addr_flat (h ad rfl 0 (by omega))
    have h0 := h _ rfl k (by omega)
    rw [flat_add] at h0
    refine ⟨b, off, rfl, ?_⟩
    rw [h0]; simp [hk', List.getD]
theorem in_mask {t e q : TypeId} {fuel : Nat} {v : Value} {x : DataW H × List MemPlace} (ht : P.underlying t = some (.slice e)) (he : P.underlying e = some (.slice q)) (hq : P.underlying q = some (.int .i64)) (ce : P.cellsOf e = 1) (cq : P.cellsOf q = 1)
    (h : DataW.trod enc P w base (fun _ => true) held fuel t [v] = some x) : ∃ a m cap, InMask w v a m cap := by
  rcases Go.Deep.open_int_rows ht he hq ce cq h with ⟨hcs, _⟩ | ⟨ad, len, cap, A, L, C, Z, hcs, _, hl, hm, _, hr⟩
  · simp only [List.cons.injEq, and_true] at hcs
    exact ⟨none, [], 0, hcs, fun k hk => absurd hk (by simp), by simp, fun x hx => by cases hx⟩
  · simp only [List.cons.injEq, and_true] at hcs
    unfold maxLen at hm hr
    have hlen : ((List.range len).map fun r => (Z r).take (L r)).length = len := by simp
    refine ⟨some ad, (List.range len).map fun r => (Z r).take (L r), cap, by rw [hlen]; exact hcs, fun i hi => ?_, by rw [hlen]; omega, fun r hr' => ?_⟩
    · rw [hlen] at hi
      obtain ⟨h1, h2, h3, h4, h5, h6, h7⟩ := hr i (by omega)
      obtain ⟨b, off, rfl⟩ := addr_flat (hr 0 (by omega)).1
      rw [flat_add] at h1
      have e : ((List.range len).map fun r => (Z r).take (L r))[i]? = some ((Z i).take (L i)) := by simp [hi]
      rw [e]
      refine ⟨b, off, A i, C i, rfl, ?_, sl_of_cells h4 h2 h6 (fun a' ha => (h7 a' ha).2)⟩
      rw [h1]; simp; omega
    · obtain ⟨i, hi, rfl⟩ := List.mem_map.1 hr'
      have hi' := List.mem_range.1 hi
      obtain ⟨h1, h2, h3, h4, h5, h6, h7⟩ := hr i (by omega)
      exact ⟨by simp; omega, fun x hx => I64_of (h5 x (List.mem_of_mem_take hx))⟩
end
end Go.Proofs.Ytoedbbpjddjbnaa
/- How cells that came in are opened. Speaks of no function. -/
namespace Go.Proofs.Ytoedbbpjddjbnaa
open Go.ChangeShapes Go.WideShapes Go.ChangeAt Go.RowKit Go.Joins Go.Deep

def InCells (w : World) (v : Value) (a : Option Addr) (cs : List Cl) (cap : Nat) : Prop :=
  v = .slice a cs.length cap ∧ Cs w a cs ∧ cs.length ≤ 9223372036854775807 ∧ ∀ c ∈ cs, c.1.length ≤ 9223372036854775807
section
variable {H : Type} {enc : TypeId × Value → H} {P : Program} {w : World} {base : Nat} {held : Bool}
theorem in_cells {t e q : TypeId} {f0 f1 f2 : Field} {fuel : Nat} {v : Value} {x : DataW H × List MemPlace} (ht : P.underlying t = some (.slice e)) (he : P.underlying e = some (.struct #[f0, f1, f2])) (hone : oneCellFields P #[f0, f1, f2] = true) (ce : P.cellsOf e = 3)
    (h0 : P.underlying f0.type = some (.slice q)) (hq : P.underlying q = some (.int .i64)) (cq : P.cellsOf q = 1) (h1 : P.underlying f1.type = some (.int .i64)) (h2 : P.underlying f2.type = some (.int .i64))
    (h : DataW.trod enc P w base (fun _ => true) held fuel t [v] = some x) : ∃ a cs cap, InCells w v a cs cap := by
  rcases DataW.trod_slice ht h with ⟨hcs, _⟩ | ⟨ad, len, cap, elems, rest, n, _, hcs, _, _, hl, hm, hlen, hel, _, _⟩
  · simp only [List.cons.injEq, and_true] at hcs
    exact ⟨none, [], 0, hcs, fun j p hj => by simp at hj, by simp, fun c hc => by cases hc⟩
  · simp only [List.cons.injEq, and_true] at hcs
    obtain ⟨o0, k0⟩ := hone_of hone 0 f0 rfl
    obtain ⟨o1, k1⟩ := hone_of hone 1 f1 rfl
    obtain ⟨o2, k2⟩ := hone_of hone 2 f2 rfl
    have each : ∀ i, i < len → ∃ c : Cl, ∃ ra : Option Addr, ∃ rc : Nat, w.cell? ((ad.add (i * 3)).add 0) = some (.slice ra c.1.length rc) ∧ w.cell? ((ad.add (i * 3)).add 1) = some (.int .i64 c.2.1) ∧ w.cell? ((ad.add (i * 3)).add 2) = some (.int .i64 c.2.2) ∧ Sl w ra c.1 ∧ c.1.length ≤ 9223372036854775807 := by
      intro i hi
      have hb := hel i hi
      obtain ⟨y, hy⟩ : ∃ y, elems[i]? = some y := ⟨elems[i]'(by omega), by simp [hlen, hi]⟩
      rw [hy, ce, Option.bind_eq_some_iff] at hb
      obtain ⟨cs, hc, ht2⟩ := hb
      obtain ⟨_, hcl, hce⟩ := World.cells?_some hc
      obtain ⟨y0, y1, y2, m, _, _, g0, g1, g2⟩ := trod_struct3 he ht2
      match cs, hcl with
      | [c0, c1, c2], _ =>
        simp [o0, k0] at g0
        simp [o1, k1] at g1
        simp [o2, k2] at g2
        obtain ⟨ra, xs, rc, rfl, i1, i2, _⟩ := in_ints h0 hq cq g0
        obtain ⟨lo, rfl, _⟩ := in_int h1 g1
        obtain ⟨hi2, rfl, _⟩ := in_int h2 g2
        exact ⟨(xs, lo, hi2), ra, rc, by simpa using hce 0 (by simp), by simpa using hce 1 (by simp), by simpa using hce 2 (by simp), i1, i2⟩
    obtain ⟨f, hf⟩ : ∃ f : Nat → Cl, ∀ i, i < len → ∃ ra : Option Addr, ∃ rc : Nat, w.cell? ((ad.add (i * 3)).add 0) = some (.slice ra (f i).1.length rc) ∧ w.cell? ((ad.add (i * 3)).add 1) = some (.int .i64 (f i).2.1) ∧ w.cell? ((ad.add (i * 3)).add 2) = some (.int .i64 (f i).2.2) ∧ Sl w ra (f i).1 ∧ (f i).1.length ≤ 9223372036854775807 :=
      ⟨fun i => if hi : i < len then Classical.choose (each i hi) else ([], 0, 0), fun i hi => by
        dsimp only
        rw [dif_pos hi]
        exact Classical.choose_spec (each i hi)⟩
    unfold maxLen at hm
    have hlen2 : ((List.range len).map f).length = len := by simp
    refine ⟨some ad, (List.range len).map f, cap, by rw [hlen2]; exact hcs, fun j p hj => ?_, by rw [hlen2]; omega, fun c hc => ?_⟩
    · have hjl : j < len := by have := (List.getElem?_eq_some_iff.1 hj).1; simpa using this
      have hp : f j = p := by simpa [hjl] using hj
      obtain ⟨ra0, rc0, h30, _⟩ := hf 0 (by omega)
      have e : (ad.add (0 * 3)).add 0 = ad.add 0 := by unfold Addr.add; split <;> simp_all
      rw [e] at h30
      obtain ⟨b, off, e0⟩ := addr_flat h30
      subst e0
      obtain ⟨ra, rc, h3, h4, h5, h6, _⟩ := hf j hjl
      rw [hp] at h3 h4 h5 h6
      rw [flat_add, flat_add, Nat.add_zero] at h3
      rw [flat_add, flat_add] at h4 h5
      exact ⟨b, off, ra, rc, rfl, h3, h4, h5, h6⟩
    · obtain ⟨i, hi, rfl⟩ := List.mem_map.1 hc
      obtain ⟨_, _, _, _, _, _, h7⟩ := hf i (List.mem_range.1 hi)
      exact h7
end
end Go.Proofs.Ytoedbbpjddjbnaa
/- How often each sum has come, as a map; how many sums lie below a threshold. Mathematics, and the contract of sides of layer 7. -/
namespace Go.Proofs.Ytoedbbpjddjbnaa
open Go.RowKit Go.Maps

abbrev DU7 := DataW Unit
def litN (x : Int) : Lit := .int .i64 x
theorem litN_wf {x : Int} (h : -9223372036854775808 ≤ x ∧ x ≤ 9223372036854775807) : (litN x).wf = true := by
  unfold litN
  have h1 : IntKind.i64.min = -9223372036854775808 := rfl
  have h2 : IntKind.i64.max = 9223372036854775807 := rfl
  simp only [Lit.wf, Bool.and_eq_true, decide_eq_true_eq]
  omega
theorem litN_key (x : Int) : WideAt.IsKeyLit (litN x) := trivial
theorem litN_inj {x y : Int} (h : litN x = litN y) : x = y := by
  unfold litN at h; simpa using h
theorem litN_same (x y : Int) : (litN x).sameKey (litN y) = decide (x = y) := by
  by_cases h : x = y
  · subst h; rw [WideAt.sameKey_self (litN_key x)]; simp
  · rw [sameKey_ne (fun e => h (litN_inj e))]; simp [h]
/-- A map that tells of each sum how often it has come. -/
def Cnt (D : DU7) (S : List Int) : Prop := Tidy D ∧ (∀ k, (D.atKey (litN k) (.lit (.int .i64 0))) = .lit (.int .i64 (S.count k))) ∧ ∀ k, has D (litN k) = decide (k ∈ S)
theorem Cnt.nil : Cnt (.map []) [] := ⟨tidy_empty, fun k => rfl, fun k => by simp [has]⟩
theorem Cnt.more {D : DU7} {S : List Int} (h : Cnt D S) (s : Int) : Cnt (D.put (litN s) (.lit (.int .i64 ((S.count s : Int) + 1)))) (S ++ [s]) := by
  obtain ⟨h1, h2, h3⟩ := h
  refine ⟨h1.put (litN_key s) _, fun k => ?_, fun k => ?_⟩
  · by_cases e : k = s
    · subst e
      rw [atKey_put_same h1.isMap (litN_key k)]
      simp
    · rw [atKey_put_other (fun q => e (litN_inj q)), h2]
      simp [List.count_append, Ne.symm e]
  · by_cases e : k = s
    · subst e
      rw [has_put_same h1.isMap (litN_key k)]; simp
    · rw [has_put_other (fun q => e (litN_inj q)), h3]; simp [e]
/-- How many sums below a threshold have no entry left to come, and how many others. -/
def dnLo (S : List Int) (th : Int) (left : Lit → Bool) : Nat := (S.filter fun s => !left (litN s) && decide (s < th)).length
def dnHi (S : List Int) (th : Int) (left : Lit → Bool) : Nat := (S.filter fun s => !left (litN s) && !decide (s < th)).length
def cntLo (S : List Int) (th : Int) : Nat := (S.filter fun s => decide (s < th)).length
def cntHi (S : List Int) (th : Int) : Nat := (S.filter fun s => !decide (s < th)).length
theorem dn_start {D : DU7} {S : List Int} (h : Cnt D S) (th : Int) : dnLo S th (has D) = 0 ∧ dnHi S th (has D) = 0 := by
  unfold dnLo dnHi
  refine ⟨?_, ?_⟩ <;>
  · rw [List.length_eq_zero_iff, List.filter_eq_nil_iff]
    intro s hs
    rw [h.2.2 s]
    simp [hs]
theorem dn_end {S : List Int} {left : Lit → Bool} (hl : ∀ kl, left kl = false) (th : Int) : dnLo S th left = cntLo S th ∧ dnHi S th left = cntHi S th := by
  unfold dnLo dnHi cntLo cntHi
  simp [hl]
theorem filter_split {x : Int} {p q : Int → Bool} (hp : p x = false) (hq : q x = true) (ho : ∀ s, s ≠ x → q s = p s) : ∀ S : List Int, (S.filter q).length = (S.filter p).length + S.count x
  | [] => rfl
  | s :: S => by
    have ih := filter_split hp hq ho S
    by_cases e : s = x
    · subst e
      rw [List.filter_cons_of_pos hq, List.filter_cons_of_neg (by simp [hp]), List.count_cons_self, List.length_cons, ih]; omega
    · rw [List.count_cons_of_ne e, List.filter_cons, List.filter_cons, ho s e]
      split
      · rw [List.length_cons, List.length_cons, ih]; omega
      · exact ih
theorem dn_lo {S : List Int} {th x : Int} {left : Lit → Bool} (hl : left (litN x) = true) (hx : x < th) : dnLo S th (fun z => left z && !z.sameKey (litN x)) = dnLo S th left + S.count x ∧ dnHi S th (fun z => left z && !z.sameKey (litN x)) = dnHi S th left := by
  unfold dnLo dnHi
  refine ⟨filter_split (by simp [hl]) (by simp [litN_same, hx]) (fun s e => by simp [litN_same, e]) S, ?_⟩
  congr 1
  refine List.filter_congr fun s _ => ?_
  by_cases e : s = x
  · subst e; simp [hx]
  · simp [litN_same, e]
theorem dn_hi {S : List Int} {th x : Int} {left : Lit → Bool} (hl : left (litN x) = true) (hx : ¬ x < th) : dnLo S th (fun z => left z && !z.sameKey (litN x)) = dnLo S th left ∧ dnHi S th (fun z => left z && !z.sameKey (litN x)) = dnHi S th left + S.count x := by
  unfold dnLo dnHi
  refine ⟨?_, filter_split (by simp [hl]) (by simp [litN_same]; omega) (fun s e => by simp [litN_same, e]) S⟩
  congr 1
  refine List.filter_congr fun s _ => ?_
  by_cases e : s = x
  · subst e; simp [hx]
  · simp [litN_same, e]
theorem dn_le (S : List Int) (th : Int) (left : Lit → Bool) : dnLo S th left ≤ S.length ∧ dnHi S th left ≤ S.length := ⟨List.length_filter_le _ _, List.length_filter_le _ _⟩
abbrev OwnCnt (w : World) (b n : Nat) (D : DU7) : Prop := w.ownsMap Try.prog 3 (plainElem (H := Unit) Try.prog 3) b n D
set_option maxRecDepth 100000 in
set_option maxHeartbeats 1000000 in
theorem sides_any (b n : Nat) (D : DU7) (S : List Int) (th : Int) (w : World) (hS : S.length ≤ 1000000) (hc : Cnt D S) (ho : OwnCnt w b n D) :
    Calls Try.prog 72 #[.map (some b), .int .i64 th] w fun e w' => e = .returned (.tuple #[.int .i64 (cntLo S th : Int), .int .i64 (cntHi S th : Int)]) ∧ Below w.heap.size w w' := by
  have HC := Lib.hid hc; clear hc
  have HO := Lib.hid ho
  go_enter Try.func72, Try.ntmps72
  go_wp2_with (first | (at_range; refine wpList_range_own _ rfl _ 88 rfl 3 3 (int_keyed Try.underlying3) Try.underlying88 _ b n D rfl ho ?_; intro w0 hrg0 hg0 hs0))
  go_frame
  have HN := Lib.hid (And.intro hg0 hs0)
  have HRG := Lib.hid hrg0
  have HB0 : Hid (Below w.heap.size w w0) := (Below.refl _ _).grown hg0 (Nat.le_refl _) (fun k e => by cases e)
  clear hg0 hs0 hrg0 HO ho
  go_loopw [4, 5, 6, 7] (fun v4 v5 _ _ wr => ∃ left cnt, v4 = .int .i64 (dnLo S th left : Int) ∧ v5 = .int .i64 (dnHi S th left : Int) ∧ wr.ranges Try.prog 3 (plainElem (H := Unit) Try.prog 3) b w.heap.size n D left cnt ∧ Below w.heap.size w wr) (fun _ _ _ _ wr => wr.rangeLeft b w.heap.size)
  case atStart => exact ⟨_, _, by rw [(dn_start HC.out th).1]; rfl, by rw [(dn_start HC.out th).2]; rfl, HRG.out, HB0.out⟩
  case round =>
    clear HRG HB0
    obtain ⟨left, cnt, rfl, rfl, hrg, hb⟩ := hrel
    have HRG := Lib.hid hrg
    have HB := Lib.hid hb
    have hd := dn_le S th left
    generalize hD1 : dnLo S th left = A at *
    generalize hD2 : dnHi S th left = B at *
    have HD1 := Lib.hid hD1
    have HD2 := Lib.hid hD2
    clear hD1 hD2 hb
    go_wp2_with (at_next; refine wpList_next_ranges_ii _ rfl _ rfl 3 3 .i64 .i64 (int_keyed Try.underlying3) Try.underlying3 Try.underlying3 b w.heap.size n _ _ _ rfl hrg ?_ ?_)
    · intro _ hl0
      have HE := Lib.hid (dn_end (S := S) hl0 th)
      rw [HD1.out, HD2.out] at HE
      clear hl0 hrg
      go_wp2
      go_ret2
      exact ⟨by rw [← HE.out.1, ← HE.out.2]; rfl, HB.out⟩
    · intro x c w1 cnt1 hwx hwc hlx hat hrg1 hlt hg1 hs1 hen
      have hcx : c = (S.count x : Int) := by
        have h1 := HC.out.2.1 x
        unfold litN at h1
        rw [hat] at h1
        simpa using h1
      subst hcx
      have hcl : S.count x ≤ S.length := List.count_le_length
      have HRG1 := Lib.hid hrg1
      have HB1 : Hid (Below w.heap.size w w1) := HB.out.grown hg1 HB.out.size (fun k e => by cases e; exact Nat.le_refl _)
      have hlt2 : wr.rangeLeft b w.heap.size = cnt ∧ w1.rangeLeft b w.heap.size = cnt1 := ⟨hrg.left_eq, hrg1.left_eq⟩
      have HLT : Hid (w1.rangeLeft b w.heap.size < wr.rangeLeft b w.heap.size) := by show _ < _; rw [hlt2.1, hlt2.2]; exact hlt
      by_cases hx : x < th
      · have he := dn_lo (S := S) (show left (litN x) = true from hlx) hx
        rw [HD1.out, HD2.out] at he
        unfold litN at he
        have HE := Lib.hid he
        clear he
        clear hwx hwc hlx hat hrg1 hlt hg1 hs1 hlt2 hrg
        generalize S.count x = c at *
        go_wp2
        exact ⟨⟨_, _, by (rw [HE.out.1]; try rw [Int.natCast_add]), by (rw [HE.out.2]; try rw [Int.natCast_add]), HRG1.out, HB1.out⟩, HLT.out⟩
      · have he := dn_hi (S := S) (show left (litN x) = true from hlx) hx
        rw [HD1.out, HD2.out] at he
        unfold litN at he
        have HE := Lib.hid he
        clear he
        clear hwx hwc hlx hat hrg1 hlt hg1 hs1 hlt2 hrg
        generalize S.count x = c at *
        go_wp2
        exact ⟨⟨_, _, by (rw [HE.out.1]; try rw [Int.natCast_add]), by (rw [HE.out.2]; try rw [Int.natCast_add]), HRG1.out, HB1.out⟩, HLT.out⟩
end Go.Proofs.Ytoedbbpjddjbnaa
/- counts of layer 7: a contract, for any iterator over pictures. -/
namespace Go.Proofs.Ytoedbbpjddjbnaa
open Go.RowKit Go.Shelf Go.Maps
attribute [local go_sem] Oper.semAt_some

theorem Try.infoMap7 : (Try.prog.info? 88).map (fun i => (i.zero, i.size, i.bytes)) = some (some (.map none), 1, 8) := by kernel_rfl
/-- A map of the call's own that tells how often each sum has come. -/
def OC (W : World) (b : Nat) (S : List Int) : Prop := ∃ n D, n ≤ S.length ∧ Cnt D S ∧ OwnCnt W b n D
theorem OC.lt {W : World} {b : Nat} {S : List Int} (h : OC W b S) : b < W.heap.size := by
  obtain ⟨n, D, _, _, es, clock, hb, _⟩ := h
  exact (Array.getElem?_eq_some_iff.1 hb).1
theorem OC.same {W W' : World} {b : Nat} {S : List Int} (h : OC W b S) (hb : W'.heap[b]? = W.heap[b]?) : OC W' b S := by
  obtain ⟨n, D, h1, h2, es, clock, h3, h4⟩ := h
  exact ⟨n, D, h1, h2, es, clock, hb.trans h3, h4⟩
theorem OC.made (W : World) : OC (W.alloc (.map #[] 0)) W.heap.size [] := ⟨0, .map [], Nat.le_refl _, Cnt.nil, World.ownsMap_made _ _ _ _⟩
/-- One more sum: what the look-up and the update do. -/
theorem OC.more {W : World} {b : Nat} {S : List Int} (h : OC W b S) (hS : S.length ≤ 1000000) {s : Int} (hs : -9223372036854775808 ≤ s ∧ s ≤ 9223372036854775807) :
    (Instr.lookup 88 (.map (some b)) (.int .i64 s) false).run Try.prog W = .ok (.int .i64 (S.count s : Int)) W ∧
    ∃ W', (Instr.mapUpdate 88 (.map (some b)) (.int .i64 s) (.int .i64 ((S.count s : Int) + 1))).run Try.prog W = .ok () W' ∧ OC W' b (S ++ [s]) ∧ W.grownBy W' (some b) := by
  obtain ⟨n, D, h1, h2, h3⟩ := h
  have hk : keyOf Try.prog 3 (.int .i64 s) = some (litN s) := keyOf_int_mk Try.underlying3 (litN_wf hs)
  have hc : S.count s ≤ S.length := List.count_le_length
  refine ⟨?_, ?_⟩
  · obtain ⟨c, hrun, hat, _⟩ := World.ownsMap.lookup_int h3 (int_keyed Try.underlying3) Try.underlying88 Try.underlying3 (Try.zeroValue3 W) hk
    rw [h2.2.1 s] at hat
    have : (S.count s : Int) = c := by simpa using hat
    rw [hrun, this]
  · have hw : (Lit.int .i64 ((S.count s : Int) + 1)).wf = true := litN_wf (x := (S.count s : Int) + 1) (by omega)
    obtain ⟨W', r1, r2, r3⟩ := World.ownsMap.store h3 (int_keyed Try.underlying3) Try.underlying88 (by unfold maxLen; omega) hk (plainElem_int (H := Unit) Try.underlying3 hw)
    exact ⟨W', r1, ⟨n + 1, _, by rw [List.length_append]; simp; omega, h2.more s, r2⟩, r3.grown⟩
/-- What counts holds: its boxes, the maps' headers, and the maps. -/
structure CoI (w : World) (X R : Nat) (ra : Option Addr) (rc : Nat) (f : Nat → List Int) (W : World) : Prop where
  cR : W.cell? ⟨w.heap.size, 0, none⟩ = some (.slice ra R rc)
  cX : W.cell? ⟨X, 0, none⟩ = some (.slice (some ⟨w.heap.size + 1, 0, none⟩) R R)
  cG : ∀ i, i < R → W.cell? ⟨w.heap.size + 1, i, none⟩ = some (.map (some (X + 1 + i)))
  mp : ∀ i, i < R → OC W (X + 1 + i) (f i)
  bw : Below w.heap.size w W
  lt : X + 1 + R ≤ W.heap.size
  wX : w.heap.size + 2 ≤ X
theorem CoI.turned {w : World} {X R : Nat} {ra : Option Addr} {rc : Nat} {f : Nat → List Int} {T : Blk} {W W' : World} (h : CoI w X R ra rc f W) (ht : Turned T W W') (hT : ∀ b, b < X + 1 + R → ¬ T b) : CoI w X R ra rc f W' := by
  have hX := h.wX
  exact ⟨ht.cell h.cR (hT _ (by show w.heap.size < _; omega)), ht.cell h.cX (hT _ (by show X < _; omega)), fun i hi => ht.cell (h.cG i hi) (hT _ (by show w.heap.size + 1 < _; omega)),
    fun i hi => (h.mp i hi).same (ht.same _ (h.mp i hi).lt (hT _ (by omega))), h.bw.trans (ht.below h.bw.size fun b hb => hT b (by omega)), Nat.le_trans h.lt ht.size, hX⟩
theorem CoI.congr {w : World} {X R : Nat} {ra : Option Addr} {rc : Nat} {f g : Nat → List Int} {W : World} (h : CoI w X R ra rc f W) (e : ∀ i, i < R → f i = g i) : CoI w X R ra rc g W :=
  ⟨h.cR, h.cX, h.cG, fun i hi => by rw [← e i hi]; exact h.mp i hi, h.bw, h.lt, h.wX⟩
/-- One map more or less is turned. -/
theorem CoI.set {w : World} {X R : Nat} {ra : Option Addr} {rc : Nat} {f : Nat → List Int} {W W' : World} (h : CoI w X R ra rc f W) {i : Nat} (hi : i < R) {S : List Int} (hm : OC W' (X + 1 + i) S) (hg : W.grownBy W' (some (X + 1 + i))) : CoI w X R ra rc (fun j => if j = i then S else f j) W' := by
  have hX := h.wX
  have ht : Turned (fun b => b = X + 1 + i) W W' := turned_grown hg fun r e => by cases e; rfl
  refine ⟨ht.cell h.cR (by show w.heap.size ≠ _; omega), ht.cell h.cX (by show X ≠ _; omega), fun j hj => ht.cell (h.cG j hj) (by show w.heap.size + 1 ≠ _; omega), fun j hj => ?_, h.bw.trans (ht.below h.bw.size fun b hb => by omega), Nat.le_trans h.lt ht.size, hX⟩
  show OC W' _ (if j = i then S else f j)
  by_cases e : j = i
  · subst e; rw [if_pos rfl]; exact hm
  · rw [if_neg e]; exact (h.mp j hj).same (ht.same _ (h.mp j hj).lt (by omega))
def CoJ (w : World) (X R : Nat) (ra : Option Addr) (rc : Nat) (rows : List (List Int)) (pre : List PicV) (C T : Blk) (W : World) : Prop :=
  CoI w X R ra rc (fun i => pre.map fun x => prodL (rowL rows i) x.2) W ∧ (∀ b, C b ↔ X + 1 ≤ b ∧ b < X + 1 + R) ∧ ∀ b, b < X + 1 + R → ¬ T b
theorem CoJ.client {w : World} {X R : Nat} {ra : Option Addr} {rc : Nat} {rows : List (List Int)} : Client (CoJ w X R ra rc rows) where
  lt := fun h b hb => by
    have := (h.2.1 b).1 hb
    exact ⟨Nat.lt_of_lt_of_le this.2 h.1.lt, h.2.2 b this.2⟩
  keep := fun h ht hT => ⟨h.1.turned ht h.2.2, h.2.1, fun b hb e => (hT b e).elim (h.2.2 b hb) (by have := h.1.lt; omega)⟩
/-- The maps' headers while they are laid. -/
def hdM (B R k : Nat) : List Value := (List.range R).map fun j => if j < k then Value.map (some (B + j)) else .map none
theorem hdM_len (B R k : Nat) : (hdM B R k).length = R := by simp [hdM]
theorem hdM_set {B R k : Nat} (h : k < R) : (hdM B R k).set k (.map (some (B + k))) = hdM B R (k + 1) := by
  apply List.ext_getElem?
  intro i
  by_cases e : i = k
  · subst e
    rw [List.getElem?_set_self (by rw [hdM_len]; exact h)]
    unfold hdM; rw [List.getElem?_map, List.getElem?_range h]; simp
  · rw [List.getElem?_set_ne (Ne.symm e)]
    unfold hdM
    rw [List.getElem?_map, List.getElem?_map]
    by_cases hi : i < R
    · rw [List.getElem?_range hi]
      simp only [Option.map_some]
      congr 1
      by_cases c : i < k
      · rw [if_pos c, if_pos (by omega)]
      · rw [if_neg c, if_neg (by omega)]
    · rw [List.getElem?_eq_none (by simp; omega)]; rfl
theorem hdM_at {B R i : Nat} (h : i < R) : (hdM B R R)[i]? = some (.map (some (B + i))) := by
  unfold hdM; rw [List.getElem?_map, List.getElem?_range h]; simp [h]
theorem hdM_next {B R i : Nat} (h : i < R) : (hdM B R i)[i]? = some (.map none) := by
  unfold hdM; rw [List.getElem?_map, List.getElem?_range h]; simp
theorem hdM_zero (B R : Nat) : (madeCells (Value.map none).cells (R * 1)).toList = hdM B R 0 := by
  unfold hdM madeCells
  rw [Array.toList_map, Array.toList_range, Nat.mul_one]
  exact List.map_congr_left fun x _ => by
    show (#[Value.map none] : Array Value)[x % 1]! = _
    rw [Nat.mod_one]; rfl
set_option maxRecDepth 1000000 in
set_option maxHeartbeats 4000000 in
theorem counts_any {P : Nat} (hP : P ≤ 8) (gf : Nat) (lb : Array Value) (eg : ∀ args w, (callFunc gf args).run Try.prog w = .ok (.enter gf args) w) (Z : List (List Int)) (hZ : Z.length ≤ 65536) (hZr : ∀ x ∈ Z, x.length = P ∧ okL 0 3 x = true) (need : Blk) (w0 w : World) (hseq : SeqM Try.prog gf lb encP MemP (fun _ _ => False) Prod.snd Z need w0) (hb0 : Below w0.heap.size w0 w) (hneed : ∀ b, need b → b < w.heap.size)
    (ra : Option Addr) (rows : List (List Int)) (rc : Nat) (hR : rows.length ≤ 1000) (hrow : ∀ r ∈ rows, r.length = P ∧ okL (-1) 1 r = true) (hr : Ms w ra rows) :
    Calls Try.prog 73 #[.func (.func gf) #[] lb, .slice ra rows.length rc] w fun e w' => ∃ X, e = .returned (.slice (some ⟨w.heap.size + 1, 0, none⟩) rows.length rows.length) ∧ CoI w X rows.length ra rc (fun i => Z.map fun x => prodL (rowL rows i) x) w' := by
  obtain ⟨R, hRl⟩ : ∃ R, rows.length = R := ⟨_, rfl⟩
  have HMS := Lib.hid hr; clear hr
  have HROW := Lib.hid hrow; clear hrow
  have HZR := Lib.hid hZr; clear hZr
  have HSEQ := Lib.hid hseq; clear hseq
  have HB0 := Lib.hid hb0; clear hb0
  have HND := Lib.hid hneed; clear hneed
  have HEG := Lib.hid eg; clear eg
  have HRL := Lib.hid hRl
  rw [hRl] at hR
  simp only [hRl]
  clear hRl
  obtain ⟨i0, hi, hz0, hz1, hz2⟩ := info_parts Try.infoMap7
  refine (callsIn_wide (n := 50)).1 ?_
  refine callsIn_of_wp_marks Try.func73 rfl trivial ?_ rfl
  simp only [Try.ntmps73, List.size_toArray, List.length_cons, List.length_nil, Nat.reduceAdd, Nat.reduceSub, Array.replicate_succ, Array.replicate_zero, List.push_toArray, List.append_toArray, List.nil_append, List.cons_append]
  obtain ⟨V0, hV0⟩ : ∃ V0, w.alloc (.cells #[.slice ra R rc] 57) = V0 := ⟨_, rfl⟩
  have hs0 : V0.heap.size = w.heap.size + 1 := by rw [← hV0]; exact World.size_alloc _ _
  have HBV0 : Hid (Below w.heap.size w V0) := by rw [← hV0]; exact (Below.refl _ _).alloc (Nat.le_refl _) _
  have v0 : V0.cell? ⟨w.heap.size, 0, none⟩ = some (.slice ra R rc) := by rw [← hV0]; exact alloc_cell _ _ _ _ _ rfl
  gi_wp2_with (gi_at_make; with_reducible refine wpListIn_make_fullB _ rfl (.tmp 11) (.tmp 11) 89 rfl V0.heap.size 88 i0 (.map none) 1 Try.underlying89 hi hz0 hz1 .i64 .i64 (R : Int) (R : Int) R rfl rfl rfl rfl (by rw [hz2]; omega) (by unfold maxLen; omega) (Nat.le_refl _) ?_)
  intro w4 hown hgrow
  have hb4 : Below w.heap.size w w4 := HBV0.out.grown hgrow (by omega) (fun k e => by cases e)
  have hs4 : w.heap.size + 2 ≤ w4.heap.size := by
    obtain ⟨_, ⟨e, _⟩ | ⟨g9, cap9, cur, e9, _, h9, _⟩⟩ := hown
    · cases e
    · obtain ⟨rfl, _⟩ : w.heap.size + 1 = g9 ∧ _ := by simpa using e9
      have := (Array.getElem?_eq_some_iff.1 h9).1; omega
  obtain ⟨X, hX⟩ : ∃ X, w4.heap.size = X := ⟨_, rfl⟩
  obtain ⟨V5, hV5⟩ : ∃ V5, w4.alloc (.cells #[.slice (some ⟨w.heap.size + 1, 0, none⟩) R R] 89) = V5 := ⟨_, rfl⟩
  have HB45 : Hid (Below w4.heap.size w4 V5) := by rw [← hV5]; exact (Below.refl _ _).alloc (Nat.le_refl _) _
  have HS5 : Hid (V5.heap.size = X + 1) := by show _ = _; rw [← hV5, World.size_alloc, hX]
  have HO5 : Hid (V5.ownsRow (w.heap.size + 1) 88 1 (.slice (some ⟨w.heap.size + 1, 0, none⟩) R R) R (hdM (X + 1) R 0)) := by
    rw [← hdM_zero, Nat.mul_one]; exact row_below hown HB45.out
  have HWX : Hid (w.heap.size + 2 ≤ X) := by rw [← hX]; exact hs4
  have HC5 : Hid (V5.cell? ⟨w.heap.size, 0, none⟩ = some (.slice ra R rc) ∧ V5.cell? ⟨X, 0, none⟩ = some (.slice (some ⟨w.heap.size + 1, 0, none⟩) R R)) := by
    refine ⟨?_, by rw [← hV5, ← hX]; exact alloc_cell _ _ _ _ _ rfl⟩
    have h1 : w4.cell? ⟨w.heap.size, 0, none⟩ = some (.slice ra R rc) := (World.cell?_of_block (hgrow.block w.heap.size (by omega) (by simp))).trans v0
    exact (HB45.out.cell (p := ⟨w.heap.size, 0, none⟩) (cell_lt h1)).trans h1
  have HB5 : Hid (Below w.heap.size w V5) := hb4.trans (HB45.out.mono hb4.size)
  obtain ⟨x0, x1⟩ := HC5.out
  have hmm := @run_makeMap Try.prog
  clear hown hgrow hb4 HB45 hs4 v0 hV0 hs0 hi hz0 hz1 hz2
  gi_wp2
  clear x0 x1 hX hV5
  gi_loopw [6, 15] (fun _ i wr => ∃ k : Nat, k ≤ R ∧ i = .int .i64 k ∧ wr.heap.size = X + 1 + k ∧ wr.ownsRow (w.heap.size + 1) 88 1 (.slice (some ⟨w.heap.size + 1, 0, none⟩) R R) R (hdM (X + 1) R k) ∧ (wr.cell? ⟨w.heap.size, 0, none⟩ = some (.slice ra R rc) ∧ wr.cell? ⟨X, 0, none⟩ = some (.slice (some ⟨w.heap.size + 1, 0, none⟩) R R)) ∧ (∀ i, i < k → OC wr (X + 1 + i) []) ∧ Below w.heap.size w wr) (fun _ i _ => R - (intOf i).toNat)
  case atStart => exact ⟨0, Nat.zero_le _, rfl, HS5.out, HO5.out, HC5.out, fun i h => by omega, HB5.out⟩
  case round =>
    clear HO5 HC5 HB5 HS5
    obtain ⟨k, hk, rfl, hsz, hO, hc, hm, hb⟩ := hrel
    have HSZ := Lib.hid hsz
    have HO := Lib.hid hO
    have HM := Lib.hid hm
    have HB := Lib.hid hb
    have HC := Lib.hid hc
    have h2 := HWX.out
    by_cases hlt : k < R
    · obtain ⟨W2, hW2⟩ : ∃ W2, wr.alloc (.map #[] 0) = W2 := ⟨_, rfl⟩
      have hbw : Below wr.heap.size wr W2 := by rw [← hW2]; exact (Below.refl _ _).alloc (Nat.le_refl _) _
      have HBW := Lib.hid hbw
      have ho2 := row_below hO hbw
      have c1 := (hbw.cell (p := ⟨w.heap.size, 0, none⟩) (cell_lt hc.1)).trans hc.1
      have c2 := (hbw.cell (p := ⟨X, 0, none⟩) (cell_lt hc.2)).trans hc.2
      have c3 := ho2.cellAt k (by rw [Nat.mul_one]; exact hlt)
      rw [hdM_next hlt] at c3
      have c4 := World.ownsRow.frozenAt ho2 k
      have HST := Lib.hid (World.ownsRow.stored ho2 k (.map (some (X + 1 + k)))).1
      have HOM : Hid (OC W2 (X + 1 + k) []) := by show OC _ _ _; rw [← hW2, ← hsz]; exact OC.made wr
      have HS2 : Hid (W2.heap.size = X + 1 + (k + 1)) := by show _ = _; rw [← hW2, World.size_alloc, hsz]; omega
      rw [hdM_set hlt] at HST
      have hx := hc.2
      clear hO hm hb hc hbw ho2
      gi_wp2
      have hne : ∀ b, b ≠ w.heap.size + 1 → (W2.setCell ⟨w.heap.size + 1, k, none⟩ (.map (some (X + 1 + k)))).heap[b]? = W2.heap[b]? := fun b h => Below.heap_setCell _ _ _ b (by show b ≠ w.heap.size + 1; exact h)
      refine ⟨⟨k + 1, by omega, by go_num, by rw [World.size_setCell]; exact HS2.out, HST.out, ⟨(World.cell?_of_block (hne w.heap.size (by omega))).trans c1, (World.cell?_of_block (hne X (by omega))).trans c2⟩, fun i hi => ?_, (HB.out.trans (HBW.out.mono HB.out.size)).setCell (p := ⟨w.heap.size + 1, k, none⟩) (by show _ ≤ w.heap.size + 1; omega) _⟩, by simp [intOf]; omega⟩
      by_cases e : i = k
      · subst e; exact HOM.out.same (hne _ (by omega))
      · have h3 := HM.out i (by omega)
        exact (h3.same (HBW.out.block _ h3.lt)).same (hne _ (by omega))
    · obtain rfl : R = k := by omega
      have HI0 : Hid (CoJ w X R ra rc rows [] (fun b => X + 1 ≤ b ∧ b < X + 1 + R) (fun _ => False) wr) := ⟨⟨hc.1, hc.2, fun i hi => by
        have h := hO.cellAt i (by rw [Nat.mul_one]; exact hi)
        rw [hdM_at hi] at h; exact h, fun i hi => hm i hi, hb, by omega, h2⟩, fun b => Iff.rfl, fun _ _ e => e⟩
      clear hO hc hm hb hmm
      gi_wp2
      refine wpIn_rangeFunc_M (by omega) (gf := gf) (lb := lb) rfl HEG.out
        HSEQ.out (HB0.out.trans (HB.out.mono HB0.out.size)) (fun _ => rfl) memP_put
        (CoJ w X R ra rc rows) (fun _ _ _ _ _ => False) CoJ.client (fun _ => ⟨fun h => h.elim, fun h => h.elim⟩) (fun b => X + 1 ≤ b ∧ b < X + 1 + R) (fun _ => False) ?need (fun _ e => e.elim) HI0.out
        (fun x => { tmps := #[.func (.func gf) #[] lb, .slice ra R rc, undef, .pointer (some ⟨w.heap.size, 0, none⟩), .slice none 0 0, .pointer (some ⟨X, 0, none⟩), u6, .slice (some ⟨x.1, 0, none⟩) x.2.length x.2.length, undef, undef, .slice ra R rc, .int .i64 R, .slice (some ⟨w.heap.size + 1, 0, none⟩) R R, .slice (some ⟨w.heap.size + 1, 0, none⟩) R R, .int .i64 R, .int .i64 R, .bool false, u17, u18, u19, u20, u21, u22, .func (.func gf) #[] lb, .slice (some ⟨x.1, 0, none⟩) x.2.length x.2.length, undef, undef, undef, undef, undef, undef, undef, undef, undef, undef, undef, undef, undef, undef, undef, undef, undef, undef], defers := [] }) ?assign ?body ?done ?stop
      case need =>
        intro b hb
        have h1 := HND.out b hb
        have h3 := HB.out.size
        exact ⟨fun e => by omega, by omega⟩
      case assign =>
        intro l2 x V K hK
        gi_wp2
        exact hK
      case body =>
        rintro l2 pre ⟨xb, xs⟩ C Tb V hI hmem hown ⟨rest, hrest⟩
        have hin : xs ∈ Z := by rw [hrest]; simp
        have hpl : pre.length ≤ 65536 := by
          have e := congrArg List.length hrest
          simp at e; omega
        have HXS : Hid (xs.length = P ∧ okL 0 3 xs = true) := HZR.out xs hin
        have HI := Lib.hid hI
        have HPL := Lib.hid hpl
        obtain ⟨cx, ox, gx⟩ : ∃ cur o, V.heap[xb]? = some (.cells cur 3 o) := by
          obtain ⟨_, ⟨e, _⟩ | ⟨g9, cap9, cur, e9, _, h9, _⟩⟩ := (show OwnI V 0 (.slice (some ⟨xb, 0, none⟩) xs.length xs.length) xs from hmem)
          · cases e
          · obtain ⟨rfl, _⟩ : xb = g9 ∧ _ := by simpa using e9
            exact ⟨cur, _, h9⟩
        have HNX : Hid (¬ (X + 1 ≤ xb ∧ xb < X + 1 + R)) := fun ⟨h3, h4⟩ => by
          obtain ⟨n, D, _, _, es, clock, hb9, _⟩ := hI.1.mp (xb - (X + 1)) (by omega)
          rw [show X + 1 + (xb - (X + 1)) = xb by omega, gx] at hb9
          cases hb9
        have HSL : Hid (∀ W', Turned (fun b => X + 1 ≤ b ∧ b < X + 1 + R) V W' → Sl W' (some ⟨xb, 0, none⟩) xs) := fun W' ht => OwnI.sl (OwnI.sameBlock hmem (ht.same _ (Array.getElem?_eq_some_iff.1 gx).1 HNX.out))
        have HC0 : Hid (CoI w X R ra rc (fun i => pre.map fun x => prodL (rowL rows i) x.2) V) := hI.1
        have x0 := hI.1.cR
        clear hmem hown hrest hI hin gx hpl
        dsimp only
        gi_wp2
        clear x0
        gi_loopw [8, 9, 27] (fun _ _ i wr => ∃ k : Nat, k ≤ R ∧ i = .int .i64 k ∧ CoI w X R ra rc (fun i => if i < k then (pre.map fun x => prodL (rowL rows i) x.2) ++ [prodL (rowL rows i) xs] else pre.map fun x => prodL (rowL rows i) x.2) wr ∧ Turned (fun b => X + 1 ≤ b ∧ b < X + 1 + R) V wr) (fun _ _ i _ => R - (intOf i).toNat)
        case atStart => exact ⟨0, Nat.zero_le _, rfl, HC0.out, Turned.refl _ _⟩
        case round =>
          clear HC0
          obtain ⟨k, hk, rfl, hc, ht⟩ := hrel
          have HC := Lib.hid hc
          have HT := Lib.hid ht
          by_cases hlt : k < R
          · obtain ⟨b1, o1, a1, r1, c1, rfl, q0, q1, q2⟩ := (HMS.out.below hc.bw).at (i := k) (by rw [HRL.out]; exact hlt)
            have hr1 := HROW.out r1 (List.mem_of_getElem? q2.out)
            have hrl : rowL rows k = r1 := rowL_some q2.out
            have hpr := product_any a1 r1 c1 (some ⟨xb, 0, none⟩) xs xs.length wr.drew (by omega) (by rw [hr1.1, HXS.out.1]) hr1.2 HXS.out.2 q1.drew (HSL.out wr ht).drew
            have hbd : -24 ≤ prodL r1 xs ∧ prodL r1 xs ≤ 24 := by have h9 := prodTo_bd hr1.2 HXS.out.2 (by rw [hr1.1, HXS.out.1]) r1.length (Nat.le_refl _); have h8 := hr1.1; unfold prodL; omega
            obtain ⟨s, hs⟩ : ∃ s, prodL r1 xs = s := ⟨_, rfl⟩
            rw [hs] at hpr hbd
            obtain ⟨S, hS⟩ : ∃ S, (pre.map fun x => prodL (rowL rows k) x.2) = S := ⟨_, rfl⟩
            have hcd : CoI w X R (some ⟨b1, o1, none⟩) rc _ wr.drew := hc.turned (turned_drew (fun _ => False) wr) fun _ _ e => e
            have hm := hcd.mp k hlt
            rw [if_neg (Nat.lt_irrefl k), hS] at hm
            have hSl : S.length ≤ 1000000 := by rw [← hS, List.length_map]; have := HPL.out; omega
            obtain ⟨lk, W', up, hm', hg'⟩ := hm.more hSl (s := s) (by omega)
            have hcnt : S.count s ≤ S.length := List.count_le_length
            have HCN : Hid (CoI w X R (some ⟨b1, o1, none⟩) rc (fun i => if i < k + 1 then (pre.map fun x => prodL (rowL rows i) x.2) ++ [prodL (rowL rows i) xs] else pre.map fun x => prodL (rowL rows i) x.2) W') := by
              refine (hcd.set hlt hm' hg').congr fun i hi => ?_
              by_cases e : i = k
              · subst e; rw [if_pos rfl, if_pos (by omega), hrl, hs, ← hS, hrl]
              · rw [if_neg e]
                by_cases e2 : i < k
                · rw [if_pos e2, if_pos (by omega)]
                · rw [if_neg e2, if_neg (by omega)]
            have HTN : Hid (Turned (fun b => X + 1 ≤ b ∧ b < X + 1 + R) V W') := (ht.trans (turned_drew (fun b => X + 1 ≤ b ∧ b < X + 1 + R) wr) fun b e => .inl e).trans (turned_grown hg' fun r e => by cases e; exact ⟨by omega, by omega⟩) fun b e => .inl e
            have HPR := Lib.hid hpr
            have hx := hc.cX
            have hg := hc.cG k hlt
            have hr := hc.cR
            generalize S.count s = cn at *
            have hwr : IntKind.i64.wrap ((cn : Int) + 1) = (cn : Int) + 1 := IntWalk.i64_in _ (by omega)
            clear hc hcd ht q1 q2 hr1 hrl hpr hm hm' hg' hs hS
            gi_wp2
            refine wpIn_region_still_tail_round 9 (by kernel_rfl) (by kernel_rfl) (by kernel_rfl) ?hq ?_
            case hq => rintro ⟨_, _, h⟩; exact h
            simp only [List.take_succ_cons, List.take_zero, List.drop_succ_cons, List.drop_zero]
            repeat still_step
            still_call (HPR.out.mono fun _ _ h => ⟨h.1, h.2.symm⟩)
            repeat still_step
            refine wpStill_nil ?_
            go_wp2
            clear up lk hwr
            gi_wp2
            exact ⟨⟨k + 1, by omega, by go_num, HCN.out, HTN.out⟩, by simp [intOf]; omega⟩
          · obtain rfl : R = k := by omega
            have HF : Hid (CoI w X R ra rc (fun i => (pre ++ [(xb, xs)]).map fun x => prodL (rowL rows i) x.2) wr) := hc.congr fun i hi => by rw [if_pos hi, List.map_append]; rfl
            clear hc ht
            gi_wp2
            exact ⟨C, Tb, ⟨HF.out, HI.out.2.1, HI.out.2.2⟩, fun b hb _ _ => hb, fun b hb => .inl hb, HT.out.mono fun b _ e => .inl ((HI.out.2.1 b).2 e)⟩
      case done =>
        rintro D ys C Tb V hD hys hI hTD hK
        have HI := Lib.hid hI
        have HKD := Lib.hid hK
        have HDG : Hid (¬ D < X + 1 + R) := fun e => hI.2.2 D e hTD
        have HF : Hid (CoI w X R ra rc (fun i => Z.map fun x => prodL (rowL rows i) x) V) := hI.1.congr fun i _ => by rw [← hys, List.map_map]; rfl
        have hx := hI.1.cX
        clear hI hys hTD hK hD
        gi_wp2
        refine leavesP_marks (fun W => CoI w X R ra rc (fun i => Z.map fun x => prodL (rowL rows i) x) W) [D] ?_ ?_ [D] V (fun _ h => h) (by simp) ?_ HF.out
        · rintro W E hE h1
          obtain rfl : E = D := by simpa using hE
          exact h1.turned (turned_put (T := fun b => b = E) W (.deferred none) rfl) fun b hb e => by subst e; exact HDG.out hb
        · rintro W h1
          exact ⟨.slice (some ⟨w.heap.size + 1, 0, none⟩) R R, by simp [results, Try.results73, go_sem], X, rfl, h1⟩
        · intro E hE; rw [List.mem_singleton.1 hE]; exact HKD.out
      case stop =>
        rintro D c pre C Tb V hD h
        exact h.elim
end Go.Proofs.Ytoedbbpjddjbnaa
/- The spans of pixels in pictures, as layer 7 and its answers find them. Speaks of no function. -/
namespace Go.Proofs.Ytoedbbpjddjbnaa
open Go.RowKit

/-- The least number of pixel j in some pictures, if none is above T; the greatest one, if none is below 0. -/
def loJ (T : Int) (L : List (List Int)) (j : Nat) : Int := L.foldl (fun m x => min m (gt x j)) T
def hiJ (L : List (List Int)) (j : Nat) : Int := L.foldl (fun m x => max m (gt x j)) 0
theorem loJ_snoc (T : Int) (L : List (List Int)) (x : List Int) (j : Nat) : loJ T (L ++ [x]) j = min (loJ T L j) (gt x j) := by unfold loJ; rw [List.foldl_append]; rfl
theorem hiJ_snoc (L : List (List Int)) (x : List Int) (j : Nat) : hiJ (L ++ [x]) j = max (hiJ L j) (gt x j) := by unfold hiJ; rw [List.foldl_append]; rfl
/-- From the first picture's number on. -/
def loF (x : List Int) (L : List (List Int)) (j : Nat) : Int := L.foldl (fun m x => min m (gt x j)) (gt x j)
def hiF (x : List Int) (L : List (List Int)) (j : Nat) : Int := L.foldl (fun m x => max m (gt x j)) (gt x j)
theorem loF_eq {T : Int} {x : List Int} {j : Nat} (L : List (List Int)) (h : gt x j ≤ T) : loF x (x :: L) j = loJ T (x :: L) j := by
  unfold loF loJ; rw [List.foldl_cons, List.foldl_cons, Int.min_self, Int.min_eq_right h]
theorem hiF_eq {x : List Int} {j : Nat} (L : List (List Int)) (h : 0 ≤ gt x j) : hiF x (x :: L) j = hiJ (x :: L) j := by
  unfold hiF hiJ; rw [List.foldl_cons, List.foldl_cons, Int.max_self, Int.max_eq_right h]
theorem fold_min_in {j : Nat} {T : Int} : ∀ (L : List (List Int)) (m : Int), 0 ≤ m → m ≤ T → (∀ x ∈ L, 0 ≤ gt x j) → 0 ≤ L.foldl (fun m x => min m (gt x j)) m ∧ L.foldl (fun m x => min m (gt x j)) m ≤ T
  | [], m, h0, h1, _ => ⟨h0, h1⟩
  | x :: L, m, h0, h1, h => by
    rw [List.foldl_cons]
    have := h x (by simp)
    exact fold_min_in L _ (by omega) (by omega) fun y hy => h y (by simp [hy])
theorem fold_max_in {j : Nat} {T : Int} : ∀ (L : List (List Int)) (m : Int), 0 ≤ m → m ≤ T → (∀ x ∈ L, gt x j ≤ T) → 0 ≤ L.foldl (fun m x => max m (gt x j)) m ∧ L.foldl (fun m x => max m (gt x j)) m ≤ T
  | [], m, h0, h1, _ => ⟨h0, h1⟩
  | x :: L, m, h0, h1, h => by
    rw [List.foldl_cons]
    have := h x (by simp)
    exact fold_max_in L _ (by omega) (by omega) fun y hy => h y (by simp [hy])
def spanL (P : Nat) (T : Int) (L : List (List Int)) : List (Int × Int) := (List.range P).map fun j => (loJ T L j, hiJ L j)
/-- With one more picture in the first k pixels. -/
def spanTo (P : Nat) (T : Int) (L : List (List Int)) (x : List Int) (k : Nat) : List (Int × Int) := (List.range P).map fun j => if j < k then (min (loJ T L j) (gt x j), max (hiJ L j) (gt x j)) else (loJ T L j, hiJ L j)
theorem spanL_len (P : Nat) (T : Int) (L : List (List Int)) : (spanL P T L).length = P := by simp [spanL]
theorem spanTo_len (P : Nat) (T : Int) (L : List (List Int)) (x : List Int) (k : Nat) : (spanTo P T L x k).length = P := by simp [spanTo]
theorem spanL_nil (P : Nat) (T : Int) : spanL P T [] = List.replicate P (T, 0) := by
  unfold spanL; exact List.eq_replicate_iff.2 ⟨by simp, fun b hb => by obtain ⟨_, _, rfl⟩ := List.mem_map.1 hb; rfl⟩
theorem spanTo_zero (P : Nat) (T : Int) (L : List (List Int)) (x : List Int) : spanTo P T L x 0 = spanL P T L := by unfold spanTo spanL; simp
theorem spanTo_end (P : Nat) (T : Int) (L : List (List Int)) (x : List Int) : spanTo P T L x P = spanL P T (L ++ [x]) := by
  unfold spanTo spanL
  refine List.map_congr_left fun j hj => ?_
  rw [if_pos (List.mem_range.1 hj), loJ_snoc, hiJ_snoc]
theorem spanTo_at {P : Nat} {T : Int} {L : List (List Int)} {x : List Int} {k : Nat} (h : k < P) : (spanTo P T L x k)[k]? = some (loJ T L k, hiJ L k) := by
  unfold spanTo; rw [List.getElem?_map, List.getElem?_range h]; simp
theorem spanL_at {P : Nat} {T : Int} {L : List (List Int)} {k : Nat} (h : k < P) : (spanL P T L)[k]? = some (loJ T L k, hiJ L k) := by
  unfold spanL; rw [List.getElem?_map, List.getElem?_range h]; simp
theorem spanTo_set {P : Nat} {T : Int} {L : List (List Int)} {x : List Int} {k : Nat} (h : k < P) : (spanTo P T L x k).set k (min (loJ T L k) (gt x k), max (hiJ L k) (gt x k)) = spanTo P T L x (k + 1) := by
  apply List.ext_getElem?
  intro i
  by_cases e : i = k
  · subst e
    rw [List.getElem?_set_self (by rw [spanTo_len]; exact h)]
    unfold spanTo; rw [List.getElem?_map, List.getElem?_range h]; simp
  · rw [List.getElem?_set_ne (Ne.symm e)]
    unfold spanTo
    rw [List.getElem?_map, List.getElem?_map]
    by_cases hi : i < P
    · rw [List.getElem?_range hi]
      simp only [Option.map_some]
      congr 1
      by_cases c : i < k
      · rw [if_pos c, if_pos (by omega)]
      · rw [if_neg c, if_neg (by omega)]
    · rw [List.getElem?_eq_none (by simp; omega)]; rfl
/-- What a field's pictures that fit have at a pixel. -/
theorem fitP_in {T P : Nat} {cs : List Cl} {x : List Int} (hx : x ∈ fitP T P cs) (j : Nat) : 0 ≤ gt x j ∧ gt x j ≤ T := by
  have h := (List.mem_filter.1 hx).1
  rw [picsTo_dig] at h
  obtain ⟨m, _, rfl⟩ := List.mem_map.1 h
  unfold gt
  by_cases hj : j < (dig T P m).length
  · rw [List.getElem?_eq_getElem hj]
    have := dig_in T P m _ (List.getElem_mem hj)
    simp only [Option.getD_some]; omega
  · rw [List.getElem?_eq_none (by omega)]; simp
def boundsV (p t : Int) (cs : List Cl) (pixel : Int) : (Int × Int) × Int :=
  if valsB p t cs = true then (if rangeB pixel 0 (p - 1) = true then (if fitP t.toNat p.toNat cs = [] then ((0, 0), 8) else ((loJ t (fitP t.toNat p.toNat cs) pixel.toNat, hiJ (fitP t.toNat p.toNat cs) pixel.toNat), 0)) else ((0, 0), 5)) else ((0, 0), 1)
/-- The first k pixels with the same number in all pictures. -/
def knTo (T : Int) (L : List (List Int)) (k : Nat) : List Int := ((List.range k).filter fun j => decide (loJ T L j = hiJ L j)).map fun j : Nat => (j : Int)
theorem knTo_yes {T : Int} {L : List (List Int)} {k : Nat} (h : loJ T L k = hiJ L k) : knTo T L (k + 1) = knTo T L k ++ [(k : Int)] := by
  unfold knTo; rw [List.range_succ, List.filter_append, List.map_append]; simp [h]
theorem knTo_no {T : Int} {L : List (List Int)} {k : Nat} (h : ¬ loJ T L k = hiJ L k) : knTo T L (k + 1) = knTo T L k := by
  unfold knTo; rw [List.range_succ, List.filter_append, List.map_append]; simp [h]
theorem knTo_len (T : Int) (L : List (List Int)) (k : Nat) : (knTo T L k).length ≤ k := by
  unfold knTo; rw [List.length_map]; exact Nat.le_trans (List.length_filter_le _ _) (by simp)
def knownV (p t : Int) (cs : List Cl) : List Int × Int :=
  if valsB p t cs = true then (if fitP t.toNat p.toNat cs = [] then ([], 8) else (knTo t (fitP t.toNat p.toNat cs) p.toNat, 0)) else ([], 1)
end Go.Proofs.Ytoedbbpjddjbnaa
/- A slice of spans of the call's own, stored in place. -/
namespace Go.Proofs.Ytoedbbpjddjbnaa
open Go.RowKit

theorem Try.infoSpan : (Try.prog.info? 34).map (fun i => (i.zero, i.size, i.bytes)) = some (some (.agg #[.int .i64 0, .int .i64 0]), 2, 16) := by kernel_rfl
def flatS : List (Int × Int) → List Value
  | [] => []
  | p :: ps => .int .i64 p.1 :: .int .i64 p.2 :: flatS ps
theorem flatS_len : ∀ ps, (flatS ps).length = ps.length * 2
  | [] => rfl
  | p :: ps => by simp only [flatS, List.length_cons, flatS_len ps]; omega
theorem flatS_at : ∀ (ps : List (Int × Int)) {j : Nat} {p : Int × Int}, ps[j]? = some p → (flatS ps)[j * 2]? = some (.int .i64 p.1) ∧ (flatS ps)[j * 2 + 1]? = some (.int .i64 p.2)
  | [], j, p, h => by simp at h
  | q :: ps, 0, p, h => by simp at h; subst h; exact ⟨rfl, rfl⟩
  | q :: ps, j + 1, p, h => by
    have h := flatS_at ps (j := j) (p := p) (by simpa using h)
    rw [show (j + 1) * 2 = j * 2 + 1 + 1 by omega]
    exact ⟨by simp only [flatS, List.getElem?_cons_succ]; exact h.1, by simp only [flatS, List.getElem?_cons_succ]; exact h.2⟩
theorem flatS_set : ∀ (ps : List (Int × Int)) (j : Nat) (a b : Int), ((flatS ps).set (j * 2) (.int .i64 a)).set (j * 2 + 1) (.int .i64 b) = flatS (ps.set j (a, b))
  | [], _, _, _ => by simp [flatS]
  | q :: ps, 0, a, b => rfl
  | q :: ps, j + 1, a, b => by
    have h := flatS_set ps j a b
    rw [show (j + 1) * 2 = j * 2 + 1 + 1 by omega]
    simp only [flatS, List.set_cons_succ]
    rw [h]
theorem flatS_zero : ∀ n, flatS (List.replicate n (0, 0)) = List.replicate (n * 2) (.int .i64 0)
  | 0 => rfl
  | n + 1 => by
    rw [List.replicate_succ, show (n + 1) * 2 = n * 2 + 1 + 1 by omega, List.replicate_succ, List.replicate_succ]
    simp only [flatS]
    rw [flatS_zero n]
theorem flatS_rep (n : Nat) : (madeCells #[Value.int .i64 0, .int .i64 0] (n * 2)).toList = flatS (List.replicate n (0, 0)) := by
  rw [flatS_zero]
  unfold madeCells
  have e : (fun x : Nat => (#[Value.int .i64 0, .int .i64 0] : Array Value)[x % (#[Value.int .i64 0, .int .i64 0] : Array Value).size]!) = fun _ => Value.int .i64 0 := by
    funext x
    have h : x % 2 = 0 ∨ x % 2 = 1 := by omega
    show (#[Value.int .i64 0, .int .i64 0] : Array Value)[x % 2]! = _
    rcases h with h | h <;> rw [h] <;> rfl
  rw [e, Array.toList_map, Array.toList_range]
  exact List.eq_replicate_iff.2 ⟨by simp, fun b hb => by obtain ⟨_, _, rfl⟩ := List.mem_map.1 hb; rfl⟩
/-- A slice of spans of the call's own. -/
def OwnS (w : World) (base : Nat) (v : Value) (ps : List (Int × Int)) : Prop := w.ownsRow base 34 2 v ps.length (flatS ps)
theorem OwnS.below {w w' : World} {base : Nat} {v : Value} {ps : List (Int × Int)} (h : OwnS w base v ps) (hb : Below w.heap.size w w') : OwnS w' base v ps := row_below h hb
theorem OwnS.drew {w : World} {base : Nat} {v : Value} {ps : List (Int × Int)} (h : OwnS w base v ps) : OwnS w.drew base v ps := h
theorem OwnS.lt {w : World} {base g n cap : Nat} {ps : List (Int × Int)} (h : OwnS w base (.slice (some ⟨g, 0, none⟩) n cap) ps) : base ≤ g ∧ g < w.heap.size := World.ownsRow.lt h g rfl
theorem OwnS.cell {w : World} {base g cap : Nat} {ps : List (Int × Int)} (h : OwnS w base (.slice (some ⟨g, 0, none⟩) ps.length cap) ps) {j : Nat} {p : Int × Int} (hj : ps[j]? = some p) :
    (w.cell? ⟨g, j * 2, none⟩ = some (.int .i64 p.1) ∧ w.frozen? ⟨g, j * 2, none⟩ = false) ∧ w.cell? ⟨g, j * 2 + 1, none⟩ = some (.int .i64 p.2) ∧ w.frozen? ⟨g, j * 2 + 1, none⟩ = false := by
  have hl := (List.getElem?_eq_some_iff.1 hj).1
  obtain ⟨h1, h2⟩ := flatS_at ps hj
  exact ⟨⟨(World.ownsRow.cellAt h (j * 2) (by omega)).trans h1, World.ownsRow.frozenAt h _⟩, (World.ownsRow.cellAt h (j * 2 + 1) (by omega)).trans h2, World.ownsRow.frozenAt h _⟩
theorem OwnS.stored {w : World} {base g cap : Nat} {ps : List (Int × Int)} (h : OwnS w base (.slice (some ⟨g, 0, none⟩) ps.length cap) ps) (j : Nat) (a b : Int) :
    OwnS ((w.setCell ⟨g, j * 2, none⟩ (.int .i64 a)).setCell ⟨g, j * 2 + 1, none⟩ (.int .i64 b)) base (.slice (some ⟨g, 0, none⟩) ps.length cap) (ps.set j (a, b)) := by
  have h1 := (World.ownsRow.stored (World.ownsRow.stored h (j * 2) (.int .i64 a)).1 (j * 2 + 1) (.int .i64 b)).1
  rw [flatS_set] at h1
  show World.ownsRow _ _ _ _ _ _ _
  rw [List.length_set]
  exact h1
end Go.Proofs.Ytoedbbpjddjbnaa
/- slices.Repeat of one span: copy of elements of two cells, and the contract. -/
namespace Go.Proofs.Ytoedbbpjddjbnaa
open Go.RowKit Go.Shelf

theorem run_copy_row2 {P : Program} (w : World) (dT sT ty elem : TypeId) (g o dLen dCap : Nat) (a : Addr) (sLen sCap : Nat) (cur : Array Value) (t : TypeId) (cs : List Value) (k : Nat)
    (hu : P.underlying dT = some (.slice elem)) (hs : (P.info? elem).map (·.size) = some 2)
    (hg : w.heap[g]? = some (.cells cur t (0, 0))) (hk : k = Nat.min sLen dLen) (hn : cs.length = k * 2)
    (hsrc : ∀ j v, cs[j]? = some v → w.cell? (a.add j) = some v) (hfit : o + cs.length ≤ cur.size) (h1 : ∀ v ∈ cs, v.oneCell' = true) :
    (Builtin.copy_ #[dT, sT] ty #[.slice (some ⟨g, o, none⟩) dLen dCap, .slice (some a) sLen sCap]).run P w =
      .ok (goInt k) (w.setRow g (cur.toList.take o ++ cs ++ cur.toList.drop (o + cs.length)).toArray) := by
  have hl := run_loadCells_list (P := P) w a cs hsrc
  have hst := run_storeCells_at P g o t cs 0 cur w hg (by simpa using hfit) h1
  cases hq : P.info? elem with
  | none => simp [hq] at hs
  | some i =>
    have hi : i.size = 2 := by simpa [hq] using hs
    simp [Builtin.copy_, run_underlying hu, Builtin.lenOf, Builtin.firstCells, sizeOf, typeInfo, hq, hi, ← hk, ← hn, hl, hst]
theorem wpList_copy2 {P : Program} {w : World} {ops : Array Oper} {rest : List Oper} {o : Oper} {a : Act} {Q : Exit → Act → World → Prop} (hgd : o.guard = none) (d s : Operand) (dT sT : TypeId)
    (ho : o.op = .call { callee := .builtin .copy, args := #[d, s], argTypes := #[dT, sT] }) (elem : TypeId) (hu : P.underlying dT = some (.slice elem)) (hsz : (P.info? elem).map (·.size) = some 2)
    (g off dLen dCap : Nat) (ad : Addr) (sLen sCap : Nat) (hd : a.eval d = .slice (some ⟨g, off, none⟩) dLen dCap) (hs : a.eval s = .slice (some ad) sLen sCap)
    (cur : List Value) (t : TypeId) (hg : w.heap[g]? = some (.cells cur.toArray t (0, 0))) (cs : List Value) (k : Nat) (hk : k = Nat.min sLen dLen) (hn : cs.length = k * 2)
    (hsrc : ∀ j v, cs[j]? = some v → w.cell? (ad.add j) = some v) (hfit : off + cs.length ≤ cur.length) (h1 : ∀ v ∈ cs, v.oneCell' = true) (B : Nat) (w0 : World) (hb : Below B w0 w) (hBg : B ≤ g)
    (h : ∀ w', Hid (w'.heap[g]? = some (.cells (splice cur off cs).toArray t (0, 0))) → Below B w0 w' → wpList P ops Q rest (a.put o.dst (goInt k)) w') : wpList P ops Q (o :: rest) a w := by
  refine wpList_plain hgd fun K hK => ?_
  have hrun := run_copy_row2 (P := P) w dT sT o.type elem g off dLen dCap ad sLen sCap cur.toArray t cs k hu hsz hg hk hn hsrc (by simpa using hfit) h1
  unfold Oper.wp
  simp [execOp, ho, resolve, invoke, builtin, hd, hs, hrun, Result.andThen]
  exact hK _ _ (h _ (show _ = _ by simpa [splice] using setRow_heap w g _ _ t _ hg) (below_setRow hb hBg _))
theorem step_copy2 {P : Program} {ops : Array Oper} {o : Oper} {a : Act} {w : World} {K : Act → World → Prop} {Q : Exit → Act → World → Prop} {E : Prop} (hgd : o.guard = none) (d s : Operand) (dT sT : TypeId)
    (ho : o.op = .call { callee := .builtin .copy, args := #[d, s], argTypes := #[dT, sT] }) (elem : TypeId) (hu : P.underlying dT = some (.slice elem)) (hsz : (P.info? elem).map (·.size) = some 2)
    (g off dLen dCap : Nat) (ad : Addr) (sLen sCap : Nat) (hd : a.eval d = .slice (some ⟨g, off, none⟩) dLen dCap) (hs : a.eval s = .slice (some ad) sLen sCap)
    (cur : List Value) (t : TypeId) (hg : w.heap[g]? = some (.cells cur.toArray t (0, 0))) (cs : List Value) (k : Nat) (hk : k = Nat.min sLen dLen) (hn : cs.length = k * 2)
    (hsrc : ∀ j v, cs[j]? = some v → w.cell? (ad.add j) = some v) (hfit : off + cs.length ≤ cur.length) (h1 : ∀ v ∈ cs, v.oneCell' = true) (B : Nat) (w0 : World) (hb : Below B w0 w) (hBg : B ≤ g)
    (h : ∀ w', Hid (w'.heap[g]? = some (.cells (splice cur off cs).toArray t (0, 0))) → Below B w0 w' → K (a.put o.dst (goInt k)) w') :
    if Region.wanted o (yielded ops a.tmps) = true then Oper.wp P o a w K Q else E := by
  have hw : Region.wanted o (yielded ops a.tmps) = true := by simp [Region.wanted, hgd]
  rw [if_pos hw]
  have hrun := run_copy_row2 (P := P) w dT sT o.type elem g off dLen dCap ad sLen sCap cur.toArray t cs k hu hsz hg hk hn hsrc (by simpa using hfit) h1
  unfold Oper.wp
  simp [execOp, ho, resolve, invoke, builtin, hd, hs, hrun, Result.andThen]
  exact h _ (show _ = _ by simpa [splice] using setRow_heap w g _ _ t _ hg) (below_setRow hb hBg _)
/-- k pairs q, and zeros up to n. -/
def sTo (q : Int × Int) (n k : Nat) : List (Int × Int) := List.replicate k q ++ List.replicate (n - k) (0, 0)
theorem sTo_len {q : Int × Int} {n k : Nat} (h : k ≤ n) : (sTo q n k).length = n := by simp [sTo]; omega
theorem flatS_app : ∀ (a b : List (Int × Int)), flatS (a ++ b) = flatS a ++ flatS b
  | [], _ => rfl
  | p :: ps, b => by simp only [List.cons_append, flatS, flatS_app ps b]
theorem flatS_one : ∀ (ps : List (Int × Int)), ∀ v ∈ flatS ps, v.oneCell' = true
  | [], v, h => by cases h
  | p :: ps, v, h => by
    simp only [flatS, List.mem_cons] at h
    rcases h with rfl | rfl | h
    · rfl
    · rfl
    · exact flatS_one ps v h
theorem splice_sTo {q : Int × Int} {n c k : Nat} (h : c + k ≤ n) : splice (flatS (sTo q n c)) (c * 2) (flatS (List.replicate k q)) = flatS (sTo q n (c + k)) := by
  have e1 : sTo q n c = List.replicate c q ++ (List.replicate k (0, 0) ++ List.replicate (n - (c + k)) (0, 0)) := by
    unfold sTo
    rw [List.replicate_append_replicate]
    congr 2
    omega
  have l1 : (flatS (List.replicate c q)).length = c * 2 := by rw [flatS_len, List.length_replicate]
  have l2 : (flatS (List.replicate k ((0 : Int), (0 : Int)))).length = k * 2 := by rw [flatS_len, List.length_replicate]
  have l3 : (flatS (List.replicate k q)).length = k * 2 := by rw [flatS_len, List.length_replicate]
  rw [e1, flatS_app, flatS_app]
  unfold splice
  rw [List.take_left' l1, l3, ← List.drop_drop, List.drop_left' l1, List.drop_left' l2, ← flatS_app, ← flatS_app]
  unfold sTo
  rw [← List.append_assoc, List.replicate_append_replicate]
set_option maxRecDepth 1000000 in
set_option maxHeartbeats 1600000 in
theorem spanrep_any (q : Int × Int) (n : Nat) (b c : Nat) (w : World) (hn : 1 ≤ n) (hn2 : n ≤ 1000) (hx1 : w.cell? ⟨b, 0, none⟩ = some (.int .i64 q.1)) (hx2 : w.cell? ⟨b, 1, none⟩ = some (.int .i64 q.2)) :
    Calls Try.prog 96 #[.slice (some ⟨b, 0, none⟩) 1 c, .int .i64 n] w fun e w' => ∃ g, e = .returned (.slice (some ⟨g, 0, none⟩) n n) ∧ OwnS w' w.heap.size (.slice (some ⟨g, 0, none⟩) n n) (List.replicate n q) ∧ Below w.heap.size w w' := by
  have HMU : Hid (∀ V, Calls Try.prog 107 #[.int .u64 1, .int .u64 (n : Int)] V fun e w' => e = .returned (.tuple #[.int .u64 0, .int .u64 (n : Int)]) ∧ w' = V) := fun V => by
    have h := Try.bits_Mul 1 n (by omega) (by omega) V
    rw [show 1 * n / 18446744073709551616 = 0 by omega, show 1 * n % 18446744073709551616 = n by omega] at h
    exact h
  obtain ⟨i0, hi, hz0, hz1, hz2⟩ := info_parts Try.infoSpan
  have HX1 := Lib.hid hx1
  have HX2 := Lib.hid hx2
  have HSZ : Hid ((Try.prog.info? 34).map (·.size) = some 2) := by show _ = _; rw [hi]; show some i0.size = _; rw [hz1]
  have m1 : IntKind.u64.wrap (n : Int) = n := IntWalk.u64_in _ (by omega)
  have m2 : IntKind.i64.wrap (n : Int) = n := IntWalk.i64_in _ (by omega)
  have hn0 : ¬ (n : Int) < 0 := by omega
  have hn3 : ¬ (9223372036854775807 : Int) < (n : Int) := by omega
  clear hx1 hx2
  go_enter Try.func96, Try.ntmps96
  go_wp2_with (first
    | (go_at_call 107; refine (HMU.out _).mono ?_; rintro e w1 ⟨rfl, hw1⟩; obtain rfl := hw1.symm)
    | (with_reducible refine wpList_make_full _ rfl (.tmp 29) (.tmp 29) 83 rfl w.heap.size 34 i0 (.agg #[.int .i64 0, .int .i64 0]) 2 Try.underlying83 hi hz0 hz1 .i64 .i64 (n : Int) (n : Int) n rfl rfl rfl rfl (by rw [hz2]; omega) (by unfold maxLen; omega) (Nat.le_refl _) ?_))
  intro w4 hown hgrow
  have hb4 : Below w.heap.size w w4 := (Below.refl _ _).grown hgrow (Nat.le_refl _) (fun k e => by cases e)
  have hO4 : OwnS w4 w.heap.size (.slice (some ⟨w.heap.size, 0, none⟩) n n) (sTo q n 0) := by
    show World.ownsRow _ _ _ _ _ _ _
    rw [sTo_len (Nat.zero_le _), show sTo q n 0 = List.replicate n (0, 0) by simp [sTo], ← flatS_rep]
    exact hown
  obtain ⟨G, hG⟩ : ∃ G, w.heap.size = G := ⟨_, rfl⟩
  rw [hG] at hO4 hb4 ⊢
  have hheap : w4.heap[G]? = some (.cells (flatS (sTo q n 0)).toArray 34 (0, 0)) := by
    have hzl : (sTo q n 0).length = n := sTo_len (Nat.zero_le _)
    obtain ⟨_, ⟨e, _⟩ | ⟨g9, cap9, cur, e9, _, h9, _, _, hsz, htk⟩⟩ := hO4
    · cases e
    · obtain ⟨h1, h2, h3⟩ : G = g9 ∧ n = (sTo q n 0).length ∧ n = cap9 := by simpa using e9
      subst h1
      subst h3
      rw [hzl, List.take_of_length_le (by simp; omega)] at htk
      rw [h9, ← htk]
  have HH := Lib.hid hheap
  have HB4 := Lib.hid hb4
  have HGW := Lib.hid hG
  clear hown hgrow hb4 hO4 hG hheap
  have HB0 : Hid (Below w.heap.size w w4) := by have := HB4.out; rw [← HGW.out] at this; exact this
  have HGL : Hid (w.heap.size ≤ G) := by rw [HGW.out]; exact Nat.le_refl _
  have HK1 : Hid (∀ n, 1 ≤ n → 1 = Nat.min 1 n) := fun n h => by show 1 = min 1 n; omega
  have HN1 := Lib.hid hn
  have HN2 := Lib.hid hn2
  have HFT : Hid (0 + (flatS [q]).length ≤ (flatS (sTo q n 0)).length) := by
    show _ ≤ _
    rw [flatS_len, flatS_len, sTo_len (Nat.zero_le _)]
    show 0 + 1 * 2 ≤ n * 2
    omega
  have HSRC : Hid (∀ (j : Nat) (v : Value), (flatS [q])[j]? = some v → w4.cell? ((⟨b, 0, none⟩ : Addr).add j) = some v) := fun j v hj => by
    have y1 := (HB0.out.cell (p := ⟨b, 0, none⟩) (cell_lt HX1.out)).trans HX1.out
    have y2 := (HB0.out.cell (p := ⟨b, 1, none⟩) (cell_lt HX2.out)).trans HX2.out
    rw [addr_add]
    match j, hj with
    | 0, hj => obtain rfl : Value.int .i64 q.1 = v := by simpa [flatS] using hj
               exact y1
    | 1, hj => obtain rfl : Value.int .i64 q.2 = v := by simpa [flatS] using hj
               exact y2
    | j + 2, hj => simp [flatS] at hj
  go_wp2_with (refine wpList_copy2 rfl (.tmp 31) (.tmp 32) 83 83 rfl 34 Try.underlying83 HSZ.out G 0 n n ⟨b, 0, none⟩ 1 c rfl rfl (flatS (sTo q n 0)) 34 HH.out (flatS [q]) 1 (HK1.out n HN1.out) rfl HSRC.out HFT.out (flatS_one _) w.heap.size w HB0.out HGL.out ?_; intro w5 h5 hb5)
  have HH5 : Hid (w5.heap[G]? = some (.cells (flatS (sTo q n 1)).toArray 34 (0, 0))) := by
    have h := h5.out
    have e := splice_sTo (q := q) (n := n) (c := 0) (k := 1) (by have := HN1.out; omega)
    rw [Nat.zero_mul, show List.replicate 1 q = [q] from rfl, Nat.zero_add] at e
    rw [e] at h
    exact h
  have HB5 := Lib.hid hb5
  clear h5 hb5 HSRC HFT
  go_loopw [8] (fun v wr => ∃ k : Nat, 1 ≤ k ∧ k ≤ n ∧ v = .int .i64 k ∧ wr.heap[G]? = some (.cells (flatS (sTo q n k)).toArray 34 (0, 0)) ∧ Below w.heap.size w wr) (fun v _ => n - (intOf v).toNat)
  case atStart => exact ⟨1, Nat.le_refl _, hn, rfl, HH5.out, HB5.out⟩
  case round =>
    obtain ⟨k, hk1, hk, rfl, hG, hB⟩ := hrel
    have HG := Lib.hid hG
    have HB := Lib.hid hB
    clear hG hB
    by_cases hlt : k < n
    · have hk0 : (k : Int) < (n : Int) := by omega
      have hne : ¬ n = k := by omega
      obtain ⟨d, hd⟩ : ∃ d, Nat.min k (n - k) = d := ⟨_, rfl⟩
      have hd' : min k (n - k) = d := hd
      have hd1 : 1 ≤ d := by omega
      have hd2 : k + d ≤ n := by omega
      have m3 : IntKind.i64.wrap ((k : Int) + (d : Int)) = ((k + d : Nat) : Int) := by rw [Int.natCast_add]; exact IntWalk.i64_in _ (by omega)
      have HD := Lib.hid hd.symm
      have HKD := Lib.hid hd2
      have HSRC : Hid (∀ (j : Nat) (v : Value), (flatS (List.replicate d q))[j]? = some v → wr.drew.cell? ((⟨G, 0, none⟩ : Addr).add j) = some v) := fun j v hj => by
        have e1 : sTo q n k = List.replicate d q ++ (List.replicate (k - d) q ++ List.replicate (n - k) (0, 0)) := by
          unfold sTo
          rw [← List.append_assoc, List.replicate_append_replicate]
          congr 2
          omega
        have e2 : wr.cell? ⟨G, j, none⟩ = (flatS (sTo q n k))[j]? := by
          unfold World.cell?
          rw [HG.out]
          simp
        rw [addr_add]
        show wr.cell? ⟨G, 0 + j, none⟩ = _
        rw [Nat.zero_add, e2, e1, flatS_app, List.getElem?_append_left (List.getElem?_eq_some_iff.1 hj).1]
        exact hj
      have HLN : Hid ((flatS (List.replicate d q)).length = d * 2) := by show _ = _; rw [flatS_len, List.length_replicate]
      have HFT : Hid (k * 2 + (flatS (List.replicate d q)).length ≤ (flatS (sTo q n k)).length) := by
        show _ ≤ _
        rw [HLN.out, flatS_len, sTo_len (by omega)]
        omega
      have HBD : Hid (Below w.heap.size w wr.drew) := HB.out.drew
      obtain ⟨w6, hw6⟩ : ∃ w6, wr.drew.setRow G ((flatS (sTo q n k)).toArray.toList.take (k * 2) ++ flatS (List.replicate d q) ++ (flatS (sTo q n k)).toArray.toList.drop (k * 2 + (flatS (List.replicate d q)).length)).toArray = w6 := ⟨_, rfl⟩
      have hrun : (Builtin.copy_ #[83, 83] 3 #[.slice (some ⟨G, k * 2, none⟩) (n - k) (n - k), .slice (some ⟨G, 0, none⟩) k n]).run Try.prog wr.drew = .ok (.int .i64 d) w6 := by
        rw [← hw6]
        exact run_copy_row2 (P := Try.prog) wr.drew 83 83 3 34 G (k * 2) (n - k) (n - k) ⟨G, 0, none⟩ k n (flatS (sTo q n k)).toArray 34 (flatS (List.replicate d q)) d Try.underlying83 HSZ.out HG.out HD.out HLN.out HSRC.out (by simpa using HFT.out) (flatS_one _)
      have HG6 : Hid (w6.heap[G]? = some (.cells (flatS (sTo q n (k + d))).toArray 34 (0, 0))) := by
        show _ = _
        rw [← hw6, ← splice_sTo hd2]
        simpa [splice] using setRow_heap wr.drew G _ _ 34 _ HG.out
      have HB6 : Hid (Below w.heap.size w w6) := by rw [← hw6]; exact below_setRow HBD.out HGL.out _
      clear hd hd' hw6
      go_wp2
      go_region_law (fail)
      all_goals
        simp only [Act.put, List.getElem_toArray, List.getElem_cons_zero, List.getElem_cons_succ, List.setIfInBounds_toArray, List.set_cons_zero, List.set_cons_succ]
        go_roundw
        case rel => exact ⟨.int .i64 ((k : Int) + (d : Int)), _, _, _, _, _, _, _, _, _, _, _, _, _, ⟨k + d, by omega, HKD.out, by simp, HG6.out, HB6.out⟩, rfl⟩
        case measure => simp [intOf]; omega
    · obtain rfl : k = n := by omega
      have HOR : Hid (OwnS wr w.heap.size (.slice (some ⟨G, 0, none⟩) k k) (List.replicate k q)) := by
        show World.ownsRow _ _ _ _ _ _ _
        have hl : (List.replicate k q).length = k := List.length_replicate
        have hz : sTo q k k = List.replicate k q := by simp [sTo]
        have hg := HG.out
        rw [hz] at hg
        rw [hl]
        refine ⟨by rw [flatS_len, hl], .inr ⟨G, k, _, rfl, HGL.out, hg, Nat.le_refl _, by unfold maxLen; omega, by simp [flatS_len], ?_⟩⟩
        rw [List.take_of_length_le (by simp [flatS_len])]
      go_wp2
      go_ret
      exact ⟨G, rfl, HOR.out, HB.out⟩
end Go.Proofs.Ytoedbbpjddjbnaa
/- A region that draws its order and only reads, within a round of a range over a function. Speaks of no function. -/
namespace Go.Proofs.Ytoedbbpjddjbnaa
open Go.RowKit

theorem wpIn_region_quiet_round {P : Program} {id r m : Nat} {Q : Exit → Act → World → Prop} {a : Act} {w : World} {l : List Oper} (hm : P.follows .mixedOrders = true) (hB : Region.lexB .any l.toArray = true) (hd : noDefer l.toArray = true) (hq : ¬ LetsOut Q)
    (h : wpQuiet P l.toArray (fun w' => ∃ n, w' = w.drewN n) (fun a' => ∀ w', (∃ n, w' = w.drewN n) → Q .normal a' w') l a) : (Code.region id l.toArray true).wpIn (Fence.wide.inRound r) m P Q a w := by
  simp only [Region.lexB, Bool.and_eq_true] at hB
  refine wpIn_region_any hm (wpAnyIn_of_wpAny hd hq _ _ _ _ (wpAny_of_quiet (C := fun w' => ∃ n, w' = w.drewN n) (Q := fun a' => ∀ w', (∃ n, w' = w.drewN n) → Q .normal a' w') (fun _ w' hw' h => h w' hw') _ _ _ _ ⟨1, rfl⟩ ?_))
  have := wpAnyQ_lex (C := fun w' => ∃ n, w' = w.drewN n) (md := .any) hB.1 l 0 (Array.replicate l.toArray.size false) a (by simp) (by simpa using hB.2) h
  simpa using this
end Go.Proofs.Ytoedbbpjddjbnaa
/- A region that draws and calls, before a range over a function: one end for all orders. Speaks of no function. -/
namespace Go.Proofs.Ytoedbbpjddjbnaa
open Go.RowKit

/-- A region that draws and calls: whatever the order, one end. -/
theorem wpIn_one {F : Fence} {n : Nat} {P : Program} {c : Code} {Q : Exit → Act → World → Prop} {a : Act} {w : World} (A : Act) (W1 : World) (h : c.wpIn F n P (fun e a' w' => match e with | .normal => a' = A ∧ w' = W1 | _ => False) a w) (hq : Q .normal A W1) : c.wpIn F n P Q a w := by
  refine Code.wpIn_mono ?_ h
  intro e a' w' he
  cases e with
  | normal =>
    obtain ⟨rfl, rfl⟩ := he
    exact hq
  | _ => exact he.elim
end Go.Proofs.Ytoedbbpjddjbnaa
/- bounds of layer 7: a contract. -/
namespace Go.Proofs.Ytoedbbpjddjbnaa
open Go.RowKit Go.Shelf
attribute [local go_sem] Oper.semAt_some

theorem OwnS.mono {w : World} {base base' : Nat} {v : Value} {ps : List (Int × Int)} (h : OwnS w base v ps) (hb : base' ≤ base) : OwnS w base' v ps := by
  obtain ⟨h0, h1 | ⟨g, cap, cur, e, hg, rest⟩⟩ := h
  · exact ⟨h0, .inl h1⟩
  · exact ⟨h0, .inr ⟨g, cap, cur, e, Nat.le_trans hb hg, rest⟩⟩
/-- What bounds keeps between two pictures: the box of the spans, and the spans. -/
structure BdI (w : World) (P T : Nat) (K : List (List Int)) (C Tb : Blk) (W : World) : Prop where
  sh : (K = [] ∧ W.cell? ⟨w.heap.size + 1, 0, none⟩ = some (.slice none 0 0) ∧ (∀ b, C b ↔ b = w.heap.size + 1)) ∨
    (K ≠ [] ∧ ∃ g, W.cell? ⟨w.heap.size + 1, 0, none⟩ = some (.slice (some ⟨g, 0, none⟩) P P) ∧ OwnS W (w.heap.size + 2) (.slice (some ⟨g, 0, none⟩) P P) (spanL P T K) ∧ ¬ Tb g ∧ (∀ b, C b ↔ b = w.heap.size + 1 ∨ b = g))
  fr : W.frozen? ⟨w.heap.size + 1, 0, none⟩ = false
  f : Fb w P T W
  lt : w.heap.size + 1 < W.heap.size
  nt : ∀ b, b < w.heap.size + 2 → ¬ Tb b
theorem Fb.turned {w : World} {p t : Int} {W W' : World} {T : Blk} (h : Fb w p t W) (ht : Turned T W W') (hn : ∀ b, b < w.heap.size + 1 → ¬ T b) : Fb w p t W' :=
  ⟨h.below.trans (ht.below h.below.size fun b hb => hn b (by omega)), ht.cell h.c0 (hn _ (by show w.heap.size < _; omega)), ht.cell h.c1 (hn _ (by show w.heap.size < _; omega)), Nat.lt_of_lt_of_le h.lt ht.size⟩
theorem OwnS.turned {w w' : World} {T : Blk} {base g n cap : Nat} {ps : List (Int × Int)} (h : OwnS w base (.slice (some ⟨g, 0, none⟩) n cap) ps) (ht : Turned T w w') (hn : ¬ T g) : OwnS w' base (.slice (some ⟨g, 0, none⟩) n cap) ps :=
  row_same h fun b e => by
    obtain rfl : g = b := by simpa [Value.ownBlock] using e
    exact ht.same _ (OwnS.lt h).2 hn
theorem BdI.keep {w : World} {P T : Nat} {K : List (List Int)} {C Tb T' : Blk} {W W' : World} (h : BdI w P T K C Tb W) (ht : Turned Tb W W') (hT : ∀ b, T' b → Tb b ∨ W.heap.size ≤ b) : BdI w P T K C T' W' := by
  have lX := h.lt
  have hnt : ∀ b, b < w.heap.size + 2 → ¬ T' b := fun b hb e => (hT b e).elim (h.nt b hb) (by omega)
  refine ⟨?_, (ht.frozen lX (h.nt _ (by show w.heap.size + 1 < _; omega))).trans h.fr, h.f.turned ht fun b hb => h.nt b (by omega), Nat.lt_of_lt_of_le lX ht.size, hnt⟩
  rcases h.sh with ⟨e, c, hC⟩ | ⟨e, g, c, o, n, hC⟩
  · exact .inl ⟨e, ht.cell c (h.nt _ (by show w.heap.size + 1 < _; omega)), hC⟩
  · exact .inr ⟨e, g, ht.cell c (h.nt _ (by show w.heap.size + 1 < _; omega)), o.turned ht n, fun q => (hT g q).elim n (by have := (OwnS.lt o).2; omega), hC⟩
theorem BdI.client {w : World} {P T : Nat} : Client fun (s : List PicV) C Tb W => BdI w P T (s.map Prod.snd) C Tb W where
  lt := fun h b hb => by
    rcases h.sh with ⟨e, c, hC⟩ | ⟨e, g, c, o, n, hC⟩
    · obtain rfl := (hC b).1 hb
      exact ⟨h.lt, h.nt _ (by omega)⟩
    · rcases (hC b).1 hb with rfl | rfl
      · exact ⟨h.lt, h.nt _ (by omega)⟩
      · exact ⟨(OwnS.lt o).2, n⟩
  keep := fun h ht hT => h.keep ht hT
/-- What bounds answers. -/
def BdPost (P T : Nat) (L : List (List Int)) (w : World) (e : Ending) (w' : World) : Prop :=
  Below w.heap.size w w' ∧ ((L = [] ∧ e = .returned (.slice none 0 0)) ∨ (L ≠ [] ∧ ∃ g, e = .returned (.slice (some ⟨g, 0, none⟩) P P) ∧ OwnS w' w.heap.size (.slice (some ⟨g, 0, none⟩) P P) (spanL P T L)))
set_option maxRecDepth 1000000 in
set_option maxHeartbeats 4000000 in
theorem bbounds_any (P T : Nat) (hP1 : 1 ≤ P) (hP : P ≤ 8) (hT : T ≤ 3) (a : Option Addr) (cs : List Cl) (cap : Nat) (w : World) (hn : cs.length ≤ 1000000) (hv : ∀ c ∈ cs, c.1.length = P ∧ okL (-1) 1 c.1 = true) (hs : Cs w a cs) :
    Calls Try.prog 70 #[.agg #[.int .i64 P, .int .i64 T], .slice a cs.length cap] w (BdPost P T (fitP T P cs) w) := by
  have HS := Lib.hid hs; clear hs
  have HVO := Lib.hid hv; clear hv
  obtain ⟨V0, hV0⟩ : ∃ V0, (w.alloc (.cells #[.int .i64 P, .int .i64 T] 23)).alloc (.cells #[.slice none 0 0] 83) = V0 := ⟨_, rfl⟩
  have hw1 : (w.alloc (.cells #[.int .i64 P, .int .i64 T] 23)).heap.size = w.heap.size + 1 := World.size_alloc _ _
  have HF : Hid (Fb w P T V0) := by rw [← hV0]; exact (Fb.new w P T 23).next ((Below.refl _ _).alloc (Nat.le_refl _) _)
  have hsz0 : V0.heap.size = w.heap.size + 2 := by rw [← hV0, World.size_alloc, hw1]
  have c0 : V0.cell? ⟨w.heap.size + 1, 0, none⟩ = some (.slice none 0 0) := by rw [← hV0, ← hw1]; exact alloc_cell _ _ _ _ _ rfl
  have f0 : V0.frozen? ⟨w.heap.size + 1, 0, none⟩ = false := by rw [← hV0]; simp
  have HI0 : Hid (BdI w P T [] (fun b => b = w.heap.size + 1) (fun _ => False) V0) := ⟨.inl ⟨rfl, c0, fun _ => Iff.rfl⟩, f0, HF.out, by omega, fun _ _ e => e⟩
  obtain ⟨W3, hW3⟩ : ∃ W3, (V0.alloc (.cells #[.int .i64 P, .int .i64 T] 23)).alloc (.cells #[.slice a cs.length cap] 24) = W3 := ⟨_, rfl⟩
  have HB3 : Hid (Below V0.heap.size V0 W3) := by rw [← hW3]; exact ((Below.refl _ _).alloc (Nat.le_refl _) _).alloc (by rw [World.size_alloc]; omega) _
  have e1 : (V0.alloc (.cells #[.int .i64 P, .int .i64 T] 23)).heap.size = V0.heap.size + 1 := World.size_alloc _ _
  have hs3 : W3.heap.size = V0.heap.size + 2 := by rw [← hW3, World.size_alloc, e1]
  have g0 : W3.cell? ⟨V0.heap.size, 0, none⟩ = some (.int .i64 P) := by rw [← hW3]; exact (alloc_old _ _ _ _ (by rw [e1]; omega)).trans (alloc_cell _ _ _ _ _ rfl)
  have g1 : W3.cell? ⟨V0.heap.size, 1, none⟩ = some (.int .i64 T) := by rw [← hW3]; exact (alloc_old _ _ _ _ (by rw [e1]; omega)).trans (alloc_cell _ _ _ _ _ rfl)
  have g2 : W3.cell? ⟨V0.heap.size + 1, 0, none⟩ = some (.slice a cs.length cap) := by rw [← hW3, ← e1]; exact alloc_cell _ _ _ _ _ rfl
  have hBW3 : Below w.heap.size w W3 := HF.out.below.trans (HB3.out.mono HF.out.below.size)
  rw [hsz0] at g0 g1 g2
  have HSEQ := Lib.hid (fitting1_seq P T (w.heap.size + 2) (w.heap.size + 2 + 1) hP1 hP hT a cs cap hn HVO.out w W3 HS.out hBW3 g0 g1 g2)
  have HI2 := Lib.hid (HI0.out.keep (turned_below HB3.out) (fun b e => .inl e))
  have HSZ : Hid (V0.heap.size = w.heap.size + 2 ∧ W3.heap.size = V0.heap.size + 2) := ⟨hsz0, hs3⟩
  obtain ⟨z0, z1⟩ := And.intro HF.out.c0 HF.out.c1
  clear g0 g1 g2 hBW3 e1 hs3 hw1 c0 f0
  refine (callsIn_wide (n := 50)).1 ?_
  refine callsIn_of_wp_marks Try.func70 rfl trivial ?_ rfl
  simp only [Try.ntmps70, List.size_toArray, List.length_cons, List.length_nil, Nat.reduceAdd, Nat.reduceSub, Array.replicate_succ, Array.replicate_zero, List.push_toArray, List.append_toArray, List.nil_append, List.cons_append]
  gi_wp2_with (refine ⟨trivial, ?_⟩; gi_at_call 67; refine (callsIn_wide.2 (fittingmk_any _ _ _ _ _ _)).mono ?_; rintro e w2 ⟨rfl, rfl⟩)
  (try rw [hV0])
  (try rw [hW3])
  clear hV0 hW3 hsz0 z0 z1
  refine wpIn_rangeFunc_M (by omega) (gf := 95) (lb := #[.pointer (some ⟨w.heap.size + 2, 0, none⟩), .pointer (some ⟨w.heap.size + 2 + 1, 0, none⟩)]) rfl (enters_of Try.func95 (by kernel_rfl) rfl)
    HSEQ.out (Below.refl _ _) (fun _ => rfl) memP_put
    (fun s C Tb W => BdI w P T (s.map Prod.snd) C Tb W) (fun _ _ _ _ _ => False) BdI.client (fun _ => ⟨fun h => h.elim, fun h => h.elim⟩) (fun b => b = w.heap.size + 1) (fun _ => False) ?need (fun _ e => e.elim) HI2.out
    (fun x => { tmps := #[.agg #[.int .i64 P, .int .i64 T], .slice a cs.length cap, .pointer (some ⟨w.heap.size, 0, none⟩), undef, .slice none 0 0, .pointer (some ⟨w.heap.size + 1, 0, none⟩), .slice (some ⟨x.1, 0, none⟩) x.2.length x.2.length, undef, undef, .agg #[.int .i64 P, .int .i64 T], .slice a cs.length cap, .func (.func 95) #[] #[.pointer (some ⟨w.heap.size + 2, 0, none⟩), .pointer (some ⟨w.heap.size + 2 + 1, 0, none⟩)], .slice (some ⟨x.1, 0, none⟩) x.2.length x.2.length, undef, undef, undef, undef, undef, undef, undef, undef, undef, undef, undef, undef, undef, undef, undef, undef, undef, undef, undef, undef, undef, undef, undef, undef, undef, undef, undef, undef, undef, undef, undef, undef, undef, undef, undef, undef], defers := [] }) ?assign ?body ?done ?stop
  case need =>
    have h1 := HSZ.out
    rintro b (hb | rfl | rfl)
    · exact ⟨fun e => by omega, by omega⟩
    · exact ⟨fun e => by omega, by omega⟩
    · exact ⟨fun e => by omega, by omega⟩
  case assign =>
    intro l2 x V K hK
    gi_wp2
    exact hK
  case body =>
    rintro l2 pre ⟨xb, xs⟩ C Tb V hI hmem hown ⟨rest, hrest⟩
    have hin : xs ∈ fitP T P cs := by rw [hrest]; simp
    have hxl := (dig_ok (P := P) hT (List.mem_filter.1 hin).1).1
    have HXS := Lib.hid hxl
    have HSL : Hid (Sl V (some ⟨xb, 0, none⟩) xs) := OwnI.sl hmem
    obtain ⟨K, hK⟩ : ∃ K, pre.map Prod.snd = K := ⟨_, rfl⟩
    have HK := Lib.hid hK
    rw [hK] at hI
    have HI := Lib.hid hI
    have HNX : Hid ((pre ++ [(xb, xs)]).map Prod.snd = K ++ [xs]) := by show _ = _; rw [← hK]; simp
    have HJB : Hid (∀ j, j < P → 0 ≤ loJ T K j ∧ loJ T K j ≤ T ∧ 0 ≤ hiJ K j ∧ hiJ K j ≤ T ∧ 0 ≤ gt xs j ∧ gt xs j ≤ T) := fun j _ => by
      have hall : ∀ x ∈ K, x ∈ fitP T P cs := fun x hx => by rw [hrest, hK]; simp [hx]
      have h1 := fold_min_in (j := j) (T := T) K T (by omega) (Int.le_refl _) fun x hx => (fitP_in (hall x hx) j).1
      have h2 := fold_max_in (j := j) (T := T) K 0 (Int.le_refl _) (by omega) fun x hx => (fitP_in (hall x hx) j).2
      have h3 := fitP_in hin j
      exact ⟨h1.1, h1.2, h2.1, h2.2, h3.1, h3.2⟩
    have qT : ∀ (w : World) (a : Option Addr) (n c n' c' : Nat), (binOp .eql 83 (.slice a n c) (.slice none n' c')).run Try.prog w = .ok (.bool a.isNone) w := fun w a n c n' c' => Lib.run_eql_slice_nil w _ _ a n c n' c' Try.underlying83
    obtain ⟨f0, f1⟩ := And.intro hI.f.c0 hI.f.c1
    have hfz := hI.fr
    have LOOP : Hid (∀ (V5 : World) (g : Nat), OwnS V5 (w.heap.size + 2) (.slice (some ⟨g, 0, none⟩) P P) (spanL P T K) → V5.cell? ⟨w.heap.size + 1, 0, none⟩ = some (.slice (some ⟨g, 0, none⟩) P P) → Turned C V V5 → (C g ∨ V.heap.size ≤ g) → C (w.heap.size + 1) → Fb w P T V5 → V5.frozen? ⟨w.heap.size + 1, 0, none⟩ = false →
        (Sl V5 (some ⟨xb, 0, none⟩) xs) ∧ xb ≠ g ∧ xb ≠ w.heap.size + 1 ∧ w.heap.size + 2 ≤ g ∧
        ∀ wr, OwnS wr (w.heap.size + 2) (.slice (some ⟨g, 0, none⟩) P P) (spanL P T (K ++ [xs])) → Turned (fun b => b = g) V5 wr → Went (fun s C Tb W => BdI w P T (s.map Prod.snd) C Tb W) (fun _ _ => False) pre (xb, xs) C Tb V wr) := by
      intro V5 g ho hc ht hg hCX hf hfz
      have lg := OwnS.lt ho
      have hX : ∀ b, b < w.heap.size + 2 → b ≠ g := fun b hb e => by omega
      have hne : xb ≠ w.heap.size + 1 := fun e => by
        have h1 := OwnI.sl hmem
        obtain ⟨b, o, y, e2, h2, _⟩ := h1.at (k := 0) (by show 0 < xs.length; omega)
        dsimp only at e2
        obtain ⟨rfl, rfl⟩ : xb = b ∧ 0 = o := by simpa using e2
        rcases hI.sh with ⟨_, c, _⟩ | ⟨_, g, c, _⟩ <;> (rw [e] at h2; rw [show (⟨w.heap.size + 1, 0 + 0, none⟩ : Addr) = ⟨w.heap.size + 1, 0, none⟩ from rfl, c] at h2; cases h2)
      obtain ⟨cx, tx, gx⟩ : ∃ cur o, V.heap[xb]? = some (.cells cur 3 o) := by
        obtain ⟨_, ⟨e, _⟩ | ⟨g9, cap9, cur, e9, _, h9, _⟩⟩ := (show OwnI V 0 (.slice (some ⟨xb, 0, none⟩) xs.length xs.length) xs from hmem)
        · cases e
        · obtain ⟨rfl, _⟩ : xb = g9 ∧ _ := by simpa using e9
          exact ⟨cur, _, h9⟩
      have lx : xb < V.heap.size := (Array.getElem?_eq_some_iff.1 gx).1
      have hng : xb ≠ g := fun e => by
        subst e
        rcases hg with hg | hg
        · rcases hI.sh with ⟨_, c, hC⟩ | ⟨_, g2, c, o, _, hC⟩
          · exact hne ((hC _).1 hg)
          · rcases (hC _).1 hg with e | e
            · exact hne e
            · subst e
              obtain ⟨_, ⟨e, _⟩ | ⟨g9, cap9, cur, e9, _, h9, _⟩⟩ := o
              · cases e
              · obtain ⟨rfl, _⟩ : xb = g9 ∧ _ := by simpa using e9
                rw [gx] at h9; simp at h9
        · omega
      have hnC : ¬ C xb := fun e => by
        rcases hI.sh with ⟨_, c, hC⟩ | ⟨_, g2, c, o, _, hC⟩
        · exact hne ((hC _).1 e)
        · rcases (hC _).1 e with e | e
          · exact hne e
          · subst e
            obtain ⟨_, ⟨e, _⟩ | ⟨g9, cap9, cur, e9, _, h9, _⟩⟩ := o
            · cases e
            · obtain ⟨rfl, _⟩ : xb = g9 ∧ _ := by simpa using e9
              rw [gx] at h9; simp at h9
      refine ⟨OwnI.sl (OwnI.sameBlock hmem (ht.same _ lx hnC)), hng, hne, lg.1, fun wr ho2 ht2 => ?_⟩
      have lX : w.heap.size + 1 < V5.heap.size := Nat.lt_of_lt_of_le hI.lt ht.size
      refine ⟨fun b => b = w.heap.size + 1 ∨ b = g, fun b => Tb b ∧ b < V.heap.size, ?_, fun b hb hl _ => ⟨hb, hl⟩, ?_, ?_⟩
      · show BdI w P T ((pre ++ [(xb, xs)]).map Prod.snd) _ _ wr
        rw [HNX.out]
        refine ⟨.inr ⟨by simp, g, ht2.cell hc (hX _ (by show w.heap.size + 1 < _; omega)), ho2, fun e => ?_, fun b => Iff.rfl⟩, (ht2.frozen lX (hX _ (by show w.heap.size + 1 < _; omega))).trans hfz, hf.turned ht2 fun b hb => hX b (by omega), Nat.lt_of_lt_of_le lX ht2.size, fun b hb e => hI.nt b hb e.1⟩
        rcases hg with hg | hg
        · exact (BdI.client.lt (pre := pre) (by rw [hK]; exact hI) g hg).2 e.1
        · omega
      · rintro b (rfl | rfl)
        · exact .inl hCX
        · exact hg.elim .inl fun h => .inr (.inr h)
      · exact (ht.mono fun b _ e => .inl e).trans (ht2.mono (T' := fun b => C b ∨ b = g) fun b _ e => .inr e) (fun b e => e.elim (fun e => .inl (.inl e)) fun e => by subst e; exact hg.elim (fun h => .inl (.inl h)) .inr) |>.mono fun b _ e => e
    rcases hI.sh with ⟨he, hc, hC⟩ | ⟨he, g, hc, ho, hng, hC⟩
    · have hbA : Below V.heap.size V (V.alloc (.cells #[.int .i64 T, .int .i64 0] 34)) := (Below.refl _ _).alloc (Nat.le_refl _) _
      have fa := (hI.f.next hbA).c0
      have HBA := Lib.hid hbA
      have HC := Lib.hid hC
      have HRP : Hid (∀ B W, W.cell? ⟨B, 0, none⟩ = some (.int .i64 T) → W.cell? ⟨B, 1, none⟩ = some (.int .i64 0) → Calls Try.prog 96 #[.slice (some ⟨B, 0, none⟩) 1 1, .int .i64 P] W fun e w' => ∃ g, e = .returned (.slice (some ⟨g, 0, none⟩) P P) ∧ OwnS w' W.heap.size (.slice (some ⟨g, 0, none⟩) P P) (spanL P T K) ∧ Below W.heap.size W w') := fun B W h0 h1 => by
        rw [he, spanL_nil]; exact spanrep_any ((T : Int), 0) P B 1 W hP1 (by omega) h0 h1
      clear he hmem hown hrest hI hin hxl hK hC hbA
      dsimp only
      gi_wp2_with (refine ⟨trivial, ?_⟩; gi_at_call 96; refine (callsIn_wide.2 (HRP.out _ _ (alloc_cell _ _ _ _ _ rfl) (alloc_cell _ _ _ _ _ rfl))).mono ?_; rintro e w5 ⟨g, rfl, ho5, hb5⟩; have HB5 : Hid (Below V.heap.size V w5) := HBA.out.trans (hb5.mono HBA.out.size); have HO5 := Lib.hid ho5; have HI5 := Lib.hid (HI.out.keep (turned_below HB5.out) (fun b e => .inl e)); obtain ⟨m0, m1⟩ := And.intro ((HB5.out.cell (p := ⟨w.heap.size + 1, 0, none⟩) HI.out.lt).trans hc) HI5.out.fr; clear ho5 hb5)
      obtain ⟨V5, hV5⟩ : ∃ V5, w5.setCell ⟨w.heap.size + 1, 0, none⟩ (.slice (some ⟨g, 0, none⟩) P P) = V5 := ⟨_, rfl⟩
      have HO5' := HO5
      have hge : V.heap.size ≤ g := by have := (OwnS.lt HO5.out).1; rw [World.size_alloc] at this; omega
      have HO5 : Hid (OwnS V5 (w.heap.size + 2) (.slice (some ⟨g, 0, none⟩) P P) (spanL P T K)) := by
        show World.ownsRow _ _ _ _ _ _ _
        rw [← hV5]
        refine OwnS.mono (base := (V.alloc (.cells #[.int .i64 T, .int .i64 0] 34)).heap.size) (row_same HO5'.out fun b e => Below.heap_setCell _ _ _ _ ?_) ?_
        · obtain rfl : g = b := by simpa [Value.ownBlock] using e
          have := HI.out.lt; show g ≠ w.heap.size + 1; omega
        · rw [World.size_alloc]; have := HI.out.lt; omega
      have HC5 : Hid (V5.cell? ⟨w.heap.size + 1, 0, none⟩ = some (.slice (some ⟨g, 0, none⟩) P P)) := by show _ = _; rw [← hV5]; exact World.cell?_setCell_same _ _ _ m0
      have L5 := Lib.hid (LOOP.out V5 g HO5.out HC5.out (by rw [← hV5]; exact (turned_below HB5.out).trans (turned_set _ _ ((HC.out _).2 rfl)) fun b e => .inl e) (.inr hge) ((HC.out _).2 rfl) (by rw [← hV5]; exact HI5.out.f.set (by omega) _) (by rw [← hV5, World.frozen?_setCell]; exact m1))
      rw [hV5]
      clear hV5 HO5' m0 m1 hge LOOP
      obtain ⟨SL5, nx1, nx2, lg5, FIN⟩ := L5.out
      have HSL5 := Lib.hid SL5
      have HFIN := Lib.hid FIN
      have HN5 : Hid (xb ≠ g ∧ w.heap.size + 1 ≠ g) := ⟨nx1, by omega⟩
      clear SL5 FIN nx1 nx2 L5
      gi_loopw [7, 8, 24] (fun _ _ i wr => ∃ j : Nat, j ≤ P ∧ i = .int .i64 j ∧ OwnS wr (w.heap.size + 2) (.slice (some ⟨g, 0, none⟩) P P) (spanTo P T K xs j) ∧ wr.cell? ⟨w.heap.size + 1, 0, none⟩ = some (.slice (some ⟨g, 0, none⟩) P P) ∧ Turned (fun b => b = g) V5 wr) (fun _ _ i _ => P - (intOf i).toNat)
      case atStart => exact ⟨0, Nat.zero_le _, rfl, by rw [spanTo_zero]; exact HO5.out, HC5.out, Turned.refl _ _⟩
      case round =>
        clear HO5 HC5
        obtain ⟨j, hj, rfl, hO, hcw, hT5⟩ := hrel
        have HO := Lib.hid hO; clear hO
        have HT5 := Lib.hid hT5; clear hT5
        have HCW := Lib.hid hcw
        by_cases hlt : j < P
        · obtain ⟨pb, po, y, e9, hcy, HY⟩ := HSL5.out.at (k := j) (by show j < xs.length; have := HXS.out; omega)
          obtain ⟨rfl, rfl⟩ : xb = pb ∧ 0 = po := by simpa using e9
          rw [Nat.zero_add] at hcy
          have hjx : j < xs.length := by have := HXS.out; omega
          have hcy2 := HT5.out.cell hcy (show xb ≠ g from HN5.out.1)
          have hgy : gt xs j = y := gt_some' HY.out
          have hso : OwnS wr (w.heap.size + 2) (.slice (some ⟨g, 0, none⟩) (spanTo P T K xs j).length P) (spanTo P T K xs j) := by rw [spanTo_len]; exact HO.out
          obtain ⟨⟨s0, s1⟩, s2, s3⟩ := hso.cell (spanTo_at (T := T) (L := K) (x := xs) hlt)
          have HST := Lib.hid (hso.stored j (min (loJ T K j) (gt xs j)) (max (hiJ K j) (gt xs j)))
          rw [spanTo_set hlt, spanTo_len, hgy] at HST
          have hjb := HJB.out j hlt
          rw [hgy] at hjb
          dsimp only at s0 s1 s2 s3
          clear hso e9 hgy
          generalize loJ T K j = A at *
          generalize hiJ K j = B at *
          gi_wp2
          refine wpIn_region_still_tail_round 18 (by kernel_rfl) (by kernel_rfl) (by kernel_rfl) ?hq ?_
          case hq => rintro ⟨_, _, h⟩; exact h
          simp only [List.take_succ_cons, List.take_zero, List.drop_succ_cons, List.drop_zero]
          repeat still_step
          refine wpStill_nil ?_
          change wpList _ _ _ _ _ wr.drew
          go_wp2
          all_goals
            have HS2 := HST.out
            (first | rw [show min A y = A by omega] at HS2 | rw [show min A y = y by omega] at HS2)
            (first | rw [show max B y = B by omega] at HS2 | rw [show max B y = y by omega] at HS2)
            have HS3 := Lib.hid HS2
            clear HS2
            gi_wp2
            exact ⟨⟨j + 1, by omega, by go_num, OwnS.drew HS3.out, (cell_other _ _ _ _ HN5.out.2).trans ((cell_other _ _ _ _ HN5.out.2).trans HCW.out), ((HT5.out.trans (turned_set (T := fun b => b = g) wr _ rfl) fun b e => .inl e).trans (turned_set (T := fun b => b = g) _ _ rfl) fun b e => .inl e).trans (turned_drew _ _) fun b e => .inl e⟩, by simp [intOf]; omega⟩
        · obtain rfl : j = P := by omega
          rw [spanTo_end] at HO
          have HF := Lib.hid (HFIN.out wr HO.out HT5.out)
          clear HFIN
          have hjx : ¬ j < xs.length := by have := HXS.out; omega
          gi_wp2
          exact HF.out
    · have HO5 := Lib.hid ho
      have HC5 := Lib.hid hc
      have HO5 : Hid (OwnS V (w.heap.size + 2) (.slice (some ⟨g, 0, none⟩) P P) (spanL P T K)) := ho
      have L5 := Lib.hid (LOOP.out V g ho hc (Turned.refl _ _) (.inl ((hC _).2 (.inr rfl))) ((hC _).2 (.inl rfl)) hI.f hfz)
      clear hmem hown hrest hI hin hxl hK hC ho LOOP he hng
      dsimp only
      gi_wp2
      obtain ⟨SL5, nx1, nx2, lg5, FIN⟩ := L5.out
      have HSL5 := Lib.hid SL5
      have HFIN := Lib.hid FIN
      have HN5 : Hid (xb ≠ g ∧ w.heap.size + 1 ≠ g) := ⟨nx1, by omega⟩
      clear SL5 FIN nx1 nx2 L5
      gi_loopw [7, 8, 24] (fun _ _ i wr => ∃ j : Nat, j ≤ P ∧ i = .int .i64 j ∧ OwnS wr (w.heap.size + 2) (.slice (some ⟨g, 0, none⟩) P P) (spanTo P T K xs j) ∧ wr.cell? ⟨w.heap.size + 1, 0, none⟩ = some (.slice (some ⟨g, 0, none⟩) P P) ∧ Turned (fun b => b = g) V wr) (fun _ _ i _ => P - (intOf i).toNat)
      case atStart => exact ⟨0, Nat.zero_le _, rfl, by rw [spanTo_zero]; exact HO5.out, HC5.out, Turned.refl _ _⟩
      case round =>
        clear HO5 HC5
        obtain ⟨j, hj, rfl, hO, hcw, hT5⟩ := hrel
        have HO := Lib.hid hO; clear hO
        have HT5 := Lib.hid hT5; clear hT5
        have HCW := Lib.hid hcw
        by_cases hlt : j < P
        · obtain ⟨pb, po, y, e9, hcy, HY⟩ := HSL5.out.at (k := j) (by show j < xs.length; have := HXS.out; omega)
          obtain ⟨rfl, rfl⟩ : xb = pb ∧ 0 = po := by simpa using e9
          rw [Nat.zero_add] at hcy
          have hjx : j < xs.length := by have := HXS.out; omega
          have hcy2 := HT5.out.cell hcy (show xb ≠ g from HN5.out.1)
          have hgy : gt xs j = y := gt_some' HY.out
          have hso : OwnS wr (w.heap.size + 2) (.slice (some ⟨g, 0, none⟩) (spanTo P T K xs j).length P) (spanTo P T K xs j) := by rw [spanTo_len]; exact HO.out
          obtain ⟨⟨s0, s1⟩, s2, s3⟩ := hso.cell (spanTo_at (T := T) (L := K) (x := xs) hlt)
          have HST := Lib.hid (hso.stored j (min (loJ T K j) (gt xs j)) (max (hiJ K j) (gt xs j)))
          rw [spanTo_set hlt, spanTo_len, hgy] at HST
          have hjb := HJB.out j hlt
          rw [hgy] at hjb
          dsimp only at s0 s1 s2 s3
          clear hso e9 hgy
          generalize loJ T K j = A at *
          generalize hiJ K j = B at *
          gi_wp2
          refine wpIn_region_still_tail_round 18 (by kernel_rfl) (by kernel_rfl) (by kernel_rfl) ?hq ?_
          case hq => rintro ⟨_, _, h⟩; exact h
          simp only [List.take_succ_cons, List.take_zero, List.drop_succ_cons, List.drop_zero]
          repeat still_step
          refine wpStill_nil ?_
          change wpList _ _ _ _ _ wr.drew
          go_wp2
          all_goals
            have HS2 := HST.out
            (first | rw [show min A y = A by omega] at HS2 | rw [show min A y = y by omega] at HS2)
            (first | rw [show max B y = B by omega] at HS2 | rw [show max B y = y by omega] at HS2)
            have HS3 := Lib.hid HS2
            clear HS2
            gi_wp2
            exact ⟨⟨j + 1, by omega, by go_num, OwnS.drew HS3.out, (cell_other _ _ _ _ HN5.out.2).trans ((cell_other _ _ _ _ HN5.out.2).trans HCW.out), ((HT5.out.trans (turned_set (T := fun b => b = g) wr _ rfl) fun b e => .inl e).trans (turned_set (T := fun b => b = g) _ _ rfl) fun b e => .inl e).trans (turned_drew _ _) fun b e => .inl e⟩, by simp [intOf]; omega⟩
        · obtain rfl : j = P := by omega
          rw [spanTo_end] at HO
          have HF := Lib.hid (HFIN.out wr HO.out HT5.out)
          clear HFIN
          have hjx : ¬ j < xs.length := by have := HXS.out; omega
          gi_wp2
          exact HF.out
  case done =>
    rintro D ys C Tb V hD hys hI hTD hK
    have HI := Lib.hid hI
    have HTD := Lib.hid hTD
    have HKD := Lib.hid hK
    have HYS := Lib.hid hys
    rw [hys] at hI HI
    rcases hI.sh with ⟨he, hc, hC⟩ | ⟨he, g, hc, ho, hng, hC⟩
    · have HE := Lib.hid he
      clear hTD hK hys hI he hC hD
      gi_wp2
      refine leavesP_marks (fun W => Below w.heap.size w W ∧ Turned Tb V W) [D] ?_ ?_ [D] V (fun _ h => h) (by simp) ?_ ⟨HI.out.f.below, Turned.refl _ _⟩
      · rintro W E hE ⟨h1, h2⟩
        obtain rfl : E = D := by simpa using hE
        have h3 := turned_put W (.deferred none) HTD.out
        exact ⟨h1.trans (h3.below h1.size fun b hb => HI.out.nt b (by omega)), h2.trans h3 fun b e => .inl e⟩
      · rintro W ⟨h1, _⟩
        exact ⟨.slice none 0 0, by simp [results, Try.results70, go_sem], h1, .inl ⟨HE.out, rfl⟩⟩
      · intro E hE; rw [List.mem_singleton.1 hE]; exact HKD.out
    · have HE := Lib.hid he
      have HO := Lib.hid ho
      have HNG := Lib.hid hng
      clear hTD hK hys hI he hC hD ho hng
      gi_wp2
      refine leavesP_marks (fun W => Below w.heap.size w W ∧ Turned Tb V W) [D] ?_ ?_ [D] V (fun _ h => h) (by simp) ?_ ⟨HI.out.f.below, Turned.refl _ _⟩
      · rintro W E hE ⟨h1, h2⟩
        obtain rfl : E = D := by simpa using hE
        have h3 := turned_put W (.deferred none) HTD.out
        exact ⟨h1.trans (h3.below h1.size fun b hb => HI.out.nt b (by omega)), h2.trans h3 fun b e => .inl e⟩
      · rintro W ⟨h1, h2⟩
        exact ⟨.slice (some ⟨g, 0, none⟩) P P, by simp [results, Try.results70, go_sem], h1, .inr ⟨HE.out, g, rfl, (HO.out.turned h2 HNG.out).mono (by omega)⟩⟩
      · intro E hE; rw [List.mem_singleton.1 hE]; exact HKD.out
  case stop =>
    rintro D c pre C Tb V hD h
    exact h.elim
end Go.Proofs.Ytoedbbpjddjbnaa
/- fitting, Count and First of the answers of layer 7: contracts. -/
namespace Go.Proofs.Ytoedbbpjddjbnaa
open Go.RowKit

/-- Those of the first j pictures that fit. -/
def fitTo (M : List (List Int)) (cs : List Cl) (j : Nat) : List (List Int) := (M.take j).filter fun x => cs.all (inC x)
theorem fitTo_yes {M : List (List Int)} {cs : List Cl} {j : Nat} {x : List Int} (h : M[j]? = some x) (hx : cs.all (inC x) = true) : fitTo M cs (j + 1) = fitTo M cs j ++ [x] := by
  unfold fitTo; rw [List.take_add_one, h, List.filter_append]; simp [hx]
theorem fitTo_no {M : List (List Int)} {cs : List Cl} {j : Nat} {x : List Int} (h : M[j]? = some x) (hx : cs.all (inC x) = false) : fitTo M cs (j + 1) = fitTo M cs j := by
  unfold fitTo; rw [List.take_add_one, h, List.filter_append]; simp [hx]
theorem fitTo_len (M : List (List Int)) (cs : List Cl) (j : Nat) : (fitTo M cs j).length ≤ M.length := Nat.le_trans (List.length_filter_le _ _) (by rw [List.length_take]; omega)
theorem fitTo_all (T P : Nat) (cs : List Cl) {n : Nat} (hn : (picsTo T P).length ≤ n) : fitTo (picsTo T P) cs n = fitP T P cs := by unfold fitTo fitP; rw [List.take_of_length_le hn]
set_option maxRecDepth 1000000 in
set_option maxHeartbeats 2000000 in
theorem rfitting_any (P T : Nat) (hP : P ≤ 8) (hT : T ≤ 3) (a : Option Addr) (cs : List Cl) (cap : Nat) (w : World) (hn : cs.length ≤ 1000000) (hv : ∀ c ∈ cs, c.1.length = P ∧ okL (-1) 1 c.1 = true) (hs : Cs w a cs) :
    Calls Try.prog 68 #[.agg #[.int .i64 P, .int .i64 T], .slice a cs.length cap] w fun e w' => ∃ v ads, e = .returned v ∧ HR w.heap.size v ads (fitP T P cs) w' ∧ Below w.heap.size w w' := by
  have HF := Lib.hid (Fb.new w P T 23)
  have HS := Lib.hid hs; clear hs
  have HV := Lib.hid hv; clear hv
  obtain ⟨M, hM⟩ : ∃ M, picsTo T P = M := ⟨_, rfl⟩
  obtain ⟨N, hN⟩ : ∃ N, M.length = N := ⟨_, rfl⟩
  have HNB : Hid (N ≤ 65536) := by show _ ≤ _; rw [← hN, ← hM]; exact picsTo_bd hT hP
  have HN0 : Hid (0 < N) := by show _ < _; rw [← hN, ← hM]; exact picsTo_pos T P
  have HML := Lib.hid hN
  have HMD : Hid (∀ x ∈ M, x.length = P ∧ okL 0 3 x = true) := fun x hx => by rw [← hM] at hx; exact dig_ok hT hx
  have HE : Hid (fitTo M cs N = fitP T P cs) := by show _ = _; rw [← hM]; exact fitTo_all T P cs (by rw [hM, hN]; exact Nat.le_refl _)
  have HP : Hid (∀ W, Calls Try.prog 52 #[.agg #[.int .i64 P, .int .i64 T]] W fun e w' => ∃ g cap ads, e = .returned (.slice (some ⟨g, 0, none⟩) N cap) ∧ HR W.heap.size (.slice (some ⟨g, 0, none⟩) N cap) ads M w' ∧ Below W.heap.size W w') := fun W => (rpictures_any P T hP hT W).mono fun e w' ⟨v, ads, k1, k2, k3⟩ => by
    rw [hM] at k2
    rcases k2.shape with ⟨_, h0⟩ | ⟨g, cap, rfl, _, _⟩
    · have := HN0.out; rw [h0] at hN; simp at hN; omega
    · rw [hN] at k1 k2; exact ⟨g, cap, ads, k1, k2, k3⟩
  obtain ⟨z0, z1⟩ := And.intro HF.out.c0 HF.out.c1
  clear hM hN
  go_enter Try.func68, Try.ntmps68
  go_wp2_with (go_at_call 52; refine (HP.out _).mono ?_; rintro e w1 ⟨g, pcap, ads, rfl, hr1, hb1⟩; have HR1 := Lib.hid hr1; have HB1 : Hid (Below w.heap.size w w1) := HF.out.below.trans (hb1.mono HF.out.below.size); clear hr1 hb1)
  clear z0 z1
  go_loopw [5, 11] (fun v i wr => ∃ (j : Nat) (ads4 : List (Option Addr × Nat)), j ≤ N ∧ i = .int .i64 j ∧ HR w1.heap.size v ads4 (fitTo M cs j) wr ∧ Below w1.heap.size w1 wr) (fun _ i _ => N - (intOf i).toNat)
  case atStart => exact ⟨0, [], Nat.zero_le _, rfl, HR.nil _ _, Below.refl _ _⟩
  case round =>
    obtain ⟨j, ads4, hj, rfl, hO, hB⟩ := hrel
    have HO := Lib.hid hO; clear hO
    have HB := Lib.hid hB; clear hB
    have hnb := HNB.out
    by_cases hlt : j < N
    · have hjM : j < M.length := by rw [HML.out]; exact hlt
      obtain ⟨a1, c1, had, hcell, _, hss, has⟩ := (HR1.out.below HB.out).at hjM
      obtain ⟨x, hx⟩ : ∃ x, M[j]? = some x := ⟨M[j], by simp [hjM]⟩
      rw [rowL_some hx] at hcell hss
      have HSX := Lib.hid hss
      have HXO : Hid (x.length = P ∧ okL 0 3 x = true) := HMD.out x (List.mem_of_getElem? hx)
      have HFO : Hid (FitOk cs x) := ⟨fun c hc => by have h1 := HV.out c hc; have h2 := HXO.out; exact ⟨by omega, by omega, h1.2⟩, HXO.out.2⟩
      have HLM : Hid ((fitTo M cs j).length ≤ 100000) := by have h1 := fitTo_len M cs j; rw [HML.out] at h1; have h2 := HNB.out; show _ ≤ _; omega
      have HOUT : Hid (∀ ad, a1 = some ad → ad.block < w1.heap.size) := fun ad e => by
        have h0 := HR1.out.out j _ had ad e; exact h0.1
      have HX := Lib.hid hx
      cases hq : cs.all (inC x)
      · have HNX := Lib.hid (fitTo_no hx hq)
        clear hx hss has hjM had
        go_wp2_with (go_at_call 66; refine (rfits_any a cs cap a1 x c1 _ hn HFO.out (HS.out.below (HB1.out.trans (HB.out.mono HB1.out.size))) HSX.out).mono ?_; rintro e w2 ⟨rfl, hb2⟩; rw [hq]; have HB2 := Lib.hid hb2; clear hb2)
        exact ⟨⟨j + 1, ads4, by omega, by go_num, by rw [HNX.out]; exact HO.out.below HB2.out, HB.out.trans (HB2.out.mono HB.out.size)⟩, by simp [intOf]; omega⟩
      · have HNX := Lib.hid (fitTo_yes hx hq)
        clear hx hss has hjM had
        go_wp2_with (first
          | (go_at_call 66; refine (rfits_any a cs cap a1 x c1 _ hn HFO.out (HS.out.below (HB1.out.trans (HB.out.mono HB1.out.size))) HSX.out).mono ?_; rintro e w2 ⟨rfl, hb2⟩; rw [hq]; have HB2 := Lib.hid hb2; clear hb2)
          | (at_builtin; (refine wpList_pushHR rfl (.tmp 18) (.tmp 20) rfl w1.heap.size _ ads4 (fitTo M cs j) x _ rfl a1 c1 w2 _ _ rfl rfl rfl (HO.out.below HB2.out) (HSX.out.below HB2.out) (fun ad e => ⟨Nat.lt_of_lt_of_le (HOUT.out ad e) (Nat.le_trans HB.out.size HB2.out.size), fun e2 => by have := (World.ownsRow.lt HO.out.own _ e2).1; have := HOUT.out ad e; omega⟩) HLM.out (Nat.le_trans HB.out.size HB2.out.size) ?_; intro g' cap' w7 ho5 hg7 hb5 hgr7)))
        have HO5 := Lib.hid ho5; clear ho5
        exact ⟨⟨j + 1, _, by omega, by go_num, by rw [HNX.out]; exact HO5.out, HB.out.trans ((HB2.out.mono HB.out.size).trans hb5)⟩, by simp [intOf]; omega⟩
    · obtain rfl : j = N := by omega
      rw [HE.out] at HO
      go_wp2
      go_ret
      exact ⟨_, _, rfl, HO.out.mono HB1.out.size, HB1.out.trans (HB.out.mono HB1.out.size)⟩
def firstOf : List (List Int) → List Int × Int
  | [] => ([], 8)
  | x :: _ => (x, 0)
def firstV (p t : Int) (cs : List Cl) : List Int × Int := if valsB p t cs = true then firstOf (fitP t.toNat p.toNat cs) else ([], 1)
/-- fitting's answer opened: nothing, or a slice whose rows can be read. -/
theorem rfitting_two (P T : Nat) (hP : P ≤ 8) (hT : T ≤ 3) (a : Option Addr) (cs : List Cl) (cap : Nat) (w : World) (hn : cs.length ≤ 1000000) (hv : ∀ c ∈ cs, c.1.length = P ∧ okL (-1) 1 c.1 = true) (hs : Cs w a cs) :
    Calls Try.prog 68 #[.agg #[.int .i64 P, .int .i64 T], .slice a cs.length cap] w fun e w' => ∃ va ads vc, e = .returned (.slice va (fitP T P cs).length vc) ∧ HR w.heap.size (.slice va (fitP T P cs).length vc) ads (fitP T P cs) w' ∧ Below w.heap.size w w' :=
  (rfitting_any P T hP hT a cs cap w hn hv hs).mono fun e w' ⟨v, ads, k1, k2, k3⟩ => by
    rcases k2.shape with ⟨rfl, h0⟩ | ⟨g, c, rfl, _, _⟩
    · rw [h0] at k2 ⊢; exact ⟨none, ads, 0, k1, k2, k3⟩
    · exact ⟨some ⟨g, 0, none⟩, ads, c, k1, k2, k3⟩
theorem rcount_any (p t : Int) (a : Option Addr) (cs : List Cl) (cap : Nat) (w : World) (hn : cs.length ≤ 1000000) (hlc : CLen cs) (hs : Cs w a cs) :
    Calls Try.prog 26 #[.agg #[.int .i64 p, .int .i64 t], .slice a cs.length cap] w fun e w' => e = .returned (.tuple #[.int .i64 (countV p t cs).1, .int .i64 (countV p t cs).2]) ∧ Below w.heap.size w w' := by
  have HF := Lib.hid (Fb.new w p t 23)
  have HS := Lib.hid hs; clear hs
  have HLC := Lib.hid hlc; clear hlc
  cases h : valsB p t cs
  · have HV := Lib.hid (show countV p t cs = (0, 1) by unfold countV; rw [h]; rfl)
    go_enter Try.func26, Try.ntmps26
    go_wp2_with (go_at_call 22; refine (rvalid_any p t a cs cap _ hn HLC.out (HF.out.below_cs HS.out)).mono ?_; rintro e w1 ⟨rfl, hb1⟩; have F1 := Fb.next HF.out hb1; obtain ⟨k0, k1⟩ := And.intro F1.c0 F1.c1; rw [h])
    go_ret2
    exact ⟨by rw [HV.out]; rfl, F1.below⟩
  · obtain ⟨P, T, rfl, rfl, hP1, hP, hT⟩ : ∃ P T : Nat, p = (P : Int) ∧ t = (T : Int) ∧ 1 ≤ P ∧ P ≤ 8 ∧ T ≤ 3 := by
      have h1 : vfB p t = true := by simp only [valsB, Bool.and_eq_true] at h; exact h.1
      exact vf_of h1
    have HV := Lib.hid (show countV P T cs = (((fitP T P cs).length : Int), 0) by unfold countV; rw [h]; simp)
    have HVO := Lib.hid (vals_of h).2
    go_enter Try.func26, Try.ntmps26
    go_wp2_with (first
      | (go_at_call 22; refine (rvalid_any P T a cs cap _ hn HLC.out (HF.out.below_cs HS.out)).mono ?_; rintro e w1 ⟨rfl, hb1⟩; have F1 := Fb.next HF.out hb1; obtain ⟨k0, k1⟩ := And.intro F1.c0 F1.c1; rw [h])
      | (go_at_call 68; refine (rfitting_two P T hP hT a cs cap _ hn HVO.out (F1.below_cs HS.out)).mono ?_; rintro e w2 ⟨va, ads, vc, rfl, -, hb2⟩; have F2 := Fb.next F1 hb2))
    go_ret2
    exact ⟨by rw [HV.out]; rfl, F2.below⟩
theorem rfirst_any (p t : Int) (a : Option Addr) (cs : List Cl) (cap : Nat) (w : World) (hn : cs.length ≤ 1000000) (hlc : CLen cs) (hs : Cs w a cs) :
    Calls Try.prog 28 #[.agg #[.int .i64 p, .int .i64 t], .slice a cs.length cap] w (LPost (firstV p t cs) w) := by
  have HF := Lib.hid (Fb.new w p t 23)
  have HS := Lib.hid hs; clear hs
  have HLC := Lib.hid hlc; clear hlc
  cases h : valsB p t cs
  · have HV := Lib.hid (show firstV p t cs = ([], 1) by unfold firstV; rw [h]; rfl)
    go_enter Try.func28, Try.ntmps28
    go_wp2_with (go_at_call 22; refine (rvalid_any p t a cs cap _ hn HLC.out (HF.out.below_cs HS.out)).mono ?_; rintro e w1 ⟨rfl, hb1⟩; have F1 := Fb.next HF.out hb1; obtain ⟨k0, k1⟩ := And.intro F1.c0 F1.c1; rw [h])
    go_ret2
    exact LPost.err 1 HV.out F1.below
  · obtain ⟨P, T, rfl, rfl, hP1, hP, hT⟩ : ∃ P T : Nat, p = (P : Int) ∧ t = (T : Int) ∧ 1 ≤ P ∧ P ≤ 8 ∧ T ≤ 3 := by
      have h1 : vfB p t = true := by simp only [valsB, Bool.and_eq_true] at h; exact h.1
      exact vf_of h1
    have HV := Lib.hid (show firstV P T cs = firstOf (fitP T P cs) by unfold firstV; rw [h]; simp)
    have HVO := Lib.hid (vals_of h).2
    have HRF : Hid (∀ W, Cs W a cs → Calls Try.prog 68 #[.agg #[.int .i64 P, .int .i64 T], .slice a cs.length cap] W fun e w' => ∃ va ads vc, e = .returned (.slice va (fitP T P cs).length vc) ∧ HR W.heap.size (.slice va (fitP T P cs).length vc) ads (fitP T P cs) w' ∧ Below W.heap.size W w') := fun W hW => rfitting_two P T hP hT a cs cap W hn HVO.out hW
    obtain ⟨L, hL⟩ : ∃ L, fitP T P cs = L := ⟨_, rfl⟩
    rw [hL] at HRF HV
    clear hL
    cases L with
    | nil =>
      go_enter Try.func28, Try.ntmps28
      go_wp2_with (first
        | (go_at_call 22; refine (rvalid_any P T a cs cap _ hn HLC.out (HF.out.below_cs HS.out)).mono ?_; rintro e w1 ⟨rfl, hb1⟩; have F1 := Fb.next HF.out hb1; obtain ⟨k0, k1⟩ := And.intro F1.c0 F1.c1; rw [h])
        | (go_at_call 68; refine (HRF.out _ (F1.below_cs HS.out)).mono ?_; rintro e w2 ⟨va, ads, vc, rfl, -, hb2⟩; have F2 := Fb.next F1 hb2))
      go_ret2
      exact LPost.err 8 HV.out F2.below
    | cons x L =>
      have hl0 : 0 < (x :: L).length := by simp
      obtain ⟨n, hnL⟩ : ∃ n, (x :: L).length = n := ⟨_, rfl⟩
      rw [hnL] at HRF hl0
      have HNL := Lib.hid hnL; clear hnL
      go_enter Try.func28, Try.ntmps28
      go_wp2_with (first
        | (go_at_call 22; refine (rvalid_any P T a cs cap _ hn HLC.out (HF.out.below_cs HS.out)).mono ?_; rintro e w1 ⟨rfl, hb1⟩; have F1 := Fb.next HF.out hb1; obtain ⟨k0, k1⟩ := And.intro F1.c0 F1.c1; rw [h])
        | (go_at_call 68; refine (HRF.out _ (F1.below_cs HS.out)).mono ?_; rintro e w2 ⟨va, ads, vc, rfl, hr, hb2⟩; have F2 := Fb.next F1 hb2; obtain ⟨g, rfl⟩ : ∃ g, va = some ⟨g, 0, none⟩ := (by rcases hr.shape with ⟨_, e⟩ | ⟨g, c, e, _⟩; (cases e); (exact ⟨g, by simpa using congrArg (fun v => match v with | .slice a _ _ => a | _ => none) e⟩)); obtain ⟨ra, rc, _, hcell, _, hsl, _⟩ := hr.at (i := 0) (by simp); rw [show rowL (x :: L) 0 = x from rfl] at hcell hsl; have HSL := Lib.hid hsl; clear hsl hr))
      go_ret2
      exact ⟨F2.below, ra, rc, by rw [HV.out]; rfl, by rw [HV.out]; exact HSL.out⟩
end Go.Proofs.Ytoedbbpjddjbnaa
/- A region that draws its order and whose last operation stores what its loads read: the facts on the world in two parts, one that holds throughout and one that holds until that store. -/
namespace Go.Proofs.Ytoedbbpjddjbnaa
open Go.RowKit

def untilS (t : Nat) (A B : World → Prop) (L : Array Bool) (W : World) : Prop := A W ∧ (L.getD t false = false → B W)
theorem untilS_set {t : Nat} {A B : World → Prop} {k : Nat} (h : k ≠ t) (L : Array Bool) (W : World) : untilS t A B (L.setIfInBounds k true) W ↔ untilS t A B L W := by
  unfold untilS; rw [getD_set_ne false h]
theorem untilS_all {t : Nat} {A B : World → Prop} {W : World} (h : A W ∧ B W) (L : Array Bool) : untilS t A B L W := ⟨h.1, fun _ => h.2⟩
theorem untilS_past {t : Nat} {A B : World → Prop} {W : World} (h : A W) {L : Array Bool} (hL : L.getD t false = true) : untilS t A B L W := ⟨h, fun e => by rw [hL] at e; cases e⟩
theorem drew_alloc' (V : World) (o : Obj) : (V.alloc o).drew = V.drew.alloc o := rfl
end Go.Proofs.Ytoedbbpjddjbnaa
/- bounds of the answers of layer 7: a contract. -/
namespace Go.Proofs.Ytoedbbpjddjbnaa
open Go.RowKit

theorem results_cell_one1 {fn : Func} {p : Tmp} {ty : TypeId} (h : fn.results = #[.cell p ty]) (tmps : Array Value) (P : Program) (w : World) :
    (results fn tmps).run P w = ((asAddr (tmps.getD p undef)).run P w).andThen fun a w₁ => ((loadVar ty a).run P w₁).andThen fun v w₂ => .ok v w₂ := by
  simp only [results, h]
  simp [Sem.run_bind, Result.andThen]
  split <;> first | rfl | (split <;> rfl) | (split <;> simp_all)
theorem BpDrew {W : World} {b : Nat} {u v : Value} (h : Bp W b u v) : Bp W.drew b u v := ⟨h.lt, h.c0, h.c1, h.f0, h.f1⟩
/-- The first k pictures' least and greatest number, from the first picture's on. -/
def loK (x : List Int) (L : List (List Int)) (j k : Nat) : Int := loF x (L.take k) j
def hiK (x : List Int) (L : List (List Int)) (j k : Nat) : Int := hiF x (L.take k) j
theorem loK_succ {x y : List Int} {L : List (List Int)} {j k : Nat} (h : L[k]? = some y) : loK x L j (k + 1) = min (loK x L j k) (gt y j) := by
  unfold loK loF; rw [List.take_add_one, h, Option.toList_some, List.foldl_append]; rfl
theorem hiK_succ {x y : List Int} {L : List (List Int)} {j k : Nat} (h : L[k]? = some y) : hiK x L j (k + 1) = max (hiK x L j k) (gt y j) := by
  unfold hiK hiF; rw [List.take_add_one, h, Option.toList_some, List.foldl_append]; rfl
set_option maxRecDepth 1000000 in
set_option maxHeartbeats 2000000 in
theorem rbounds_any (P j : Nat) (hj : j < P) (base g lc : Nat) (ads : List (Option Addr × Nat)) (x : List Int) (L : List (List Int)) (w : World) (hl : (x :: L).length ≤ 1000000) (hrow : ∀ y ∈ x :: L, y.length = P ∧ 0 ≤ gt y j ∧ gt y j ≤ 3) (hr : HR base (.slice (some ⟨g, 0, none⟩) (x :: L).length lc) ads (x :: L) w) :
    Calls Try.prog 71 #[.slice (some ⟨g, 0, none⟩) (x :: L).length lc, .int .i64 j] w fun e w' => e = .returned (.agg #[.int .i64 (loF x (x :: L) j), .int .i64 (hiF x (x :: L) j)]) ∧ Below w.heap.size w w' := by
  obtain ⟨N, hN⟩ : ∃ N, (x :: L).length = N := ⟨_, rfl⟩
  have hN0 : 0 < N := by rw [← hN]; simp
  obtain ⟨M, hM⟩ : ∃ M, x :: L = M := ⟨_, rfl⟩
  have hM0 : M[0]? = some x := by rw [← hM]; rfl
  obtain ⟨ra, rc, _, hcell, _, hsl, _⟩ := hr.at (i := 0) (by simp)
  rw [show rowL (x :: L) 0 = x from rfl] at hcell hsl
  have hxr := hrow x (by simp)
  rw [hM] at hr hrow hl hN ⊢
  obtain ⟨xb, xo, y, rfl, hcy, HY⟩ := hsl.at (k := j) (by omega)
  have HGY : Hid (gt x j = y) := gt_some' HY
  obtain ⟨U, hU⟩ : ∃ U, w.alloc (.cells #[.int .i64 0, .int .i64 0] 34) = U := ⟨_, rfl⟩
  have HBU : Hid (Below w.heap.size w U) := by rw [← hU]; exact (Below.refl _ _).alloc (Nat.le_refl _) _
  have HPU : Hid (Bp U w.heap.size (.int .i64 0) (.int .i64 0)) := by show Bp _ _ _ _; rw [← hU]; exact Bp.new _ _ _ _
  have HR0 := Lib.hid hr
  have HROW := Lib.hid hrow
  have HNL := Lib.hid hN
  have hnb : N ≤ 1000000 := by rw [← hN]; exact hl
  have hxl : x.length = P := hxr.1
  have hjx : j < x.length := by omega
  have c1 := (HBU.out.cell (p := ⟨g, 0, none⟩) (cell_lt hcell)).trans hcell
  have c2 := (HBU.out.cell (p := ⟨xb, xo + j, none⟩) (cell_lt hcy)).trans hcy
  simp only [hN]
  clear hr hrow hsl hN hM hM0 hcell hcy HY hxl
  go_enter Try.func71, Try.ntmps71
  go_wp2
  (try rw [hU])
  have A1 : ∀ ob, (U.alloc ob).drew.cell? ⟨g, 0, none⟩ = some (.slice (some ⟨xb, xo, none⟩) x.length rc) := fun ob => (((Below.refl _ U).alloc (Nat.le_refl _) ob).cell (p := ⟨g, 0, none⟩) (cell_lt c1)).trans c1
  have A2 : ∀ ob, (U.alloc ob).drew.cell? ⟨xb, xo + j, none⟩ = some (.int .i64 y) := fun ob => (((Below.refl _ U).alloc (Nat.le_refl _) ob).cell (p := ⟨xb, xo + j, none⟩) (cell_lt c2)).trans c2
  refine wp_region_G (S := fun _ W => W.cell? ⟨g, 0, none⟩ = some (.slice (some ⟨xb, xo, none⟩) x.length rc) ∧ W.cell? ⟨xb, xo + j, none⟩ = some (.int .i64 y)) (by kernel_rfl) ⟨c1, c2⟩ ?_
  intro hc hS
  refine wpAnyG_take (i := 0) (oi := ?oia0) (v := ?va0) ?hia0 (by kernel_rfl) (by kernel_rfl) (by kernel_rfl) ?hQa0 (fun _ _ => Iff.rfl) hc ?hya0 hS ?resta0
  case hia0 => (simp only [List.getElem?_toArray, List.getElem?_cons_zero]; exact rfl)
  case hQa0 => exact fun _ _ _ h => h
  case hya0 => (refine Or.inl ⟨rfl, ?_⟩; (intro w _; go_simp; (try with_reducible rfl)))
  clear hc hS; intro hc hS
  simp only [Act.put, List.setIfInBounds_toArray, List.set_cons_zero, List.set_cons_succ]
  refine wpAnyG_take (i := 1) (oi := ?oia1) (v := ?va1) ?hia1 (by kernel_rfl) (by kernel_rfl) (by kernel_rfl) ?hQa1 (fun _ _ => Iff.rfl) hc ?hya1 hS ?resta1
  case hia1 => (simp only [List.getElem?_toArray, List.getElem?_cons_succ, List.getElem?_cons_zero]; exact rfl)
  case hQa1 => exact fun _ _ _ h => h
  case hya1 => (refine Or.inl ⟨rfl, ?_⟩; (intro w _; go_simp; (try with_reducible rfl)))
  clear hc hS; intro hc hS
  simp only [Act.put, List.setIfInBounds_toArray, List.set_cons_zero, List.set_cons_succ]
  refine wpAnyG_take (i := 2) (oi := ?oia2) (v := ?va2) ?hia2 (by kernel_rfl) (by kernel_rfl) (by kernel_rfl) ?hQa2 (fun _ _ => Iff.rfl) hc ?hya2 hS ?resta2
  case hia2 => (simp only [List.getElem?_toArray, List.getElem?_cons_succ, List.getElem?_cons_zero]; exact rfl)
  case hQa2 => exact fun _ _ _ h => h
  case hya2 => (refine Or.inl ⟨rfl, ?_⟩; (rintro w ⟨L, _, _, h1, h2⟩; go_simp; (try with_reducible rfl)))
  clear hc hS; intro hc hS
  simp only [Act.put, List.setIfInBounds_toArray, List.set_cons_zero, List.set_cons_succ]
  refine wpAnyG_take (i := 3) (oi := ?oia3) (v := ?va3) ?hia3 (by kernel_rfl) (by kernel_rfl) (by kernel_rfl) ?hQa3 (fun _ _ => Iff.rfl) hc ?hya3 hS ?resta3
  case hia3 => (simp only [List.getElem?_toArray, List.getElem?_cons_succ, List.getElem?_cons_zero]; exact rfl)
  case hQa3 => exact fun _ _ _ h => h
  case hya3 => (refine Or.inl ⟨rfl, ?_⟩; (intro w _; go_simp; (try with_reducible rfl)))
  clear hc hS; intro hc hS
  simp only [Act.put, List.setIfInBounds_toArray, List.set_cons_zero, List.set_cons_succ]
  refine wpAnyG_take (i := 4) (oi := ?oia4) (v := ?va4) ?hia4 (by kernel_rfl) (by kernel_rfl) (by kernel_rfl) ?hQa4 (fun _ _ => Iff.rfl) hc ?hya4 hS ?resta4
  case hia4 => (simp only [List.getElem?_toArray, List.getElem?_cons_succ, List.getElem?_cons_zero]; exact rfl)
  case hQa4 => exact fun _ _ _ h => h
  case hya4 => (refine Or.inl ⟨rfl, ?_⟩; (intro w _; go_simp; (try with_reducible rfl)))
  clear hc hS; intro hc hS
  simp only [Act.put, List.setIfInBounds_toArray, List.set_cons_zero, List.set_cons_succ]
  refine wpAnyG_take (i := 5) (oi := ?oia5) (v := ?va5) ?hia5 (by kernel_rfl) (by kernel_rfl) (by kernel_rfl) ?hQa5 (fun _ _ => Iff.rfl) hc ?hya5 hS ?resta5
  case hia5 => (simp only [List.getElem?_toArray, List.getElem?_cons_succ, List.getElem?_cons_zero]; exact rfl)
  case hQa5 => exact fun _ _ _ h => h
  case hya5 => (refine Or.inl ⟨rfl, ?_⟩; (rintro w ⟨L, _, _, h1, h2⟩; go_simp; (try with_reducible rfl)))
  clear hc hS; intro hc hS
  simp only [Act.put, List.setIfInBounds_toArray, List.set_cons_zero, List.set_cons_succ]
  refine wpAnyG_take (i := 6) (oi := ?oia6) (v := ?va6) ?hia6 (by kernel_rfl) (by kernel_rfl) (by kernel_rfl) ?hQa6 (fun _ _ => Iff.rfl) hc ?hya6 hS ?resta6
  case hia6 => (simp only [List.getElem?_toArray, List.getElem?_cons_succ, List.getElem?_cons_zero]; exact rfl)
  case hQa6 => exact fun _ _ _ h => h
  case hya6 => (refine Or.inl ⟨rfl, ?_⟩; (intro w _; go_simp; (try with_reducible rfl)))
  clear hc hS; intro hc hS
  simp only [Act.put, List.setIfInBounds_toArray, List.set_cons_zero, List.set_cons_succ]
  refine wpAnyG_take (i := 7) (oi := ?oia7) (v := ?va7) ?hia7 (by kernel_rfl) (by kernel_rfl) (by kernel_rfl) ?hQa7 (fun _ _ => Iff.rfl) hc ?hya7 hS ?resta7
  case hia7 => (simp only [List.getElem?_toArray, List.getElem?_cons_succ, List.getElem?_cons_zero]; exact rfl)
  case hQa7 => exact fun _ _ _ h => h
  case hya7 => (refine Or.inl ⟨rfl, ?_⟩; (intro w _; go_simp; (try with_reducible rfl)))
  clear hc hS; intro hc hS
  simp only [Act.put, List.setIfInBounds_toArray, List.set_cons_zero, List.set_cons_succ]
  refine wpAnyG_take (i := 8) (oi := ?oia8) (v := ?va8) ?hia8 (by kernel_rfl) (by kernel_rfl) (by kernel_rfl) ?hQa8 (fun _ _ => Iff.rfl) hc ?hya8 hS ?resta8
  case hia8 => (simp only [List.getElem?_toArray, List.getElem?_cons_succ, List.getElem?_cons_zero]; exact rfl)
  case hQa8 => exact fun _ _ _ h => h
  case hya8 => (refine Or.inl ⟨rfl, ?_⟩; (rintro w ⟨L, _, _, h1, h2⟩; go_simp; (try with_reducible rfl)))
  clear hc hS; intro hc hS
  simp only [Act.put, List.setIfInBounds_toArray, List.set_cons_zero, List.set_cons_succ]
  refine wpAnyG_take (i := 9) (oi := ?oia9) (v := ?va9) ?hia9 (by kernel_rfl) (by kernel_rfl) (by kernel_rfl) ?hQa9 (fun _ _ => Iff.rfl) hc ?hya9 hS ?resta9
  case hia9 => (simp only [List.getElem?_toArray, List.getElem?_cons_succ, List.getElem?_cons_zero]; exact rfl)
  case hQa9 => exact fun _ _ _ h => h
  case hya9 => (refine Or.inl ⟨rfl, ?_⟩; (intro w _; go_simp; (try with_reducible rfl)))
  clear hc hS; intro hc hS
  simp only [Act.put, List.setIfInBounds_toArray, List.set_cons_zero, List.set_cons_succ]
  refine wpAnyG_take (i := 10) (oi := ?oia10) (v := ?va10) ?hia10 (by kernel_rfl) (by kernel_rfl) (by kernel_rfl) ?hQa10 (fun _ _ => Iff.rfl) hc ?hya10 hS ?resta10
  case hia10 => (simp only [List.getElem?_toArray, List.getElem?_cons_succ, List.getElem?_cons_zero]; exact rfl)
  case hQa10 => exact fun _ _ _ h => h
  case hya10 => (refine Or.inl ⟨rfl, ?_⟩; (intro w _; go_simp; (try with_reducible rfl)))
  clear hc hS; intro hc hS
  simp only [Act.put, List.setIfInBounds_toArray, List.set_cons_zero, List.set_cons_succ]
  refine wpAnyG_take (i := 11) (oi := ?oia11) (v := ?va11) ?hia11 (by kernel_rfl) (by kernel_rfl) (by kernel_rfl) ?hQa11 (fun _ _ => Iff.rfl) hc ?hya11 hS ?resta11
  case hia11 => (simp only [List.getElem?_toArray, List.getElem?_cons_succ, List.getElem?_cons_zero]; exact rfl)
  case hQa11 => exact fun _ _ _ h => h
  case hya11 => (refine Or.inl ⟨rfl, ?_⟩; (rintro w ⟨L, _, _, h1, h2⟩; go_simp; (try with_reducible rfl)))
  clear hc hS; intro hc hS
  simp only [Act.put, List.setIfInBounds_toArray, List.set_cons_zero, List.set_cons_succ]
  refine wpAnyG_take (i := 12) (oi := ?oia12) (v := ?va12) ?hia12 (by kernel_rfl) (by kernel_rfl) (by kernel_rfl) ?hQa12 (fun _ _ => Iff.rfl) hc ?hya12 hS ?resta12
  case hia12 => (simp only [List.getElem?_toArray, List.getElem?_cons_succ, List.getElem?_cons_zero]; exact rfl)
  case hQa12 => exact fun _ _ _ h => h
  case hya12 => (refine Or.inl ⟨rfl, ?_⟩; (intro w _; go_simp; (try with_reducible rfl)))
  clear hc hS; intro hc hS
  simp only [Act.put, List.setIfInBounds_toArray, List.set_cons_zero, List.set_cons_succ]
  refine wpAnyG_only (i := 13) (o := ?oia13) (by kernel_rfl) ?hia13 hc ?resta13
  case hia13 => (simp only [List.getElem?_toArray, List.getElem?_cons_succ, List.getElem?_cons_zero]; exact rfl)
  clear hc; intro hc K hK; have HK := Lib.hid hK; clear hK
  go_simp
  refine HK.out _ _ ⟨A1 _, A2 _⟩ ?_
  clear HK K hS; intro hS
  refine wpAnyG_only (i := 14) (o := ?oia14) (by kernel_rfl) ?hia14 hc ?resta14
  case hia14 => (simp only [List.getElem?_toArray, List.getElem?_cons_succ, List.getElem?_cons_zero]; exact rfl)
  clear hc; intro hc K hK; have HK := Lib.hid hK; clear hK
  go_simp
  refine HK.out _ _ ⟨A1 _, A2 _⟩ ?_
  clear HK K hS; intro hS
  refine wpAnyG_done (by kernel_rfl) ?_ _
  clear hc hS
  obtain ⟨V, hV⟩ : ∃ V, (U.alloc (.cells #[.int .i64 y, .int .i64 y] 34)).drew = V := ⟨_, rfl⟩
  have HBV : Hid (Below U.heap.size U V) := by show Below _ _ _; rw [← hV]; exact ((Below.refl _ _).alloc (Nat.le_refl _) _).drew
  have HPV : Hid (Bp V U.heap.size (.int .i64 y) (.int .i64 y)) := by
    have h := Bp.new U (.int .i64 y) (.int .i64 y) 34
    show Bp _ _ _ _
    rw [← hV]; exact ⟨h.lt, h.c0, h.c1, h.f0, h.f1⟩
  have H0 : Hid (loK x M j 0 = y ∧ hiK x M j 0 = y) := ⟨by unfold loK loF; rw [List.take_zero]; exact HGY.out, by unfold hiK hiF; rw [List.take_zero]; exact HGY.out⟩
  have HP0 := Lib.hid HPU.out
  have HUS : Hid (w.heap.size < U.heap.size) := HPU.out.lt
  rw [hV]
  clear hV A1 A2 c1 c2 hjx
  have HYB : Hid (∀ k, k ≤ N → -4 ≤ loK x M j k ∧ loK x M j k ≤ 4 ∧ -4 ≤ hiK x M j k ∧ hiK x M j k ≤ 4) := fun k _ => by
    have h1 := fold_min_in (j := j) (T := 3) (M.take k) (gt x j) hxr.2.1 hxr.2.2 fun z hz => (HROW.out z (List.mem_of_mem_take hz)).2.1
    have h2 := fold_max_in (j := j) (T := 3) (M.take k) (gt x j) hxr.2.1 hxr.2.2 fun z hz => (HROW.out z (List.mem_of_mem_take hz)).2.2
    unfold loK hiK loF hiF
    omega
  clear hxr
  go_wp2
  go_loopw [7, 23] (fun _ i wr => ∃ k : Nat, k ≤ N ∧ i = .int .i64 k ∧ Bp wr U.heap.size (.int .i64 (loK x M j k)) (.int .i64 (hiK x M j k)) ∧ Below U.heap.size U wr) (fun _ i _ => N - (intOf i).toNat)
  case atStart => exact ⟨0, Nat.zero_le _, rfl, by rw [H0.out.1, H0.out.2]; exact HPV.out, HBV.out⟩
  case round =>
    clear HPV HBV
    obtain ⟨k, hk, rfl, hq, hb⟩ := hrel
    have HQ := Lib.hid hq
    have HB := Lib.hid hb
    have HRK := Lib.hid (HR0.out.below (HBU.out.trans (hb.mono HBU.out.size)))
    have HN := Lib.hid HNL.out
    by_cases hlt : k < N
    · obtain ⟨ra, rc2, had, hcell, _, hsl, hout⟩ := HRK.out.at (i := k) (by rw [HNL.out]; exact hlt)
      obtain ⟨z, hz⟩ : ∃ z, M[k]? = some z := ⟨M[k]'(by rw [HNL.out]; exact hlt), by simp⟩
      rw [rowL_some hz] at hcell hsl
      have hzr := HROW.out z (List.mem_of_getElem? hz)
      obtain ⟨zb, zo, u, rfl, hcu, HU⟩ := hsl.at (k := j) (by omega)
      have hgu : gt z j = u := gt_some' HU
      have HLS := Lib.hid (loK_succ (x := x) (j := j) hz)
      have HHS := Lib.hid (hiK_succ (x := x) (j := j) hz)
      rw [hgu] at HLS HHS
      have hzl : j < z.length := by omega
      have hub : 0 ≤ u ∧ u ≤ 3 := by rw [← hgu]; exact hzr.2
      have hne : zb ≠ U.heap.size := fun e => by have h1 := (HR0.out.out k _ had ⟨zb, zo, none⟩ rfl).1; have h2 := HUS.out; dsimp only at h1; omega
      obtain ⟨f0, f1, f2, f3⟩ := And.intro hq.c0 (And.intro hq.c1 (And.intro hq.f0 hq.f1))
      have hAB := HYB.out k hk
      clear hq hb hsl hout hz hgu hzr HU had
      generalize loK x M j k = A at *
      generalize hiK x M j k = B at *
      generalize U.heap.size = S at *
      have hx1 : wr.drew.cell? ⟨zb, zo + j, none⟩ = some (.int .i64 u) := hcu
      have hX : Hid (∀ v, (wr.setCell ⟨S, 0, none⟩ v).drew.cell? ⟨zb, zo + j, none⟩ = some (.int .i64 u)) := fun v => (cell_other _ _ _ _ hne).trans hcu
      have hX2 : Hid (∀ v v2, ((wr.setCell ⟨S, 0, none⟩ v).setCell ⟨S, 1, none⟩ v2).drew.cell? ⟨zb, zo + j, none⟩ = some (.int .i64 u)) := fun v v2 => (cell_other _ _ _ _ hne).trans ((cell_other _ _ _ _ hne).trans hcu)
      by_cases h1 : u < A <;> by_cases h2 : B < u
      · go_wp2
        refine wp_region_G (S := untilS 15 (fun W => W.cell? ⟨zb, zo + j, none⟩ = some (.int .i64 u)) (fun W => W.cell? ⟨S, 0, none⟩ = some (.int .i64 A) ∧ W.cell? ⟨S, 1, none⟩ = some (.int .i64 B))) (by kernel_rfl) (untilS_all ⟨hx1, f0, f1⟩ _) ?_
        intro hc hS
        refine wpAnyG_take (i := 0) (oi := ?oib0) (v := ?vb0) ?hib0 (by kernel_rfl) (by kernel_rfl) (by kernel_rfl) ?hQb0 (untilS_set (by decide)) hc ?hyb0 hS ?restb0
        case hib0 => (simp only [List.getElem?_toArray, List.getElem?_cons_zero]; exact rfl)
        case hQb0 => exact fun _ _ _ h => h
        case hyb0 => (refine Or.inl ⟨rfl, ?_⟩; (intro w _; go_simp; (try with_reducible rfl)))
        clear hc hS; intro hc hS
        simp only [Act.put, List.setIfInBounds_toArray, List.set_cons_zero, List.set_cons_succ]
        refine wpAnyG_take (i := 1) (oi := ?oib1) (v := ?vb1) ?hib1 (by kernel_rfl) (by kernel_rfl) (by kernel_rfl) ?hQb1 (untilS_set (by decide)) hc ?hyb1 hS ?restb1
        case hib1 => (simp only [List.getElem?_toArray, List.getElem?_cons_succ, List.getElem?_cons_zero]; exact rfl)
        case hQb1 => exact fun _ _ _ h => h
        case hyb1 => (refine Or.inl ⟨rfl, ?_⟩; (rintro w ⟨L, hsd, hL, hA, hB⟩; obtain ⟨_, _⟩ := hB (hsd.not (i := 1) (by kernel_rfl) hL); clear hsd hL hB; go_simp; (try with_reducible rfl)))
        clear hc hS; intro hc hS
        simp only [Act.put, List.setIfInBounds_toArray, List.set_cons_zero, List.set_cons_succ]
        refine wpAnyG_take (i := 2) (oi := ?oib2) (v := ?vb2) ?hib2 (by kernel_rfl) (by kernel_rfl) (by kernel_rfl) ?hQb2 (untilS_set (by decide)) hc ?hyb2 hS ?restb2
        case hib2 => (simp only [List.getElem?_toArray, List.getElem?_cons_succ, List.getElem?_cons_zero]; exact rfl)
        case hQb2 => exact fun _ _ _ h => h
        case hyb2 => (refine Or.inl ⟨rfl, ?_⟩; (intro w _; go_simp; (try with_reducible rfl)))
        clear hc hS; intro hc hS
        simp only [Act.put, List.setIfInBounds_toArray, List.set_cons_zero, List.set_cons_succ]
        refine wpAnyG_take (i := 3) (oi := ?oib3) (v := ?vb3) ?hib3 (by kernel_rfl) (by kernel_rfl) (by kernel_rfl) ?hQb3 (untilS_set (by decide)) hc ?hyb3 hS ?restb3
        case hib3 => (simp only [List.getElem?_toArray, List.getElem?_cons_succ, List.getElem?_cons_zero]; exact rfl)
        case hQb3 => exact fun _ _ _ h => h
        case hyb3 => (refine Or.inl ⟨rfl, ?_⟩; (intro w _; go_simp; (try with_reducible rfl)))
        clear hc hS; intro hc hS
        simp only [Act.put, List.setIfInBounds_toArray, List.set_cons_zero, List.set_cons_succ]
        refine wpAnyG_take (i := 4) (oi := ?oib4) (v := ?vb4) ?hib4 (by kernel_rfl) (by kernel_rfl) (by kernel_rfl) ?hQb4 (untilS_set (by decide)) hc ?hyb4 hS ?restb4
        case hib4 => (simp only [List.getElem?_toArray, List.getElem?_cons_succ, List.getElem?_cons_zero]; exact rfl)
        case hQb4 => exact fun _ _ _ h => h
        case hyb4 => (refine Or.inl ⟨rfl, ?_⟩; (intro w _; go_simp; (try with_reducible rfl)))
        clear hc hS; intro hc hS
        simp only [Act.put, List.setIfInBounds_toArray, List.set_cons_zero, List.set_cons_succ]
        refine wpAnyG_take (i := 5) (oi := ?oib5) (v := ?vb5) ?hib5 (by kernel_rfl) (by kernel_rfl) (by kernel_rfl) ?hQb5 (untilS_set (by decide)) hc ?hyb5 hS ?restb5
        case hib5 => (simp only [List.getElem?_toArray, List.getElem?_cons_succ, List.getElem?_cons_zero]; exact rfl)
        case hQb5 => exact fun _ _ _ h => h
        case hyb5 => (refine Or.inl ⟨rfl, ?_⟩; (rintro w ⟨L, hsd, hL, hA, hB⟩; clear hsd hL hB; go_simp; (try with_reducible rfl)))
        clear hc hS; intro hc hS
        simp only [Act.put, List.setIfInBounds_toArray, List.set_cons_zero, List.set_cons_succ]
        refine wpAnyG_take (i := 6) (oi := ?oib6) (v := ?vb6) ?hib6 (by kernel_rfl) (by kernel_rfl) (by kernel_rfl) ?hQb6 (untilS_set (by decide)) hc ?hyb6 hS ?restb6
        case hib6 => (simp only [List.getElem?_toArray, List.getElem?_cons_succ, List.getElem?_cons_zero]; exact rfl)
        case hQb6 => exact fun _ _ _ h => h
        case hyb6 => (refine Or.inl ⟨rfl, ?_⟩; (intro w _; go_simp; (try with_reducible rfl)))
        clear hc hS; intro hc hS
        simp only [Act.put, List.setIfInBounds_toArray, List.set_cons_zero, List.set_cons_succ]
        refine wpAnyG_take (i := 7) (oi := ?oib7) (v := ?vb7) ?hib7 (by kernel_rfl) (by kernel_rfl) (by kernel_rfl) ?hQb7 (untilS_set (by decide)) hc ?hyb7 hS ?restb7
        case hib7 => (simp only [List.getElem?_toArray, List.getElem?_cons_succ, List.getElem?_cons_zero]; exact rfl)
        case hQb7 => exact fun _ _ _ h => h
        case hyb7 => (refine Or.inl ⟨rfl, ?_⟩; (intro w _; go_simp; (try with_reducible rfl)))
        clear hc hS; intro hc hS
        simp only [Act.put, List.setIfInBounds_toArray, List.set_cons_zero, List.set_cons_succ]
        refine wpAnyG_take (i := 8) (oi := ?oib8) (v := ?vb8) ?hib8 (by kernel_rfl) (by kernel_rfl) (by kernel_rfl) ?hQb8 (untilS_set (by decide)) hc ?hyb8 hS ?restb8
        case hib8 => (simp only [List.getElem?_toArray, List.getElem?_cons_succ, List.getElem?_cons_zero]; exact rfl)
        case hQb8 => exact fun _ _ _ h => h
        case hyb8 => (refine Or.inl ⟨rfl, ?_⟩; (rintro w ⟨L, hsd, hL, hA, hB⟩; obtain ⟨_, _⟩ := hB (hsd.not (i := 8) (by kernel_rfl) hL); clear hsd hL hB; go_simp; (try with_reducible rfl)))
        clear hc hS; intro hc hS
        simp only [Act.put, List.setIfInBounds_toArray, List.set_cons_zero, List.set_cons_succ]
        refine wpAnyG_take (i := 9) (oi := ?oib9) (v := ?vb9) ?hib9 (by kernel_rfl) (by kernel_rfl) (by kernel_rfl) ?hQb9 (untilS_set (by decide)) hc ?hyb9 hS ?restb9
        case hib9 => (simp only [List.getElem?_toArray, List.getElem?_cons_succ, List.getElem?_cons_zero]; exact rfl)
        case hQb9 => exact fun _ _ _ h => h
        case hyb9 => (refine Or.inl ⟨rfl, ?_⟩; (intro w _; go_simp; (try with_reducible rfl)))
        clear hc hS; intro hc hS
        simp only [Act.put, List.setIfInBounds_toArray, List.set_cons_zero, List.set_cons_succ]
        refine wpAnyG_take (i := 10) (oi := ?oib10) (v := ?vb10) ?hib10 (by kernel_rfl) (by kernel_rfl) (by kernel_rfl) ?hQb10 (untilS_set (by decide)) hc ?hyb10 hS ?restb10
        case hib10 => (simp only [List.getElem?_toArray, List.getElem?_cons_succ, List.getElem?_cons_zero]; exact rfl)
        case hQb10 => exact fun _ _ _ h => h
        case hyb10 => (refine Or.inl ⟨rfl, ?_⟩; (intro w _; go_simp; (try with_reducible rfl)))
        clear hc hS; intro hc hS
        simp only [Act.put, List.setIfInBounds_toArray, List.set_cons_zero, List.set_cons_succ]
        refine wpAnyG_take (i := 11) (oi := ?oib11) (v := ?vb11) ?hib11 (by kernel_rfl) (by kernel_rfl) (by kernel_rfl) ?hQb11 (untilS_set (by decide)) hc ?hyb11 hS ?restb11
        case hib11 => (simp only [List.getElem?_toArray, List.getElem?_cons_succ, List.getElem?_cons_zero]; exact rfl)
        case hQb11 => exact fun _ _ _ h => h
        case hyb11 => (refine Or.inl ⟨rfl, ?_⟩; (intro w _; go_simp; (try with_reducible rfl)))
        clear hc hS; intro hc hS
        simp only [Act.put, List.setIfInBounds_toArray, List.set_cons_zero, List.set_cons_succ]
        refine wpAnyG_take (i := 12) (oi := ?oib12) (v := ?vb12) ?hib12 (by kernel_rfl) (by kernel_rfl) (by kernel_rfl) ?hQb12 (untilS_set (by decide)) hc ?hyb12 hS ?restb12
        case hib12 => (simp only [List.getElem?_toArray, List.getElem?_cons_succ, List.getElem?_cons_zero]; exact rfl)
        case hQb12 => exact fun _ _ _ h => h
        case hyb12 => (refine Or.inl ⟨rfl, ?_⟩; (rintro w ⟨L, hsd, hL, hA, hB⟩; clear hsd hL hB; go_simp; (try with_reducible rfl)))
        clear hc hS; intro hc hS
        simp only [Act.put, List.setIfInBounds_toArray, List.set_cons_zero, List.set_cons_succ]
        refine wpAnyG_take (i := 13) (oi := ?oib13) (v := ?vb13) ?hib13 (by kernel_rfl) (by kernel_rfl) (by kernel_rfl) ?hQb13 (untilS_set (by decide)) hc ?hyb13 hS ?restb13
        case hib13 => (simp only [List.getElem?_toArray, List.getElem?_cons_succ, List.getElem?_cons_zero]; exact rfl)
        case hQb13 => exact fun _ _ _ h => h
        case hyb13 => (refine Or.inl ⟨rfl, ?_⟩; (intro w _; go_simp; (try with_reducible rfl)))
        clear hc hS; intro hc hS
        simp only [Act.put, List.setIfInBounds_toArray, List.set_cons_zero, List.set_cons_succ]
        refine wpAnyG_take (i := 14) (oi := ?oib14) (v := ?vb14) ?hib14 (by kernel_rfl) (by kernel_rfl) (by kernel_rfl) ?hQb14 (untilS_set (by decide)) hc ?hyb14 hS ?restb14
        case hib14 => (simp only [List.getElem?_toArray, List.getElem?_cons_succ, List.getElem?_cons_zero]; exact rfl)
        case hQb14 => exact fun _ _ _ h => h
        case hyb14 => (refine Or.inl ⟨rfl, ?_⟩; (intro w _; go_simp; (try with_reducible rfl)))
        clear hc hS; intro hc hS
        simp only [Act.put, List.setIfInBounds_toArray, List.set_cons_zero, List.set_cons_succ]
        refine wpAnyG_only (i := 15) (o := ?oib15) (by kernel_rfl) ?hib15 hc ?restb15
        case hib15 => (simp only [List.getElem?_toArray, List.getElem?_cons_succ, List.getElem?_cons_zero]; exact rfl)
        clear hc; intro hc K hK; have HK := Lib.hid hK; clear hK
        go_simp
        refine HK.out _ _ (untilS_past (show _ from by first | exact hx1 | exact hX.out _) (by first | rfl | decide)) ?_
        clear HK K hS; intro hS
        refine wpAnyG_only (i := 16) (o := ?oib16) (by kernel_rfl) ?hib16 hc ?restb16
        case hib16 => (simp only [List.getElem?_toArray, List.getElem?_cons_succ, List.getElem?_cons_zero]; exact rfl)
        clear hc; intro hc K hK; have HK := Lib.hid hK; clear hK
        go_simp
        refine HK.out _ _ (untilS_past (show _ from by first | exact hx1 | exact hX.out _) (by first | rfl | decide)) ?_
        clear HK K hS; intro hS
        refine wpAnyG_only (i := 17) (o := ?oib17) (by kernel_rfl) ?hib17 hc ?restb17
        case hib17 => (simp only [List.getElem?_toArray, List.getElem?_cons_succ, List.getElem?_cons_zero]; exact rfl)
        clear hc; intro hc K hK; have HK := Lib.hid hK; clear hK
        go_simp
        refine HK.out _ _ (untilS_past (show _ from by first | exact hx1 | exact hX.out _ | exact hX2.out _ _) (by first | rfl | decide)) ?_
        clear HK K hS; intro hS
        refine wpAnyG_done (by kernel_rfl) ?_ _
        clear hc hS
        go_wp2
        exact ⟨⟨k + 1, by omega, by go_num, by rw [HLS.out, HHS.out, show min A u = u by omega, show max B u = u by omega]; exact BpDrew ((HQ.out.set0 (.int .i64 u)).set1 (.int .i64 u)), ((HB.out.setCell (p := ⟨S, 0, none⟩) (Nat.le_refl _) _).setCell (p := ⟨S, 1, none⟩) (Nat.le_refl _) _).drew⟩, by simp [intOf]; omega⟩
      · go_wp2
        refine wp_region_G (S := untilS 15 (fun W => W.cell? ⟨zb, zo + j, none⟩ = some (.int .i64 u)) (fun W => W.cell? ⟨S, 0, none⟩ = some (.int .i64 A) ∧ W.cell? ⟨S, 1, none⟩ = some (.int .i64 B))) (by kernel_rfl) (untilS_all ⟨hx1, f0, f1⟩ _) ?_
        intro hc hS
        refine wpAnyG_take (i := 0) (oi := ?oic0) (v := ?vc0) ?hic0 (by kernel_rfl) (by kernel_rfl) (by kernel_rfl) ?hQc0 (untilS_set (by decide)) hc ?hyc0 hS ?restc0
        case hic0 => (simp only [List.getElem?_toArray, List.getElem?_cons_zero]; exact rfl)
        case hQc0 => exact fun _ _ _ h => h
        case hyc0 => (refine Or.inl ⟨rfl, ?_⟩; (intro w _; go_simp; (try with_reducible rfl)))
        clear hc hS; intro hc hS
        simp only [Act.put, List.setIfInBounds_toArray, List.set_cons_zero, List.set_cons_succ]
        refine wpAnyG_take (i := 1) (oi := ?oic1) (v := ?vc1) ?hic1 (by kernel_rfl) (by kernel_rfl) (by kernel_rfl) ?hQc1 (untilS_set (by decide)) hc ?hyc1 hS ?restc1
        case hic1 => (simp only [List.getElem?_toArray, List.getElem?_cons_succ, List.getElem?_cons_zero]; exact rfl)
        case hQc1 => exact fun _ _ _ h => h
        case hyc1 => (refine Or.inl ⟨rfl, ?_⟩; (rintro w ⟨L, hsd, hL, hA, hB⟩; obtain ⟨_, _⟩ := hB (hsd.not (i := 1) (by kernel_rfl) hL); clear hsd hL hB; go_simp; (try with_reducible rfl)))
        clear hc hS; intro hc hS
        simp only [Act.put, List.setIfInBounds_toArray, List.set_cons_zero, List.set_cons_succ]
        refine wpAnyG_take (i := 2) (oi := ?oic2) (v := ?vc2) ?hic2 (by kernel_rfl) (by kernel_rfl) (by kernel_rfl) ?hQc2 (untilS_set (by decide)) hc ?hyc2 hS ?restc2
        case hic2 => (simp only [List.getElem?_toArray, List.getElem?_cons_succ, List.getElem?_cons_zero]; exact rfl)
        case hQc2 => exact fun _ _ _ h => h
        case hyc2 => (refine Or.inl ⟨rfl, ?_⟩; (intro w _; go_simp; (try with_reducible rfl)))
        clear hc hS; intro hc hS
        simp only [Act.put, List.setIfInBounds_toArray, List.set_cons_zero, List.set_cons_succ]
        refine wpAnyG_take (i := 3) (oi := ?oic3) (v := ?vc3) ?hic3 (by kernel_rfl) (by kernel_rfl) (by kernel_rfl) ?hQc3 (untilS_set (by decide)) hc ?hyc3 hS ?restc3
        case hic3 => (simp only [List.getElem?_toArray, List.getElem?_cons_succ, List.getElem?_cons_zero]; exact rfl)
        case hQc3 => exact fun _ _ _ h => h
        case hyc3 => (refine Or.inl ⟨rfl, ?_⟩; (intro w _; go_simp; (try with_reducible rfl)))
        clear hc hS; intro hc hS
        simp only [Act.put, List.setIfInBounds_toArray, List.set_cons_zero, List.set_cons_succ]
        refine wpAnyG_take (i := 4) (oi := ?oic4) (v := ?vc4) ?hic4 (by kernel_rfl) (by kernel_rfl) (by kernel_rfl) ?hQc4 (untilS_set (by decide)) hc ?hyc4 hS ?restc4
        case hic4 => (simp only [List.getElem?_toArray, List.getElem?_cons_succ, List.getElem?_cons_zero]; exact rfl)
        case hQc4 => exact fun _ _ _ h => h
        case hyc4 => (refine Or.inl ⟨rfl, ?_⟩; (intro w _; go_simp; (try with_reducible rfl)))
        clear hc hS; intro hc hS
        simp only [Act.put, List.setIfInBounds_toArray, List.set_cons_zero, List.set_cons_succ]
        refine wpAnyG_take (i := 5) (oi := ?oic5) (v := ?vc5) ?hic5 (by kernel_rfl) (by kernel_rfl) (by kernel_rfl) ?hQc5 (untilS_set (by decide)) hc ?hyc5 hS ?restc5
        case hic5 => (simp only [List.getElem?_toArray, List.getElem?_cons_succ, List.getElem?_cons_zero]; exact rfl)
        case hQc5 => exact fun _ _ _ h => h
        case hyc5 => (refine Or.inl ⟨rfl, ?_⟩; (rintro w ⟨L, hsd, hL, hA, hB⟩; clear hsd hL hB; go_simp; (try with_reducible rfl)))
        clear hc hS; intro hc hS
        simp only [Act.put, List.setIfInBounds_toArray, List.set_cons_zero, List.set_cons_succ]
        refine wpAnyG_take (i := 6) (oi := ?oic6) (v := ?vc6) ?hic6 (by kernel_rfl) (by kernel_rfl) (by kernel_rfl) ?hQc6 (untilS_set (by decide)) hc ?hyc6 hS ?restc6
        case hic6 => (simp only [List.getElem?_toArray, List.getElem?_cons_succ, List.getElem?_cons_zero]; exact rfl)
        case hQc6 => exact fun _ _ _ h => h
        case hyc6 => (refine Or.inl ⟨rfl, ?_⟩; (intro w _; go_simp; (try with_reducible rfl)))
        clear hc hS; intro hc hS
        simp only [Act.put, List.setIfInBounds_toArray, List.set_cons_zero, List.set_cons_succ]
        refine wpAnyG_take (i := 7) (oi := ?oic7) (v := ?vc7) ?hic7 (by kernel_rfl) (by kernel_rfl) (by kernel_rfl) ?hQc7 (untilS_set (by decide)) hc ?hyc7 hS ?restc7
        case hic7 => (simp only [List.getElem?_toArray, List.getElem?_cons_succ, List.getElem?_cons_zero]; exact rfl)
        case hQc7 => exact fun _ _ _ h => h
        case hyc7 => (refine Or.inl ⟨rfl, ?_⟩; (intro w _; go_simp; (try with_reducible rfl)))
        clear hc hS; intro hc hS
        simp only [Act.put, List.setIfInBounds_toArray, List.set_cons_zero, List.set_cons_succ]
        refine wpAnyG_take (i := 8) (oi := ?oic8) (v := ?vc8) ?hic8 (by kernel_rfl) (by kernel_rfl) (by kernel_rfl) ?hQc8 (untilS_set (by decide)) hc ?hyc8 hS ?restc8
        case hic8 => (simp only [List.getElem?_toArray, List.getElem?_cons_succ, List.getElem?_cons_zero]; exact rfl)
        case hQc8 => exact fun _ _ _ h => h
        case hyc8 => (refine Or.inl ⟨rfl, ?_⟩; (rintro w ⟨L, hsd, hL, hA, hB⟩; obtain ⟨_, _⟩ := hB (hsd.not (i := 8) (by kernel_rfl) hL); clear hsd hL hB; go_simp; (try with_reducible rfl)))
        clear hc hS; intro hc hS
        simp only [Act.put, List.setIfInBounds_toArray, List.set_cons_zero, List.set_cons_succ]
        refine wpAnyG_take (i := 9) (oi := ?oic9) (v := ?vc9) ?hic9 (by kernel_rfl) (by kernel_rfl) (by kernel_rfl) ?hQc9 (untilS_set (by decide)) hc ?hyc9 hS ?restc9
        case hic9 => (simp only [List.getElem?_toArray, List.getElem?_cons_succ, List.getElem?_cons_zero]; exact rfl)
        case hQc9 => exact fun _ _ _ h => h
        case hyc9 => (refine Or.inl ⟨rfl, ?_⟩; (intro w _; go_simp; (try with_reducible rfl)))
        clear hc hS; intro hc hS
        simp only [Act.put, List.setIfInBounds_toArray, List.set_cons_zero, List.set_cons_succ]
        refine wpAnyG_take (i := 10) (oi := ?oic10) (v := ?vc10) ?hic10 (by kernel_rfl) (by kernel_rfl) (by kernel_rfl) ?hQc10 (untilS_set (by decide)) hc ?hyc10 hS ?restc10
        case hic10 => (simp only [List.getElem?_toArray, List.getElem?_cons_succ, List.getElem?_cons_zero]; exact rfl)
        case hQc10 => exact fun _ _ _ h => h
        case hyc10 => (refine Or.inl ⟨rfl, ?_⟩; (intro w _; go_simp; (try with_reducible rfl)))
        clear hc hS; intro hc hS
        simp only [Act.put, List.setIfInBounds_toArray, List.set_cons_zero, List.set_cons_succ]
        refine wpAnyG_take (i := 11) (oi := ?oic11) (v := ?vc11) ?hic11 (by kernel_rfl) (by kernel_rfl) (by kernel_rfl) ?hQc11 (untilS_set (by decide)) hc ?hyc11 hS ?restc11
        case hic11 => (simp only [List.getElem?_toArray, List.getElem?_cons_succ, List.getElem?_cons_zero]; exact rfl)
        case hQc11 => exact fun _ _ _ h => h
        case hyc11 => (refine Or.inl ⟨rfl, ?_⟩; (intro w _; go_simp; (try with_reducible rfl)))
        clear hc hS; intro hc hS
        simp only [Act.put, List.setIfInBounds_toArray, List.set_cons_zero, List.set_cons_succ]
        refine wpAnyG_take (i := 12) (oi := ?oic12) (v := ?vc12) ?hic12 (by kernel_rfl) (by kernel_rfl) (by kernel_rfl) ?hQc12 (untilS_set (by decide)) hc ?hyc12 hS ?restc12
        case hic12 => (simp only [List.getElem?_toArray, List.getElem?_cons_succ, List.getElem?_cons_zero]; exact rfl)
        case hQc12 => exact fun _ _ _ h => h
        case hyc12 => (refine Or.inl ⟨rfl, ?_⟩; (rintro w ⟨L, hsd, hL, hA, hB⟩; clear hsd hL hB; go_simp; (try with_reducible rfl)))
        clear hc hS; intro hc hS
        simp only [Act.put, List.setIfInBounds_toArray, List.set_cons_zero, List.set_cons_succ]
        refine wpAnyG_take (i := 13) (oi := ?oic13) (v := ?vc13) ?hic13 (by kernel_rfl) (by kernel_rfl) (by kernel_rfl) ?hQc13 (untilS_set (by decide)) hc ?hyc13 hS ?restc13
        case hic13 => (simp only [List.getElem?_toArray, List.getElem?_cons_succ, List.getElem?_cons_zero]; exact rfl)
        case hQc13 => exact fun _ _ _ h => h
        case hyc13 => (refine Or.inl ⟨rfl, ?_⟩; (intro w _; go_simp; (try with_reducible rfl)))
        clear hc hS; intro hc hS
        simp only [Act.put, List.setIfInBounds_toArray, List.set_cons_zero, List.set_cons_succ]
        refine wpAnyG_take (i := 14) (oi := ?oic14) (v := ?vc14) ?hic14 (by kernel_rfl) (by kernel_rfl) (by kernel_rfl) ?hQc14 (untilS_set (by decide)) hc ?hyc14 hS ?restc14
        case hic14 => (simp only [List.getElem?_toArray, List.getElem?_cons_succ, List.getElem?_cons_zero]; exact rfl)
        case hQc14 => exact fun _ _ _ h => h
        case hyc14 => (refine Or.inl ⟨rfl, ?_⟩; (intro w _; go_simp; (try with_reducible rfl)))
        clear hc hS; intro hc hS
        simp only [Act.put, List.setIfInBounds_toArray, List.set_cons_zero, List.set_cons_succ]
        refine wpAnyG_only (i := 15) (o := ?oic15) (by kernel_rfl) ?hic15 hc ?restc15
        case hic15 => (simp only [List.getElem?_toArray, List.getElem?_cons_succ, List.getElem?_cons_zero]; exact rfl)
        clear hc; intro hc K hK; have HK := Lib.hid hK; clear hK
        go_simp
        refine HK.out _ _ (untilS_past (show _ from by first | exact hx1 | exact hX.out _) (by first | rfl | decide)) ?_
        clear HK K hS; intro hS
        refine wpAnyG_only (i := 16) (o := ?oic16) (by kernel_rfl) ?hic16 hc ?restc16
        case hic16 => (simp only [List.getElem?_toArray, List.getElem?_cons_succ, List.getElem?_cons_zero]; exact rfl)
        clear hc; intro hc K hK; have HK := Lib.hid hK; clear hK
        go_simp
        refine HK.out _ _ (untilS_past (show _ from by first | exact hx1 | exact hX.out _) (by first | rfl | decide)) ?_
        clear HK K hS; intro hS
        refine wpAnyG_only (i := 17) (o := ?oic17) (by kernel_rfl) ?hic17 hc ?restc17
        case hic17 => (simp only [List.getElem?_toArray, List.getElem?_cons_succ, List.getElem?_cons_zero]; exact rfl)
        clear hc; intro hc K hK; have HK := Lib.hid hK; clear hK
        go_simp
        refine HK.out _ _ (untilS_past (show _ from by first | exact hx1 | exact hX.out _ | exact hX2.out _ _) (by first | rfl | decide)) ?_
        clear HK K hS; intro hS
        refine wpAnyG_done (by kernel_rfl) ?_ _
        clear hc hS
        go_wp2
        exact ⟨⟨k + 1, by omega, by go_num, by rw [HLS.out, HHS.out, show min A u = u by omega, show max B u = B by omega]; exact BpDrew ((HQ.out.set0 (.int .i64 u)).set1 (.int .i64 B)), ((HB.out.setCell (p := ⟨S, 0, none⟩) (Nat.le_refl _) _).setCell (p := ⟨S, 1, none⟩) (Nat.le_refl _) _).drew⟩, by simp [intOf]; omega⟩
      · go_wp2
        refine wp_region_G (S := untilS 15 (fun W => W.cell? ⟨zb, zo + j, none⟩ = some (.int .i64 u)) (fun W => W.cell? ⟨S, 0, none⟩ = some (.int .i64 A) ∧ W.cell? ⟨S, 1, none⟩ = some (.int .i64 B))) (by kernel_rfl) (untilS_all ⟨hx1, f0, f1⟩ _) ?_
        intro hc hS
        refine wpAnyG_take (i := 0) (oi := ?oid0) (v := ?vd0) ?hid0 (by kernel_rfl) (by kernel_rfl) (by kernel_rfl) ?hQd0 (untilS_set (by decide)) hc ?hyd0 hS ?restd0
        case hid0 => (simp only [List.getElem?_toArray, List.getElem?_cons_zero]; exact rfl)
        case hQd0 => exact fun _ _ _ h => h
        case hyd0 => (refine Or.inl ⟨rfl, ?_⟩; (intro w _; go_simp; (try with_reducible rfl)))
        clear hc hS; intro hc hS
        simp only [Act.put, List.setIfInBounds_toArray, List.set_cons_zero, List.set_cons_succ]
        refine wpAnyG_take (i := 1) (oi := ?oid1) (v := ?vd1) ?hid1 (by kernel_rfl) (by kernel_rfl) (by kernel_rfl) ?hQd1 (untilS_set (by decide)) hc ?hyd1 hS ?restd1
        case hid1 => (simp only [List.getElem?_toArray, List.getElem?_cons_succ, List.getElem?_cons_zero]; exact rfl)
        case hQd1 => exact fun _ _ _ h => h
        case hyd1 => (refine Or.inl ⟨rfl, ?_⟩; (rintro w ⟨L, hsd, hL, hA, hB⟩; obtain ⟨_, _⟩ := hB (hsd.not (i := 1) (by kernel_rfl) hL); clear hsd hL hB; go_simp; (try with_reducible rfl)))
        clear hc hS; intro hc hS
        simp only [Act.put, List.setIfInBounds_toArray, List.set_cons_zero, List.set_cons_succ]
        refine wpAnyG_take (i := 2) (oi := ?oid2) (v := ?vd2) ?hid2 (by kernel_rfl) (by kernel_rfl) (by kernel_rfl) ?hQd2 (untilS_set (by decide)) hc ?hyd2 hS ?restd2
        case hid2 => (simp only [List.getElem?_toArray, List.getElem?_cons_succ, List.getElem?_cons_zero]; exact rfl)
        case hQd2 => exact fun _ _ _ h => h
        case hyd2 => (refine Or.inl ⟨rfl, ?_⟩; (intro w _; go_simp; (try with_reducible rfl)))
        clear hc hS; intro hc hS
        simp only [Act.put, List.setIfInBounds_toArray, List.set_cons_zero, List.set_cons_succ]
        refine wpAnyG_take (i := 3) (oi := ?oid3) (v := ?vd3) ?hid3 (by kernel_rfl) (by kernel_rfl) (by kernel_rfl) ?hQd3 (untilS_set (by decide)) hc ?hyd3 hS ?restd3
        case hid3 => (simp only [List.getElem?_toArray, List.getElem?_cons_succ, List.getElem?_cons_zero]; exact rfl)
        case hQd3 => exact fun _ _ _ h => h
        case hyd3 => (refine Or.inl ⟨rfl, ?_⟩; (intro w _; go_simp; (try with_reducible rfl)))
        clear hc hS; intro hc hS
        simp only [Act.put, List.setIfInBounds_toArray, List.set_cons_zero, List.set_cons_succ]
        refine wpAnyG_take (i := 4) (oi := ?oid4) (v := ?vd4) ?hid4 (by kernel_rfl) (by kernel_rfl) (by kernel_rfl) ?hQd4 (untilS_set (by decide)) hc ?hyd4 hS ?restd4
        case hid4 => (simp only [List.getElem?_toArray, List.getElem?_cons_succ, List.getElem?_cons_zero]; exact rfl)
        case hQd4 => exact fun _ _ _ h => h
        case hyd4 => (refine Or.inl ⟨rfl, ?_⟩; (intro w _; go_simp; (try with_reducible rfl)))
        clear hc hS; intro hc hS
        simp only [Act.put, List.setIfInBounds_toArray, List.set_cons_zero, List.set_cons_succ]
        refine wpAnyG_take (i := 5) (oi := ?oid5) (v := ?vd5) ?hid5 (by kernel_rfl) (by kernel_rfl) (by kernel_rfl) ?hQd5 (untilS_set (by decide)) hc ?hyd5 hS ?restd5
        case hid5 => (simp only [List.getElem?_toArray, List.getElem?_cons_succ, List.getElem?_cons_zero]; exact rfl)
        case hQd5 => exact fun _ _ _ h => h
        case hyd5 => (refine Or.inl ⟨rfl, ?_⟩; (rintro w ⟨L, hsd, hL, hA, hB⟩; clear hsd hL hB; go_simp; (try with_reducible rfl)))
        clear hc hS; intro hc hS
        simp only [Act.put, List.setIfInBounds_toArray, List.set_cons_zero, List.set_cons_succ]
        refine wpAnyG_take (i := 6) (oi := ?oid6) (v := ?vd6) ?hid6 (by kernel_rfl) (by kernel_rfl) (by kernel_rfl) ?hQd6 (untilS_set (by decide)) hc ?hyd6 hS ?restd6
        case hid6 => (simp only [List.getElem?_toArray, List.getElem?_cons_succ, List.getElem?_cons_zero]; exact rfl)
        case hQd6 => exact fun _ _ _ h => h
        case hyd6 => (refine Or.inl ⟨rfl, ?_⟩; (intro w _; go_simp; (try with_reducible rfl)))
        clear hc hS; intro hc hS
        simp only [Act.put, List.setIfInBounds_toArray, List.set_cons_zero, List.set_cons_succ]
        refine wpAnyG_take (i := 7) (oi := ?oid7) (v := ?vd7) ?hid7 (by kernel_rfl) (by kernel_rfl) (by kernel_rfl) ?hQd7 (untilS_set (by decide)) hc ?hyd7 hS ?restd7
        case hid7 => (simp only [List.getElem?_toArray, List.getElem?_cons_succ, List.getElem?_cons_zero]; exact rfl)
        case hQd7 => exact fun _ _ _ h => h
        case hyd7 => (refine Or.inl ⟨rfl, ?_⟩; (intro w _; go_simp; (try with_reducible rfl)))
        clear hc hS; intro hc hS
        simp only [Act.put, List.setIfInBounds_toArray, List.set_cons_zero, List.set_cons_succ]
        refine wpAnyG_take (i := 8) (oi := ?oid8) (v := ?vd8) ?hid8 (by kernel_rfl) (by kernel_rfl) (by kernel_rfl) ?hQd8 (untilS_set (by decide)) hc ?hyd8 hS ?restd8
        case hid8 => (simp only [List.getElem?_toArray, List.getElem?_cons_succ, List.getElem?_cons_zero]; exact rfl)
        case hQd8 => exact fun _ _ _ h => h
        case hyd8 => (refine Or.inl ⟨rfl, ?_⟩; (rintro w ⟨L, hsd, hL, hA, hB⟩; obtain ⟨_, _⟩ := hB (hsd.not (i := 8) (by kernel_rfl) hL); clear hsd hL hB; go_simp; (try with_reducible rfl)))
        clear hc hS; intro hc hS
        simp only [Act.put, List.setIfInBounds_toArray, List.set_cons_zero, List.set_cons_succ]
        refine wpAnyG_take (i := 9) (oi := ?oid9) (v := ?vd9) ?hid9 (by kernel_rfl) (by kernel_rfl) (by kernel_rfl) ?hQd9 (untilS_set (by decide)) hc ?hyd9 hS ?restd9
        case hid9 => (simp only [List.getElem?_toArray, List.getElem?_cons_succ, List.getElem?_cons_zero]; exact rfl)
        case hQd9 => exact fun _ _ _ h => h
        case hyd9 => (refine Or.inl ⟨rfl, ?_⟩; (intro w _; go_simp; (try with_reducible rfl)))
        clear hc hS; intro hc hS
        simp only [Act.put, List.setIfInBounds_toArray, List.set_cons_zero, List.set_cons_succ]
        refine wpAnyG_take (i := 10) (oi := ?oid10) (v := ?vd10) ?hid10 (by kernel_rfl) (by kernel_rfl) (by kernel_rfl) ?hQd10 (untilS_set (by decide)) hc ?hyd10 hS ?restd10
        case hid10 => (simp only [List.getElem?_toArray, List.getElem?_cons_succ, List.getElem?_cons_zero]; exact rfl)
        case hQd10 => exact fun _ _ _ h => h
        case hyd10 => (refine Or.inl ⟨rfl, ?_⟩; (intro w _; go_simp; (try with_reducible rfl)))
        clear hc hS; intro hc hS
        simp only [Act.put, List.setIfInBounds_toArray, List.set_cons_zero, List.set_cons_succ]
        refine wpAnyG_take (i := 11) (oi := ?oid11) (v := ?vd11) ?hid11 (by kernel_rfl) (by kernel_rfl) (by kernel_rfl) ?hQd11 (untilS_set (by decide)) hc ?hyd11 hS ?restd11
        case hid11 => (simp only [List.getElem?_toArray, List.getElem?_cons_succ, List.getElem?_cons_zero]; exact rfl)
        case hQd11 => exact fun _ _ _ h => h
        case hyd11 => (refine Or.inl ⟨rfl, ?_⟩; (intro w _; go_simp; (try with_reducible rfl)))
        clear hc hS; intro hc hS
        simp only [Act.put, List.setIfInBounds_toArray, List.set_cons_zero, List.set_cons_succ]
        refine wpAnyG_take (i := 12) (oi := ?oid12) (v := ?vd12) ?hid12 (by kernel_rfl) (by kernel_rfl) (by kernel_rfl) ?hQd12 (untilS_set (by decide)) hc ?hyd12 hS ?restd12
        case hid12 => (simp only [List.getElem?_toArray, List.getElem?_cons_succ, List.getElem?_cons_zero]; exact rfl)
        case hQd12 => exact fun _ _ _ h => h
        case hyd12 => (refine Or.inl ⟨rfl, ?_⟩; (rintro w ⟨L, hsd, hL, hA, hB⟩; clear hsd hL hB; go_simp; (try with_reducible rfl)))
        clear hc hS; intro hc hS
        simp only [Act.put, List.setIfInBounds_toArray, List.set_cons_zero, List.set_cons_succ]
        refine wpAnyG_take (i := 13) (oi := ?oid13) (v := ?vd13) ?hid13 (by kernel_rfl) (by kernel_rfl) (by kernel_rfl) ?hQd13 (untilS_set (by decide)) hc ?hyd13 hS ?restd13
        case hid13 => (simp only [List.getElem?_toArray, List.getElem?_cons_succ, List.getElem?_cons_zero]; exact rfl)
        case hQd13 => exact fun _ _ _ h => h
        case hyd13 => (refine Or.inl ⟨rfl, ?_⟩; (intro w _; go_simp; (try with_reducible rfl)))
        clear hc hS; intro hc hS
        simp only [Act.put, List.setIfInBounds_toArray, List.set_cons_zero, List.set_cons_succ]
        refine wpAnyG_take (i := 14) (oi := ?oid14) (v := ?vd14) ?hid14 (by kernel_rfl) (by kernel_rfl) (by kernel_rfl) ?hQd14 (untilS_set (by decide)) hc ?hyd14 hS ?restd14
        case hid14 => (simp only [List.getElem?_toArray, List.getElem?_cons_succ, List.getElem?_cons_zero]; exact rfl)
        case hQd14 => exact fun _ _ _ h => h
        case hyd14 => (refine Or.inl ⟨rfl, ?_⟩; (intro w _; go_simp; (try with_reducible rfl)))
        clear hc hS; intro hc hS
        simp only [Act.put, List.setIfInBounds_toArray, List.set_cons_zero, List.set_cons_succ]
        refine wpAnyG_only (i := 15) (o := ?oid15) (by kernel_rfl) ?hid15 hc ?restd15
        case hid15 => (simp only [List.getElem?_toArray, List.getElem?_cons_succ, List.getElem?_cons_zero]; exact rfl)
        clear hc; intro hc K hK; have HK := Lib.hid hK; clear hK
        go_simp
        refine HK.out _ _ (untilS_past (show _ from by first | exact hx1 | exact hX.out _) (by first | rfl | decide)) ?_
        clear HK K hS; intro hS
        refine wpAnyG_only (i := 16) (o := ?oid16) (by kernel_rfl) ?hid16 hc ?restd16
        case hid16 => (simp only [List.getElem?_toArray, List.getElem?_cons_succ, List.getElem?_cons_zero]; exact rfl)
        clear hc; intro hc K hK; have HK := Lib.hid hK; clear hK
        go_simp
        refine HK.out _ _ (untilS_past (show _ from by first | exact hx1 | exact hX.out _) (by first | rfl | decide)) ?_
        clear HK K hS; intro hS
        refine wpAnyG_only (i := 17) (o := ?oid17) (by kernel_rfl) ?hid17 hc ?restd17
        case hid17 => (simp only [List.getElem?_toArray, List.getElem?_cons_succ, List.getElem?_cons_zero]; exact rfl)
        clear hc; intro hc K hK; have HK := Lib.hid hK; clear hK
        go_simp
        refine HK.out _ _ (untilS_past (show _ from by first | exact hx1 | exact hX.out _ | exact hX2.out _ _) (by first | rfl | decide)) ?_
        clear HK K hS; intro hS
        refine wpAnyG_done (by kernel_rfl) ?_ _
        clear hc hS
        go_wp2
        exact ⟨⟨k + 1, by omega, by go_num, by rw [HLS.out, HHS.out, show min A u = A by omega, show max B u = u by omega]; exact BpDrew ((HQ.out.set0 (.int .i64 A)).set1 (.int .i64 u)), ((HB.out.setCell (p := ⟨S, 0, none⟩) (Nat.le_refl _) _).setCell (p := ⟨S, 1, none⟩) (Nat.le_refl _) _).drew⟩, by simp [intOf]; omega⟩
      · go_wp2
        refine wp_region_G (S := untilS 15 (fun W => W.cell? ⟨zb, zo + j, none⟩ = some (.int .i64 u)) (fun W => W.cell? ⟨S, 0, none⟩ = some (.int .i64 A) ∧ W.cell? ⟨S, 1, none⟩ = some (.int .i64 B))) (by kernel_rfl) (untilS_all ⟨hx1, f0, f1⟩ _) ?_
        intro hc hS
        refine wpAnyG_take (i := 0) (oi := ?oie0) (v := ?ve0) ?hie0 (by kernel_rfl) (by kernel_rfl) (by kernel_rfl) ?hQe0 (untilS_set (by decide)) hc ?hye0 hS ?reste0
        case hie0 => (simp only [List.getElem?_toArray, List.getElem?_cons_zero]; exact rfl)
        case hQe0 => exact fun _ _ _ h => h
        case hye0 => (refine Or.inl ⟨rfl, ?_⟩; (intro w _; go_simp; (try with_reducible rfl)))
        clear hc hS; intro hc hS
        simp only [Act.put, List.setIfInBounds_toArray, List.set_cons_zero, List.set_cons_succ]
        refine wpAnyG_take (i := 1) (oi := ?oie1) (v := ?ve1) ?hie1 (by kernel_rfl) (by kernel_rfl) (by kernel_rfl) ?hQe1 (untilS_set (by decide)) hc ?hye1 hS ?reste1
        case hie1 => (simp only [List.getElem?_toArray, List.getElem?_cons_succ, List.getElem?_cons_zero]; exact rfl)
        case hQe1 => exact fun _ _ _ h => h
        case hye1 => (refine Or.inl ⟨rfl, ?_⟩; (rintro w ⟨L, hsd, hL, hA, hB⟩; obtain ⟨_, _⟩ := hB (hsd.not (i := 1) (by kernel_rfl) hL); clear hsd hL hB; go_simp; (try with_reducible rfl)))
        clear hc hS; intro hc hS
        simp only [Act.put, List.setIfInBounds_toArray, List.set_cons_zero, List.set_cons_succ]
        refine wpAnyG_take (i := 2) (oi := ?oie2) (v := ?ve2) ?hie2 (by kernel_rfl) (by kernel_rfl) (by kernel_rfl) ?hQe2 (untilS_set (by decide)) hc ?hye2 hS ?reste2
        case hie2 => (simp only [List.getElem?_toArray, List.getElem?_cons_succ, List.getElem?_cons_zero]; exact rfl)
        case hQe2 => exact fun _ _ _ h => h
        case hye2 => (refine Or.inl ⟨rfl, ?_⟩; (intro w _; go_simp; (try with_reducible rfl)))
        clear hc hS; intro hc hS
        simp only [Act.put, List.setIfInBounds_toArray, List.set_cons_zero, List.set_cons_succ]
        refine wpAnyG_take (i := 3) (oi := ?oie3) (v := ?ve3) ?hie3 (by kernel_rfl) (by kernel_rfl) (by kernel_rfl) ?hQe3 (untilS_set (by decide)) hc ?hye3 hS ?reste3
        case hie3 => (simp only [List.getElem?_toArray, List.getElem?_cons_succ, List.getElem?_cons_zero]; exact rfl)
        case hQe3 => exact fun _ _ _ h => h
        case hye3 => (refine Or.inl ⟨rfl, ?_⟩; (intro w _; go_simp; (try with_reducible rfl)))
        clear hc hS; intro hc hS
        simp only [Act.put, List.setIfInBounds_toArray, List.set_cons_zero, List.set_cons_succ]
        refine wpAnyG_take (i := 4) (oi := ?oie4) (v := ?ve4) ?hie4 (by kernel_rfl) (by kernel_rfl) (by kernel_rfl) ?hQe4 (untilS_set (by decide)) hc ?hye4 hS ?reste4
        case hie4 => (simp only [List.getElem?_toArray, List.getElem?_cons_succ, List.getElem?_cons_zero]; exact rfl)
        case hQe4 => exact fun _ _ _ h => h
        case hye4 => (refine Or.inl ⟨rfl, ?_⟩; (intro w _; go_simp; (try with_reducible rfl)))
        clear hc hS; intro hc hS
        simp only [Act.put, List.setIfInBounds_toArray, List.set_cons_zero, List.set_cons_succ]
        refine wpAnyG_take (i := 5) (oi := ?oie5) (v := ?ve5) ?hie5 (by kernel_rfl) (by kernel_rfl) (by kernel_rfl) ?hQe5 (untilS_set (by decide)) hc ?hye5 hS ?reste5
        case hie5 => (simp only [List.getElem?_toArray, List.getElem?_cons_succ, List.getElem?_cons_zero]; exact rfl)
        case hQe5 => exact fun _ _ _ h => h
        case hye5 => (refine Or.inl ⟨rfl, ?_⟩; (rintro w ⟨L, hsd, hL, hA, hB⟩; clear hsd hL hB; go_simp; (try with_reducible rfl)))
        clear hc hS; intro hc hS
        simp only [Act.put, List.setIfInBounds_toArray, List.set_cons_zero, List.set_cons_succ]
        refine wpAnyG_take (i := 6) (oi := ?oie6) (v := ?ve6) ?hie6 (by kernel_rfl) (by kernel_rfl) (by kernel_rfl) ?hQe6 (untilS_set (by decide)) hc ?hye6 hS ?reste6
        case hie6 => (simp only [List.getElem?_toArray, List.getElem?_cons_succ, List.getElem?_cons_zero]; exact rfl)
        case hQe6 => exact fun _ _ _ h => h
        case hye6 => (refine Or.inl ⟨rfl, ?_⟩; (intro w _; go_simp; (try with_reducible rfl)))
        clear hc hS; intro hc hS
        simp only [Act.put, List.setIfInBounds_toArray, List.set_cons_zero, List.set_cons_succ]
        refine wpAnyG_take (i := 7) (oi := ?oie7) (v := ?ve7) ?hie7 (by kernel_rfl) (by kernel_rfl) (by kernel_rfl) ?hQe7 (untilS_set (by decide)) hc ?hye7 hS ?reste7
        case hie7 => (simp only [List.getElem?_toArray, List.getElem?_cons_succ, List.getElem?_cons_zero]; exact rfl)
        case hQe7 => exact fun _ _ _ h => h
        case hye7 => (refine Or.inl ⟨rfl, ?_⟩; (intro w _; go_simp; (try with_reducible rfl)))
        clear hc hS; intro hc hS
        simp only [Act.put, List.setIfInBounds_toArray, List.set_cons_zero, List.set_cons_succ]
        refine wpAnyG_take (i := 8) (oi := ?oie8) (v := ?ve8) ?hie8 (by kernel_rfl) (by kernel_rfl) (by kernel_rfl) ?hQe8 (untilS_set (by decide)) hc ?hye8 hS ?reste8
        case hie8 => (simp only [List.getElem?_toArray, List.getElem?_cons_succ, List.getElem?_cons_zero]; exact rfl)
        case hQe8 => exact fun _ _ _ h => h
        case hye8 => (refine Or.inl ⟨rfl, ?_⟩; (rintro w ⟨L, hsd, hL, hA, hB⟩; obtain ⟨_, _⟩ := hB (hsd.not (i := 8) (by kernel_rfl) hL); clear hsd hL hB; go_simp; (try with_reducible rfl)))
        clear hc hS; intro hc hS
        simp only [Act.put, List.setIfInBounds_toArray, List.set_cons_zero, List.set_cons_succ]
        refine wpAnyG_take (i := 9) (oi := ?oie9) (v := ?ve9) ?hie9 (by kernel_rfl) (by kernel_rfl) (by kernel_rfl) ?hQe9 (untilS_set (by decide)) hc ?hye9 hS ?reste9
        case hie9 => (simp only [List.getElem?_toArray, List.getElem?_cons_succ, List.getElem?_cons_zero]; exact rfl)
        case hQe9 => exact fun _ _ _ h => h
        case hye9 => (refine Or.inl ⟨rfl, ?_⟩; (intro w _; go_simp; (try with_reducible rfl)))
        clear hc hS; intro hc hS
        simp only [Act.put, List.setIfInBounds_toArray, List.set_cons_zero, List.set_cons_succ]
        refine wpAnyG_take (i := 10) (oi := ?oie10) (v := ?ve10) ?hie10 (by kernel_rfl) (by kernel_rfl) (by kernel_rfl) ?hQe10 (untilS_set (by decide)) hc ?hye10 hS ?reste10
        case hie10 => (simp only [List.getElem?_toArray, List.getElem?_cons_succ, List.getElem?_cons_zero]; exact rfl)
        case hQe10 => exact fun _ _ _ h => h
        case hye10 => (refine Or.inl ⟨rfl, ?_⟩; (intro w _; go_simp; (try with_reducible rfl)))
        clear hc hS; intro hc hS
        simp only [Act.put, List.setIfInBounds_toArray, List.set_cons_zero, List.set_cons_succ]
        refine wpAnyG_take (i := 11) (oi := ?oie11) (v := ?ve11) ?hie11 (by kernel_rfl) (by kernel_rfl) (by kernel_rfl) ?hQe11 (untilS_set (by decide)) hc ?hye11 hS ?reste11
        case hie11 => (simp only [List.getElem?_toArray, List.getElem?_cons_succ, List.getElem?_cons_zero]; exact rfl)
        case hQe11 => exact fun _ _ _ h => h
        case hye11 => (refine Or.inl ⟨rfl, ?_⟩; (intro w _; go_simp; (try with_reducible rfl)))
        clear hc hS; intro hc hS
        simp only [Act.put, List.setIfInBounds_toArray, List.set_cons_zero, List.set_cons_succ]
        refine wpAnyG_take (i := 12) (oi := ?oie12) (v := ?ve12) ?hie12 (by kernel_rfl) (by kernel_rfl) (by kernel_rfl) ?hQe12 (untilS_set (by decide)) hc ?hye12 hS ?reste12
        case hie12 => (simp only [List.getElem?_toArray, List.getElem?_cons_succ, List.getElem?_cons_zero]; exact rfl)
        case hQe12 => exact fun _ _ _ h => h
        case hye12 => (refine Or.inl ⟨rfl, ?_⟩; (rintro w ⟨L, hsd, hL, hA, hB⟩; clear hsd hL hB; go_simp; (try with_reducible rfl)))
        clear hc hS; intro hc hS
        simp only [Act.put, List.setIfInBounds_toArray, List.set_cons_zero, List.set_cons_succ]
        refine wpAnyG_take (i := 13) (oi := ?oie13) (v := ?ve13) ?hie13 (by kernel_rfl) (by kernel_rfl) (by kernel_rfl) ?hQe13 (untilS_set (by decide)) hc ?hye13 hS ?reste13
        case hie13 => (simp only [List.getElem?_toArray, List.getElem?_cons_succ, List.getElem?_cons_zero]; exact rfl)
        case hQe13 => exact fun _ _ _ h => h
        case hye13 => (refine Or.inl ⟨rfl, ?_⟩; (intro w _; go_simp; (try with_reducible rfl)))
        clear hc hS; intro hc hS
        simp only [Act.put, List.setIfInBounds_toArray, List.set_cons_zero, List.set_cons_succ]
        refine wpAnyG_take (i := 14) (oi := ?oie14) (v := ?ve14) ?hie14 (by kernel_rfl) (by kernel_rfl) (by kernel_rfl) ?hQe14 (untilS_set (by decide)) hc ?hye14 hS ?reste14
        case hie14 => (simp only [List.getElem?_toArray, List.getElem?_cons_succ, List.getElem?_cons_zero]; exact rfl)
        case hQe14 => exact fun _ _ _ h => h
        case hye14 => (refine Or.inl ⟨rfl, ?_⟩; (intro w _; go_simp; (try with_reducible rfl)))
        clear hc hS; intro hc hS
        simp only [Act.put, List.setIfInBounds_toArray, List.set_cons_zero, List.set_cons_succ]
        refine wpAnyG_only (i := 15) (o := ?oie15) (by kernel_rfl) ?hie15 hc ?reste15
        case hie15 => (simp only [List.getElem?_toArray, List.getElem?_cons_succ, List.getElem?_cons_zero]; exact rfl)
        clear hc; intro hc K hK; have HK := Lib.hid hK; clear hK
        go_simp
        refine HK.out _ _ (untilS_past (show _ from by first | exact hx1 | exact hX.out _) (by first | rfl | decide)) ?_
        clear HK K hS; intro hS
        refine wpAnyG_only (i := 16) (o := ?oie16) (by kernel_rfl) ?hie16 hc ?reste16
        case hie16 => (simp only [List.getElem?_toArray, List.getElem?_cons_succ, List.getElem?_cons_zero]; exact rfl)
        clear hc; intro hc K hK; have HK := Lib.hid hK; clear hK
        go_simp
        refine HK.out _ _ (untilS_past (show _ from by first | exact hx1 | exact hX.out _) (by first | rfl | decide)) ?_
        clear HK K hS; intro hS
        refine wpAnyG_only (i := 17) (o := ?oie17) (by kernel_rfl) ?hie17 hc ?reste17
        case hie17 => (simp only [List.getElem?_toArray, List.getElem?_cons_succ, List.getElem?_cons_zero]; exact rfl)
        clear hc; intro hc K hK; have HK := Lib.hid hK; clear hK
        go_simp
        refine HK.out _ _ (untilS_past (show _ from by first | exact hx1 | exact hX.out _ | exact hX2.out _ _) (by first | rfl | decide)) ?_
        clear HK K hS; intro hS
        refine wpAnyG_done (by kernel_rfl) ?_ _
        clear hc hS
        go_wp2
        exact ⟨⟨k + 1, by omega, by go_num, by rw [HLS.out, HHS.out, show min A u = A by omega, show max B u = B by omega]; exact BpDrew ((HQ.out.set0 (.int .i64 A)).set1 (.int .i64 B)), ((HB.out.setCell (p := ⟨S, 0, none⟩) (Nat.le_refl _) _).setCell (p := ⟨S, 1, none⟩) (Nat.le_refl _) _).drew⟩, by simp [intOf]; omega⟩
    · obtain rfl : k = N := by omega
      obtain ⟨f0, f1, f2, f3⟩ := And.intro hq.c0 (And.intro hq.c1 (And.intro hq.f0 hq.f1))
      have HPF := Lib.hid (HP0.out.next hb)
      obtain ⟨p0, p1, p2, p3⟩ := And.intro HPF.out.c0 (And.intro HPF.out.c1 (And.intro HPF.out.f0 HPF.out.f1))
      have HBF : Hid (Below w.heap.size w wr) := HBU.out.trans (hb.mono HBU.out.size)
      have HLF : Hid (loK x M j k = loF x M j ∧ hiK x M j k = hiF x M j) := by
        have e : M.take k = M := List.take_of_length_le (by rw [HNL.out]; exact Nat.le_refl _)
        unfold loK hiK
        rw [e]
        exact ⟨rfl, rfl⟩
      clear hq hb
      go_wp2
      refine bodyPost_ret_by (v := .agg #[.int .i64 (loK x M j k), .int .i64 (hiK x M j k)]) ?_ rfl ⟨by rw [HLF.out.1, HLF.out.2], (HBF.out.setCell (p := ⟨w.heap.size, 0, none⟩) (Nat.le_refl _) _).setCell (p := ⟨w.heap.size, 1, none⟩) (Nat.le_refl _) _⟩
      have R2 := (HPF.out.set0 (.int .i64 (loK x M j k))).set1 (.int .i64 (hiK x M j k))
      obtain ⟨e0, e1⟩ := And.intro R2.c0 R2.c1
      rw [results_cell_one1 rfl]; go_simp
end Go.Proofs.Ytoedbbpjddjbnaa
/- Known and Bounds of layer 7: contracts. -/
namespace Go.Proofs.Ytoedbbpjddjbnaa
open Go.RowKit

theorem vals_field {p t : Int} {cs : List Cl} (h : valsB p t cs = true) : ∃ P T : Nat, p = (P : Int) ∧ t = (T : Int) ∧ 1 ≤ P ∧ P ≤ 8 ∧ T ≤ 3 := by
  have h1 : vfB p t = true := by simp only [valsB, Bool.and_eq_true] at h; exact h.1
  exact vf_of h1
set_option maxRecDepth 100000 in
set_option maxHeartbeats 2000000 in
theorem bknown_any (p t : Int) (a : Option Addr) (cs : List Cl) (cap : Nat) (w : World) (hn : cs.length ≤ 1000000) (hlc : CLen cs) (hs : Cs w a cs) :
    Calls Try.prog 32 #[.agg #[.int .i64 p, .int .i64 t], .slice a cs.length cap] w (LPost (knownV p t cs) w) := by
  have HF := Lib.hid (Fb.new w p t 23)
  have HS := Lib.hid hs; clear hs
  have HLC := Lib.hid hlc; clear hlc
  have qT : ∀ (w : World) (a : Option Addr) (n c n' c' : Nat), (binOp .eql 83 (.slice a n c) (.slice none n' c')).run Try.prog w = .ok (.bool a.isNone) w := fun w a n c n' c' => Lib.run_eql_slice_nil w _ _ a n c n' c' Try.underlying83
  cases h : valsB p t cs
  · have HV := Lib.hid (show knownV p t cs = ([], 1) by unfold knownV; rw [h]; rfl)
    go_enter Try.func32, Try.ntmps32
    go_wp2_with (go_at_call 21; refine (bvalid_any p t a cs cap _ hn HLC.out (HF.out.below_cs HS.out)).mono ?_; rintro e w1 ⟨rfl, hb1⟩; have F1 := Fb.next HF.out hb1; obtain ⟨k0, k1⟩ := And.intro F1.c0 F1.c1; rw [h])
    go_ret2
    exact LPost.err 1 HV.out F1.below
  · obtain ⟨P, T, rfl, rfl, hP1, hP, hT⟩ := vals_field h
    obtain ⟨L, hL⟩ : ∃ L, fitP T P cs = L := ⟨_, rfl⟩
    have HVO := Lib.hid (vals_of h).2
    have HBD : Hid (∀ W, Cs W a cs → Calls Try.prog 70 #[.agg #[.int .i64 P, .int .i64 T], .slice a cs.length cap] W (BdPost P T L W)) := fun W hW => by rw [← hL]; exact bbounds_any P T hP1 hP hT a cs cap W hn HVO.out hW
    by_cases hL0 : L = []
    · have HV := Lib.hid (show knownV P T cs = ([], 8) by unfold knownV; rw [if_pos h, Int.toNat_natCast, Int.toNat_natCast, hL, if_pos hL0])
      have HL0 := Lib.hid hL0
      clear hL hL0
      go_enter Try.func32, Try.ntmps32
      go_wp2_with (first
        | (go_at_call 21; refine (bvalid_any P T a cs cap _ hn HLC.out (HF.out.below_cs HS.out)).mono ?_; rintro e w1 ⟨rfl, hb1⟩; have F1 := Fb.next HF.out hb1; obtain ⟨k0, k1⟩ := And.intro F1.c0 F1.c1; rw [h])
        | (go_at_call 70; refine (HBD.out _ (F1.below_cs HS.out)).mono ?_; rintro e w2 ⟨hb2, (⟨-, rfl⟩ | ⟨hne, -⟩)⟩; rotate_left 1; exact absurd HL0.out hne; have F2 := Fb.next F1 hb2))
      go_ret2
      exact LPost.err 8 HV.out F2.below
    · have HV := Lib.hid (show knownV P T cs = (knTo T L P, 0) by unfold knownV; rw [if_pos h, Int.toNat_natCast, Int.toNat_natCast, hL, if_neg hL0])
      have HL0 := Lib.hid hL0
      clear hL hL0
      go_enter Try.func32, Try.ntmps32
      go_wp2_with (first
        | (go_at_call 21; refine (bvalid_any P T a cs cap _ hn HLC.out (HF.out.below_cs HS.out)).mono ?_; rintro e w1 ⟨rfl, hb1⟩; have F1 := Fb.next HF.out hb1; obtain ⟨k0, k1⟩ := And.intro F1.c0 F1.c1; rw [h])
        | (go_at_call 70; refine (HBD.out _ (F1.below_cs HS.out)).mono ?_; rintro e w2 ⟨hb2, (⟨he, -⟩ | ⟨-, g, rfl, ho2⟩)⟩; exact absurd he HL0.out; have F2 := Fb.next F1 hb2; have HO2 := Lib.hid ho2; clear ho2))
      have HB2 := Lib.hid F2.below
      clear k0 k1 F1 F2 hb1 hb2 HBD
      go_loopw [7, 8, 9, 21] (fun v _ _ i wr => ∃ k : Nat, k ≤ P ∧ i = .int .i64 k ∧ OwnI wr w2.heap.size v (knTo T L k) ∧ Below w2.heap.size w2 wr) (fun _ _ _ i _ => P - (intOf i).toNat)
      case atStart => exact ⟨0, Nat.zero_le _, rfl, OwnI.nil _ _, Below.refl _ _⟩
      case round =>
        obtain ⟨k, hk, rfl, hO, hB⟩ := hrel
        have HO := Lib.hid hO; clear hO
        have HB := Lib.hid hB; clear hB
        by_cases hlt : k < P
        · have hso : OwnS wr w1.heap.size (.slice (some ⟨g, 0, none⟩) (spanL P T L).length P) (spanL P T L) := by rw [spanL_len]; exact HO2.out.below HB.out
          obtain ⟨⟨s0, s1⟩, s2, s3⟩ := hso.cell (spanL_at (T := T) (L := L) hlt)
          dsimp only at s0 s2
          clear hso s1 s3
          have HLK : Hid ((knTo T L k).length ≤ 100) := by have := knTo_len T L k; show _ ≤ _; omega
          obtain ⟨U, hU⟩ : ∃ U, wr.alloc (.cells #[.int .i64 (loJ T L k), .int .i64 (hiJ L k)] 34) = U := ⟨_, rfl⟩
          have HBU : Hid (Below wr.heap.size wr U) := by rw [← hU]; exact (Below.refl _ _).alloc (Nat.le_refl _) _
          have HPU : Hid (Bp U wr.heap.size (.int .i64 (loJ T L k)) (.int .i64 (hiJ L k))) := by show Bp _ _ _ _; rw [← hU]; exact Bp.new _ _ _ _
          obtain ⟨u0, u1⟩ := And.intro HPU.out.c0 HPU.out.c1
          by_cases he : loJ T L k = hiJ L k
          · have HE := Lib.hid (knTo_yes he)
            have he2 : (loJ T L k == hiJ L k) = true := by simpa using he
            clear he
            generalize loJ T L k = A at *
            generalize hiJ L k = B at *
            generalize knTo T L k = zs at *
            go_wp2_with (at_builtin; go_must (refine wpList_push rfl (.tmp 31) (.tmp 33) rfl w2.heap.size _ zs _ _ _ _ rfl rfl rfl (HO.out.below HBU.out) (by have := HLK.out; omega) (Nat.le_trans HB.out.size HBU.out.size) ?_); intro v' w9 ho' hb'; have HO' := Lib.hid ho'; have HB' := Lib.hid hb'; clear ho' hb')
            exact ⟨⟨k + 1, by omega, by go_num, by rw [HE.out]; exact HO'.out, (HB.out.trans (HBU.out.mono HB.out.size)).trans HB'.out⟩, by simp [intOf]; omega⟩
          · have HE := Lib.hid (knTo_no he)
            have he2 : (loJ T L k == hiJ L k) = false := by simpa using he
            clear he
            generalize loJ T L k = A at *
            generalize hiJ L k = B at *
            go_wp2
            exact ⟨⟨k + 1, by omega, by go_num, by rw [HE.out]; exact HO.out.below HBU.out, HB.out.trans (HBU.out.mono HB.out.size)⟩, by simp [intOf]; omega⟩
        · obtain rfl : k = P := by omega
          go_wp2
          go_ret2
          exact LPost.own HV.out (HB2.out.trans (HB.out.mono HB2.out.size)) HO.out
theorem hr_some {base : Nat} {va : Option Addr} {vc : Nat} {ads : List (Option Addr × Nat)} {x : List Int} {L : List (List Int)} {w : World} (h : HR base (.slice va (x :: L).length vc) ads (x :: L) w) : ∃ g, va = some ⟨g, 0, none⟩ := by
  rcases h.shape with ⟨_, e⟩ | ⟨g, c, e, _⟩
  · cases e
  · exact ⟨g, by simpa using congrArg (fun v => match v with | .slice a _ _ => a | _ => none) e⟩
/-- bounds of the answers, asked of all pictures that fit. -/
theorem rbounds_fit (P T : Nat) (hP : P ≤ 8) (hT : T ≤ 3) (cs : List Cl) {j : Nat} (hj : j < P) (base g lc : Nat) (ads : List (Option Addr × Nat)) (L : List (List Int)) (hL : fitP T P cs = L) (hL0 : L ≠ []) (w : World) (hr : HR base (.slice (some ⟨g, 0, none⟩) L.length lc) ads L w) :
    Calls Try.prog 71 #[.slice (some ⟨g, 0, none⟩) L.length lc, .int .i64 j] w fun e w' => e = .returned (.agg #[.int .i64 (loJ T L j), .int .i64 (hiJ L j)]) ∧ Below w.heap.size w w' := by
  cases L with
  | nil => exact absurd rfl hL0
  | cons x L =>
    have hin : ∀ y ∈ x :: L, y ∈ fitP T P cs := fun y hy => by rw [hL]; exact hy
    have hx := fitP_in (hin x (by simp)) j
    have hlen : (x :: L).length ≤ 1000000 := by rw [← hL]; have := fitP_len hT hP cs; omega
    rw [← loF_eq (T := (T : Int)) L hx.2, ← hiF_eq L hx.1]
    exact rbounds_any P j hj base g lc ads x L w hlen (fun y hy => ⟨(dig_ok (P := P) hT (List.mem_filter.1 (hin y hy)).1).1, (fitP_in (hin y hy) j).1, by have := (fitP_in (hin y hy) j).2; omega⟩) hr
set_option maxRecDepth 100000 in
set_option maxHeartbeats 2000000 in
theorem rknown_any (p t : Int) (a : Option Addr) (cs : List Cl) (cap : Nat) (w : World) (hn : cs.length ≤ 1000000) (hlc : CLen cs) (hs : Cs w a cs) :
    Calls Try.prog 33 #[.agg #[.int .i64 p, .int .i64 t], .slice a cs.length cap] w (LPost (knownV p t cs) w) := by
  have HF := Lib.hid (Fb.new w p t 23)
  have HS := Lib.hid hs; clear hs
  have HLC := Lib.hid hlc; clear hlc
  cases h : valsB p t cs
  · have HV := Lib.hid (show knownV p t cs = ([], 1) by unfold knownV; rw [h]; rfl)
    go_enter Try.func33, Try.ntmps33
    go_wp2_with (go_at_call 22; refine (rvalid_any p t a cs cap _ hn HLC.out (HF.out.below_cs HS.out)).mono ?_; rintro e w1 ⟨rfl, hb1⟩; have F1 := Fb.next HF.out hb1; obtain ⟨k0, k1⟩ := And.intro F1.c0 F1.c1; rw [h])
    go_ret2
    exact LPost.err 1 HV.out F1.below
  · obtain ⟨P, T, rfl, rfl, hP1, hP, hT⟩ := vals_field h
    obtain ⟨L, hL⟩ : ∃ L, fitP T P cs = L := ⟨_, rfl⟩
    have HVO := Lib.hid (vals_of h).2
    have HRF : Hid (∀ W, Cs W a cs → Calls Try.prog 68 #[.agg #[.int .i64 P, .int .i64 T], .slice a cs.length cap] W fun e w' => ∃ va ads vc, e = .returned (.slice va L.length vc) ∧ HR W.heap.size (.slice va L.length vc) ads L w' ∧ Below W.heap.size W w') := fun W hW => by rw [← hL]; exact rfitting_two P T hP hT a cs cap W hn HVO.out hW
    by_cases hL0 : L = []
    · have HV := Lib.hid (show knownV P T cs = ([], 8) by unfold knownV; rw [if_pos h, Int.toNat_natCast, Int.toNat_natCast, hL, if_pos hL0])
      subst hL0
      clear hL
      go_enter Try.func33, Try.ntmps33
      go_wp2_with (first
        | (go_at_call 22; refine (rvalid_any P T a cs cap _ hn HLC.out (HF.out.below_cs HS.out)).mono ?_; rintro e w1 ⟨rfl, hb1⟩; have F1 := Fb.next HF.out hb1; obtain ⟨k0, k1⟩ := And.intro F1.c0 F1.c1; rw [h])
        | (go_at_call 68; refine (HRF.out _ (F1.below_cs HS.out)).mono ?_; rintro e w2 ⟨va, ads, vc, rfl, -, hb2⟩; have F2 := Fb.next F1 hb2))
      go_ret2
      exact LPost.err 8 HV.out F2.below
    · have HV := Lib.hid (show knownV P T cs = (knTo T L P, 0) by unfold knownV; rw [if_pos h, Int.toNat_natCast, Int.toNat_natCast, hL, if_neg hL0])
      have hn0 : 0 < L.length := List.length_pos_iff.2 hL0
      obtain ⟨N, hN⟩ : ∃ N, L.length = N := ⟨_, rfl⟩
      have HRB : Hid (∀ (j base g lc : Nat) (ads : List (Option Addr × Nat)) (W : World), j < P → HR base (.slice (some ⟨g, 0, none⟩) N lc) ads L W → Calls Try.prog 71 #[.slice (some ⟨g, 0, none⟩) N lc, .int .i64 j] W fun e w' => e = .returned (.agg #[.int .i64 (loJ T L j), .int .i64 (hiJ L j)]) ∧ Below W.heap.size W w') := fun j base g lc ads W hj hr => by
        rw [← hN] at hr ⊢
        exact rbounds_fit P T hP hT cs hj base g lc ads L hL hL0 W hr
      have HSH : Hid (∀ (base : Nat) (va : Option Addr) (vc : Nat) (ads : List (Option Addr × Nat)) (W : World), HR base (.slice va N vc) ads L W → ∃ g, va = some ⟨g, 0, none⟩) := fun base va vc ads W hr => by
        rw [← hN] at hr
        cases L with
        | nil => exact absurd rfl hL0
        | cons x L => exact hr_some hr
      rw [hN] at HRF hn0
      have hnb : ((N : Int) == 0) = false := by simp; omega
      clear hL hL0 hN
      go_enter Try.func33, Try.ntmps33
      go_wp2_with (first
        | (go_at_call 22; refine (rvalid_any P T a cs cap _ hn HLC.out (HF.out.below_cs HS.out)).mono ?_; rintro e w1 ⟨rfl, hb1⟩; have F1 := Fb.next HF.out hb1; obtain ⟨k0, k1⟩ := And.intro F1.c0 F1.c1; rw [h])
        | (go_at_call 68; refine (HRF.out _ (F1.below_cs HS.out)).mono ?_; rintro e w2 ⟨va, ads, vc, rfl, hr2, hb2⟩; have F2 := Fb.next F1 hb2; obtain ⟨g, rfl⟩ := HSH.out _ _ _ _ _ hr2; have HR2 := Lib.hid hr2; clear hr2; obtain ⟨k2, k3⟩ := And.intro F2.c0 F2.c1))
      have HB2 := Lib.hid F2.below
      clear k0 k1 k2 k3 F1 F2 hb1 hb2 HRF
      go_loopw [7, 8, 9, 22] (fun v _ _ i wr => ∃ k : Nat, k ≤ P ∧ i = .int .i64 k ∧ OwnI wr w2.heap.size v (knTo T L k) ∧ Below w2.heap.size w2 wr) (fun _ _ _ i _ => P - (intOf i).toNat)
      case atStart => exact ⟨0, Nat.zero_le _, rfl, OwnI.nil _ _, Below.refl _ _⟩
      case round =>
        obtain ⟨k, hk, rfl, hO, hB⟩ := hrel
        have HO := Lib.hid hO; clear hO
        have HB := Lib.hid hB; clear hB
        by_cases hlt : k < P
        · have HRC := Lib.hid (HRB.out k w1.heap.size g vc ads wr hlt (HR2.out.below HB.out))
          have HLK : Hid ((knTo T L k).length ≤ 100) := by have := knTo_len T L k; show _ ≤ _; omega
          by_cases he : loJ T L k = hiJ L k
          · have HE := Lib.hid (knTo_yes he)
            have he2 : (loJ T L k == hiJ L k) = true := by simpa using he
            clear he
            generalize loJ T L k = A at *
            generalize hiJ L k = B at *
            generalize knTo T L k = zs at *
            go_wp2_with (first
              | (go_at_call 71; refine HRC.out.mono ?_; rintro e w8 ⟨rfl, hb8⟩; have HB8 := Lib.hid hb8; clear hb8; obtain ⟨U, hU⟩ : ∃ U, w8.alloc (.cells #[.int .i64 A, .int .i64 B] 34) = U := ⟨_, rfl⟩; have HBU : Hid (Below wr.heap.size wr U) := (by show Below _ _ _; rw [← hU]; exact HB8.out.alloc (by have := HB8.out.size; omega) _); have HPU : Hid (Bp U w8.heap.size (.int .i64 A) (.int .i64 B)) := (by show Bp _ _ _ _; rw [← hU]; exact Bp.new _ _ _ _); obtain ⟨u0, u1⟩ := And.intro HPU.out.c0 HPU.out.c1)
              | (at_builtin; go_must (refine wpList_push rfl (.tmp 33) (.tmp 35) rfl w2.heap.size _ zs _ _ _ _ rfl rfl rfl (HO.out.below HBU.out) (by have := HLK.out; omega) (Nat.le_trans HB.out.size HBU.out.size) ?_); intro v' w9 ho' hb'; have HO' := Lib.hid ho'; have HB' := Lib.hid hb'; clear ho' hb'))
            exact ⟨⟨k + 1, by omega, by go_num, by rw [HE.out]; exact HO'.out, (HB.out.trans (HBU.out.mono HB.out.size)).trans HB'.out⟩, by simp [intOf]; omega⟩
          · have HE := Lib.hid (knTo_no he)
            have he2 : (loJ T L k == hiJ L k) = false := by simpa using he
            clear he
            generalize loJ T L k = A at *
            generalize hiJ L k = B at *
            go_wp2_with (go_at_call 71; refine HRC.out.mono ?_; rintro e w8 ⟨rfl, hb8⟩; have HB8 := Lib.hid hb8; clear hb8; obtain ⟨U, hU⟩ : ∃ U, w8.alloc (.cells #[.int .i64 A, .int .i64 B] 34) = U := ⟨_, rfl⟩; have HBU : Hid (Below wr.heap.size wr U) := (by show Below _ _ _; rw [← hU]; exact HB8.out.alloc (by have := HB8.out.size; omega) _); have HPU : Hid (Bp U w8.heap.size (.int .i64 A) (.int .i64 B)) := (by show Bp _ _ _ _; rw [← hU]; exact Bp.new _ _ _ _); obtain ⟨u0, u1⟩ := And.intro HPU.out.c0 HPU.out.c1)
            exact ⟨⟨k + 1, by omega, by go_num, by rw [HE.out]; exact HO.out.below HBU.out, HB.out.trans (HBU.out.mono HB.out.size)⟩, by simp [intOf]; omega⟩
        · obtain rfl : k = P := by omega
          go_wp2
          go_ret2
          exact LPost.own HV.out (HB2.out.trans (HB.out.mono HB2.out.size)) HO.out
end Go.Proofs.Ytoedbbpjddjbnaa
