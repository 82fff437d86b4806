/- Parts of the proof of SparseSmallest: plain words, walks and contracts, each under its own heading. -/
import Derived.Test.YtfnomiingelfaaaGreatSparseSmallestPB
import Derived.Test.YtfnomiingelfaaaGreatSparseSmallestPA
import Derived.Deep.RegionHeldLaw
import Derived.Test.YtfnomiingelfaaaGreatProg
import Derived.BigQuiet
import Derived.Deep.QuietTactic
import Derived.Laws.ResultCell
import Derived.Laws.OwnMore
import Derived.Deep.AppendLies
import Derived.OwnWalkIn
import Derived.Sort.LoopGhostIn
/- Circuit and Spark of layer 3: contracts. -/
namespace Go.Proofs.YtfnomiingelfaaaGreat
open Go.RowKit Go.Shelf
attribute [local go_sem] Oper.semAt_some

theorem mok_of {m : List (List Int)} (hv : validM m = true) : MOk m := by
  obtain ⟨hm1, hm6, hc1, hc10, hrows⟩ := validM_of hv
  refine ⟨by omega, fun r hr => ⟨by have := (hrows r hr).1; omega, fun x hx => ?_⟩⟩
  obtain ⟨c, hc, rfl⟩ := mem_gt.1 hx
  have := gt_in (hrows r hr).2 hc
  unfold I64; omega
theorem circuits_any (a : Option Addr) (M cap : Nat) (w : World) :
    Calls Tryz.prog 102 #[.slice a M cap] w fun e w' =>
      e = .returned (.func (.func 136) #[] #[.pointer (some ⟨w.heap.size, 0, none⟩)]) ∧ w' = w.alloc (.cells #[.slice a M cap] 23) := by
  go_enter Tryz.func102, Tryz.ntmps102
  go_wp2
  go_ret
  exact ⟨rfl, rfl⟩
def circuitV (m : List (List Int)) : List Int × Int := if validM m = true then (match circsAll m with | [] => ([], 8) | h :: _ => (h, 0)) else ([], 1)
structure CirI (w : World) (v : Value) (n : Int) (pre : List SetV) (C T : Blk) (W : World) : Prop where
  r : W.cell? ⟨w.heap.size, 0, none⟩ = some v
  e : W.cell? ⟨w.heap.size + 1, 0, none⟩ = some (.int .i64 n)
  fr : W.frozen? ⟨w.heap.size, 0, none⟩ = false
  fe : W.frozen? ⟨w.heap.size + 1, 0, none⟩ = false
  bw : Below w.heap.size w W
  nt : ∀ b, b < w.heap.size + 2 → ¬ T b
  cc : ∀ b, C b ↔ b = w.heap.size ∨ b = w.heap.size + 1 ∨ ∃ x ∈ pre, b = x.1
  mem : ∀ x ∈ pre, MemS x W ∧ ¬ T x.1 ∧ w.heap.size + 2 ≤ x.1
theorem memS_turned {x : SetV} {T : Blk} {W W' : World} (h : MemS x W) (ht : Turned T W W') (hn : ¬ T x.1) : MemS x W' := OwnI.sameBlock h (ht.same _ (OwnI.lt h).1 hn)
theorem CirI.keep {w : World} {v : Value} {n : Int} {pre : List SetV} {C T T' : Blk} {W W' : World} (h : CirI w v n pre C T W) (ht : Turned T W W') (hT : ∀ b, T' b → T b ∨ W.heap.size ≤ b) : CirI w v n pre C T' W' := by
  have l0 := cell_lt h.r
  have l1 := cell_lt h.e
  dsimp only at l0 l1
  have hnt : ∀ b, b < w.heap.size + 2 → ¬ T' b := fun b hb e => (hT b e).elim (h.nt b hb) (by omega)
  refine ⟨ht.cell h.r (h.nt _ (by show w.heap.size < _; omega)), ht.cell h.e (h.nt _ (by show w.heap.size + 1 < _; omega)), (ht.frozen l0 (h.nt _ (by show w.heap.size < _; omega))).trans h.fr, (ht.frozen l1 (h.nt _ (by show w.heap.size + 1 < _; omega))).trans h.fe, h.bw.trans (ht.below h.bw.size fun b hb => h.nt b (by omega)), hnt, h.cc, fun x hx => ?_⟩
  obtain ⟨m1, m2, m3⟩ := h.mem x hx
  exact ⟨memS_turned m1 ht m2, fun e => (hT _ e).elim m2 (by have := (OwnI.lt m1).1; omega), m3⟩
theorem CirI.client {w : World} {p : List SetV → Value → Prop} {n : Int} : Client fun pre C T W => ∃ v, p pre v ∧ CirI w v n pre C T W where
  lt := by
    rintro pre C T W ⟨v, _, h⟩ b hb
    rcases (h.cc b).1 hb with rfl | rfl | ⟨x, hx, rfl⟩
    · exact ⟨cell_lt h.r, h.nt _ (by omega)⟩
    · exact ⟨cell_lt h.e, h.nt _ (by omega)⟩
    · exact ⟨(OwnI.lt (h.mem x hx).1).1, (h.mem x hx).2.1⟩
  keep := fun ⟨v, hp, h⟩ ht hT => ⟨v, hp, h.keep ht hT⟩
theorem CirI.over {w : World} {v : Value} {n : Int} {C T : Blk} {W : World} (h : CirI w v n [] C T W) (pre : List SetV) (hp : ∀ x ∈ pre, MemS x W ∧ T x.1) (v' : Value) (n' : Int) :
    CirI w v' n' pre (fun b => C b ∨ ∃ x ∈ pre, b = x.1) (fun b => T b ∧ ∀ x ∈ pre, b ≠ x.1) ((W.setCell ⟨w.heap.size, 0, none⟩ v').setCell ⟨w.heap.size + 1, 0, none⟩ (.int .i64 n')) := by
  obtain ⟨c0, c1, f0, f1, bw, nt, cc, -⟩ := h
  have hge : ∀ x ∈ pre, w.heap.size + 2 ≤ x.1 := fun x hx => Nat.le_of_not_lt fun e => nt x.1 e (hp x hx).2
  refine ⟨?_, ?_, ?_, ?_, ?_, fun b hb e => nt b hb e.1, fun b => ?_, fun x hx => ⟨?_, fun e => e.2 x hx rfl, hge x hx⟩⟩
  · exact (cell_other _ _ _ _ (by show w.heap.size ≠ w.heap.size + 1; omega)).trans (World.cell?_setCell_same _ _ _ c0)
  · exact World.cell?_setCell_same _ _ _ ((cell_other _ _ _ _ (by show w.heap.size + 1 ≠ w.heap.size; omega)).trans c1)
  · simpa using f0
  · simpa using f1
  · exact (bw.setCell (p := ⟨w.heap.size, 0, none⟩) (Nat.le_refl _) _).setCell (p := ⟨w.heap.size + 1, 0, none⟩) (Nat.le_succ _) _
  · constructor
    · rintro (e | e)
      · rcases (cc b).1 e with e | e | ⟨x, hx, _⟩
        · exact .inl e
        · exact .inr (.inl e)
        · cases hx
      · exact .inr (.inr e)
    · rintro (e | e | e)
      · exact .inl ((cc b).2 (.inl e))
      · exact .inl ((cc b).2 (.inr (.inl e)))
      · exact .inr e
  · have := hge x hx
    refine OwnI.sameBlock (hp x hx).1 ?_
    exact (Below.heap_setCell _ _ _ _ (by show x.1 ≠ w.heap.size + 1; omega)).trans (Below.heap_setCell _ _ _ _ (by show x.1 ≠ w.heap.size; omega))
theorem cir_leaves {fn : Func} {tmps : Array Value} {w : World} {v : Value} {n : Int} {pre : List SetV} {C T : Blk} {ms : List Nat} {V : World} {R : Ending → World → Prop}
    (hres : ∀ W : World, W.cell? ⟨w.heap.size, 0, none⟩ = some v → W.cell? ⟨w.heap.size + 1, 0, none⟩ = some (.int .i64 n) → (results fn tmps).run Tryz.prog W = .ok (.tuple #[v, .int .i64 n]) W)
    (h : CirI w v n pre C T V) (hT : ∀ D, D ∈ ms → T D) (hn : ms.Nodup) (hd : ∀ D, D ∈ ms → V.heap[D]? = some (.deferred (some []))) (hR : ∀ W, CirI w v n pre C T W → R (.returned (.tuple #[v, .int .i64 n])) W) :
    LeavesInM Fence.wide 50 Tryz.prog fn tmps R (ms.map mark) .returning V := by
  refine leaves_marks2 (fun W => CirI w v n pre C T W) ms ?_ ?_ ms V (fun _ h => h) hn hd h
  · exact fun W D hD hW => hW.keep (turned_put W _ (hT D hD)) fun b e => .inl e
  · exact fun W hW => ⟨_, hres W hW.r hW.e, hR W hW⟩
set_option maxRecDepth 100000 in
set_option maxHeartbeats 2000000 in
theorem circuit_in (a : Option Addr) (m : List (List Int)) (cap : Nat) (w : World) (hm : MOk m) (hs : Ms w a m) :
    CallsIn Fence.wide 50 Tryz.prog 71 #[.slice a m.length cap] w (LPost (circuitV m) w) := by
  have HM := Lib.hid hm; clear hm
  have HS := Lib.hid hs; clear hs
  obtain ⟨V0, hV0⟩ : ∃ V0, (w.alloc (.cells #[.slice none 0 0] 24)).alloc (.cells #[.int .i64 0] 31) = V0 := ⟨_, rfl⟩
  have hw1 : (w.alloc (.cells #[.slice none 0 0] 24)).heap.size = w.heap.size + 1 := World.size_alloc _ _
  have hB0 : Below w.heap.size w V0 := by rw [← hV0]; exact ((Below.refl _ _).alloc (Nat.le_refl _) _).alloc (by omega) _
  have hsz0 : V0.heap.size = w.heap.size + 2 := by rw [← hV0, World.size_alloc, hw1]
  have c0 : V0.cell? ⟨w.heap.size, 0, none⟩ = some (.slice none 0 0) := by rw [← hV0]; exact (alloc_old _ _ _ _ (by omega)).trans (alloc_cell _ _ _ _ _ rfl)
  have c1 : V0.cell? ⟨w.heap.size + 1, 0, none⟩ = some (.int .i64 0) := by rw [← hV0, ← hw1]; exact alloc_cell _ _ _ _ _ rfl
  have f0 : V0.frozen? ⟨w.heap.size, 0, none⟩ = false := by rw [← hV0]; simp
  have f1 : V0.frozen? ⟨w.heap.size + 1, 0, none⟩ = false := by rw [← hV0]; simp
  have HV : Hid (Calls Tryz.prog 45 #[.slice a m.length cap] V0 fun e w' => e = .returned (.bool (validM m)) ∧ Below V0.heap.size V0 w') := mvalid_any a m cap V0 HM.out (HS.out.below hB0)
  have HI0 : Hid (CirI w (.slice none 0 0) 0 [] (fun b => b = w.heap.size ∨ b = w.heap.size + 1) (fun _ => False) V0) := ⟨c0, c1, f0, f1, hB0, fun _ _ e => e, fun b => by simp, fun x hx => by cases hx⟩
  have HSZ := Lib.hid hsz0
  clear c0 c1 f0 f1 hB0 hsz0 hw1
  cases hv : validM m
  case false =>
    rw [hv] at HV
    have HC : Hid (circuitV m = ([], 1)) := by show circuitV m = _; simp [circuitV, hv]
    clear hv
    refine callsIn_of_wp_marks Tryz.func71 rfl trivial ?_ rfl
    simp only [Tryz.ntmps71, List.size_toArray, List.length_cons, List.length_nil, Nat.reduceAdd, Nat.reduceSub, Array.replicate_succ, Array.replicate_zero, List.push_toArray, List.append_toArray, List.nil_append, List.cons_append]
    gi_wp2_with (refine ⟨trivial, ?_⟩; gi_at_call 45; refine (callsIn_wide.2 HV.out).mono ?_; rintro e w1 ⟨rfl, hb⟩; have hI1 := HI0.out.keep (turned_below hb) (fun b e => .inl e); have HI1 := Lib.hid hI1; obtain ⟨c0, c1, f0, f1, -⟩ := hI1; clear hb)
    rw [HC.out]
    exact cir_leaves (ms := []) (v := .slice none 0 0) (n := 1) (by intro W q0 q1; simp [results, Tryz.results71, go_sem, q0, q1]) (HI1.out.over [] (fun x hx => by cases hx) _ 1) (fun _ h => by cases h) List.nodup_nil (fun _ h => by cases h) (fun W h => ⟨h.bw, none, 0, rfl, Sl.none _⟩)
  case true =>
    rw [hv] at HV
    have HVV := Lib.hid hv
    have hn1 : 1 ≤ m.length := (validM_of hv).1
    clear hv
    refine callsIn_of_wp_marks Tryz.func71 rfl trivial ?_ rfl
    simp only [Tryz.ntmps71, List.size_toArray, List.length_cons, List.length_nil, Nat.reduceAdd, Nat.reduceSub, Array.replicate_succ, Array.replicate_zero, List.push_toArray, List.append_toArray, List.nil_append, List.cons_append]
    gi_wp2_with (first | (refine ⟨trivial, ?_⟩; gi_at_call 45; refine (callsIn_wide.2 HV.out).mono ?_; rintro e w1 ⟨rfl, hb⟩; have HI1 := Lib.hid (HI0.out.keep (turned_below hb) (fun b e => .inl e)); have HZ1 : Hid (w.heap.size + 2 ≤ w1.heap.size) := (by have := hb.size; have := HSZ.out; show _ ≤ _; omega); clear hb) | (refine ⟨trivial, ?_⟩; gi_at_call 102; refine (callsIn_wide.2 (circuits_any a m.length cap w1)).mono ?_; rintro e w2 ⟨rfl, rfl⟩))
    obtain ⟨V1, hV1⟩ : ∃ V1, w1.alloc (.cells #[.slice a m.length cap] 23) = V1 := ⟨_, rfl⟩
    have hBV : Below w1.heap.size w1 V1 := by rw [← hV1]; exact (Below.refl _ _).alloc (Nat.le_refl _) _
    have hcB : V1.cell? ⟨w1.heap.size, 0, none⟩ = some (.slice a m.length cap) := by rw [← hV1]; exact alloc_cell _ _ _ _ _ rfl
    have hvs : V1.heap.size = w1.heap.size + 1 := by rw [← hV1]; exact World.size_alloc _ _
    rw [hV1]
    have HI2 := Lib.hid (HI1.out.keep (turned_below hBV) (fun b e => .inl e))
    have HVS := Lib.hid hvs
    clear hV1 hBV hvs
    refine wpIn_rangeFunc_M (by omega) (gf := 136) (lb := #[.pointer (some ⟨w1.heap.size, 0, none⟩)]) rfl (enters_of Tryz.func136 (by kernel_rfl) rfl)
      (circuits1_seq (w0 := w) HVV.out HS.out HI2.out.bw hcB) (Below.refl _ _) (fun _ => rfl) memS_put
      (fun pre C T W => ∃ v, (pre = [] ∧ v = .slice none 0 0) ∧ CirI w v 0 pre C T W)
      (fun c pre C T W => ∃ v, (c = .ret ∧ ∃ x, pre = [x] ∧ v = .slice (some ⟨x.1, 0, none⟩) x.2.length x.2.length ∧ ∃ rest, circsAll m = x.2 :: rest) ∧ CirI w v 0 pre C T W)
      (CirI.client (p := fun pre v => pre = [] ∧ v = .slice none 0 0)) (fun c => CirI.client (p := fun pre v => c = .ret ∧ ∃ x, pre = [x] ∧ v = .slice (some ⟨x.1, 0, none⟩) x.2.length x.2.length ∧ ∃ rest, circsAll m = x.2 :: rest)) (fun b => b = w.heap.size ∨ b = w.heap.size + 1) (fun _ => False) ?need (fun _ e => e.elim) ⟨_, ⟨rfl, rfl⟩, HI2.out⟩
      (fun x => { tmps := #[.slice a m.length cap, undef, .pointer (some ⟨w.heap.size, 0, none⟩), .pointer (some ⟨w.heap.size + 1, 0, none⟩), .slice (some ⟨x.1, 0, none⟩) x.2.length x.2.length, .slice a m.length cap, .bool true, .bool false, .slice a m.length cap, .func (.func 136) #[] #[.pointer (some ⟨w1.heap.size, 0, none⟩)], .slice (some ⟨x.1, 0, none⟩) x.2.length x.2.length, undef], defers := [] }) ?assign ?body ?done ?stop
    case need =>
      have h1 := HZ1.out
      have h2 := HVS.out
      rintro b (h | rfl)
      · exact ⟨by rintro (e | e) <;> omega, by omega⟩
      · exact ⟨by rintro (e | e) <;> omega, by omega⟩
    case assign =>
      intro l2 x V K hK
      gi_wp2
      exact hK
    case body =>
      rintro l2 pre ⟨xb, xs⟩ C T V ⟨v, ⟨rfl, rfl⟩, hI⟩ hmem hown ⟨rest, hrest⟩
      have HI := Lib.hid hI
      have HX := Lib.hid (hI.over [(xb, xs)] (fun x hx => (by obtain rfl : x = (xb, xs) := List.mem_singleton.1 hx; exact ⟨hmem, hown xb rfl⟩)) (.slice (some ⟨xb, 0, none⟩) xs.length xs.length) 0)
      have HR : Hid (circsAll m = xs :: rest) := hrest
      have HT := Lib.hid (hown xb rfl)
      obtain ⟨c0, c1, f0, f1, -⟩ := hI
      clear hmem hown hrest hcB
      dsimp only
      gi_wp2
      refine ⟨_, _, ⟨_, ⟨rfl, (xb, xs), rfl, rfl, rest, HR.out⟩, HX.out⟩, ?_, ?_, ?_⟩
      · rintro b hb hl hn
        exact ⟨hb, fun x hx => (by obtain rfl : x = (xb, xs) := List.mem_singleton.1 hx; exact hn)⟩
      · rintro b (e | ⟨x, hx, rfl⟩)
        · exact .inl e
        · obtain rfl : x = (xb, xs) := List.mem_singleton.1 hx
          exact .inr (.inl rfl)
      · exact (turned_set V _ (.inl ((HI.out.cc _).2 (.inl rfl)))).trans (turned_set _ _ (.inl ((HI.out.cc _).2 (.inr (.inl rfl))))) fun b e => .inl e
    case done =>
      rintro D ys C T V hD hys ⟨v, ⟨rfl, rfl⟩, hI⟩ hTD hK
      have HI := Lib.hid hI
      have HC : Hid (circuitV m = ([], 8)) := by show circuitV m = _; unfold circuitV; rw [if_pos HVV.out, ← hys]; rfl
      have HX := Lib.hid (hI.over [] (fun x hx => by cases hx) (.slice none 0 0) 8)
      have HT := Lib.hid hTD
      have HK := Lib.hid ((Below.heap_setCell (V.setCell ⟨w.heap.size, 0, none⟩ (.slice none 0 0)) ⟨w.heap.size + 1, 0, none⟩ (.int .i64 8) D (fun e => hI.nt D (by have e : D = w.heap.size + 1 := e; omega) hTD)).trans ((Below.heap_setCell V ⟨w.heap.size, 0, none⟩ (.slice none 0 0) D (fun e => hI.nt D (by have e : D = w.heap.size := e; omega) hTD)).trans hK))
      obtain ⟨c0, c1, f0, f1, -⟩ := hI
      clear hys hTD hK hcB hD
      gi_wp2
      rw [HC.out]
      refine cir_leaves (ms := [D]) (v := .slice none 0 0) (n := 8) (by intro W q0 q1; simp [results, Tryz.results71, go_sem, q0, q1]) HX.out (fun E hE => ?_) (by simp) (fun E hE => ?_) (fun W h => ⟨h.bw, none, 0, rfl, Sl.none _⟩)
      · obtain rfl : E = D := by simpa using hE
        exact ⟨HT.out, fun x hx => by cases hx⟩
      · obtain rfl : E = D := by simpa using hE
        exact HK.out
    case stop =>
      rintro D c pre C T V hD ⟨v, ⟨rfl, x, rfl, rfl, rest, hrest⟩, hI⟩ hTD hK
      have HI := Lib.hid hI
      have HC : Hid (circuitV m = (x.2, 0)) := by show circuitV m = _; unfold circuitV; rw [if_pos HVV.out, hrest]
      have HT := Lib.hid hTD
      have HK := Lib.hid hK
      clear hrest hTD hK hcB hD hI
      gi_wp2
      rw [HC.out]
      refine cir_leaves (ms := [D]) (v := .slice (some ⟨x.1, 0, none⟩) x.2.length x.2.length) (n := 0) (by intro W q0 q1; simp [results, Tryz.results71, go_sem, q0, q1]) HI.out (fun E hE => ?_) (by simp) (fun E hE => ?_) (fun W h => ⟨h.bw, _, _, rfl, (h.mem x (by simp)).1.sl⟩)
      · obtain rfl : E = D := by simpa using hE
        exact HT.out
      · obtain rfl : E = D := by simpa using hE
        exact HK.out
theorem circuit_any (a : Option Addr) (m : List (List Int)) (cap : Nat) (w : World) (hm : MOk m) (hs : Ms w a m) : Calls Tryz.prog 71 #[.slice a m.length cap] w (LPost (circuitV m) w) := callsIn_wide.1 (circuit_in a m cap w hm hs)
end Go.Proofs.YtfnomiingelfaaaGreat
/- Kernel of layer 3: a contract. -/
namespace Go.Proofs.YtfnomiingelfaaaGreat
open Go.RowKit

theorem RS.nil (base : Nat) (w : World) : RS base (.slice none 0 0) [] [] w := ⟨rfl, World.ownsRow_nil _ _ _ _, fun i x r e _ => by simp at e, fun i j x y e _ _ => by simp at e, fun i x e => by simp at e⟩
theorem RS.ms {base : Nat} {rv : Value} {ads : List (Nat × Nat)} {M : List (List Int)} {w : World} (h : RS base rv ads M w) : ∃ a cap, rv = .slice a M.length cap ∧ Ms w a M := by
  obtain ⟨hx, ⟨e, h0⟩ | ⟨g, cap, cur, e, hg, hb, hn, hm, hsz, ht⟩⟩ := h.own
  · have : M = [] := List.eq_nil_of_length_eq_zero h0
    subst this
    exact ⟨none, 0, e, fun i hi => by simp at hi⟩
  · refine ⟨some ⟨g, 0, none⟩, cap, e, fun i hi => ?_⟩
    have e1 : ads[i]? = some (ads[i]'(by rw [h.len]; exact hi)) := by simp [h.len, hi]
    have e2 : M[i]? = some M[i] := by simp [hi]
    have ho := h.own
    rw [e] at ho
    have hc := ho.cellAt i (by rw [Nat.mul_one]; exact hi)
    rw [hdrs_at e1 e2] at hc
    rw [e2]
    exact ⟨g, 0, _, _, rfl, by rw [Nat.zero_add]; exact hc, (h.row i _ _ e1 e2).sl⟩
end Go.Proofs.YtfnomiingelfaaaGreat
/- Rows by their headers: a slice of rows whose array is the call's own, and whose rows lie anywhere else and are only read. -/
namespace Go.Proofs.YtfnomiingelfaaaGreat
open Go.RowKit

def hdO (ads : List (Option Addr × Nat)) (M : List (List Int)) : List Value := List.zipWith (fun x r => Value.slice x.1 r.length x.2) ads M
theorem hdO_at {ads : List (Option Addr × Nat)} {M : List (List Int)} {i : Nat} {x : Option Addr × Nat} {r : List Int} (e1 : ads[i]? = some x) (e2 : M[i]? = some r) : (hdO ads M)[i]? = some (.slice x.1 r.length x.2) := by
  unfold hdO; rw [List.getElem?_zipWith, e1, e2]
theorem hdO_set {ads : List (Option Addr × Nat)} {M : List (List Int)} {i : Nat} {x : Option Addr × Nat} {r : List Int} (hl : ads.length = M.length) (hi : i < M.length) : hdO (ads.set i x) (M.set i r) = (hdO ads M).set i (.slice x.1 r.length x.2) := by
  apply List.ext_getElem?
  intro j
  by_cases e : j = i
  · subst e
    rw [hdO_at (List.getElem?_set_self (by omega)) (List.getElem?_set_self hi), List.getElem?_set_self (by unfold hdO; simp; omega)]
  · rw [List.getElem?_set_ne (Ne.symm e)]
    unfold hdO
    rw [List.getElem?_zipWith, List.getElem?_zipWith, List.getElem?_set_ne (Ne.symm e), List.getElem?_set_ne (Ne.symm e)]
theorem sl_apart {w : World} {a : Option Addr} {xs : List Int} (h : Sl w a xs) {p : Addr} (hp : ∀ ad, a = some ad → ad.block ≠ p.block) (u : Value) : Sl (w.setCell p u) a xs := by
  intro k hk
  obtain ⟨b, off, e, hc⟩ := h k hk
  exact ⟨b, off, e, (cell_other w p u _ (hp _ e)).trans hc⟩
theorem OwnI.parts {w : World} {base : Nat} {v : Value} {xs : List Int} (h : OwnI w base v xs) : ∃ a c, v = .slice a xs.length c ∧ Sl w a xs ∧ ∀ ad, a = some ad → ad.block < w.heap.size ∧ base ≤ ad.block := by
  obtain ⟨a, c, rfl, hs⟩ := h.any
  refine ⟨a, c, rfl, hs, fun ad e => ?_⟩
  subst e
  have := World.ownsRow.lt h ad.block rfl
  exact ⟨this.2, this.1⟩
structure HR (base : Nat) (rv : Value) (ads : List (Option Addr × Nat)) (M : List (List Int)) (w : World) : Prop where
  len : ads.length = M.length
  own : w.ownsRow base 24 1 rv M.length (hdO ads M)
  row : ∀ (i : Nat) (x : Option Addr × Nat) (r : List Int), ads[i]? = some x → M[i]? = some r → Sl w x.1 r
  out : ∀ (i : Nat) (x : Option Addr × Nat), ads[i]? = some x → ∀ ad, x.1 = some ad → ad.block < w.heap.size ∧ rv.ownBlock ≠ some ad.block
theorem HR.nil (base : Nat) (w : World) : HR base (.slice none 0 0) [] [] w := ⟨rfl, World.ownsRow_nil _ _ _ _, fun i x r e _ => by simp at e, fun i x e => by simp at e⟩
theorem HR.below {base : Nat} {rv : Value} {ads : List (Option Addr × Nat)} {M : List (List Int)} {w w' : World} (h : HR base rv ads M w) (hb : Below w.heap.size w w') : HR base rv ads M w' where
  len := h.len
  own := row_below h.own hb
  row := fun i x r e1 e2 => (h.row i x r e1 e2).below hb
  out := fun i x e ad ea => ⟨Nat.lt_of_lt_of_le (h.out i x e ad ea).1 hb.size, (h.out i x e ad ea).2⟩
theorem HR.mono {base base' : Nat} {rv : Value} {ads : List (Option Addr × Nat)} {M : List (List Int)} {w : World} (h : HR base rv ads M w) (hb : base' ≤ base) : HR base' rv ads M w where
  len := h.len
  own := by
    obtain ⟨h0, h1 | ⟨g, cap, cur, e, hg, rest⟩⟩ := h.own
    · exact ⟨h0, .inl h1⟩
    · exact ⟨h0, .inr ⟨g, cap, cur, e, Nat.le_trans hb hg, rest⟩⟩
  row := h.row
  out := h.out
theorem HR.shape {base : Nat} {rv : Value} {ads : List (Option Addr × Nat)} {M : List (List Int)} {w : World} (h : HR base rv ads M w) : (rv = .slice none 0 0 ∧ M = []) ∨ ∃ g cap, rv = .slice (some ⟨g, 0, none⟩) M.length cap ∧ base ≤ g ∧ g < w.heap.size := by
  obtain ⟨_, ⟨e, h0⟩ | ⟨g, cap, cur, e, hg, hb, _⟩⟩ := h.own
  · exact .inl ⟨e, List.eq_nil_of_length_eq_zero h0⟩
  · exact .inr ⟨g, cap, e, hg, (Array.getElem?_eq_some_iff.1 hb).1⟩
theorem HR.at {base g n cap : Nat} {ads : List (Option Addr × Nat)} {M : List (List Int)} {w : World} (h : HR base (.slice (some ⟨g, 0, none⟩) n cap) ads M w) {i : Nat} (hi : i < M.length) :
    ∃ a c, ads[i]? = some (a, c) ∧ w.cell? ⟨g, i, none⟩ = some (.slice a (rowL M i).length c) ∧ w.frozen? ⟨g, i, none⟩ = false ∧ Sl w a (rowL M i) ∧ ∀ ad, a = some ad → ad.block < w.heap.size ∧ ad.block ≠ g := by
  have e1 : ads[i]? = some (ads[i]'(by rw [h.len]; exact hi)) := by simp [h.len, hi]
  have e2 : M[i]? = some M[i] := by simp [hi]
  have ho := h.own
  obtain rfl : n = M.length := by
    obtain ⟨_, ⟨e, _⟩ | ⟨_, _, _, e, _⟩⟩ := ho
    · cases e
    · simpa using congrArg (fun v => match v with | .slice _ n _ => n | _ => 0) e
  have hc := ho.cellAt i (by rw [Nat.mul_one]; exact hi)
  rw [hdO_at e1 e2] at hc
  refine ⟨_, _, e1, ?_, World.ownsRow.frozenAt h.own i, ?_, fun ad ea => ?_⟩
  · rw [rowL_some e2]; exact hc
  · rw [rowL_some e2]; exact h.row i _ _ e1 e2
  · have := h.out i _ e1 ad ea
    exact ⟨this.1, fun e => this.2 (by rw [e]; rfl)⟩
theorem HR.stored {base g n cap : Nat} {ads : List (Option Addr × Nat)} {M : List (List Int)} {w : World} (h : HR base (.slice (some ⟨g, 0, none⟩) n cap) ads M w) {i : Nat} (hi : i < M.length) {a : Option Addr} {c : Nat} {r : List Int} (hs : Sl w a r) (ha : ∀ ad, a = some ad → ad.block < w.heap.size ∧ ad.block ≠ g) :
    HR base (.slice (some ⟨g, 0, none⟩) n cap) (ads.set i (a, c)) (M.set i r) (w.setCell ⟨g, i, none⟩ (.slice a r.length c)) where
  len := by rw [List.length_set, List.length_set]; exact h.len
  own := by
    rw [List.length_set, hdO_set h.len hi]
    obtain rfl : n = M.length := by
      obtain ⟨_, ⟨e, _⟩ | ⟨_, _, _, e, _⟩⟩ := h.own
      · cases e
      · simpa using congrArg (fun v => match v with | .slice _ n _ => n | _ => 0) e
    exact (World.ownsRow.stored h.own i _).1
  row := fun j x q e1 e2 => by
    by_cases e : j = i
    · subst e
      rw [List.getElem?_set_self (by have := h.len; omega)] at e1
      rw [List.getElem?_set_self hi] at e2
      cases e1; cases e2
      exact sl_apart hs (fun ad ea => (ha ad ea).2) _
    · rw [List.getElem?_set_ne (Ne.symm e)] at e1 e2
      exact sl_apart (h.row j x q e1 e2) (fun ad ea e3 => (h.out j x e1 ad ea).2 (by rw [e3]; rfl)) _
  out := fun j x e1 ad ea => by
    rw [World.size_setCell]
    by_cases e : j = i
    · subst e
      rw [List.getElem?_set_self (by have := h.len; omega)] at e1
      cases e1
      exact ⟨(ha ad ea).1, fun e3 => (ha ad ea).2 (by simpa [Value.ownBlock] using e3.symm)⟩
    · rw [List.getElem?_set_ne (Ne.symm e)] at e1
      exact h.out j x e1 ad ea
theorem HR.far {base : Nat} {rv : Value} {ads : List (Option Addr × Nat)} {M : List (List Int)} {w : World} (h : HR base rv ads M w) {p : Addr} (h1 : rv.ownBlock ≠ some p.block) (h2 : ∀ (i : Nat) (x : Option Addr × Nat), ads[i]? = some x → ∀ ad, x.1 = some ad → ad.block ≠ p.block) (u : Value) : HR base rv ads M (w.setCell p u) where
  len := h.len
  own := row_same h.own fun b e => Below.heap_setCell w _ _ b (by rintro rfl; exact h1 e)
  row := fun i x r e1 e2 => sl_apart (h.row i x r e1 e2) (h2 i x e1) _
  out := fun i x e ad ea => by rw [World.size_setCell]; exact h.out i x e ad ea
theorem HR.push {base : Nat} {rv : Value} {ads : List (Option Addr × Nat)} {M : List (List Int)} {V w' : World} (h : HR base rv ads M V) {row : List Int} {a : Option Addr} {c g cap : Nat} (hs : Sl V a row) (ha : ∀ ad, a = some ad → ad.block < V.heap.size ∧ rv.ownBlock ≠ some ad.block)
    (h1 : w'.ownsRow base 24 1 (.slice (some ⟨g, 0, none⟩) (M.length + 1) cap) (M.length + 1) (hdO ads M ++ [.slice a row.length c])) (h2 : V.grownBy w' rv.ownBlock) (h3 : rv.ownBlock = some g ∨ g = V.heap.size) :
    HR base (.slice (some ⟨g, 0, none⟩) (M.length + 1) cap) (ads ++ [(a, c)]) (M ++ [row]) w' := by
  have far : ∀ b, b < V.heap.size → rv.ownBlock ≠ some b → w'.heap[b]? = V.heap[b]? := fun b hb hn => h2.block b hb (fun e => hn e.symm)
  have hne2 : ∀ b, b < V.heap.size → rv.ownBlock ≠ some b → g ≠ b := by
    intro b hb hn e
    rcases h3 with h3 | h3
    · exact hn (by rw [h3, e])
    · omega
  have hsz : V.heap.size ≤ w'.heap.size := h2.size
  have hh : hdO (ads ++ [(a, c)]) (M ++ [row]) = hdO ads M ++ [.slice a row.length c] := by
    unfold hdO; rw [List.zipWith_append h.len]; rfl
  have keep : ∀ {b : Option Addr} {q : List Int}, Sl V b q → (∀ ad, b = some ad → ad.block < V.heap.size ∧ rv.ownBlock ≠ some ad.block) → Sl w' b q := by
    intro b q hq hb k hk
    obtain ⟨b', off, e, hc⟩ := hq k hk
    have := hb _ e
    exact ⟨b', off, e, (World.cell?_of_block (far b' this.1 this.2)).trans hc⟩
  refine ⟨by simp [h.len], ?_, ?_, ?_⟩
  · rw [hh]; simpa using h1
  · intro i x r e1 e2
    have hl := h.len
    rcases get_snoc e1 with e1 | ⟨i1, rfl⟩
    · have hi := (List.getElem?_eq_some_iff.1 e1).1
      rw [List.getElem?_append_left (by omega)] at e2
      exact keep (h.row i x r e1 e2) (h.out i x e1)
    · subst i1
      rw [hl] at e2; simp at e2; subst e2
      exact keep hs ha
  · intro i x e ad ea
    have : ad.block < V.heap.size ∧ rv.ownBlock ≠ some ad.block := by
      rcases get_snoc e with e | ⟨_, rfl⟩
      · exact h.out i x e ad ea
      · exact ha ad ea
    exact ⟨by omega, fun e => hne2 _ this.1 this.2 (by simpa [Value.ownBlock] using e)⟩
theorem HR.grown {base : Nat} {rv : Value} {ads : List (Option Addr × Nat)} {M : List (List Int)} {V w' : World} {ob : Option Nat} (h : HR base rv ads M V) (hg : V.grownBy w' ob) (h1 : ∀ b, rv.ownBlock = some b → ob ≠ some b) (h2 : ∀ (i : Nat) (x : Option Addr × Nat), ads[i]? = some x → ∀ ad, x.1 = some ad → ob ≠ some ad.block) : HR base rv ads M w' where
  len := h.len
  own := row_same h.own fun b e => hg.block b (World.ownsRow.lt h.own b e).2 (Ne.symm (h1 b e))
  row := fun i x r e1 e2 k hk => by
    obtain ⟨b', off, e, hc⟩ := h.row i x r e1 e2 k hk
    exact ⟨b', off, e, (World.cell?_of_block (hg.block b' (h.out i x e1 _ e).1 (Ne.symm (h2 i x e1 _ e)))).trans hc⟩
  out := fun i x e ad ea => ⟨Nat.lt_of_lt_of_le (h.out i x e ad ea).1 hg.size, (h.out i x e ad ea).2⟩
end Go.Proofs.YtfnomiingelfaaaGreat
/- One int appended to a slice of the call's own, told by what grows. -/
namespace Go.Proofs.YtfnomiingelfaaaGreat
open Go.RowKit

end Go.Proofs.YtfnomiingelfaaaGreat
/- divisor, primitive, scaled, without of the answers: contracts. -/
namespace Go.Proofs.YtfnomiingelfaaaGreat
open Go.RowKit

set_option maxRecDepth 100000 in
set_option maxHeartbeats 800000 in
theorem rdivisor_any (v x : Int) (w : World) (hv : Mid v) (hx : Mid x) :
    Calls Tryz.prog 115 #[.int .i64 v, .int .i64 x] w fun e w' => e = .returned (.int .i64 ((Nat.gcd v.natAbs x.natAbs : Nat) : Int)) ∧ ∃ nd, w' = w.drewN nd := by
  go_enter Tryz.func115, Tryz.ntmps115
  go_wp2
  go_loopw [0, 1] (fun c n wr => ∃ (p q : Int) (nd' : Nat), c = .int .i64 p ∧ n = .int .i64 q ∧ Mid p ∧ Mid q ∧ Hid (Nat.gcd p.natAbs q.natAbs = Nat.gcd v.natAbs x.natAbs) ∧ wr = w.drewN nd') (fun _ n _ => (intOf n).natAbs)
  case atStart => exact ⟨v, x, 0, rfl, rfl, hv, hx, rfl, rfl⟩
  case round =>
    obtain ⟨p, q, nd', rfl, rfl, hp, hq, HE, rfl⟩ := hrel
    by_cases hq0 : q = 0
    · subst hq0
      have HGE : Hid (p.natAbs = Nat.gcd v.natAbs x.natAbs) := by
        show _ = _
        rw [← HE.out]; simp
      obtain ⟨p1, p2⟩ := hp
      have HF : Hid (((Nat.gcd v.natAbs x.natAbs : Nat) : Int) = if p < -p then -p else p) := by
        show _ = _
        rw [← HGE.out]; split <;> omega
      clear HGE HE
      go_wp2
      all_goals go_ret
      all_goals exact ⟨ret_i64 (by rw [HF.out]; split <;> omega), nd', rfl⟩
    · have y0 : (q == 0) = false := by simpa using hq0
      have y1 : (q != 0) = true := by simpa using hq0
      obtain ⟨t, ht⟩ : ∃ t, p.tmod q = t := ⟨_, rfl⟩
      have hta : t.natAbs = p.natAbs % q.natAbs := by rw [← ht, Int.natAbs_tmod]
      have hlt2 : p.natAbs % q.natAbs < q.natAbs := Nat.mod_lt _ (by omega)
      have hmt : Mid t := by unfold Mid at hq ⊢; omega
      have HE2 : Hid (Nat.gcd q.natAbs t.natAbs = Nat.gcd v.natAbs x.natAbs) := by
        show _ = _
        rw [hta, ← HE.out, Nat.gcd_comm p.natAbs, Nat.gcd_rec q.natAbs p.natAbs]
        exact Nat.gcd_comm _ _
      have hmeas : t.natAbs < q.natAbs := by omega
      obtain ⟨t1, t2⟩ := hmt
      have w1 : IntKind.i64.wrap t = t := IntWalk.i64_in _ (by omega)
      have w2 : wrap64 t = t := IntWalk.wrap64_in _ (by omega)
      clear hta hlt2
      go_wp2
      go_quiet (fail)
      go_wp2
      go_roundw
      case rel => exact ⟨q, t, _, rfl, rfl, hq, ⟨t1, t2⟩, HE2, World.drewN_drewN _ _ _⟩
      case measure => simp [intOf]; omega
end Go.Proofs.YtfnomiingelfaaaGreat
/- without of the answers: the contract. -/
namespace Go.Proofs.YtfnomiingelfaaaGreat
open Go.RowKit

end Go.Proofs.YtfnomiingelfaaaGreat
/- Reduced of the answers: the reduction under way and its steps. -/
namespace Go.Proofs.YtfnomiingelfaaaGreat
open Go.RowKit

structure RInv (base : Nat) (lv dv pv : Value) (lads dads : List (Option Addr × Nat)) (s : Rs) (w : World) : Prop where
  l : HR base lv lads s.left w
  d : HR base dv dads s.done w
  p : OwnI w base pv s.piv
  ld : ∀ b, lv.ownBlock = some b → dv.ownBlock ≠ some b
  lp : ∀ b, lv.ownBlock = some b → pv.ownBlock ≠ some b
  dp : ∀ b, dv.ownBlock = some b → pv.ownBlock ≠ some b
  lD : ∀ b, lv.ownBlock = some b → ∀ (i : Nat) (x : Option Addr × Nat), dads[i]? = some x → ∀ ad, x.1 = some ad → ad.block ≠ b
  dL : ∀ b, dv.ownBlock = some b → ∀ (i : Nat) (x : Option Addr × Nat), lads[i]? = some x → ∀ ad, x.1 = some ad → ad.block ≠ b
  pL : ∀ b, pv.ownBlock = some b → ∀ (i : Nat) (x : Option Addr × Nat), lads[i]? = some x → ∀ ad, x.1 = some ad → ad.block ≠ b
  pD : ∀ b, pv.ownBlock = some b → ∀ (i : Nat) (x : Option Addr × Nat), dads[i]? = some x → ∀ ad, x.1 = some ad → ad.block ≠ b
theorem HR.ms {base : Nat} {rv : Value} {ads : List (Option Addr × Nat)} {M : List (List Int)} {w : World} (h : HR base rv ads M w) : ∃ a cap, rv = .slice a M.length cap ∧ Ms w a M := by
  rcases h.shape with ⟨e, h0⟩ | ⟨g, cap, e, _, _⟩
  · subst h0; exact ⟨none, 0, e, fun i hi => by simp at hi⟩
  · subst e
    refine ⟨some ⟨g, 0, none⟩, cap, rfl, fun i hi => ?_⟩
    obtain ⟨a, c, _, h1, _, h2, _⟩ := h.at hi
    exact ⟨g, 0, a, c, rfl, by rw [Nat.zero_add]; exact h1, h2⟩
theorem own_none {b : Nat} (e : (Value.slice none 0 0).ownBlock = some b) : False := by simp [Value.ownBlock] at e
theorem RInv.start {base : Nat} {lv : Value} {lads : List (Option Addr × Nat)} {L : List (List Int)} {w : World} (h : HR base lv lads L w) : RInv base lv (.slice none 0 0) (.slice none 0 0) lads [] { done := [], left := L, piv := [] } w where
  l := h
  d := HR.nil _ _
  p := OwnI.nil _ _
  ld := fun _ _ e => own_none e
  lp := fun _ _ e => own_none e
  dp := fun _ _ e => own_none e
  lD := fun _ _ i x e => by simp at e
  dL := fun _ e => (own_none e).elim
  pL := fun _ e => (own_none e).elim
  pD := fun _ e => (own_none e).elim
theorem RInv.below {base : Nat} {lv dv pv : Value} {lads dads : List (Option Addr × Nat)} {s : Rs} {w w' : World} (h : RInv base lv dv pv lads dads s w) (hb : Below w.heap.size w w') : RInv base lv dv pv lads dads s w' :=
  ⟨h.l.below hb, h.d.below hb, OwnI.below h.p hb, h.ld, h.lp, h.dp, h.lD, h.dL, h.pL, h.pD⟩
structure RDone (base S : Nat) (rv dv pv : Value) (rads dads : List (Option Addr × Nat)) (rest D : List (List Int)) (piv : List Int) (pa : Option Addr) (P : List Int) (w : World) : Prop where
  d : HR base dv dads D w
  r : HR S rv rads rest w
  p : OwnI w base pv piv
  P : Sl w pa P
  rS : ∀ (i : Nat) (x : Option Addr × Nat), rads[i]? = some x → ∀ ad, x.1 = some ad → S ≤ ad.block
  dvS : ∀ b, dv.ownBlock = some b → b < S
  pvS : ∀ b, pv.ownBlock = some b → b < S
  dp : ∀ b, dv.ownBlock = some b → pv.ownBlock ≠ some b
  PO : ∀ ad, pa = some ad → ad.block < S ∧ dv.ownBlock ≠ some ad.block ∧ pv.ownBlock ≠ some ad.block
  dR : ∀ (i : Nat) (x : Option Addr × Nat), dads[i]? = some x → ∀ ad, x.1 = some ad → rv.ownBlock ≠ some ad.block ∧ pv.ownBlock ≠ some ad.block
  sz : S ≤ w.heap.size
theorem RDone.below {base S : Nat} {rv dv pv : Value} {rads dads : List (Option Addr × Nat)} {rest D : List (List Int)} {piv : List Int} {pa : Option Addr} {P : List Int} {w w' : World} (h : RDone base S rv dv pv rads dads rest D piv pa P w) (hb : Below w.heap.size w w') : RDone base S rv dv pv rads dads rest D piv pa P w' :=
  ⟨h.d.below hb, h.r.below hb, OwnI.below h.p hb, h.P.below hb, h.rS, h.dvS, h.pvS, h.dp, h.PO, h.dR, Nat.le_trans h.sz hb.size⟩
theorem HR.own_lt {base : Nat} {rv : Value} {ads : List (Option Addr × Nat)} {M : List (List Int)} {w : World} (h : HR base rv ads M w) (b : Nat) (e : rv.ownBlock = some b) : base ≤ b ∧ b < w.heap.size := World.ownsRow.lt h.own b e
theorem RDone.start {base S : Nat} {rv lv dv pv : Value} {rads lads dads : List (Option Addr × Nat)} {rest : List (List Int)} {s : Rs} {pa : Option Addr} {P : List Int} {w w' : World} (h : RInv base lv dv pv lads dads s w) (hS : w.heap.size = S) (hb : Below S w w') (hP : Sl w pa P) (hr : HR S rv rads rest w') (hrS : ∀ (i : Nat) (x : Option Addr × Nat), rads[i]? = some x → ∀ ad, x.1 = some ad → S ≤ ad.block)
    (hPO : ∀ ad, pa = some ad → ad.block < S ∧ dv.ownBlock ≠ some ad.block ∧ pv.ownBlock ≠ some ad.block) : RDone base S rv dv pv rads dads rest s.done s.piv pa P w' := by
  subst hS
  refine ⟨h.d.below hb, hr, OwnI.below h.p hb, hP.below hb, hrS, fun b e => (h.d.own_lt b e).2, fun b e => (World.ownsRow.lt h.p b e).2, h.dp, hPO, fun i x e ad ea => ⟨fun e2 => ?_, fun e2 => h.pD _ e2 i x e ad ea rfl⟩, hb.size⟩
  have h1 := (hr.own_lt _ e2).1
  have h2 := (h.d.out i x e ad ea).1
  omega
theorem RDone.stored {base S g n cap : Nat} {rv pv : Value} {rads dads : List (Option Addr × Nat)} {rest D : List (List Int)} {piv : List Int} {pa : Option Addr} {P : List Int} {w : World} (h : RDone base S rv (.slice (some ⟨g, 0, none⟩) n cap) pv rads dads rest D piv pa P w) {i : Nat} (hi : i < D.length) {a : Option Addr} {c : Nat} {r : List Int} (hs : Sl w a r) (ha : ∀ ad, a = some ad → ad.block < w.heap.size ∧ S ≤ ad.block ∧ rv.ownBlock ≠ some ad.block) :
    RDone base S rv (.slice (some ⟨g, 0, none⟩) n cap) pv rads (dads.set i (a, c)) rest (D.set i r) piv pa P (w.setCell ⟨g, i, none⟩ (.slice a r.length c)) := by
  have hg : g < S := h.dvS g rfl
  refine ⟨h.d.stored hi hs (fun ad ea => ⟨(ha ad ea).1, by have := (ha ad ea).2.1; omega⟩), h.r.far (p := ⟨g, i, none⟩) (fun e => by have := (h.r.own_lt _ e).1; simp at this; omega) (fun j x e ad ea => by have := h.rS j x e ad ea; show _ ≠ g; omega) _, row_same h.p fun b e => Below.heap_setCell w _ _ b (by rintro rfl; exact h.dp _ rfl e), sl_apart h.P (fun ad ea => by have := (h.PO ad ea).2.1; intro e; exact this (by rw [e]; rfl)) _, h.rS, h.dvS, h.pvS, h.dp, h.PO, fun j x e ad ea => ?_, by rw [World.size_setCell]; exact h.sz⟩
  by_cases e1 : j = i
  · subst e1
    have hj : j < dads.length := by rw [h.d.len]; exact hi
    rw [List.getElem?_set_self hj] at e
    cases e
    exact ⟨(ha ad ea).2.2, fun e2 => by have := h.pvS _ e2; have := (ha ad ea).2.1; omega⟩
  · rw [List.getElem?_set_ne (Ne.symm e1)] at e
    exact h.dR j x e ad ea
def Small7 (N : Nat) (q : List Int) : Prop := ∀ c, c < N → -720000000 ≤ gt q c ∧ gt q c ≤ 720000000
end Go.Proofs.YtfnomiingelfaaaGreat
/- What the answers' kernel needs of their reduction. Plain words. Speaks of no program. -/
namespace Go.Proofs.YtfnomiingelfaaaGreat
open Go.RowKit

structure KF (N : Nat) (s : Rs) : Prop where
  dl : s.done.length = s.piv.length
  rl : ∀ t, t < s.piv.length → (rowL s.done t).length = N
  pk : ∀ t, t < s.piv.length → ∃ p : Nat, gt s.piv t = (p : Int) ∧ p < N
  lc : ∀ t, t ≤ s.piv.length → 1 ≤ lcTo s t ∧ lcTo s t ≤ 720
  pv : ∀ t, t < s.piv.length → 1 ≤ pvR s t ∧ pvR s t ≤ 720000000
  bd : ∀ t, t < s.piv.length → Small7 N (rowL s.done t)
  kl : s.piv.length ≤ 6
theorem KF.q {N : Nat} {s : Rs} (h : KF N s) {t : Nat} (ht : t < s.piv.length) {L : Int} (h1 : 1 ≤ L ∧ L ≤ 720) : 0 ≤ L.tdiv (pvR s t) ∧ L.tdiv (pvR s t) ≤ 720 := by
  have hp := h.pv t ht
  obtain ⟨P, hP⟩ : ∃ P : Nat, pvR s t = (P : Int) := ⟨(pvR s t).natAbs, by omega⟩
  obtain ⟨K, hK⟩ : ∃ K : Nat, L = (K : Int) := ⟨L.natAbs, by omega⟩
  have e : (K : Int).tdiv (P : Int) = ((K / P : Nat) : Int) := by rw [Int.ofNat_tdiv]
  rw [hP, hK, e]
  have := Nat.div_le_self K P
  generalize K / P = z at *
  omega
theorem KF.v {N : Nat} {s : Rs} (h : KF N s) {t f : Nat} (hf : f < N) (ht : t < s.piv.length) {L : Int} (h1 : 1 ≤ L ∧ L ≤ 720) : IntKind.i64.wrap (-gt (rowL s.done t) f) = -gt (rowL s.done t) f ∧ (-518400000000 ≤ rkV s L f t ∧ rkV s L f t ≤ 518400000000) ∧ rkV s L f t = -gt (rowL s.done t) f * L.tdiv (pvR s t) := by
  have b := h.bd t ht f hf
  obtain ⟨q, hq⟩ : ∃ q, L.tdiv (pvR s t) = q := ⟨_, rfl⟩
  have bq := h.q ht h1
  rw [hq] at bq
  have w1 : IntKind.i64.wrap (-gt (rowL s.done t) f) = -gt (rowL s.done t) f := wrap_id (by omega) (by omega)
  have bm : -518400000000 ≤ -gt (rowL s.done t) f * q ∧ -gt (rowL s.done t) f * q ≤ 518400000000 := by
    have h1 : (-gt (rowL s.done t) f * q).natAbs ≤ 720000000 * 720 := by rw [Int.natAbs_mul]; exact Nat.mul_le_mul (by omega) (by omega)
    omega
  have e : rkV s L f t = -gt (rowL s.done t) f * q := by
    unfold rkV; rw [w1, hq, wrap_id (by omega) (by omega)]
  exact ⟨w1, by rw [e]; exact bm, by rw [e, hq]⟩
end Go.Proofs.YtfnomiingelfaaaGreat
/- The answers' basis of a kernel is the program's, and what it is. Plain words. Speaks of no program. -/
namespace Go.Proofs.YtfnomiingelfaaaGreat
open Go.RowKit

theorem gt_upTo {n c : Nat} (h : c < n) : gt (upTo n) c = (c : Int) := by unfold upTo gt; simp [h]
theorem pix_all {m : List (List Int)} (hr : ∀ q ∈ m, q.length = colsM m) : pixM (upTo (colsM m)) m = m := by
  unfold pixM
  conv => rhs; rw [← List.map_id m]
  refine List.map_congr_left fun q hq => ?_
  refine list_gt (by show _ = q.length; unfold pixR; rw [List.length_map, upTo_len, hr q hq]) fun t ht => ?_
  have ht : t < colsM m := by rw [pixR_len, upTo_len] at ht; exact ht
  rw [gt_pixR (by rw [upTo_len]; exact ht), gt_upTo ht]
  rfl
theorem freeTo_succ (pz : List Int) (k : Nat) : freeTo pz (k + 1) = if (k : Int) ∈ pz then freeTo pz k else freeTo pz k ++ [(k : Int)] := rfl
theorem basis_fin {m : List (List Int)} (hv : validM m = true) : RFin m.length (colsM m) (colsM m) (a0 m) (redN m (upTo (colsM m))) := by
  have h := redN_fin hv (px := upTo (colsM m)) (fun j hj => upTo_in hj)
  rw [upTo_len, pix_all (fun q hq => ((validM_of hv).2.2.2.2 q hq).1)] at h
  exact h
theorem free_count {R N cols : Nat} {A0 : Nat → Nat → Int} {r : Rd} (h : RFin R N cols A0 r) : ∀ k, k ≤ cols → ∃ j, j ≤ r.piv.length ∧ (freeTo r.piv k).length + j = k ∧ (∀ t, t < j → pivN r t < k) ∧ ∀ t, j ≤ t → t < r.piv.length → k ≤ pivN r t
  | 0, _ => ⟨0, Nat.zero_le _, rfl, fun t ht => absurd ht (by omega), fun t _ _ => Nat.zero_le _⟩
  | k + 1, hk => by
    obtain ⟨j, h1, h2, h3, h4⟩ := free_count h k (by omega)
    rw [freeTo_succ]
    by_cases hm : (k : Int) ∈ r.piv
    · obtain ⟨t, ht, e⟩ := h.mem.mp hm
      have hj : j = t := by
        by_cases h5 : t < j
        · have := h3 t h5; omega
        · by_cases h6 : j = t
          · exact h6
          · have := h.asc j t (by omega) ht
            have := h4 j (Nat.le_refl _) (by omega)
            omega
      subst hj
      refine ⟨j + 1, by omega, by rw [if_pos hm]; omega, fun t ht => ?_, fun t h5 h6 => ?_⟩
      · by_cases e2 : t = j
        · subst e2; omega
        · have := h3 t (by omega); omega
      · have := h.asc j t (by omega) h6; omega
    · refine ⟨j, h1, by rw [if_neg hm, List.length_append, List.length_singleton]; omega, fun t ht => by have := h3 t ht; omega, fun t h5 h6 => ?_⟩
      have h7 := h4 t h5 h6
      by_cases e : pivN r t = k
      · exact absurd (h.mem.mpr ⟨t, h6, e⟩) hm
      · omega
theorem RFin.count {R N cols : Nat} {A0 : Nat → Nat → Int} {r : Rd} (h : RFin R N cols A0 r) : r.piv.length + (freeTo r.piv cols).length = cols := by
  obtain ⟨j, h1, h2, _, h4⟩ := free_count h cols (Nat.le_refl _)
  by_cases e : j < r.piv.length
  · have := h4 j (Nat.le_refl _) e
    have := h.pivN_lt e
    omega
  · omega
end Go.Proofs.YtfnomiingelfaaaGreat
/- Reduced of the answers: the contract. -/
namespace Go.Proofs.YtfnomiingelfaaaGreat
open Go.RowKit

end Go.Proofs.YtfnomiingelfaaaGreat
/- kernel of the answers: the contract. -/
namespace Go.Proofs.YtfnomiingelfaaaGreat
open Go.RowKit

end Go.Proofs.YtfnomiingelfaaaGreat
/- SameInts of the answers of layer 1: a contract. -/
namespace Go.Proofs.YtfnomiingelfaaaGreat
open Go.RowKit

theorem sameInts_any (a : Option Addr) (xs : List Int) (ca : Nat) (b : Option Addr) (ys : List Int) (cb : Nat) (w : World) (hx : xs.length ≤ 140737488351232) (hy : ys.length ≤ 140737488351232) (ha : Sl w a xs) (hb : Sl w b ys) :
    Calls Tryz.prog 54 #[.slice a xs.length ca, .slice b ys.length cb] w fun e w' => e = .returned (.bool (decide (xs = ys))) ∧ ∃ n, w' = w.drewN n := by
  have HA := Lib.hid ha; clear ha
  have HB := Lib.hid hb; clear hb
  by_cases hl : xs.length = ys.length
  · have hb : ((xs.length : Int) == (ys.length : Int)) = true := by simp [hl]
    have hb' : ((xs.length : Int) != (ys.length : Int)) = false := by simp [hl]
    have HL := Lib.hid hl; clear hl
    go_enter Tryz.func54, Tryz.ntmps54
    go_wp2
    go_loopw [13] (fun i wr => ∃ k nd : Nat, k ≤ xs.length ∧ i = .int .i64 k ∧ wr = w.drewN nd ∧ ∀ j, j < k → xs[j]?.getD 0 = ys[j]?.getD 0) (fun i _ => xs.length - (intOf i).toNat)
    case atStart => exact ⟨0, 0, Nat.zero_le _, rfl, rfl, fun j h => by omega⟩
    case round =>
      obtain ⟨k, nd, hk, rfl, rfl, hno⟩ := hrel
      have HN := Lib.hid hno; clear hno
      by_cases hlt : k < xs.length
      · have hly : k < ys.length := by rw [← HL.out]; exact hlt
        obtain ⟨b1, o1, x, rfl, hc1, HX⟩ := HA.out.at hlt
        obtain ⟨b2, o2, y, rfl, hc2, HY⟩ := HB.out.at hly
        by_cases he : x = y
        · subst he
          go_wp2
          go_quiet (fail)
          go_wp2
          go_roundw
          case rel => exact ⟨k + 1, _, by omega, by go_num, rfl, fun j hj => by
              by_cases hj' : j = k
              · subst hj'; rw [HX.out, HY.out]
              · exact HN.out j (by omega)⟩
          case measure => simp [intOf]; omega
        · have hne : (x == y) = false := by simpa using he
          have hne' : (x != y) = true := by simpa using he
          have HE : Hid (decide (xs = ys) = false) := by
            show decide (xs = ys) = false
            rw [decide_eq_false_iff_not]
            rintro rfl
            have h1 := HX.out
            have h2 := HY.out
            rw [h1] at h2
            exact he (by simpa using h2)
          clear he
          go_wp2
          go_quiet (fail)
          go_wp2
          go_ret
          exact ⟨ret_bool HE.out.symm, _, World.drewN_drewN _ _ _⟩
      · have HE : Hid (decide (xs = ys) = true) := by
          show decide (xs = ys) = true
          rw [decide_eq_true_iff]
          refine List.ext_getElem HL.out (fun j h1 h2 => ?_)
          have := HN.out j (by omega)
          simpa [h1, h2] using this
        go_wp2
        go_ret
        exact ⟨ret_bool HE.out.symm, _, rfl⟩
  · have hb : ((xs.length : Int) == (ys.length : Int)) = false := by simp; omega
    have hb' : ((xs.length : Int) != (ys.length : Int)) = true := by simp; omega
    have HX : Hid (decide (xs = ys) = false) := by
      show decide (xs = ys) = false
      rw [decide_eq_false_iff_not]; rintro rfl; exact hl rfl
    clear hl
    go_enter Tryz.func54, Tryz.ntmps54
    go_wp2
    go_ret
    exact ⟨ret_bool HX.out.symm, 0, rfl⟩

end Go.Proofs.YtfnomiingelfaaaGreat
/- Primitive and IsKernel of both sides, Rank, Kernel of the answers: contracts. -/
namespace Go.Proofs.YtfnomiingelfaaaGreat
open Go.RowKit

def ixN (xs : List Int) : Int := if allZ xs = true then -1 else (xs.findIdx (fun x => x != 0) : Int)
theorem find_at {xs : List Int} {k : Nat} {x : Int} (h : ∀ j, j < k → xs[j]?.getD 0 = 0) (hx : xs[k]? = some x) (h0 : x ≠ 0) : xs.findIdx (fun x => x != 0) = k := by
  obtain ⟨hk, e⟩ := List.getElem?_eq_some_iff.1 hx
  rw [List.findIdx_eq hk]
  refine ⟨by rw [e]; simpa using h0, fun j hj => ?_⟩
  have := h j hj
  rw [List.getElem?_eq_getElem (by omega)] at this
  have e2 : xs[j] = 0 := by simpa using this
  rw [e2]; rfl
theorem ixN_hit {xs : List Int} {k : Nat} {x : Int} (h : ∀ j, j < k → xs[j]?.getD 0 = 0) (hx : xs[k]? = some x) (h0 : x ≠ 0) : ixN xs = k := by
  unfold ixN; rw [allZ_no hx h0, if_neg (by decide), find_at h hx h0]
theorem nonzero_any (n : Int) (w : World) : Calls Tryz.prog 131 #[.int .i64 n] w fun e w' => e = .returned (.bool (n != 0)) ∧ w = w' := by
  go_enter Tryz.func131, Tryz.ntmps131
  go_wp2
  go_ret
  exact ⟨rfl, rfl⟩
set_option maxRecDepth 100000 in
theorem indexNZ_any (a : Option Addr) (xs : List Int) (cap : Nat) (w : World) (hl : xs.length ≤ 140737488351232) (hs : Sl w a xs) :
    Calls Tryz.prog 149 #[.slice a xs.length cap, .func (.func 131) #[] #[]] w fun e w' => e = .returned (.int .i64 (ixN xs)) ∧ w = w' := by
  have HS := Lib.hid hs; clear hs
  go_enter Tryz.func149, Tryz.ntmps149
  go_wp2
  go_loop [8] (fun i => ∃ k : Nat, k ≤ xs.length ∧ i = .int .i64 k ∧ ∀ j, j < k → xs[j]?.getD 0 = 0) (fun i => xs.length - (intOf i).toNat)
  case atStart => exact ⟨0, Nat.zero_le _, rfl, fun j h => by omega⟩
  case round =>
    obtain ⟨k, hk, rfl, hno⟩ := hrel
    have HN := Lib.hid hno; clear hno
    by_cases hlt : k < xs.length
    · obtain ⟨b, off, x, rfl, hcell, HX⟩ := HS.out.at hlt
      obtain ⟨bb, hbb⟩ : ∃ bb, (x != 0) = bb := ⟨_, rfl⟩
      have HNZ : Hid (∀ W, Calls Tryz.prog 131 #[.int .i64 x] W fun e w' => e = .returned (.bool bb) ∧ W = w') := fun W => by rw [← hbb]; exact nonzero_any x W
      have HBB := Lib.hid hbb; clear hbb
      cases bb with
      | false =>
        go_wp2_with (go_at_call 131; refine (HNZ.out _).mono ?_; rintro e w' ⟨rfl, rfl⟩)
        go_round
        case rel => exact ⟨k + 1, by omega, by go_num, fun j hj => by
            by_cases hj' : j = k
            · subst hj'; rw [HX.out]; simpa using HBB.out
            · exact HN.out j (by omega)⟩
        case measure => simp [intOf]; omega
      | true =>
        go_wp2_with (go_at_call 131; refine (HNZ.out _).mono ?_; rintro e w' ⟨rfl, rfl⟩)
        go_ret
        exact ⟨ret_i64 (ixN_hit HN.out HX.out (by simpa using HBB.out)).symm, rfl⟩
    · have HE : Hid (ixN xs = -1) := by show _ = _; unfold ixN; rw [allZ_yes fun j hj => HN.out j (by omega)]; rfl
      go_wp2
      go_ret
      exact ⟨ret_i64 HE.out.symm, rfl⟩
theorem containsNZ_any (a : Option Addr) (xs : List Int) (cap : Nat) (w : World) (hl : xs.length ≤ 140737488351232) (hs : Sl w a xs) :
    Calls Tryz.prog 129 #[.slice a xs.length cap, .func (.func 131) #[] #[]] w fun e w' => e = .returned (.bool (!allZ xs)) ∧ w = w' := by
  have HI := Lib.hid (indexNZ_any a xs cap w hl hs); clear hs
  have HE : Hid (decide (0 ≤ ixN xs) = !allZ xs) := by
    show _ = _
    unfold ixN
    cases allZ xs
    · simp
    · simp
  go_enter Tryz.func129, Tryz.ntmps129
  go_wp2_with (go_at_call 149; refine HI.out.mono ?_; rintro e w' ⟨rfl, rfl⟩)
  go_ret
  exact ⟨ret_bool (by rw [← HE.out]), rfl⟩
end Go.Proofs.YtfnomiingelfaaaGreat
/- Primitive of the answers, IsKernel of both sides, Rank, Kernel of the answers, long: contracts. -/
namespace Go.Proofs.YtfnomiingelfaaaGreat
open Go.RowKit

def rankV (m : List (List Int)) : Int × Int := if validM m = true then (((redN m (upTo (colsM m))).piv.length : Int), 0) else (0, 1)
set_option maxRecDepth 100000 in
set_option maxHeartbeats 800000 in
theorem lrank_any (a : Option Addr) (m : List (List Int)) (cap : Nat) (w : World) (hm : MOk m) (hs : Ms w a m) : Calls Tryz.prog 68 #[.slice a m.length cap] w fun e w' => e = .returned (.tuple #[.int .i64 (rankV m).1, .int .i64 (rankV m).2]) ∧ Below w.heap.size w w' := by
  have HVA : Hid (Calls Tryz.prog 45 #[.slice a m.length cap] w fun e w' => e = .returned (.bool (validM m)) ∧ Below w.heap.size w w') := mvalid_any a m cap w hm hs
  have HS := Lib.hid hs
  clear hm hs
  cases hv : validM m
  case false =>
    rw [hv] at HVA
    have HK : Hid (rankV m = (0, 1)) := by show _ = _; simp [rankV, hv]
    clear hv
    go_enter Tryz.func68, Tryz.ntmps68
    go_wp2_with (go_at_call 45; refine HVA.out.mono ?_; rintro e w1 ⟨rfl, hb⟩; have HB := Lib.hid hb; clear hb)
    go_ret2
    rw [HK.out]
    exact ⟨rfl, HB.out⟩
  case true =>
    rw [hv] at HVA
    obtain ⟨hm1, hm6, hc1, hc10, hrows⟩ := validM_of hv
    have h64 : Hid (All64 m) := fun q hq x hx => by
      obtain ⟨c, hc, rfl⟩ := mem_gt.1 hx
      have := gt_in (hrows q hq).2 hc
      unfold In64; omega
    have HRA : Hid (∀ w1 : World, Below w.heap.size w w1 → Calls Tryz.prog 99 #[.slice a m.length cap, .func (.func 91) #[] #[]] w1 (RdPost (redN m (upTo (colsM m))) w1)) := fun w1 hb => reduceAll_any (Lib.hid hm6) (Lib.hid hm1) (Lib.hid ⟨hc1, hc10⟩) (Lib.hid fun r hr => (hrows r hr).1) h64 (Lib.hid (HS.out.below hb))
    obtain ⟨rd, hrd⟩ : ∃ rd, redN m (upTo (colsM m)) = rd := ⟨_, rfl⟩
    have HK : Hid (rankV m = ((rd.piv.length : Int), 0)) := by show _ = _; simp [rankV, hv, hrd]
    rw [hrd] at HRA
    clear hv hm1 hm6 hc1 hc10 hrows hrd h64
    obtain ⟨cols, rows, piv, dv⟩ := rd
    dsimp only at HK
    go_enter Tryz.func68, Tryz.ntmps68
    go_wp2_with (first | (go_at_call 45; refine HVA.out.mono ?_; rintro e w1 ⟨rfl, hb⟩; have HB := Lib.hid hb; clear hb) | (go_at_call 99; refine (HRA.out w1 HB.out).mono ?_; rintro e w2 ⟨hb2, g, cp, ads, pa2, pc2, rfl, hgg, si, pi⟩; unfold rdV; dsimp only; have HB2 := Lib.hid (HB.out.trans (hb2.mono HB.out.size)); clear si pi hgg hb2) | (go_at_call 92; refine (rank_any cols g rows.length cp pa2 piv pc2 dv _).mono ?_; rintro e w3 ⟨rfl, hb3⟩; have HB3 := Lib.hid (HB2.out.trans (hb3.mono HB2.out.size)); clear hb3))
    go_ret2
    rw [HK.out]
    exact ⟨rfl, HB3.out⟩
end Go.Proofs.YtfnomiingelfaaaGreat
/- Rows with more numbers behind them: words and laws for reduce. -/
namespace Go.Proofs.YtfnomiingelfaaaGreat
open Go.RowKit

def pixB (px : List Int) (m : List (List Int)) (bh : Nat → List Int) : List (List Int) := (List.range m.length).map fun i => pixR px (rowL m i) ++ bh i
theorem pixB_len (px : List Int) (m : List (List Int)) (bh : Nat → List Int) : (pixB px m bh).length = m.length := by simp [pixB]
theorem pixB_succ (px : List Int) {m : List (List Int)} (bh : Nat → List Int) {k : Nat} {r : List Int} (hr : m[k]? = some r) : (pixB px m bh).take k ++ [pixR px r ++ bh k] = (pixB px m bh).take (k + 1) := by
  have hk := (List.getElem?_eq_some_iff.1 hr).1
  rw [List.take_succ_eq_append_getElem (by rw [pixB_len]; exact hk)]
  congr 1
  unfold pixB rowL
  simp [hr]
def redBM (m : List (List Int)) (px : List Int) (bh : Nat → List Int) : Rd := { cols := px.length, rows := pixB px m bh, piv := [], dv := 1 }
def redB (m : List (List Int)) (px : List Int) (bh : Nat → List Int) : Rd := clearN (redBM m px bh) px.length
theorem redBM_ok {m : List (List Int)} {px : List Int} {bh : Nat → List Int} {bn : Nat} (hm : m.length ≤ 6) (hp : px.length ≤ 10) (hn : bn ≤ 6) (h64 : All64 m) (hb : ∀ i, i < m.length → (bh i).length = bn ∧ ∀ x ∈ bh i, In64 x) : RdOk (px.length + bn) (redBM m px bh) ∧ All64 (redBM m px bh).rows := by
  refine ⟨⟨?_, ?_, by omega, ?_, by simp [redBM]⟩, ?_⟩
  · show (pixB px m bh).length ≤ 100; rw [pixB_len]; omega
  · intro q hq
    obtain ⟨i, hi, rfl⟩ := List.mem_map.1 hq
    rw [List.length_append, pixR_len, (hb i (List.mem_range.1 hi)).1]
  · exact Nat.zero_le _
  · intro q hq x hx
    obtain ⟨i, hi, rfl⟩ := List.mem_map.1 hq
    have hi := List.mem_range.1 hi
    rcases List.mem_append.1 hx with hx | hx
    · obtain ⟨j, _, rfl⟩ := List.mem_map.1 hx
      exact gt_in64 (h64 _ (rowL_mem hi)) _
    · exact (hb i hi).2 x hx
def BehF (f : Nat) (cap : Value) (bh : Nat → List Int) (bn n base : Nat) (w0 : World) : Prop := ∀ (W : World) (k : Nat), Below base w0 W → k < n → Calls Tryz.prog f #[.int .i64 (k : Int), cap] W fun e w' => ∃ bb bo bc, e = .returned (.slice (some ⟨bb, bo, none⟩) bn bc) ∧ Sl w' (some ⟨bb, bo, none⟩) (bh k) ∧ Below W.heap.size W w'
theorem step_pushL {ops : Array Oper} {o : Oper} {a : Act} {K : Act → World → Prop} {Q : Exit → Act → World → Prop} {E : Prop} (hgd : o.guard = none) (s x : Operand)
    (ho : o.op = .call { callee := .builtin .append, args := #[s, x], argTypes := #[24, 24] }) (base : Nat) (v : Value) (zs ys : List Int) (W : World) (bb bo bn bc : Nat)
    (hs : a.eval s = v) (hx : a.eval x = .slice (some ⟨bb, bo, none⟩) bn bc) (hbn : ys.length = bn) (hpos : 1 ≤ bn ∧ bn ≤ 100) (hnew : Sl W (some ⟨bb, bo, none⟩) ys) (hown : OwnI W base v zs) (hl : zs.length ≤ 100000) (hbase : base ≤ W.heap.size)
    (h : ∀ g cap w', OwnI w' base (.slice (some ⟨g, 0, none⟩) (zs.length + bn) cap) (zs ++ ys) → W.grownBy w' v.ownBlock → (v.ownBlock = some g ∨ g = W.heap.size) → K (a.put o.dst (.slice (some ⟨g, 0, none⟩) (zs.length + bn) cap)) w') : if Region.wanted o (yielded ops a.tmps) = true then Oper.wp Tryz.prog o a W K Q else E := by
  obtain ⟨i0, hi, hz0, hz1, hz2⟩ := info_parts Tryz.infoInt
  refine step_append_lies W hgd s x 24 ho base 3 i0 (.int .i64 0) 1 8 Tryz.underlying24 hi hz0 hz1 hz2 rfl (by decide) v zs.length (zs.map (Value.int .i64)) hs hown ⟨bb, bo, none⟩ bn bc (ys.map (Value.int .i64)) hx (by simp [hbn]) ?_ ?_ (by omega) (by unfold maxLen; omega) (by omega) hbase W.heap.size rfl ?_
  · exact hnew.news
  · intro u hu; obtain ⟨y, _, rfl⟩ := List.mem_map.1 hu; rfl
  · intro g cap w' h1 h2 h3 _
    refine h g cap w' ?_ h2 h3
    show w'.ownsRow _ _ _ _ _ _
    rw [List.length_append, List.map_append, hbn]; exact h1
theorem grown_drew {V w' : World} {ob : Option Nat} (h : V.grownBy w' ob) : V.drew.grownBy w' ob := ⟨h.os, h.tape, h.output, h.size, h.block⟩
end Go.Proofs.YtfnomiingelfaaaGreat
/- The rows of a reduction laid, with more numbers behind them: the first loop of reduce. -/
namespace Go.Proofs.YtfnomiingelfaaaGreat
open Go.RowKit

set_option maxRecDepth 100000 in
set_option maxHeartbeats 4000000 in
theorem reduce_t2One {bh : Nat → List Int} {bn Cb : Nat} {base B T : Nat} {ma : Option Addr} {m : List (List Int)} {mc : Nat} {pxa : Option Addr} {px : List Int} {pxc : Nat} {w w0 : World} (HBH : Hid (BehF 128 (.pointer (some ⟨Cb, 0, none⟩)) bh bn m.length base w0)) (hbn : 1 ≤ bn ∧ bn ≤ 6) (HBV : Hid (∀ i, i < m.length → (bh i).length = bn ∧ ∀ x ∈ bh i, In64 x)) (hbB : base ≤ B) (hm : Hid (m.length ≤ 6)) (hpx : Hid (px.length ≤ 10)) (hin : Hid (∀ j ∈ px, 0 ≤ j ∧ j < colsM m)) (hrl : Hid (∀ r ∈ m, r.length = colsM m))
    (hms : Hid (∀ {W : World}, Below base w0 W → Ms W ma m)) (hps : Hid (∀ {W : World}, Below base w0 W → Sl W pxa px)) (hB : B < w.heap.size)
    (hbx : Hid (RB B (px.length : Int) (.slice none 0 0) w)) (hb0 : Hid (Below base w0 w)) (hm1 : Hid (1 ≤ m.length)) (h64 : Hid (All64 m)) (hT : T < base) (hTw : T < w0.heap.size) (hTx : Hid (∀ k, k < 4 → (∃ u, w0.cell? ⟨T, k, none⟩ = some u) ∧ w0.frozen? ⟨T, k, none⟩ = false)) (u3 u4 u5 u8 u9 u10 u11 u12 u13 u14 u15 u16 u17 u18 u19 u20 u21 u22 u23 u24 u25 u26 u27 u28 u29 u30 u31 u32 u33 u34 u35 u36 u37 u38 u39 u40 u41 u42 u43 u44 u45 u46 u47 u48 u49 u50 u51 u52 u53 u54 u55 u56 u57 u58 : Value) (R : Ending → World → Prop)
    (hR : Hid (∀ (g cap : Nat) (ads' : List (Nat × Nat)) (pa : Option Addr) (pc : Nat) (W : World), RdW base B g cap ads' (.slice pa (redB m px bh).piv.length pc) (redB m px bh) W → Below base w0 W → R (.returned (rdV g cap pa pc (redB m px bh))) (rdBox T g cap pa pc (redB m px bh) W))) :
    Code.wp Tryz.prog (seqTail 2 ((Tryz.f90.body).getD .skip)) (bodyPost Tryz.prog Tryz.f90 R) { tmps := #[.slice ma m.length mc, .slice pxa px.length pxc, .func (.func 128) #[] #[.pointer (some ⟨Cb, 0, none⟩)], u3, u4, u5, .pointer (some ⟨T, 0, none⟩), .pointer (some ⟨B, 0, none⟩), u8, u9, u10, u11, u12, u13, u14, u15, u16, u17, u18, u19, u20, u21, u22, u23, u24, u25, u26, u27, u28, u29, u30, u31, u32, u33, u34, u35, u36, u37, u38, u39, u40, u41, u42, u43, u44, u45, u46, u47, u48, u49, u50, u51, u52, u53, u54, u55, u56, u57, u58], defers := [] } w := by
  conv => arg 2; whnf
  refine wp_seq_k (fun K hK => ?_)
  have HK := Lib.hid hK; clear hK
  obtain ⟨i0, hi, hz0, hz1, hz2⟩ := info_parts Tryz.infoInt
  go_wp2
  go_loopw [19] (fun i wr => ∃ (k : Nat) (rv : Value) (ads : List (Nat × Nat)), k ≤ m.length ∧ i = .int .i64 k ∧ Hid (RS base rv ads ((pixB px m bh).take k) wr) ∧ Hid (RB B (px.length : Int) rv wr) ∧ Hid (rv.ownBlock ≠ some B ∧ ∀ (i : Nat) (x : Nat × Nat), ads[i]? = some x → x.1 ≠ B) ∧ Below base w0 wr ∧ B < wr.heap.size) (fun i _ => m.length - (intOf i).toNat)
  case atStart => exact ⟨0, _, [], Nat.zero_le _, rfl, ⟨rfl, World.ownsRow_nil _ _ _ _, fun i x r h => by simp at h, fun i j x y h => by simp at h, fun i x h => by simp at h⟩, hbx, ⟨by simp [Value.ownBlock], fun i x h => by simp at h⟩, hb0.out, hB⟩
  case round =>
    obtain ⟨k, rv, ads, hk, rfl, HRS, HBX, HNE, hbl, hBl⟩ := hrel
    have HBL := Lib.hid hbl; clear hbl
    by_cases hlt : k < m.length
    · obtain ⟨b1, o1, ai, r, ci, rfl, hcell, hsl, HR⟩ := (hms.out HBL.out).at hlt
      have HSL := Lib.hid hsl; clear hsl
      have hbw : base ≤ wr.heap.size := by omega
      go_wp2_with (with_reducible refine wpList_make_own _ rfl (.const (.int .i64 0)) (.const (.int .i64 20)) 24 rfl wr.heap.size 3 i0 (.int .i64 0) 1 Tryz.underlying24 hi hz0 hz1 .i64 .i64 20 20 rfl rfl rfl (by rw [hz2]; omega) (by unfold maxLen; omega) (Nat.le_refl _) ?_)
      rotate_left
      intro w4 hown hgrow
      have HO4 : Hid (OwnI w4 wr.heap.size (.slice (some ⟨wr.heap.size, 0, none⟩) 0 20) []) := hown
      have HB4 : Hid (Below wr.heap.size wr w4) := (Below.refl _ _).grown hgrow (Nat.le_refl _) (fun k e => by cases e)
      clear hown hgrow
      obtain ⟨G, hG⟩ : ∃ G, wr.heap.size = G := ⟨_, rfl⟩
      rw [hG] at HO4 HB4
      have HGB : Hid (∀ {W : World}, Below G wr W → Below wr.heap.size wr W) := fun h => by rw [hG]; exact h
      rw [hG]
      have HGS : Hid (∀ {W : World}, Below G wr W → G ≤ W.heap.size) := fun h => by have := h.size; omega
      have hGb : base ≤ G := by omega
      have HGE := Lib.hid hG
      clear hG
      have hpx10 : px.length ≤ 10 := hpx.out
      go_wp2
      obtain ⟨wo, hwo⟩ : ∃ wo, wo = wr := ⟨_, rfl⟩
      subst hwo
      go_loopw [10, 27] (fun v i wq => ∃ j : Nat, j ≤ px.length ∧ i = .int .i64 j ∧ OwnI wq G v ((pixR px r).take j) ∧ Below G wo wq ∧ ∃ b c, v = .slice (some ⟨b, 0, none⟩) j c) (fun _ i _ => px.length - (intOf i).toNat)
      case atStart => exact ⟨0, Nat.zero_le _, rfl, HO4.out, HB4.out, _, _, rfl⟩
      case round =>
        clear HO4 HB4
        obtain ⟨j, hj, rfl, hO, hB, nb, nc, hvv⟩ := hrel
        subst hvv
        have HO := Lib.hid hO; clear hO
        have HB := Lib.hid hB; clear hB
        have HBq : Hid (Below base w0 wr) := HBL.out.trans (HB.out.mono hGb)
        by_cases hlj : j < px.length
        · obtain ⟨pb, po, v, rfl, hcv, HV⟩ := (hps.out HBq.out).at hlj
          have hvr := hin.out v (List.mem_of_getElem? HV.out)
          have HRC : Hid (r.length = colsM m) := hrl.out r (List.mem_of_getElem? HR.out)
          obtain ⟨q, rfl⟩ := Int.eq_ofNat_of_zero_le hvr.1
          have hq : q < r.length := by have := HRC.out; omega
          obtain ⟨rb, ro, x, rfl, hcx, HX⟩ := (HSL.out.below (HGB.out HB.out)).at hq
          have HT : Hid ((pixR px r).take (j + 1) = (pixR px r).take j ++ [x]) := by show _ = _; rw [pixR_succ HV.out, Int.toNat_natCast, gt_some' HX.out]
          have HTL : Hid (((pixR px r).take j).length = j) := by show _ = _; rw [List.length_take, pixR_len]; omega
          obtain ⟨TT, hTT⟩ : ∃ TT, (pixR px r).take j = TT := ⟨_, rfl⟩
          rw [hTT] at HO HT HTL
          clear hvr hTT
          go_wp2_with (at_builtin; go_must (refine wpList_pushG0 rfl (.tmp 31) (.tmp 36) rfl G _ TT _ _ _ _ rfl rfl rfl HO.out (by rw [HTL.out]; omega) (HGS.out HB.out) ?_); intro g7 c7 w9 ho' _ hb' _)
          go_roundw
          case rel => exact ⟨j + 1, by omega, by go_num, by rw [HT.out]; exact ho', HB.out.trans hb', g7, c7, by rw [HTL.out]⟩
          case measure => simp [intOf]; omega
        · obtain rfl : j = px.length := by omega
          rw [List.take_of_length_le (by rw [pixR_len]; exact Nat.le_refl _)] at HO
          have HPXL : Hid (px.length = (pixR px r).length) := (pixR_len px r).symm
          rw [HPXL.out] at HO
          rw [show Value.slice (some ⟨nb, 0, none⟩) px.length nc = Value.slice (some ⟨nb, 0, none⟩) (pixR px r).length nc by rw [pixR_len]]
          have hBG : B < G := by have := HGE.out; omega
          have HCB : Hid (∀ {W : World}, Below G wo W → W.cell? ⟨B, 1, none⟩ = some rv ∧ W.frozen? ⟨B, 1, none⟩ = false ∧ RB B (px.length : Int) rv W ∧ RS base rv ads ((pixB px m bh).take k) W ∧ B < W.heap.size) := fun h => ⟨(h.cell (p := ⟨B, 1, none⟩) hBG).trans HBX.out.c1, (h.frozen (p := ⟨B, 1, none⟩) hBG).trans HBX.out.f1, HBX.out.kept (h.block B hBG), HRS.out.below (HGB.out h), Nat.lt_of_lt_of_le hBG (HGS.out h)⟩
          have HKK : Hid (((pixB px m bh).take k).length = k) := by show _ = _; rw [List.length_take, pixB_len]; omega
          obtain ⟨Mk, hMk⟩ : ∃ Mk, (pixB px m bh).take k = Mk := ⟨_, rfl⟩
          have HMT : Hid (Mk ++ [pixR px r ++ bh k] = (pixB px m bh).take (k + 1)) := by show _ = _; rw [← hMk]; exact pixB_succ px bh HR.out
          rw [hMk] at HCB HKK
          have HMK := Lib.hid hMk
          clear hMk
          have cB := (HCB.out HB.out).1
          have fB := (HCB.out HB.out).2.1
          have HBQ : Hid (Below base w0 wr) := HBL.out.trans (HB.out.mono hGb)
          have HBR := Lib.hid (HBV.out k hlt)
          have HCA : Hid (∀ W, Below base w0 W → Calls Tryz.prog 128 #[.int .i64 (k : Int), .pointer (some ⟨Cb, 0, none⟩)] W fun e w' => ∃ bb bo bc, e = .returned (.slice (some ⟨bb, bo, none⟩) bn bc) ∧ Sl w' (some ⟨bb, bo, none⟩) (bh k) ∧ Below W.heap.size W w') := fun W hW => HBH.out W k hW hlt
          go_wp2
          have hk6 : m.length ≤ 6 := hm.out
          have hMk : Mk.length ≤ 1000 := by rw [HKK.out]; omega
          have hp10 : (pixR px r).length ≤ 100000 := by rw [pixR_len]; omega
          have HLE : Hid ((pixR px r ++ bh k).length = (pixR px r).length + bn) := by show _ = _; rw [List.length_append, HBR.out.1]
          have HFAR : Hid (∀ g2, G ≤ g2 → (∀ (i : Nat) (x : Nat × Nat), ads[i]? = some x → x.1 ≠ g2) ∧ rv.ownBlock ≠ some g2 ∧ B < g2) := fun g2 hg2 => by
            have e1 := HGE.out
            refine ⟨fun i x e => ?_, fun e => ?_, by omega⟩
            · have := (HRS.out.out i x e).2.1; omega
            · have := (World.ownsRow.lt HRS.out.own g2 e).2; omega
          go_region_law (first | (go_simp; go_at_call 128; refine (HCA.out _ HBQ.out.drew).mono ?_; rintro e wz ⟨bb, bo, bc, rfl, hsz, hbz⟩; have HBZ : Hid (Below G wo wz) := HB.out.drew.trans (hbz.mono (HGS.out HB.out.drew)); have HSZ := Lib.hid hsz; have HOZ := Lib.hid (OwnI.below (OwnI.drew HO.out) hbz); have cz := (HCB.out HBZ.out).1; have fz := (HCB.out HBZ.out).2.1; clear hsz hbz) | (refine step_pushL rfl (.tmp 41) (.tmp 44) rfl G (.slice (some ⟨nb, 0, none⟩) (pixR px r).length nc) (pixR px r) (bh k) wz bb bo bn bc (by rfl) (by rfl) HBR.out.1 (by omega) HSZ.out HOZ.out hp10 (HGS.out HBZ.out) ?_; intro g2 cp2 w8 ho8 hg8 hat8; have HG2 : Hid (G ≤ g2) := (OwnI.lt ho8).2; have HB8 : Hid (Below G wo w8) := HBZ.out.grown hg8 (HGS.out HBZ.out) (fun k e => (World.ownsRow.lt HOZ.out k e).1); have HR8 : Hid (OwnI w8 base (.slice (some ⟨g2, 0, none⟩) (pixR px r ++ bh k).length cp2) (pixR px r ++ bh k)) := HLE.out.symm ▸ ho8.mono hGb; have c8 := (HCB.out HB8.out).1; have f8 := (HCB.out HB8.out).2.1; have ca8 : ∀ o, (w8.alloc o).cell? ⟨B, 1, none⟩ = some rv := fun o => (HCB.out (HB8.out.alloc (HGS.out HB8.out) o)).1; clear ho8 hg8 hat8) | (refine step_pushRow rfl (.tmp 40) (.tmp 46) rfl base rv ads Mk (pixR px r ++ bh k) g2 cp2 _ _ (by rfl) (by rfl) (by rw [HLE.out]; go_simp) ((HCB.out HB8.out).2.2.2.1.below ((Below.refl _ _).alloc (Nat.le_refl _) _)) (HR8.out.below ((Below.refl _ _).alloc (Nat.le_refl _) _)) (HFAR.out g2 HG2.out).1 (HFAR.out g2 HG2.out).2.1 hMk (by simp; have := HGS.out HB8.out; omega) ?_; intro G2 cp3 w9 ho9 hg9 hat9; have hk9 := (hg9.block B (by simp; have := (HCB.out HB8.out).2.2.2.2; omega) (fun e => HNE.out.1 e.symm)).trans (((Below.refl w8.heap.size w8).alloc (Nat.le_refl _) _).block B (HCB.out HB8.out).2.2.2.2); have c9 := (cell_of_block hk9 1).trans c8; have f9 := (frozen_of_block' hk9 1).trans f8; have HB9 := Lib.hid ((HCB.out HB8.out).2.2.1.kept hk9)))
          all_goals
            have hgd := grown_drew hg9
            have key := rs_pushed (HBL.out.trans (HB8.out.mono hGb)) hbB (HCB.out HB8.out).2.2.2.2 (HCB.out HB8.out).2.2.2.1 HNE.out (HFAR.out g2 HG2.out).2.2 ho9 hgd hat9 HB9.out
            have KEY := Lib.hid key
            clear key ho9 hg9 hat9 hk9 c9 f9 hgd ca8 c8 f8 cz fz cB fB
            go_wp2
            go_roundw
            case rel => exact ⟨k + 1, _, ads ++ [(g2, cp2)], hlt, by go_num, HMT.out ▸ KEY.out.1, KEY.out.2.1, KEY.out.2.2.1, KEY.out.2.2.2.1, KEY.out.2.2.2.2⟩
            case measure => simp [intOf]; omega
    · obtain rfl : k = m.length := by omega
      have HOK := Lib.hid (redBM_ok hm.out hpx.out hbn.2 h64.out HBV.out)
      have hRS := HRS.out
      rw [List.take_of_length_le (by rw [pixB_len]; exact Nat.le_refl _)] at hRS
      obtain ⟨g, cap, rfl, hgc, hW⟩ := hRS.reduction (by rw [pixB_len]; exact hm1.out) hbB HNE.out HBX.out
      have HWW : Hid (RdW base B g cap ads (.slice none 0 0) (redBM m px bh) wr) := hW
      have HGC := Lib.hid hgc
      clear hW hRS hgc
      go_wp2
      refine HK.out _ _ ?_
      refine reduce_t3 (N := px.length + bn) (r := redBM m px bh) hT hTw HOK.out.1 HOK.out.2 (Nat.le_add_right _ _) (by have := hpx.out; omega) HGC.out hTx HWW HBL _ _ _ _ _ _ _ _ _ _ _ _ _ _ _ _ _ _ _ _ _ _ _ _ _ _ _ _ _ _ _ _ _ _ _ _ _ _ _ _ _ _ _ _ _ _ _ _ _ _ _ _ _ _ _ _ R (hR.out g cap)
end Go.Proofs.YtfnomiingelfaaaGreat
/- reduce and reduceAll with more numbers behind the rows: contracts. -/
namespace Go.Proofs.YtfnomiingelfaaaGreat
open Go.RowKit

set_option maxRecDepth 100000 in
theorem reduce_any0One {bh : Nat → List Int} {bn Cb : Nat} {ma : Option Addr} {m : List (List Int)} {mc : Nat} {pxa : Option Addr} {px : List Int} {pxc : Nat} {w : World} (HBH : Hid (BehF 128 (.pointer (some ⟨Cb, 0, none⟩)) bh bn m.length w.heap.size w)) (hbn : 1 ≤ bn ∧ bn ≤ 6) (HBV : Hid (∀ i, i < m.length → (bh i).length = bn ∧ ∀ x ∈ bh i, In64 x)) (hm : Hid (m.length ≤ 6)) (hm1 : Hid (1 ≤ m.length)) (hpx : Hid (px.length ≤ 10)) (hin : Hid (∀ j ∈ px, 0 ≤ j ∧ j < colsM m)) (hrl : Hid (∀ r ∈ m, r.length = colsM m)) (h64 : Hid (All64 m))
    (hms : Hid (Ms w ma m)) (hps : Hid (Sl w pxa px)) :
    Calls Tryz.prog 90 #[.slice ma m.length mc, .slice pxa px.length pxc, .func (.func 128) #[] #[.pointer (some ⟨Cb, 0, none⟩)]] w (RdPost (redB m px bh) w) := by
  go_enter Tryz.func90, Tryz.ntmps90
  refine wp_seq_k (fun K hK => ?_)
  have HK := Lib.hid hK; clear hK
  go_wp2
  refine HK.out _ _ ?_
  clear HK
  refine wp_seq_k (fun K hK => ?_)
  have HK := Lib.hid hK; clear hK
  go_wp2
  refine HK.out _ _ ?_
  clear HK
  refine reduce_t2One (bh := bh) (bn := bn) (base := w.heap.size + 1) (T := w.heap.size) ?_ hbn HBV (Nat.le_refl _) hm hpx hin hrl ?_ ?_ ?_ ?_ (Below.refl _ _) hm1 h64 (Nat.lt_succ_self _) ?_ ?_ _ _ _ _ _ _ _ _ _ _ _ _ _ _ _ _ _ _ _ _ _ _ _ _ _ _ _ _ _ _ _ _ _ _ _ _ _ _ _ _ _ _ _ _ _ _ _ _ _ _ _ _ _ _ _ ?_
  · exact fun W k hb hk => HBH.out W k ((two_new w _ _).trans (hb.mono (Nat.le_succ _))) hk
  · exact fun hb => hms.out.below ((two_new w _ _).trans (hb.mono (Nat.le_succ _)))
  · exact fun hb => hps.out.below ((two_new w _ _).trans (hb.mono (Nat.le_succ _)))
  · rw [World.size_alloc, World.size_alloc]; omega
  · exact rb_new w _ _ _
  · rw [World.size_alloc, World.size_alloc]; omega
  · exact rt_new w _ _ _ _ _ _
  · exact fun g cap ads pa pc W h hb => rdPost_of (two_new w _ _) h hb
set_option maxRecDepth 100000 in
theorem reduceAll_anyOne {bh : Nat → List Int} {bn Cb : Nat} {ma : Option Addr} {m : List (List Int)} {mc : Nat} {w : World} (HBH : Hid (BehF 128 (.pointer (some ⟨Cb, 0, none⟩)) bh bn m.length w.heap.size w)) (hbn : 1 ≤ bn ∧ bn ≤ 6) (HBV : Hid (∀ i, i < m.length → (bh i).length = bn ∧ ∀ x ∈ bh i, In64 x)) (hm : Hid (m.length ≤ 6)) (hm1 : Hid (1 ≤ m.length)) (hc : Hid (1 ≤ colsM m ∧ colsM m ≤ 10)) (hrl : Hid (∀ r ∈ m, r.length = colsM m)) (h64 : Hid (All64 m)) (hms : Hid (Ms w ma m)) :
    Calls Tryz.prog 99 #[.slice ma m.length mc, .func (.func 128) #[] #[.pointer (some ⟨Cb, 0, none⟩)]] w (RdPost (redB m (upTo (colsM m)) bh) w) := by
  obtain ⟨n, hn⟩ : ∃ n, colsM m = n := ⟨_, rfl⟩
  have HN := Lib.hid hn
  rw [hn] at hc hrl
  clear hn
  go_enter Tryz.func99, Tryz.ntmps99
  have HB0 : Hid (∀ o, Below (w.heap.size + 1) (w.alloc o) (w.alloc o)) := fun o => Below.refl _ _
  have HBA : Hid (∀ o, Below w.heap.size w (w.alloc o)) := fun o => (Below.refl _ _).alloc (Nat.le_refl _) _
  have h0 : 0 < m.length := hm1.out
  obtain ⟨b1, o1, ai, r, ci, rfl, hcell, hsl, HR⟩ := hms.out.at h0
  have hcell' : ∀ o, (w.alloc o).cell? ⟨b1, o1, none⟩ = some (.slice ai r.length ci) := fun o => ((HBA.out o).cell (p := ⟨b1, o1, none⟩) (cell_lt hcell)).trans hcell
  have hrn : r.length = n := hrl.out r (List.mem_of_getElem? HR.out)
  rw [hrn] at hcell'
  clear hcell
  have hn10 := hc.out.2
  go_wp2
  go_loopw [5, 11] (fun v i wr => ∃ j : Nat, j ≤ n ∧ i = .int .i64 j ∧ OwnI wr (w.heap.size + 1) v (upTo j) ∧ Below (w.heap.size + 1) (w.alloc (.cells #[.int .i64 0, .slice none 0 0, .slice none 0 0, .int .i64 0] 113)) wr) (fun _ i _ => n - (intOf i).toNat)
  case atStart => exact ⟨0, Nat.zero_le _, rfl, OwnI.nil _ _, Below.refl _ _⟩
  case round =>
    obtain ⟨j, hj, rfl, hO, hB⟩ := hrel
    have HO := Lib.hid hO; clear hO
    have HB := Lib.hid hB; clear hB
    have hsz : (w.alloc (.cells #[.int .i64 0, .slice none 0 0, .slice none 0 0, .int .i64 0] 113)).heap.size = w.heap.size + 1 := World.size_alloc _ _
    have HSZ : Hid (w.heap.size + 1 ≤ wr.heap.size) := by have := HB.out.size; show _ ≤ _; omega
    clear hsz hcell'
    by_cases hlt : j < n
    · go_wp2_with (at_builtin; go_must (refine wpList_push rfl (.tmp 14) (.tmp 16) rfl (w.heap.size + 1) _ (upTo j) _ _ _ _ rfl rfl rfl HO.out (by rw [upTo_len]; omega) HSZ.out ?_); intro v' w9 ho' hb')
      go_roundw
      case rel => exact ⟨j + 1, by omega, by go_num, by rw [upTo_succ]; exact ho', HB.out.trans hb'⟩
      case measure => simp [intOf]; omega
    · obtain rfl : j = n := by omega
      have HBW : Hid (Below w.heap.size w wr) := (HBA.out _).trans (HB.out.mono (Nat.le_succ _))
      obtain ⟨pa, pc, rfl, hps⟩ := HO.out.any
      have HPS := Lib.hid hps; clear hps
      have HMS : Hid (Ms wr (some ⟨b1, o1, none⟩) m) := hms.out.below HBW.out
      have HT0 : Hid (wr.cell? ⟨w.heap.size, 0, none⟩ = some (.int .i64 0) ∧ wr.frozen? ⟨w.heap.size, 0, none⟩ = false) := ⟨(HB.out.cell (p := ⟨w.heap.size, 0, none⟩) (Nat.lt_succ_self _)).trans (alloc_cell w _ _ _ _ rfl), (HB.out.frozen (p := ⟨w.heap.size, 0, none⟩) (Nat.lt_succ_self _)).trans (by simp)⟩
      have HT1 : Hid (wr.cell? ⟨w.heap.size, 1, none⟩ = some (.slice none 0 0) ∧ wr.frozen? ⟨w.heap.size, 1, none⟩ = false) := ⟨(HB.out.cell (p := ⟨w.heap.size, 1, none⟩) (Nat.lt_succ_self _)).trans (alloc_cell w _ _ _ _ rfl), (HB.out.frozen (p := ⟨w.heap.size, 1, none⟩) (Nat.lt_succ_self _)).trans (by simp)⟩
      have HT2 : Hid (wr.cell? ⟨w.heap.size, 2, none⟩ = some (.slice none 0 0) ∧ wr.frozen? ⟨w.heap.size, 2, none⟩ = false) := ⟨(HB.out.cell (p := ⟨w.heap.size, 2, none⟩) (Nat.lt_succ_self _)).trans (alloc_cell w _ _ _ _ rfl), (HB.out.frozen (p := ⟨w.heap.size, 2, none⟩) (Nat.lt_succ_self _)).trans (by simp)⟩
      have HT3 : Hid (wr.cell? ⟨w.heap.size, 3, none⟩ = some (.int .i64 0) ∧ wr.frozen? ⟨w.heap.size, 3, none⟩ = false) := ⟨(HB.out.cell (p := ⟨w.heap.size, 3, none⟩) (Nat.lt_succ_self _)).trans (alloc_cell w _ _ _ _ rfl), (HB.out.frozen (p := ⟨w.heap.size, 3, none⟩) (Nat.lt_succ_self _)).trans (by simp)⟩
      have hlw : Hid (w.heap.size < wr.heap.size) := HSZ.out
      have HBC : Hid (BehF 128 (.pointer (some ⟨Cb, 0, none⟩)) bh bn m.length wr.heap.size wr) := fun W k hb hk => HBH.out W k (HBW.out.trans (hb.mono HBW.out.size)) hk
      have HPX : Hid (1 ≤ (upTo j).length ∧ (upTo j).length ≤ 10) := by rw [upTo_len]; exact hc.out
      have HIN : Hid (∀ q ∈ upTo j, 0 ≤ q ∧ q < colsM m) := fun q hq => by rw [HN.out]; exact upTo_in hq
      have HRL : Hid (∀ r ∈ m, r.length = colsM m) := fun r hr => by rw [HN.out]; exact hrl.out r hr
      go_wp2_with (go_at_call 90; refine (reduce_any0One HBC hbn HBV hm hm1 (Lib.hid HPX.out.2) HIN HRL h64 HMS HPS).mono ?_; rintro e w2 ⟨hb2, g, cap, ads, pa2, pc2, rfl, hgg, si, pi⟩; unfold rdV; have t0 := (hb2.cell (p := ⟨w.heap.size, 0, none⟩) hlw.out).trans HT0.out.1; have z0 := (hb2.frozen (p := ⟨w.heap.size, 0, none⟩) hlw.out).trans HT0.out.2; have t1 := (hb2.cell (p := ⟨w.heap.size, 1, none⟩) hlw.out).trans HT1.out.1; have z1 := (hb2.frozen (p := ⟨w.heap.size, 1, none⟩) hlw.out).trans HT1.out.2; have t2 := (hb2.cell (p := ⟨w.heap.size, 2, none⟩) hlw.out).trans HT2.out.1; have z2 := (hb2.frozen (p := ⟨w.heap.size, 2, none⟩) hlw.out).trans HT2.out.2; have t3 := (hb2.cell (p := ⟨w.heap.size, 3, none⟩) hlw.out).trans HT3.out.1; have z3 := (hb2.frozen (p := ⟨w.heap.size, 3, none⟩) hlw.out).trans HT3.out.2)
      refine bodyPost_ret_by (v := rdV g cap pa2 pc2 (redB m (upTo j) bh)) ?_ rfl (by rw [HN.out]; exact rdPost_box rfl hlw.out HBW.out hb2 hgg si pi)
      rw [results_cell_one' rfl]
      unfold rdV
      go_simp
end Go.Proofs.YtfnomiingelfaaaGreat
/- oneOf, and reduceAll with it: contracts. -/
namespace Go.Proofs.YtfnomiingelfaaaGreat
open Go.RowKit

def oneB (y : List Int) (i : Nat) : List Int := [gt y i]
theorem oneB_ok {y : List Int} {n : Nat} (h64 : ∀ x ∈ y, In64 x) : ∀ i, i < n → (oneB y i).length = 1 ∧ ∀ x ∈ oneB y i, In64 x := by
  intro i _
  refine ⟨rfl, fun x hx => ?_⟩
  rw [List.mem_singleton.1 hx]
  exact gt_in64 h64 i
theorem oneOf_any (ya : Option Addr) (n yc : Nat) (w : World) :
    Calls Tryz.prog 94 #[.slice ya n yc] w fun e w' => e = .returned (.func (.func 128) #[] #[.pointer (some ⟨w.heap.size, 0, none⟩)]) ∧ w' = w.alloc (.cells #[.slice ya n yc] 24) := by
  go_enter Tryz.func94, Tryz.ntmps94
  go_wp2
  go_ret
  exact ⟨rfl, rfl⟩
theorem oneOf1_any (Cb : Nat) (ya : Option Addr) (y : List Int) (yc k : Nat) (w : World) (hk : k < y.length) (_hl : y.length ≤ 1000) (hc : w.cell? ⟨Cb, 0, none⟩ = some (.slice ya y.length yc)) (hs : Sl w ya y) :
    Calls Tryz.prog 128 #[.int .i64 (k : Int), .pointer (some ⟨Cb, 0, none⟩)] w fun e w' => ∃ bb bo bc, e = .returned (.slice (some ⟨bb, bo, none⟩) 1 bc) ∧ Sl w' (some ⟨bb, bo, none⟩) (oneB y k) ∧ Below w.heap.size w w' := by
  obtain ⟨b, o, x, rfl, hcx, hx⟩ := hs.at hk
  have HG := Lib.hid (gt_some' hx.out)
  have hk0 : (k : Int) < (y.length : Int) := by omega
  go_enter Tryz.func128, Tryz.ntmps128
  go_wp2
  go_ret
  refine ⟨_, _, _, rfl, fun j hj => ?_, (Below.refl _ _).alloc (Nat.le_refl _) _⟩
  obtain rfl : j = 0 := by simp [oneB] at hj; omega
  refine ⟨w.heap.size, 0, rfl, ?_⟩
  rw [show (oneB y k)[0]?.getD 0 = x from HG.out]
  exact alloc_cell _ _ _ _ _ rfl
theorem one_beh {Cb : Nat} {ya : Option Addr} {y : List Int} {yc n : Nat} {w : World} (hn : n ≤ y.length) (hl : y.length ≤ 1000) (hc : w.cell? ⟨Cb, 0, none⟩ = some (.slice ya y.length yc)) (hs : Sl w ya y) :
    BehF 128 (.pointer (some ⟨Cb, 0, none⟩)) (oneB y) 1 n w.heap.size w := fun W k hb hk =>
  oneOf1_any Cb ya y yc k W (by omega) hl ((hb.cell (p := ⟨Cb, 0, none⟩) (cell_lt hc)).trans hc) (hs.below hb)
end Go.Proofs.YtfnomiingelfaaaGreat
/- The methods of a reduction that look behind its rows: contracts. -/
namespace Go.Proofs.YtfnomiingelfaaaGreat
open Go.RowKit

theorem sl_drop {w : World} {b : Nat} {xs : List Int} (h : Sl w (some ⟨b, 0, none⟩) xs) (c : Nat) : Sl w (some ⟨b, c, none⟩) (xs.drop c) := by
  intro k hk
  have hk2 : c + k < xs.length := by rw [List.length_drop] at hk; omega
  obtain ⟨b', o', e, hc⟩ := h (c + k) hk2
  cases e
  refine ⟨b, c, rfl, ?_⟩
  rw [Nat.zero_add] at hc
  rw [hc, List.getElem?_drop]
set_option maxRecDepth 1000000 in
set_option maxHeartbeats 1600000 in
theorem behind_any (cols g cap N : Nat) (ads : List (Nat × Nat)) (M : List (List Int)) (pa : Option Addr) (pn pc : Nat) (dv : Int) (row base : Nat) (w : World) (hrow : row < M.length) (hN : (rowL M row).length = N) (hc : cols < N) (hs : SI w base g ads M) :
    Calls Tryz.prog 130 #[RdV cols g M.length cap (.slice pa pn pc) dv, .int .i64 (row : Int)] w fun e w' => Below w.heap.size w w' ∧ ∃ b c, e = .returned (.slice (some b) (N - cols) c) ∧ Sl w' (some b) ((rowL M row).drop cols) := by
  have hx : M[row]? = some (rowL M row) := by unfold rowL; simp [hrow]
  obtain ⟨x, hxa⟩ : ∃ x, ads[row]? = some x := ⟨ads[row]'(by rw [hs.len]; exact hrow), by simp [hs.len, hrow]⟩
  obtain ⟨xb, xc⟩ := x
  obtain ⟨hh, hro⟩ := hs.row row (xb, xc) _ hxa hx
  dsimp only at hh hro
  have hcap := OwnI.cap_le hro
  rw [hN] at hh hcap
  have HSR := Lib.hid hro.sl
  have hgl : g < w.heap.size := cell_lt hh
  have hne : xc ≠ cols := by omega
  have hrow0 : (row : Int) < (M.length : Int) := by omega
  have HD : Hid (((rowL M row).drop cols).length = N - cols) := by show _ = _; rw [List.length_drop, hN]
  have HNN := Lib.hid hN
  obtain ⟨n, hn⟩ : ∃ n, M.length = n := ⟨_, rfl⟩
  rw [hn] at hrow0 hrow ⊢
  clear hs hx hxa hro hN hn
  unfold RdV
  have HB0 : Hid (∀ o, Below w.heap.size w (w.alloc o)) := fun o => (Below.refl _ _).alloc (Nat.le_refl _) o
  obtain ⟨V, hV⟩ : ∃ V, w.alloc (.cells #[.int .i64 (cols : Int), .slice (some ⟨g, 0, none⟩) n cap, .slice pa pn pc, .int .i64 dv] 113) = V := ⟨_, rfl⟩
  have HBV : Hid (Below w.heap.size w V) := by rw [← hV]; exact HB0.out _
  have c0 : V.cell? ⟨w.heap.size, 0, none⟩ = some (.int .i64 (cols : Int)) := by rw [← hV]; exact alloc_cell _ _ _ _ _ rfl
  have c1 : V.cell? ⟨w.heap.size, 1, none⟩ = some (.slice (some ⟨g, 0, none⟩) n cap) := by rw [← hV]; exact alloc_cell _ _ _ _ _ rfl
  have hh2 : V.cell? ⟨g, row, none⟩ = some (.slice (some ⟨xb, 0, none⟩) N xc) := (HBV.out.cell (p := ⟨g, row, none⟩) hgl).trans hh
  go_enter Tryz.func130, Tryz.ntmps130
  go_wp2
  clear hV
  go_region_held_law (fun w' => w'.cell? ⟨w.heap.size, 0, none⟩ = some (.int .i64 (cols : Int)) ∧ w'.cell? ⟨w.heap.size, 1, none⟩ = some (.slice (some ⟨g, 0, none⟩) n cap) ∧ w'.cell? ⟨g, row, none⟩ = some (.slice (some ⟨xb, 0, none⟩) N xc)) (first | exact ⟨by assumption, by assumption, by assumption⟩ | go_keep) (fail)
  go_wp2
  go_ret
  exact ⟨HBV.out.drew, _, _, rfl, (sl_drop HSR.out cols).below HBV.out.drew⟩
def possB (M : List (List Int)) (k cols : Nat) : Bool := (List.range M.length).all fun x => decide (x < k) || allZ ((rowL M x).drop cols)
theorem possB_no {M : List (List Int)} {k cols x : Nat} (h1 : k ≤ x) (h2 : x < M.length) (h : allZ ((rowL M x).drop cols) = false) : possB M k cols = false := by
  unfold possB
  rw [List.all_eq_false]
  exact ⟨x, List.mem_range.2 h2, by simp [h]; omega⟩
theorem possB_yes {M : List (List Int)} {k cols : Nat} (h : ∀ x, k ≤ x → x < M.length → allZ ((rowL M x).drop cols) = true) : possB M k cols = true := by
  unfold possB
  rw [List.all_eq_true]
  intro x hx
  by_cases e : x < k
  · simp [e]
  · rw [h x (by omega) (List.mem_range.1 hx), Bool.or_true]
set_option maxRecDepth 1000000 in
set_option maxHeartbeats 1600000 in
theorem possible_any (cols g cap N : Nat) (ads : List (Nat × Nat)) (M : List (List Int)) (pa : Option Addr) (pn pc : Nat) (pz : List Int) (dv : Int) (base : Nat) (w : World) (hpn : pz.length = pn) (hpM : pn ≤ M.length) (hM : M.length ≤ 100) (hN : ∀ q ∈ M, q.length = N) (hc : cols < N) (hN1 : N ≤ 100) (hs : SI w base g ads M) :
    Calls Tryz.prog 95 #[RdV cols g M.length cap (.slice pa pn pc) dv] w fun e w' => e = .returned (.bool (possB M pn cols)) ∧ Below w.heap.size w w' := by
  have HS := Lib.hid hs; clear hs
  have HBE : Hid (∀ W k, Below w.heap.size w W → k < M.length → Calls Tryz.prog 130 #[.agg #[.int .i64 (cols : Int), .slice (some ⟨g, 0, none⟩) M.length cap, .slice pa pn pc, .int .i64 dv], .int .i64 (k : Int)] W fun e w' => Below W.heap.size W w' ∧ ∃ b c, e = .returned (.slice (some b) (N - cols) c) ∧ Sl w' (some b) ((rowL M k).drop cols)) := fun W k hb hk => behind_any cols g cap N ads M pa pn pc dv k base W hk (hN _ (rowL_mem hk)) hc (HS.out.below hb)
  have HCN : Hid (∀ (W : World) k b c, k < M.length → Sl W (some b) ((rowL M k).drop cols) → Calls Tryz.prog 129 #[.slice (some b) (N - cols) c, .func (.func 131) #[] #[]] W fun e w' => e = .returned (.bool (!allZ ((rowL M k).drop cols))) ∧ W = w') := fun W k b c hk h => by
    have hl : ((rowL M k).drop cols).length = N - cols := by rw [List.length_drop, hN _ (rowL_mem hk)]
    have h := containsNZ_any (some b) ((rowL M k).drop cols) c W (by rw [hl]; omega) h
    rw [hl] at h
    exact h
  have HRA : Hid (∀ W, Calls Tryz.prog 92 #[.agg #[.int .i64 (cols : Int), .slice (some ⟨g, 0, none⟩) M.length cap, .slice pa pn pc, .int .i64 dv]] W fun e w' => e = .returned (.int .i64 (pn : Int)) ∧ Below W.heap.size W w') := fun W => by
    have h := rank_any cols g M.length cap pa pz pc dv W
    unfold RdV at h
    rw [hpn] at h
    exact h
  obtain ⟨n, hn⟩ : ∃ n, M.length = n := ⟨_, rfl⟩
  have HNL := Lib.hid hn
  rw [hn] at hpM hM HBE HCN HRA ⊢
  clear hn hN hpn
  unfold RdV
  have HB0 : Hid (∀ o, Below w.heap.size w (w.alloc o)) := fun o => (Below.refl _ _).alloc (Nat.le_refl _) o
  obtain ⟨V, hV⟩ : ∃ V, w.alloc (.cells #[.int .i64 (cols : Int), .slice (some ⟨g, 0, none⟩) n cap, .slice pa pn pc, .int .i64 dv] 113) = V := ⟨_, rfl⟩
  have HBV : Hid (Below w.heap.size w V) := by rw [← hV]; exact HB0.out _
  have hsz : w.heap.size < V.heap.size := by rw [← hV, World.size_alloc]; omega
  have C0 : Hid (V.cell? ⟨w.heap.size, 0, none⟩ = some (.int .i64 (cols : Int))) := by rw [← hV]; exact alloc_cell _ _ _ _ _ rfl
  have C1 : Hid (V.cell? ⟨w.heap.size, 1, none⟩ = some (.slice (some ⟨g, 0, none⟩) n cap)) := by rw [← hV]; exact alloc_cell _ _ _ _ _ rfl
  have C2 : Hid (V.cell? ⟨w.heap.size, 2, none⟩ = some (.slice pa pn pc)) := by rw [← hV]; exact alloc_cell _ _ _ _ _ rfl
  have C3 : Hid (V.cell? ⟨w.heap.size, 3, none⟩ = some (.int .i64 dv)) := by rw [← hV]; exact alloc_cell _ _ _ _ _ rfl
  have c0 := C0.out
  have c1 := C1.out
  have c2 := C2.out
  have c3 := C3.out
  go_enter Tryz.func95, Tryz.ntmps95
  go_wp2_with (go_at_call 92; refine (HRA.out _).mono ?_; rintro e w1 ⟨rfl, hb1⟩)
  clear hV c0 c1 c2 c3
  go_loopw [3] (fun i wr => ∃ k : Nat, pn ≤ k ∧ k ≤ n ∧ i = .int .i64 k ∧ (∀ x, pn ≤ x → x < k → allZ ((rowL M x).drop cols) = true) ∧ Below V.heap.size V wr) (fun i _ => n - (intOf i).toNat)
  case atStart => exact ⟨pn, Nat.le_refl _, hpM, rfl, fun x h1 h2 => by omega, hb1⟩
  case round =>
    clear hb1
    obtain ⟨k, hk1, hk, rfl, hz, hb⟩ := hrel
    have HZ := Lib.hid hz; clear hz
    have HB := Lib.hid hb; clear hb
    have HBW : Hid (Below w.heap.size w wr) := HBV.out.trans (HB.out.mono HBV.out.size)
    have c0 := (HB.out.cell (p := ⟨w.heap.size, 0, none⟩) hsz).trans C0.out
    have c1 := (HB.out.cell (p := ⟨w.heap.size, 1, none⟩) hsz).trans C1.out
    have c2 := (HB.out.cell (p := ⟨w.heap.size, 2, none⟩) hsz).trans C2.out
    have c3 := (HB.out.cell (p := ⟨w.heap.size, 3, none⟩) hsz).trans C3.out
    by_cases hlt : k < n
    · have HB1 := Lib.hid (HBE.out wr k HBW.out hlt)
      obtain ⟨z, hzz⟩ : ∃ z, allZ ((rowL M k).drop cols) = z := ⟨_, rfl⟩
      have HC1 : Hid (∀ (W : World) b c, Sl W (some b) ((rowL M k).drop cols) → Calls Tryz.prog 129 #[.slice (some b) (N - cols) c, .func (.func 131) #[] #[]] W fun e w' => e = .returned (.bool (!z)) ∧ W = w') := fun W b c h => by rw [← hzz]; exact HCN.out W k b c hlt h
      have HZZ := Lib.hid hzz; clear hzz
      cases z with
      | true =>
        go_wp2_with (first | (go_at_call 130; refine HB1.out.mono ?_; rintro e w5 ⟨hb5, bb, bc, rfl, hs5⟩) | (go_at_call 129; refine (HC1.out w5 bb bc hs5).mono ?_; rintro e w6 ⟨rfl, rfl⟩))
        go_roundw
        case rel => exact ⟨k + 1, by omega, by omega, by go_num, fun x h1 h2 => by
          by_cases e : x = k
          · rw [e]; exact HZZ.out
          · exact HZ.out x h1 (by omega), HB.out.trans (hb5.mono HB.out.size)⟩
        case measure => simp [intOf]; omega
      | false =>
        have HP : Hid (possB M pn cols = false) := possB_no hk1 (by rw [HNL.out]; exact hlt) HZZ.out
        go_wp2_with (first | (go_at_call 130; refine HB1.out.mono ?_; rintro e w5 ⟨hb5, bb, bc, rfl, hs5⟩) | (go_at_call 129; refine (HC1.out w5 bb bc hs5).mono ?_; rintro e w6 ⟨rfl, rfl⟩))
        go_ret
        exact ⟨ret_bool HP.out.symm, HBW.out.trans (hb5.mono HBW.out.size)⟩
    · obtain rfl : n = k := by omega
      have HP : Hid (possB M pn cols = true) := possB_yes fun x h1 h2 => HZ.out x h1 (by rw [HNL.out] at h2; exact h2)
      go_wp2
      go_ret
      exact ⟨ret_bool HP.out.symm, HBW.out⟩
end Go.Proofs.YtfnomiingelfaaaGreat
/- Spark of layer 3: a contract. -/
namespace Go.Proofs.YtfnomiingelfaaaGreat
open Go.RowKit

def nzTo (xs : List Int) : Nat → Int
  | 0 => 0
  | k + 1 => if gt xs k = 0 then nzTo xs k else nzTo xs k + 1
theorem nzTo_in (xs : List Int) : ∀ k, 0 ≤ nzTo xs k ∧ nzTo xs k ≤ k
  | 0 => by simp [nzTo]
  | k + 1 => by have := nzTo_in xs k; unfold nzTo; split <;> omega
def sparkV (m : List (List Int)) : Int × Int := if (circuitV m).2 = 0 then (nzTo (circuitV m).1 (circuitV m).1.length, 0) else (0, (circuitV m).2)
theorem circH_len (m : List (List Int)) (px : List Int) : (circH m px).length = colsM m := putTo_len _ _ _ _
theorem circsAll_len {m : List (List Int)} {h : List Int} (hh : h ∈ circsAll m) : h.length = colsM m := by
  unfold circsAll circsTo at hh
  obtain ⟨f, _, h2⟩ := List.mem_flatMap.1 hh
  obtain ⟨px, _, rfl⟩ := List.mem_map.1 h2
  exact circH_len m px
theorem circuitV_len {m : List (List Int)} : (circuitV m).1.length ≤ 10 := by
  unfold circuitV
  split
  · rename_i hv
    split
    · exact Nat.zero_le _
    · rename_i h t e
      show h.length ≤ 10
      rw [circsAll_len (m := m) (by rw [e]; simp)]
      exact (validM_of hv).2.2.2.1
  · exact Nat.zero_le _
set_option maxRecDepth 100000 in
set_option maxHeartbeats 800000 in
theorem spark_any (a : Option Addr) (m : List (List Int)) (cap : Nat) (w : World) (hm : MOk m) (hs : Ms w a m) :
    Calls Tryz.prog 41 #[.slice a m.length cap] w fun e w' => e = .returned (.tuple #[.int .i64 (sparkV m).1, .int .i64 (sparkV m).2]) ∧ Below w.heap.size w w' := by
  have HCI : Hid (Calls Tryz.prog 71 #[.slice a m.length cap] w (LPost (circuitV m) w)) := circuit_any a m cap w hm hs
  have HL := Lib.hid (circuitV_len (m := m))
  have HSP : Hid (sparkV m = if (circuitV m).2 = 0 then (nzTo (circuitV m).1 (circuitV m).1.length, 0) else (0, (circuitV m).2)) := rfl
  clear hm hs
  obtain ⟨⟨h, e0⟩, hr⟩ : ∃ r, circuitV m = r := ⟨_, rfl⟩
  rw [hr] at HCI HL HSP
  dsimp only at HL HSP
  clear hr
  by_cases he : e0 = 0
  · subst he
    rw [if_pos rfl] at HSP
    rw [HSP.out]
    dsimp only
    clear HSP
    go_enter Tryz.func41, Tryz.ntmps41
    go_wp2_with (go_at_call 71; refine HCI.out.mono ?_; rintro e w1 ⟨hb1, ah, ch, rfl, hsl⟩; dsimp only at hsl ⊢; have HB := Lib.hid hb1; have HS := Lib.hid hsl; clear hb1 hsl)
    go_loopw [6, 19] (fun v i wr => ∃ k : Nat, k ≤ h.length ∧ i = .int .i64 k ∧ v = .int .i64 (nzTo h k) ∧ wr = w1) (fun _ i _ => h.length - (intOf i).toNat)
    case atStart => exact ⟨0, Nat.zero_le _, rfl, rfl, rfl⟩
    case round =>
      obtain ⟨k, hk, rfl, rfl, rfl⟩ := hrel
      have hl := HL.out
      by_cases hlt : k < h.length
      · obtain ⟨b, o, x, rfl, hc, hx⟩ := HS.out.at hlt
        have hgx := gt_some' hx.out
        have hin := nzTo_in h k
        by_cases h0 : x = 0
        · subst h0
          have HT : Hid (nzTo h (k + 1) = nzTo h k) := by show _ = _; rw [nzTo, if_pos hgx]
          clear hgx
          go_wp2
          go_roundw
          case rel => exact ⟨k + 1, by omega, by go_num, by rw [HT.out], by first | trivial | rfl⟩
          case measure => simp [intOf]; omega
        · have HT : Hid (nzTo h (k + 1) = nzTo h k + 1) := by show _ = _; rw [nzTo, if_neg (by rw [hgx]; exact h0)]
          clear hgx
          have hne : (x != 0) = true := by simpa using h0
          obtain ⟨n, hn⟩ : ∃ n, nzTo h k = n := ⟨_, rfl⟩
          rw [hn] at hin HT ⊢
          clear hn
          go_wp2
          go_roundw
          case rel => exact ⟨k + 1, by omega, by go_num, by rw [HT.out], by first | trivial | rfl⟩
          case measure => simp [intOf]; omega
      · obtain rfl : k = h.length := by omega
        go_wp2
        go_ret2
        exact ⟨rfl, HB.out⟩
  · rw [if_neg he] at HSP
    rw [HSP.out]
    dsimp only
    have hne : (e0 != 0) = true := by simpa using he
    clear HSP he
    go_enter Tryz.func41, Tryz.ntmps41
    go_wp2_with (go_at_call 71; refine HCI.out.mono ?_; rintro e w1 ⟨hb1, ah, ch, rfl, hsl⟩; dsimp only; have HB := Lib.hid hb1; clear hb1 hsl)
    go_ret2
    exact ⟨rfl, HB.out⟩
end Go.Proofs.YtfnomiingelfaaaGreat
/- SameLists of the answers of layer 1: a contract. -/
namespace Go.Proofs.YtfnomiingelfaaaGreat
open Go.RowKit

end Go.Proofs.YtfnomiingelfaaaGreat
/- The sanity check of layer 3: the document's example. -/
namespace Go.Proofs.YtfnomiingelfaaaGreat
open Go.RowKit

def twoM : List (List Int) := [[1, 1, 0], [0, 1, 1]]
theorem two_valid : validM twoM = true := by decide
theorem two_spark : sparkV twoM = (3, 0) := by decide +kernel
theorem sl_new (w : World) (xs : List Int) (t : TypeId) : Sl (w.alloc (.cells ((xs.map (Value.int .i64)).toArray) t)) (some ⟨w.heap.size, 0, none⟩) xs := by
  intro k hk
  refine ⟨w.heap.size, 0, rfl, ?_⟩
  rw [Nat.zero_add]
  refine alloc_cell _ _ _ _ _ ?_
  simp [hk]
end Go.Proofs.YtfnomiingelfaaaGreat
/- Fractions in lowest terms, and the value behind a row: contracts. -/
namespace Go.Proofs.YtfnomiingelfaaaGreat
open Go.RowKit

def gcd2 (n d : Int) : Int := ((Nat.gcd n.natAbs d.natAbs : Nat) : Int)
theorem gcdL_two (n d : Int) : ((gcdL [n, d] : Nat) : Int) = gcd2 n d := by
  unfold gcdL gcd2
  show ((Nat.gcd (Nat.gcd 0 n.natAbs) d.natAbs : Nat) : Int) = _
  rw [Nat.gcd_zero_left]
def ratV (n d : Int) : Value := .agg #[.int .i64 n, .int .i64 d]
set_option maxRecDepth 1000000 in
set_option maxHeartbeats 1600000 in
theorem lowest_any (n d : Int) (w : World) (hn : Mid n) (hd : Mid d) (h0 : 0 < d) :
    Calls Tryz.prog 132 #[.int .i64 n, .int .i64 d] w fun e w' => e = .returned (ratV (n.tdiv (gcd2 n d)) (d.tdiv (gcd2 n d))) ∧ Below w.heap.size w w' := by
  obtain ⟨G, hG⟩ : ∃ G, gcd2 n d = G := ⟨_, rfl⟩
  have hG1 : 0 < G := by
    rw [← hG]; unfold gcd2
    have := Nat.gcd_pos_of_pos_right n.natAbs (show 0 < d.natAbs by omega)
    omega
  have HDV : Hid (∀ W b cap, Sl W (some ⟨b, 0, none⟩) [n, d] → Calls Tryz.prog 150 #[.slice (some ⟨b, 0, none⟩) 2 cap] W fun e w' => e = .returned (.int .i64 G) ∧ ∃ nd, w' = W.drewN nd) := fun W b cap h => by
    have h := divisor_any (some ⟨b, 0, none⟩) [n, d] cap W (by simp) (fun x hx => by
      rcases List.mem_cons.1 hx with e | hx
      · rw [e]; exact hn
      · rw [List.mem_singleton.1 hx]; exact hd) h
    rw [gcdL_two, hG] at h
    exact h
  obtain ⟨a, ha⟩ : ∃ a, n.tdiv G = a := ⟨_, rfl⟩
  obtain ⟨c, hc⟩ : ∃ c, d.tdiv G = c := ⟨_, rfl⟩
  have ba : Mid a := by
    have h1 := Int.natAbs_tdiv_le_natAbs n G
    rw [ha] at h1
    unfold Mid at hn ⊢; omega
  have bc : Mid c := by
    have h1 := Int.natAbs_tdiv_le_natAbs d G
    rw [hc] at h1
    unfold Mid at hd ⊢; omega
  obtain ⟨a1, a2⟩ := ba
  obtain ⟨c1, c2⟩ := bc
  have g0 : ¬ G = 0 := by omega
  have g1 : (G == 0) = false := by simpa using g0
  have wa : IntKind.i64.wrap a = a := wrap_id (by omega) (by omega)
  have wc : IntKind.i64.wrap c = c := wrap_id (by omega) (by omega)
  rw [hG, ha, hc]
  clear hG
  go_enter Tryz.func132, Tryz.ntmps132
  go_wp2_with (go_at_call 150; refine (HDV.out _ _ _ ?_).mono ?_; rotate_left; rintro e w1 ⟨rfl, nd, rfl⟩)
  · go_region_law (fail)
    all_goals
      go_wp2
      refine bodyPost_ret_by (v := ratV a c) ?_ rfl ⟨rfl, ((below_drewN (((Below.refl _ _).alloc (Nat.le_refl _) _).alloc (by rw [World.size_alloc]; omega) _) _).setCell (p := ⟨w.heap.size, 0, none⟩) (Nat.le_refl _) _).setCell (p := ⟨w.heap.size, 1, none⟩) (Nat.le_refl _) _⟩
      rw [results_cell_one' rfl]
      unfold ratV
      go_simp
  · have e1 : (w.alloc (.cells #[.int .i64 0, .int .i64 0] 52)).heap.size = w.heap.size + 1 := World.size_alloc _ _
    rw [← e1]
    exact sl_new _ [n, d] _
set_option maxRecDepth 1000000 in
set_option maxHeartbeats 1600000 in
theorem value_any (cols g cap N : Nat) (ads : List (Nat × Nat)) (M : List (List Int)) (pa : Option Addr) (pn pc : Nat) (dv : Int) (row base : Nat) (w : World) (hrow : row < M.length) (hN : (rowL M row).length = N) (hc : cols < N) (hs : SI w base g ads M) (hm : Mid (gt (rowL M row) cols)) (hd : Mid dv) (h0 : 0 < dv) :
    Calls Tryz.prog 133 #[RdV cols g M.length cap (.slice pa pn pc) dv, .int .i64 (row : Int)] w fun e w' => e = .returned (ratV ((gt (rowL M row) cols).tdiv (gcd2 (gt (rowL M row) cols) dv)) (dv.tdiv (gcd2 (gt (rowL M row) cols) dv))) ∧ Below w.heap.size w w' := by
  have HS := Lib.hid hs; clear hs
  have HBE : Hid (∀ W, Below w.heap.size w W → Calls Tryz.prog 130 #[.agg #[.int .i64 (cols : Int), .slice (some ⟨g, 0, none⟩) M.length cap, .slice pa pn pc, .int .i64 dv], .int .i64 (row : Int)] W fun e w' => Below W.heap.size W w' ∧ ∃ b c, e = .returned (.slice (some b) (N - cols) c) ∧ Sl w' (some b) ((rowL M row).drop cols)) := fun W hb => behind_any cols g cap N ads M pa pn pc dv row base W hrow hN hc (HS.out.below hb)
  obtain ⟨z, hz⟩ : ∃ z, gt (rowL M row) cols = z := ⟨_, rfl⟩
  have HZ : Hid (((rowL M row).drop cols)[0]? = some z) := by
    show _ = _
    rw [List.getElem?_drop, Nat.add_zero, List.getElem?_eq_getElem (by omega), ← hz]
    unfold gt; simp [hN, hc]
  have HDL : Hid (((rowL M row).drop cols).length = N - cols) := by show _ = _; rw [List.length_drop, hN]
  rw [hz] at hm ⊢
  obtain ⟨R, hR⟩ : ∃ R, ratV (z.tdiv (gcd2 z dv)) (dv.tdiv (gcd2 z dv)) = R := ⟨_, rfl⟩
  obtain ⟨ra, rc, hrr⟩ : ∃ ra rc, R = .agg #[.int .i64 ra, .int .i64 rc] := ⟨_, _, hR.symm⟩
  have HLO : Hid (∀ W, Calls Tryz.prog 132 #[.int .i64 z, .int .i64 dv] W fun e w' => e = .returned (.agg #[.int .i64 ra, .int .i64 rc]) ∧ Below W.heap.size W w') := fun W => by rw [← hrr, ← hR]; exact lowest_any z dv W hm hd h0
  rw [hR, hrr]
  clear hz hR hrr hN
  have hd0 : 0 < N - cols := by omega
  have hd1 : (0 : Int) < ((N - cols : Nat) : Int) := by omega
  generalize N - cols = nd at *
  unfold RdV
  obtain ⟨n, hn⟩ : ∃ n, M.length = n := ⟨_, rfl⟩
  rw [hn] at HBE ⊢
  clear hn hrow
  obtain ⟨A, hA⟩ : ∃ A, w.alloc (.cells #[.int .i64 (cols : Int), .slice (some ⟨g, 0, none⟩) n cap, .slice pa pn pc, .int .i64 dv] 113) = A := ⟨_, rfl⟩
  have hAs : A.heap.size = w.heap.size + 1 := by rw [← hA, World.size_alloc]
  have a0 : A.cell? ⟨w.heap.size, 0, none⟩ = some (.int .i64 (cols : Int)) := by rw [← hA]; exact alloc_cell _ _ _ _ _ rfl
  have a1 : A.cell? ⟨w.heap.size, 1, none⟩ = some (.slice (some ⟨g, 0, none⟩) n cap) := by rw [← hA]; exact alloc_cell _ _ _ _ _ rfl
  have a2 : A.cell? ⟨w.heap.size, 2, none⟩ = some (.slice pa pn pc) := by rw [← hA]; exact alloc_cell _ _ _ _ _ rfl
  have a3 : A.cell? ⟨w.heap.size, 3, none⟩ = some (.int .i64 dv) := by rw [← hA]; exact alloc_cell _ _ _ _ _ rfl
  have HBA : Hid (Below w.heap.size w A) := by rw [← hA]; exact (Below.refl _ _).alloc (Nat.le_refl _) _
  obtain ⟨V, hV⟩ : ∃ V, A.alloc (.cells #[.int .i64 0, .int .i64 0] 52) = V := ⟨_, rfl⟩
  have HAV : Hid (Below A.heap.size A V) := by rw [← hV]; exact (Below.refl _ _).alloc (Nat.le_refl _) _
  have hVs : V.heap.size = w.heap.size + 1 + 1 := by rw [← hV, World.size_alloc, hAs]
  have HBV : Hid (Below w.heap.size w V) := HBA.out.trans (HAV.out.mono HBA.out.size)
  have hw1 : w.heap.size < A.heap.size := by omega
  have c0 : V.cell? ⟨w.heap.size, 0, none⟩ = some (.int .i64 (cols : Int)) := (HAV.out.cell (p := ⟨w.heap.size, 0, none⟩) hw1).trans a0
  have c1 : V.cell? ⟨w.heap.size, 1, none⟩ = some (.slice (some ⟨g, 0, none⟩) n cap) := (HAV.out.cell (p := ⟨w.heap.size, 1, none⟩) hw1).trans a1
  have c2 : V.cell? ⟨w.heap.size, 2, none⟩ = some (.slice pa pn pc) := (HAV.out.cell (p := ⟨w.heap.size, 2, none⟩) hw1).trans a2
  have c3 : V.cell? ⟨w.heap.size, 3, none⟩ = some (.int .i64 dv) := (HAV.out.cell (p := ⟨w.heap.size, 3, none⟩) hw1).trans a3
  have HT : Hid ((V.cell? ⟨w.heap.size + 1, 0, none⟩ = some (.int .i64 0) ∧ V.frozen? ⟨w.heap.size + 1, 0, none⟩ = false) ∧ V.cell? ⟨w.heap.size + 1, 1, none⟩ = some (.int .i64 0) ∧ V.frozen? ⟨w.heap.size + 1, 1, none⟩ = false) := by
    rw [← hV, ← hAs]
    exact ⟨⟨alloc_cell _ _ _ _ _ rfl, by simp⟩, alloc_cell _ _ _ _ _ rfl, by simp⟩
  have HVW : Hid (∀ W, Below V.heap.size V W → W.cell? ⟨w.heap.size, 0, none⟩ = some (.int .i64 (cols : Int)) ∧ W.cell? ⟨w.heap.size, 1, none⟩ = some (.slice (some ⟨g, 0, none⟩) n cap) ∧ W.cell? ⟨w.heap.size, 2, none⟩ = some (.slice pa pn pc) ∧ W.cell? ⟨w.heap.size, 3, none⟩ = some (.int .i64 dv) ∧ W.cell? ⟨w.heap.size + 1, 0, none⟩ = some (.int .i64 0) ∧ W.frozen? ⟨w.heap.size + 1, 0, none⟩ = false ∧ W.cell? ⟨w.heap.size + 1, 1, none⟩ = some (.int .i64 0) ∧ W.frozen? ⟨w.heap.size + 1, 1, none⟩ = false) := fun W h => by
    have l0 : w.heap.size < V.heap.size := by omega
    have l1 : w.heap.size + 1 < V.heap.size := by omega
    exact ⟨(h.cell (p := ⟨w.heap.size, 0, none⟩) l0).trans c0, (h.cell (p := ⟨w.heap.size, 1, none⟩) l0).trans c1, (h.cell (p := ⟨w.heap.size, 2, none⟩) l0).trans c2, (h.cell (p := ⟨w.heap.size, 3, none⟩) l0).trans c3, (h.cell (p := ⟨w.heap.size + 1, 0, none⟩) l1).trans HT.out.1.1, (h.frozen (p := ⟨w.heap.size + 1, 0, none⟩) l1).trans HT.out.1.2, (h.cell (p := ⟨w.heap.size + 1, 1, none⟩) l1).trans HT.out.2.1, (h.frozen (p := ⟨w.heap.size + 1, 1, none⟩) l1).trans HT.out.2.2⟩
  clear a0 a1 a2 a3
  go_enter Tryz.func133, Tryz.ntmps133
  go_wp2
  clear hA hV
  go_region_law (first | (go_simp; go_at_call 130; refine (HBE.out _ HBV.out.drew).mono ?_; rintro e w5 ⟨hb5, ⟨bb, bo, bp⟩, bc, rfl, hs5⟩; have HB5 : Hid (Below V.heap.size V w5) := (Below.refl V.heap.size V).drew.trans hb5; obtain ⟨k0, k1, k2, k3, _⟩ := HVW.out w5 HB5.out; obtain ⟨b', o', ee, hcz⟩ := hs5 0 (by rw [HDL.out]; omega); cases ee; rw [HZ.out, Nat.add_zero] at hcz; have hcy : w5.cell? ⟨bb, bo, none⟩ = some (.int .i64 z) := hcz; clear hb5 hs5 hcz) | (go_simp; go_at_call 132; refine (HLO.out _).mono ?_; rintro e w6 ⟨rfl, hb6⟩; have HB6 : Hid (Below V.heap.size V w6) := HB5.out.trans (hb6.mono HB5.out.size); obtain ⟨j0, j1, j2, j3, t0, z0, t1, z1⟩ := HVW.out w6 HB6.out; clear hb6))
  all_goals
    have HBE6 : Hid (Below w.heap.size w w6) := HBV.out.trans (HB6.out.mono HBV.out.size)
    go_wp2
    refine bodyPost_ret_by (v := .agg #[.int .i64 ra, .int .i64 rc]) ?_ rfl ⟨rfl, (HBE6.out.setCell (p := ⟨w.heap.size + 1, 0, none⟩) (Nat.le_succ _) _).setCell (p := ⟨w.heap.size + 1, 1, none⟩) (Nat.le_succ _) _⟩
    rw [results_cell_one' rfl]
    go_simp
end Go.Proofs.YtfnomiingelfaaaGreat
/- A slice of fractions of the call's own, stored in place. -/
namespace Go.Proofs.YtfnomiingelfaaaGreat
open Go.RowKit

theorem Tryz.infoRatio : (Tryz.prog.info? 52).map (fun i => (i.zero, i.size, i.bytes)) = some (some (.agg #[.int .i64 0, .int .i64 0]), 2, 16) := by kernel_rfl
def flatR : List (Int × Int) → List Value
  | [] => []
  | p :: ps => .int .i64 p.1 :: .int .i64 p.2 :: flatR ps
theorem flatR_len : ∀ ps, (flatR ps).length = ps.length * 2
  | [] => rfl
  | p :: ps => by simp only [flatR, List.length_cons, flatR_len ps]; omega
theorem flatR_at : ∀ (ps : List (Int × Int)) {j : Nat} {p : Int × Int}, ps[j]? = some p → (flatR ps)[j * 2]? = some (.int .i64 p.1) ∧ (flatR ps)[j * 2 + 1]? = some (.int .i64 p.2)
  | [], j, p, h => by simp at h
  | q :: ps, 0, p, h => by simp at h; subst h; exact ⟨rfl, rfl⟩
  | q :: ps, j + 1, p, h => by
    have h := flatR_at ps (j := j) (p := p) (by simpa using h)
    rw [show (j + 1) * 2 = j * 2 + 1 + 1 by omega]
    exact ⟨by simp only [flatR, List.getElem?_cons_succ]; exact h.1, by simp only [flatR, List.getElem?_cons_succ]; exact h.2⟩
theorem flatR_set : ∀ (ps : List (Int × Int)) (j : Nat) (a b : Int), ((flatR ps).set (j * 2) (.int .i64 a)).set (j * 2 + 1) (.int .i64 b) = flatR (ps.set j (a, b))
  | [], _, _, _ => by simp [flatR]
  | q :: ps, 0, a, b => rfl
  | q :: ps, j + 1, a, b => by
    have h := flatR_set ps j a b
    rw [show (j + 1) * 2 = j * 2 + 1 + 1 by omega]
    simp only [flatR, List.set_cons_succ]
    rw [h]
theorem flatR_zero : ∀ n, flatR (List.replicate n (0, 0)) = List.replicate (n * 2) (.int .i64 0)
  | 0 => rfl
  | n + 1 => by
    rw [List.replicate_succ, show (n + 1) * 2 = n * 2 + 1 + 1 by omega, List.replicate_succ, List.replicate_succ]
    simp only [flatR]
    rw [flatR_zero n]
theorem flatR_rep (n : Nat) : (madeCells #[Value.int .i64 0, .int .i64 0] (n * 2)).toList = flatR (List.replicate n (0, 0)) := by
  rw [flatR_zero]
  unfold madeCells
  have e : (fun x : Nat => (#[Value.int .i64 0, .int .i64 0] : Array Value)[x % (#[Value.int .i64 0, .int .i64 0] : Array Value).size]!) = fun _ => Value.int .i64 0 := by
    funext x
    have h : x % 2 = 0 ∨ x % 2 = 1 := by omega
    show (#[Value.int .i64 0, .int .i64 0] : Array Value)[x % 2]! = _
    rcases h with h | h <;> rw [h] <;> rfl
  rw [e, Array.toList_map, Array.toList_range]
  exact List.eq_replicate_iff.2 ⟨by simp, fun b hb => by obtain ⟨_, _, rfl⟩ := List.mem_map.1 hb; rfl⟩
def OwnR (w : World) (base : Nat) (v : Value) (ps : List (Int × Int)) : Prop := w.ownsRow base 52 2 v ps.length (flatR ps)
theorem OwnR.below {w w' : World} {base : Nat} {v : Value} {ps : List (Int × Int)} (h : OwnR w base v ps) (hb : Below w.heap.size w w') : OwnR w' base v ps := row_below h hb
theorem OwnR.drew {w : World} {base : Nat} {v : Value} {ps : List (Int × Int)} (h : OwnR w base v ps) : OwnR w.drew base v ps := h
theorem OwnR.lt {w : World} {base g n cap : Nat} {ps : List (Int × Int)} (h : OwnR w base (.slice (some ⟨g, 0, none⟩) n cap) ps) : base ≤ g ∧ g < w.heap.size := World.ownsRow.lt h g rfl
theorem OwnR.cell {w : World} {base g cap : Nat} {ps : List (Int × Int)} (h : OwnR w base (.slice (some ⟨g, 0, none⟩) ps.length cap) ps) {j : Nat} {p : Int × Int} (hj : ps[j]? = some p) :
    (w.cell? ⟨g, j * 2, none⟩ = some (.int .i64 p.1) ∧ w.frozen? ⟨g, j * 2, none⟩ = false) ∧ w.cell? ⟨g, j * 2 + 1, none⟩ = some (.int .i64 p.2) ∧ w.frozen? ⟨g, j * 2 + 1, none⟩ = false := by
  have hl := (List.getElem?_eq_some_iff.1 hj).1
  obtain ⟨h1, h2⟩ := flatR_at ps hj
  exact ⟨⟨(World.ownsRow.cellAt h (j * 2) (by omega)).trans h1, World.ownsRow.frozenAt h _⟩, (World.ownsRow.cellAt h (j * 2 + 1) (by omega)).trans h2, World.ownsRow.frozenAt h _⟩
theorem OwnR.stored {w : World} {base g cap : Nat} {ps : List (Int × Int)} (h : OwnR w base (.slice (some ⟨g, 0, none⟩) ps.length cap) ps) (j : Nat) (a b : Int) :
    OwnR ((w.setCell ⟨g, j * 2, none⟩ (.int .i64 a)).setCell ⟨g, j * 2 + 1, none⟩ (.int .i64 b)) base (.slice (some ⟨g, 0, none⟩) ps.length cap) (ps.set j (a, b)) := by
  have h1 := (World.ownsRow.stored (World.ownsRow.stored h (j * 2) (.int .i64 a)).1 (j * 2 + 1) (.int .i64 b)).1
  rw [flatR_set] at h1
  show World.ownsRow _ _ _ _ _ _ _
  rw [List.length_set]
  exact h1
def Rl (w : World) (a : Option Addr) (ps : List (Int × Int)) : Prop := ∀ j p, ps[j]? = some p → ∃ b, a = some ⟨b, 0, none⟩ ∧ w.cell? ⟨b, j * 2, none⟩ = some (.int .i64 p.1) ∧ w.cell? ⟨b, j * 2 + 1, none⟩ = some (.int .i64 p.2)
theorem Rl.below {w w' : World} {a : Option Addr} {ps : List (Int × Int)} (h : Rl w a ps) (hb : Below w.heap.size w w') : Rl w' a ps := fun j p hj => by
  obtain ⟨b, e, h1, h2⟩ := h j p hj
  exact ⟨b, e, (hb.cell (p := ⟨b, j * 2, none⟩) (cell_lt h1)).trans h1, (hb.cell (p := ⟨b, j * 2 + 1, none⟩) (cell_lt h2)).trans h2⟩
theorem OwnR.rl {w : World} {base g cap : Nat} {ps : List (Int × Int)} (h : OwnR w base (.slice (some ⟨g, 0, none⟩) ps.length cap) ps) : Rl w (some ⟨g, 0, none⟩) ps := fun j p hj => by
  obtain ⟨h1, h2⟩ := h.cell hj
  exact ⟨g, rfl, h1.1, h2.1⟩
end Go.Proofs.YtfnomiingelfaaaGreat
/- solved of the program's reduction: a contract. -/
namespace Go.Proofs.YtfnomiingelfaaaGreat
open Go.RowKit

def lowR (n d : Int) : Int × Int := (n.tdiv (gcd2 n d), d.tdiv (gcd2 n d))
def solL (n : Nat) (M : List (List Int)) (pz : List Int) (dv : Int) : Nat → List (Int × Int)
  | 0 => List.replicate n (0, 1)
  | t + 1 => (solL n M pz dv t).set (gt pz t).toNat (lowR (gt (rowL M t) n) dv)
theorem solL_len (n : Nat) (M : List (List Int)) (pz : List Int) (dv : Int) : ∀ t, (solL n M pz dv t).length = n
  | 0 => by simp [solL]
  | t + 1 => by unfold solL; rw [List.length_set]; exact solL_len n M pz dv t
def zeroTo (n k : Nat) : List (Int × Int) := List.replicate k (0, 1) ++ List.replicate (n - k) (0, 0)
theorem zeroTo_len {n k : Nat} (h : k ≤ n) : (zeroTo n k).length = n := by simp [zeroTo]; omega
theorem zeroTo_at {n k : Nat} (h : k < n) : (zeroTo n k)[k]? = some (0, 0) := by
  unfold zeroTo
  rw [List.getElem?_append_right (by simp)]
  simp [List.getElem?_replicate]; omega
theorem zeroTo_set {n k : Nat} (h : k < n) : (zeroTo n k).set k (0, 1) = zeroTo n (k + 1) := by
  unfold zeroTo
  rw [List.set_append, if_neg (by simp), List.length_replicate, Nat.sub_self, show n - k = (n - (k + 1)) + 1 by omega, List.replicate_succ, List.set_cons_zero, List.replicate_succ', List.append_assoc]
  rfl
set_option maxRecDepth 1000000 in
set_option maxHeartbeats 3200000 in
theorem solved_any (cols g cap N : Nat) (ads : List (Nat × Nat)) (M : List (List Int)) (pa : Option Addr) (pz : List Int) (pc : Nat) (dv : Int) (base : Nat) (w : World) (hpM : pz.length ≤ M.length) (hM : M.length ≤ 100) (hN : ∀ q ∈ M, q.length = N) (hc : cols < N) (hN1 : N ≤ 100) (hs : SI w base g ads M) (hps : Sl w pa pz)
    (hp : ∀ t, t < pz.length → 0 ≤ gt pz t ∧ gt pz t < cols) (hm : ∀ t, t < pz.length → Mid (gt (rowL M t) cols)) (hd : Mid dv) (h0 : 0 < dv) :
    Calls Tryz.prog 96 #[RdV cols g M.length cap (.slice pa pz.length pc) dv] w fun e w' => ∃ b c, e = .returned (.slice (some ⟨b, 0, none⟩) cols c) ∧ OwnR w' w.heap.size (.slice (some ⟨b, 0, none⟩) cols c) (solL cols M pz dv pz.length) ∧ Below w.heap.size w w' := by
  have HS := Lib.hid hs; clear hs
  have HP := Lib.hid hp; clear hp
  have HPS := Lib.hid hps; clear hps
  obtain ⟨pn, hpn⟩ : ∃ pn, pz.length = pn := ⟨_, rfl⟩
  have HPN := Lib.hid hpn
  have HVA : Hid (∀ W k, Below w.heap.size w W → k < pn → Calls Tryz.prog 133 #[.agg #[.int .i64 (cols : Int), .slice (some ⟨g, 0, none⟩) M.length cap, .slice pa pn pc, .int .i64 dv], .int .i64 (k : Int)] W fun e w' => e = .returned (.agg #[.int .i64 (lowR (gt (rowL M k) cols) dv).1, .int .i64 (lowR (gt (rowL M k) cols) dv).2]) ∧ Below W.heap.size W w') := fun W k hb hk => value_any cols g cap N ads M pa pn pc dv k base W (by omega) (hN _ (rowL_mem (by omega))) hc (HS.out.below hb) (hm k (by omega)) hd h0
  have HLO : Hid (∀ W, Calls Tryz.prog 132 #[.int .i64 0, .int .i64 1] W fun e w' => e = .returned (.agg #[.int .i64 0, .int .i64 1]) ∧ Below W.heap.size W w') := fun W => lowest_any 0 1 W (by unfold Mid; decide) (by unfold Mid; decide) (by decide)
  obtain ⟨n, hn⟩ : ∃ n, M.length = n := ⟨_, rfl⟩
  rw [hpn] at hpM ⊢
  rw [hn] at hpM hM HVA ⊢
  clear hn hN hpn hm hd
  unfold RdV
  obtain ⟨i0, hi, hz0, hz1, hz2⟩ := info_parts Tryz.infoRatio
  obtain ⟨V, hV⟩ : ∃ V, w.alloc (.cells #[.int .i64 (cols : Int), .slice (some ⟨g, 0, none⟩) n cap, .slice pa pn pc, .int .i64 dv] 113) = V := ⟨_, rfl⟩
  have HBV : Hid (Below w.heap.size w V) := by rw [← hV]; exact (Below.refl _ _).alloc (Nat.le_refl _) _
  have hsz : w.heap.size < V.heap.size := by rw [← hV, World.size_alloc]; omega
  have c0 : V.cell? ⟨w.heap.size, 0, none⟩ = some (.int .i64 (cols : Int)) := by rw [← hV]; exact alloc_cell _ _ _ _ _ rfl
  have c1 : V.cell? ⟨w.heap.size, 1, none⟩ = some (.slice (some ⟨g, 0, none⟩) n cap) := by rw [← hV]; exact alloc_cell _ _ _ _ _ rfl
  have c2 : V.cell? ⟨w.heap.size, 2, none⟩ = some (.slice pa pn pc) := by rw [← hV]; exact alloc_cell _ _ _ _ _ rfl
  have c3 : V.cell? ⟨w.heap.size, 3, none⟩ = some (.int .i64 dv) := by rw [← hV]; exact alloc_cell _ _ _ _ _ rfl
  have HCV : Hid (∀ W, Below V.heap.size V W → W.cell? ⟨w.heap.size, 0, none⟩ = some (.int .i64 (cols : Int)) ∧ W.cell? ⟨w.heap.size, 1, none⟩ = some (.slice (some ⟨g, 0, none⟩) n cap) ∧ W.cell? ⟨w.heap.size, 2, none⟩ = some (.slice pa pn pc) ∧ W.cell? ⟨w.heap.size, 3, none⟩ = some (.int .i64 dv)) := fun W h => ⟨(h.cell (p := ⟨w.heap.size, 0, none⟩) hsz).trans c0, (h.cell (p := ⟨w.heap.size, 1, none⟩) hsz).trans c1, (h.cell (p := ⟨w.heap.size, 2, none⟩) hsz).trans c2, (h.cell (p := ⟨w.heap.size, 3, none⟩) hsz).trans c3⟩
  go_enter Tryz.func96, Tryz.ntmps96
  go_wp2_with (with_reducible refine wpList_make_full _ rfl (.tmp 8) (.tmp 8) 25 rfl V.heap.size 52 i0 (.agg #[.int .i64 0, .int .i64 0]) 2 Tryz.underlying25 hi hz0 hz1 .i64 .i64 (cols : Int) (cols : Int) cols rfl rfl rfl rfl (by rw [hz2]; omega) (by unfold maxLen; omega) (Nat.le_refl _) ?_)
  intro w4 hown hgrow
  have hb4 : Below V.heap.size V w4 := (Below.refl _ _).grown hgrow (Nat.le_refl _) (fun k e => by cases e)
  have HO4 : Hid (OwnR w4 V.heap.size (.slice (some ⟨V.heap.size, 0, none⟩) cols cols) (zeroTo cols 0)) := by
    show World.ownsRow _ _ _ _ _ _ _
    rw [zeroTo_len (Nat.zero_le _), show zeroTo cols 0 = List.replicate cols (0, 0) by simp [zeroTo], ← flatR_rep]
    exact hown
  have HB4 := Lib.hid hb4
  clear hown hgrow hb4 hV c0 c1 c2 c3
  go_wp2
  go_loopw [12] (fun i wr => ∃ k : Nat, k ≤ cols ∧ i = .int .i64 k ∧ OwnR wr V.heap.size (.slice (some ⟨V.heap.size, 0, none⟩) cols cols) (zeroTo cols k) ∧ Below V.heap.size V wr) (fun i _ => cols - (intOf i).toNat)
  case atStart => exact ⟨0, Nat.zero_le _, rfl, HO4.out, HB4.out⟩
  case round =>
    clear HO4 HB4
    obtain ⟨k, hk, rfl, hO, hB⟩ := hrel
    have HO := Lib.hid hO; clear hO
    have HB := Lib.hid hB; clear hB
    by_cases hlt : k < cols
    · have hk0 : (k : Int) < (cols : Int) := by omega
      have HZL : Hid ((zeroTo cols k).length = cols) := zeroTo_len hk
      go_wp2_with (go_at_call 132; refine (HLO.out _).mono ?_; rintro e w5 ⟨rfl, hb5⟩; have HO5 : Hid (OwnR w5 V.heap.size (.slice (some ⟨V.heap.size, 0, none⟩) (zeroTo cols k).length cols) (zeroTo cols k)) := HZL.out.symm ▸ HO.out.below hb5; obtain ⟨⟨cz, fz⟩, cy, fy⟩ := HO5.out.cell (zeroTo_at hlt); have HB5 : Hid (Below V.heap.size V w5) := HB.out.trans (hb5.mono HB.out.size); clear hb5)
      go_roundw
      case rel => exact ⟨k + 1, by omega, by go_num, by have h := HO5.out.stored k 0 1; rw [HZL.out, zeroTo_set hlt] at h; exact h, (HB5.out.setCell (p := ⟨V.heap.size, k * 2, none⟩) (Nat.le_refl _) _).setCell (p := ⟨V.heap.size, k * 2 + 1, none⟩) (Nat.le_refl _) _⟩
      case measure => simp [intOf]; omega
    · obtain rfl : cols = k := by omega
      have HS0 : Hid (OwnR wr V.heap.size (.slice (some ⟨V.heap.size, 0, none⟩) cols cols) (solL cols M pz dv 0)) := by
        have h := HO.out
        rw [show zeroTo cols cols = solL cols M pz dv 0 by simp [zeroTo, solL]] at h
        exact h
      have HB0 := HB
      obtain ⟨c0, c1, c2, c3⟩ := HCV.out wr HB.out
      clear HO HB
      go_wp2
      clear c0 c1 c2 c3
      go_loopw [23] (fun i wr => ∃ t : Nat, t ≤ pn ∧ i = .int .i64 t ∧ OwnR wr V.heap.size (.slice (some ⟨V.heap.size, 0, none⟩) cols cols) (solL cols M pz dv t) ∧ Below V.heap.size V wr) (fun i _ => pn - (intOf i).toNat)
      case atStart => exact ⟨0, Nat.zero_le _, rfl, HS0.out, HB0.out⟩
      case round =>
        clear HS0 HB0
        obtain ⟨t, ht, rfl, hO, hB⟩ := hrel
        have HO := Lib.hid hO; clear hO
        have HB := Lib.hid hB; clear hB
        have HBW : Hid (Below w.heap.size w wr) := HBV.out.trans (HB.out.mono HBV.out.size)
        by_cases hlt : t < pn
        · obtain ⟨pb, po, v, hpa, hcv, HV⟩ := (HPS.out.below HBW.out).at (k := t) (by rw [HPN.out]; exact hlt)
          subst hpa
          have hgv := gt_some' HV.out
          have hpr := HP.out t (by rw [HPN.out]; exact hlt)
          rw [hgv] at hpr
          obtain ⟨p, rfl⟩ := Int.eq_ofNat_of_zero_le hpr.1
          have hpc : p < cols := by omega
          have HSU : Hid (solL cols M pz dv (t + 1) = (solL cols M pz dv t).set p (lowR (gt (rowL M t) cols) dv)) := by show (solL cols M pz dv t).set (gt pz t).toNat _ = _; rw [hgv]; rfl
          have HSL : Hid ((solL cols M pz dv t).length = cols) := solL_len _ _ _ _ _
          obtain ⟨q, hq⟩ : ∃ q, (solL cols M pz dv t)[p]? = some q := ⟨(solL cols M pz dv t)[p]'(by rw [HSL.out]; exact hpc), by simp [HSL.out, hpc]⟩
          have HQ := Lib.hid hq
          obtain ⟨L, hL⟩ : ∃ L, lowR (gt (rowL M t) cols) dv = L := ⟨_, rfl⟩
          have HV1 := Lib.hid (HVA.out wr t HBW.out hlt)
          rw [hL] at HSU HV1
          obtain ⟨l1, l2⟩ := L
          dsimp only at HV1
          obtain ⟨c0, c1, c2, c3⟩ := HCV.out wr HB.out
          have hp0 : (p : Int) < (cols : Int) := by omega
          clear hL hq hgv hpr HV
          go_wp2_with (go_at_call 133; refine HV1.out.mono ?_; rintro e w5 ⟨rfl, hb5⟩; have HO5 : Hid (OwnR w5 V.heap.size (.slice (some ⟨V.heap.size, 0, none⟩) (solL cols M pz dv t).length cols) (solL cols M pz dv t)) := HSL.out.symm ▸ HO.out.below hb5; obtain ⟨⟨cz, fz⟩, cy, fy⟩ := HO5.out.cell HQ.out; have HB5 : Hid (Below V.heap.size V w5) := HB.out.trans (hb5.mono HB.out.size); clear hb5)
          go_roundw
          case rel => exact ⟨t + 1, by omega, by go_num, by have h := HO5.out.stored p l1 l2; rw [HSL.out, ← HSU.out] at h; exact h, (HB5.out.setCell (p := ⟨V.heap.size, p * 2, none⟩) (Nat.le_refl _) _).setCell (p := ⟨V.heap.size, p * 2 + 1, none⟩) (Nat.le_refl _) _⟩
          case measure => simp [intOf]; omega
        · obtain rfl : pn = t := by omega
          go_wp2
          go_ret
          refine ⟨_, _, rfl, ?_, HBW.out⟩
          obtain ⟨h0, h1 | ⟨g9, cap9, cur, e9, hg9, rest⟩⟩ := HO.out
          · exact ⟨h0, .inl h1⟩
          · exact ⟨h0, .inr ⟨g9, cap9, cur, e9, Nat.le_trans HBV.out.size hg9, rest⟩⟩
end Go.Proofs.YtfnomiingelfaaaGreat
/- columns of the answers: a contract. -/
namespace Go.Proofs.YtfnomiingelfaaaGreat
open Go.RowKit

end Go.Proofs.YtfnomiingelfaaaGreat
/- ratio of the answers, and a row of one's own that grows in its place: contracts. -/
namespace Go.Proofs.YtfnomiingelfaaaGreat
open Go.RowKit

theorem hdrs_set {ads : List (Nat × Nat)} {M : List (List Int)} {i : Nat} {x : Nat × Nat} {r : List Int} (hl : ads.length = M.length) (hi : i < M.length) : hdrs (ads.set i x) (M.set i r) = (hdrs ads M).set i (.slice (some ⟨x.1, 0, none⟩) r.length x.2) := by
  apply List.ext_getElem?
  intro j
  by_cases e : j = i
  · subst e
    rw [hdrs_at (List.getElem?_set_self (by omega)) (List.getElem?_set_self hi), List.getElem?_set_self (by unfold hdrs; simp; omega)]
  · rw [List.getElem?_set_ne (Ne.symm e)]
    unfold hdrs
    rw [List.getElem?_zipWith, List.getElem?_zipWith, List.getElem?_set_ne (Ne.symm e), List.getElem?_set_ne (Ne.symm e)]
theorem RS.shape {base : Nat} {rv : Value} {ads : List (Nat × Nat)} {M : List (List Int)} {w : World} (h : RS base rv ads M w) (h1 : 1 ≤ M.length) : ∃ g cap, rv = .slice (some ⟨g, 0, none⟩) M.length cap ∧ base ≤ g ∧ g < w.heap.size := by
  obtain ⟨_, ⟨e, h0⟩ | ⟨g, cap, cur, e, hg, hb, _⟩⟩ := h.own
  · omega
  · exact ⟨g, cap, e, hg, (Array.getElem?_eq_some_iff.1 hb).1⟩
theorem RS.at {base g cap : Nat} {ads : List (Nat × Nat)} {M : List (List Int)} {w : World} (h : RS base (.slice (some ⟨g, 0, none⟩) M.length cap) ads M w) {i : Nat} (hi : i < M.length) :
    ∃ xb xc, ads[i]? = some (xb, xc) ∧ w.cell? ⟨g, i, none⟩ = some (.slice (some ⟨xb, 0, none⟩) (rowL M i).length xc) ∧ w.frozen? ⟨g, i, none⟩ = false ∧ OwnI w base (.slice (some ⟨xb, 0, none⟩) (rowL M i).length xc) (rowL M i) := by
  have e1 : ads[i]? = some (ads[i]'(by rw [h.len]; exact hi)) := by simp [h.len, hi]
  have e2 : M[i]? = some (rowL M i) := by unfold rowL; simp [hi]
  have hc := World.ownsRow.cellAt h.own i (by omega)
  rw [hdrs_at e1 e2] at hc
  exact ⟨_, _, e1, hc, World.ownsRow.frozenAt h.own i, h.row i _ _ e1 e2⟩
theorem RS.grow {base g cap xb xc g2 cp2 i : Nat} {ads : List (Nat × Nat)} {M : List (List Int)} {V w9 : World} {o : Obj} {row' : List Int} (h : RS base (.slice (some ⟨g, 0, none⟩) M.length cap) ads M V) (hi : i < M.length) (hx : ads[i]? = some (xb, xc))
    (ho : OwnI w9 base (.slice (some ⟨g2, 0, none⟩) row'.length cp2) row') (hg : (V.alloc o).grownBy w9 (some xb)) (hat : xb = g2 ∨ V.heap.size ≤ g2) :
    RS base (.slice (some ⟨g, 0, none⟩) M.length cap) (ads.set i (g2, cp2)) (M.set i row') (w9.setCell ⟨g, i, none⟩ (.slice (some ⟨g2, 0, none⟩) row'.length cp2)) := by
  have hb1 : Below V.heap.size V (V.alloc o) := (Below.refl _ _).alloc (Nat.le_refl _) _
  have hsa : (V.alloc o).heap.size = V.heap.size + 1 := World.size_alloc _ _
  have keep : ∀ b, b < V.heap.size → b ≠ xb → w9.heap[b]? = V.heap[b]? := fun b hb hn => (hg.block b (by omega) (fun e => hn (by simpa using e))).trans (hb1.block b hb)
  have hgl : g < V.heap.size := (World.ownsRow.lt h.own g rfl).2
  have hgx : g ≠ xb := fun e => (h.out i _ hx).2.2 (by rw [← e]; rfl)
  have hg2 : g2 ≠ g := by
    rcases hat with e | e
    · rw [← e]; exact Ne.symm hgx
    · omega
  have hset : ∀ b, b ≠ g → (w9.setCell ⟨g, i, none⟩ (.slice (some ⟨g2, 0, none⟩) row'.length cp2)).heap[b]? = w9.heap[b]? := fun b hb => Below.heap_setCell w9 _ _ b hb
  have hli : i < ads.length := by rw [h.len]; exact hi
  refine ⟨by rw [List.length_set, List.length_set]; exact h.len, ?_, ?_, ?_, ?_⟩
  · rw [List.length_set, hdrs_set h.len hi]
    have h1 : w9.ownsRow base 24 1 (.slice (some ⟨g, 0, none⟩) M.length cap) M.length (hdrs ads M) := row_same h.own fun b e => by
      have e : b = g := by simpa [Value.ownBlock] using e.symm
      rw [e]; exact keep g hgl hgx
    exact (World.ownsRow.stored h1 i _).1
  · intro j x r e1 e2
    by_cases e : j = i
    · subst e
      rw [List.getElem?_set_self hli] at e1
      rw [List.getElem?_set_self hi] at e2
      cases e1; cases e2
      exact ho.sameBlock (hset g2 hg2)
    · rw [List.getElem?_set_ne (Ne.symm e)] at e1 e2
      obtain ⟨_, a2, a3⟩ := h.out j x e1
      exact (h.row j x r e1 e2).sameBlock ((hset x.1 (fun e3 => a3 (by rw [e3]; rfl))).trans (keep x.1 a2 (h.apart j i x _ e1 hx e)))
  · intro j k x y e1 e2 hjk
    by_cases e : j = i
    · subst e
      rw [List.getElem?_set_self hli] at e1
      rw [List.getElem?_set_ne hjk] at e2
      cases e1
      have a := h.apart j k _ y hx e2 hjk
      rcases hat with e3 | e3
      · rw [← e3]; exact a
      · have := (h.out k y e2).2.1; show g2 ≠ y.1; omega
    · rw [List.getElem?_set_ne (Ne.symm e)] at e1
      by_cases e3 : k = i
      · subst e3
        rw [List.getElem?_set_self hli] at e2
        cases e2
        have a := h.apart j k x _ e1 hx hjk
        rcases hat with e4 | e4
        · rw [← e4]; exact a
        · have := (h.out j x e1).2.1; show x.1 ≠ g2; omega
      · rw [List.getElem?_set_ne (Ne.symm e3)] at e2
        exact h.apart j k x y e1 e2 hjk
  · intro j x e1
    rw [World.size_setCell]
    have hsz := hg.size
    by_cases e : j = i
    · subst e
      rw [List.getElem?_set_self hli] at e1
      cases e1
      have := OwnI.lt ho
      exact ⟨this.2, this.1, fun e3 => hg2 (by simpa [Value.ownBlock] using e3.symm)⟩
    · rw [List.getElem?_set_ne (Ne.symm e)] at e1
      obtain ⟨a1, a2, a3⟩ := h.out j x e1
      exact ⟨a1, by omega, a3⟩
end Go.Proofs.YtfnomiingelfaaaGreat
/- solved of the answers: a contract. -/
namespace Go.Proofs.YtfnomiingelfaaaGreat
open Go.RowKit

end Go.Proofs.YtfnomiingelfaaaGreat
/- The values that the answers solve are the program's. Plain words. Speaks of no program. -/
namespace Go.Proofs.YtfnomiingelfaaaGreat
open Go.RowKit

end Go.Proofs.YtfnomiingelfaaaGreat
/- Rank and Independent of both sides, readings checked: contracts. -/
namespace Go.Proofs.YtfnomiingelfaaaGreat
open Go.RowKit

theorem listV_ok {m : List (List Int)} {px : List Int} (h : listV m px = 0) (hv : validM m = true) : (∀ j ∈ px, 0 ≤ j ∧ j < (colsM m : Int)) ∧ px.length ≤ 10 := by
  unfold listV at h
  split at h
  · rename_i ha
    split at h
    · rename_i hb
      rw [List.all_eq_true] at hb
      have hin : ∀ j ∈ px, 0 ≤ j ∧ j < (colsM m : Int) := fun j hj => by
        have := hb j hj
        unfold thereB at this
        simpa [Bool.and_eq_true] using this
      refine ⟨hin, ?_⟩
      have hc := (validM_of hv).2.2.2.1
      have key : ∀ k, k < px.length → (k : Int) ≤ gt px k := by
        intro k
        induction k with
        | zero => intro hk; exact (hin _ (mem_gt.2 ⟨0, hk, rfl⟩)).1
        | succ k ih =>
          intro hk
          have h1 := ih (by omega)
          have h2 := rascB_of ha (k + 1) hk (by omega)
          rw [Nat.add_sub_cancel] at h2
          omega
      by_cases h0 : px.length = 0
      · omega
      · have h1 := key (px.length - 1) (by omega)
        have h2 := hin _ (mem_gt.2 ⟨px.length - 1, by omega, rfl⟩)
        omega
    · cases h
  · cases h
end Go.Proofs.YtfnomiingelfaaaGreat
/- Independent of both sides, readings checked: contracts. -/
namespace Go.Proofs.YtfnomiingelfaaaGreat
open Go.RowKit

set_option maxRecDepth 100000 in
set_option maxHeartbeats 800000 in
theorem lread_any (ma : Option Addr) (m : List (List Int)) (mc : Nat) (a : Option Addr) (y : List Int) (cap : Nat) (w : World) (hm : MOk m) (hl : y.length ≤ 9223372036854775807) (hs : Ms w ma m) (hy : Sl w a y) :
    Calls Tryz.prog 93 #[.slice ma m.length mc, .slice a y.length cap] w fun e w' => e = .returned (.int .i64 (readE m y)) ∧ Below w.heap.size w w' := by
  have HVA : Hid (Calls Tryz.prog 45 #[.slice ma m.length mc] w fun e w' => e = .returned (.bool (validM m)) ∧ Below w.heap.size w w') := mvalid_any ma m mc w hm hs
  obtain ⟨q, hq⟩ : ∃ q, allB 1000000 y = q := ⟨_, rfl⟩
  have HWI : Hid (∀ W, Below w.heap.size w W → Calls Tryz.prog 127 #[.slice a y.length cap, .int .i64 1000000] W fun e w' => e = .returned (.bool q) ∧ W = w') := fun W hb => by rw [← hq]; exact lwithin_any a y cap 1000000 W (by decide) (by decide) hl (hy.below hb)
  have hml := hm.1
  cases hv : validM m
  case false =>
    rw [hv] at HVA
    have HE : Hid (readE m y = 1) := by show _ = _; simp [readE, hv]
    clear hv hq hs hy hm
    go_enter Tryz.func93, Tryz.ntmps93
    go_wp2_with (go_at_call 45; refine HVA.out.mono ?_; rintro e w1 ⟨rfl, hb⟩; have HB := Lib.hid hb; clear hb)
    go_ret
    exact ⟨ret_i64 HE.out.symm, HB.out⟩
  case true =>
    rw [hv] at HVA
    by_cases hlen : (y.length : Int) = (m.length : Int)
    · have y0 : ((y.length : Int) == (m.length : Int)) = true := by simpa using hlen
      have y1 : ((y.length : Int) != (m.length : Int)) = false := by simpa using hlen
      have HE : Hid (readE m y = if q = true then 0 else 7) := by show _ = _; unfold readE fitsV; rw [if_pos hv, if_pos hlen, hq]
      clear hv hq hs hy hm hlen
      cases q
      · go_enter Tryz.func93, Tryz.ntmps93
        go_wp2_with (first | (go_at_call 45; refine HVA.out.mono ?_; rintro e w1 ⟨rfl, hb⟩; have HB := Lib.hid hb; clear hb) | (go_at_call 127; refine (HWI.out w1 HB.out).mono ?_; rintro e w2 ⟨rfl, rfl⟩))
        go_ret
        exact ⟨ret_i64 (by rw [HE.out]; rfl), HB.out⟩
      · go_enter Tryz.func93, Tryz.ntmps93
        go_wp2_with (first | (go_at_call 45; refine HVA.out.mono ?_; rintro e w1 ⟨rfl, hb⟩; have HB := Lib.hid hb; clear hb) | (go_at_call 127; refine (HWI.out w1 HB.out).mono ?_; rintro e w2 ⟨rfl, rfl⟩))
        go_ret
        exact ⟨ret_i64 (by rw [HE.out]; rfl), HB.out⟩
    · have y0 : ((y.length : Int) == (m.length : Int)) = false := by simpa using hlen
      have y1 : ((y.length : Int) != (m.length : Int)) = true := by simpa using hlen
      have HE : Hid (readE m y = 9) := by show _ = _; unfold readE fitsV; rw [if_pos hv, if_neg hlen]
      clear hv hq hs hy hm hlen
      go_enter Tryz.func93, Tryz.ntmps93
      go_wp2_with (go_at_call 45; refine HVA.out.mono ?_; rintro e w1 ⟨rfl, hb⟩; have HB := Lib.hid hb; clear hb)
      go_ret
      exact ⟨ret_i64 HE.out.symm, HB.out⟩
set_option maxRecDepth 100000 in
set_option maxHeartbeats 800000 in
theorem rreading_any (ma : Option Addr) (m : List (List Int)) (mc : Nat) (a : Option Addr) (y : List Int) (cap : Nat) (w : World) (_hml : m.length ≤ 9223372036854775807) (hl : y.length ≤ 9223372036854775807) (hy : Sl w a y) :
    Calls Tryz.prog 63 #[.slice ma m.length mc, .slice a y.length cap] w fun e w' => e = .returned (.int .i64 (fitsV y m.length 1000000)) ∧ w = w' := by
  have HS := Lib.hid hy; clear hy
  by_cases hlen : (y.length : Int) = (m.length : Int)
  · have y0 : ((y.length : Int) == (m.length : Int)) = true := by simpa using hlen
    have y1 : ((y.length : Int) != (m.length : Int)) = false := by simpa using hlen
    have HE : Hid (fitsV y m.length 1000000 = if allB 1000000 y = true then 0 else 7) := by show _ = _; unfold fitsV; rw [if_pos hlen]
    clear hlen
    go_enter Tryz.func63, Tryz.ntmps63
    go_wp2
    go_loopw [14] (fun i wr => ∃ k : Nat, k ≤ y.length ∧ i = .int .i64 k ∧ wr = w ∧ ∀ j, j < k → outB 1000000 (y[j]?.getD 0) = false) (fun i _ => y.length - (intOf i).toNat)
    case atStart => exact ⟨0, Nat.zero_le _, rfl, rfl, fun j h => by omega⟩
    case round =>
      obtain ⟨k, hk, rfl, rfl, hno⟩ := hrel
      have HN := Lib.hid hno; clear hno
      by_cases hlt : k < y.length
      · obtain ⟨b, o, x, rfl, hc, hx⟩ := HS.out.at hlt
        have HX := Lib.hid hx.out
        have HNO : Hid (outB 1000000 x = true → allB 1000000 y = false) := fun h => allB_no hx.out h
        have HRG : Hid (rangeB x (-1000000) 1000000 = !outB 1000000 x) := range_out
        obtain ⟨bb, hbb⟩ : ∃ bb, outB 1000000 x = bb := ⟨_, rfl⟩
        rw [hbb] at HRG HNO
        have HBB := Lib.hid hbb
        clear hx hbb
        go_wp2_with (go_at_call 64; refine (rwithin3_any x (-1000000) 1000000 _).mono ?_; rintro e w1 ⟨rfl, rfl⟩; rw [HRG.out]; cases bb)
        · go_roundw
          case rel => exact ⟨k + 1, by omega, by go_num, by first | trivial | rfl, fun j hj => by
            by_cases e : j = k
            · subst e; rw [HX.out]; exact HBB.out
            · exact HN.out j (by omega)⟩
          case measure => simp [intOf]; omega
        · go_ret
          exact ⟨ret_i64 (by rw [HE.out, HNO.out (by first | trivial | rfl)]; rfl), rfl⟩
      · go_wp2
        go_ret
        exact ⟨ret_i64 (by rw [HE.out, allB_yes (fun j hj => HN.out j (by omega))]; rfl), rfl⟩
  · have y0 : ((y.length : Int) == (m.length : Int)) = false := by simpa using hlen
    have y1 : ((y.length : Int) != (m.length : Int)) = true := by simpa using hlen
    have HE : Hid (fitsV y m.length 1000000 = 9) := by show _ = _; unfold fitsV; rw [if_neg hlen]
    clear hlen
    go_enter Tryz.func63, Tryz.ntmps63
    go_wp2
    go_ret
    exact ⟨ret_i64 HE.out.symm, rfl⟩
end Go.Proofs.YtfnomiingelfaaaGreat
/- Solve of both sides: contracts. -/
namespace Go.Proofs.YtfnomiingelfaaaGreat
open Go.RowKit

def solveV (m : List (List Int)) (px y : List Int) : List (Int × Int) × Int :=
  if readE m y = 0 then (if listV m px = 0 then (if possB (redB m px (oneB y)).rows (redB m px (oneB y)).piv.length px.length = true then (if (redB m px (oneB y)).piv.length < px.length then ([], 11) else (solL px.length (redB m px (oneB y)).rows (redB m px (oneB y)).piv (redB m px (oneB y)).dv (redB m px (oneB y)).piv.length, 0)) else ([], 8)) else ([], listV m px)) else ([], readE m y)
def RLPost (r : List (Int × Int) × Int) (w : World) (e : Ending) (w' : World) : Prop := Below w.heap.size w w' ∧ ∃ a cap, e = .returned (.tuple #[.slice a r.1.length cap, .int .i64 r.2]) ∧ Rl w' a r.1
theorem RLPost.err {w w' : World} {n : Int} (hb : Below w.heap.size w w') : RLPost ([], n) w (.returned (.tuple #[.slice none 0 0, .int .i64 n])) w' := ⟨hb, none, 0, rfl, fun j p h => by simp at h⟩
theorem readE_ok {m : List (List Int)} {y : List Int} (h : readE m y = 0) : validM m = true ∧ y.length = m.length ∧ allB 1000000 y = true := by
  unfold readE at h
  split at h
  · rename_i hv
    obtain ⟨h1, h2⟩ := fitsV_0 h
    exact ⟨hv, by omega, h2⟩
  · cases h
theorem pixB_row {px : List Int} {m : List (List Int)} {y : List Int} : ∀ q ∈ pixB px m (oneB y), q.length = px.length + 1 := fun q hq => by
  obtain ⟨i, _, rfl⟩ := List.mem_map.1 hq
  rw [List.length_append, pixR_len]; rfl
theorem pixB_at {px : List Int} {m : List (List Int)} {y : List Int} {i c : Nat} (hi : i < m.length) : a0 (pixB px m (oneB y)) i c = if c < px.length then gt (rowL m i) (gt px c).toNat else if c = px.length then gt y i else 0 := by
  unfold a0
  have e : rowL (pixB px m (oneB y)) i = pixR px (rowL m i) ++ [gt y i] := by unfold pixB rowL; simp [hi]; rfl
  rw [e, gt_snoc, pixR_len]
  split
  · rename_i h; rw [gt_pixR h]
  · rfl
theorem pixB_bd {m : List (List Int)} {px y : List Int} (hv : validM m = true) (hpx : ∀ j ∈ px, 0 ≤ j ∧ j < (colsM m : Int)) (hy : y.length = m.length) (hb : allB 1000000 y = true) :
    (∀ i, i < m.length → ∀ c, c < px.length → -1 ≤ a0 (pixB px m (oneB y)) i c ∧ a0 (pixB px m (oneB y)) i c ≤ 1) ∧ ∀ i, i < m.length → ∀ c, c < px.length + 1 → -1000000 ≤ a0 (pixB px m (oneB y)) i c ∧ a0 (pixB px m (oneB y)) i c ≤ 1000000 := by
  obtain ⟨_, _, _, _, hrows⟩ := validM_of hv
  have h1 : ∀ i, i < m.length → ∀ c, c < px.length → -1 ≤ a0 (pixB px m (oneB y)) i c ∧ a0 (pixB px m (oneB y)) i c ≤ 1 := fun i hi c hc => by
    rw [pixB_at hi, if_pos hc]
    have hr := hrows _ (rowL_mem hi)
    have := hpx _ (mem_gt.2 ⟨c, hc, rfl⟩)
    exact gt_in hr.2 (by rw [hr.1]; omega)
  refine ⟨h1, fun i hi c hc => ?_⟩
  by_cases e : c < px.length
  · have := h1 i hi c e; omega
  · rw [pixB_at hi, if_neg e, if_pos (by omega)]
    exact gt_in hb (by omega)
theorem redB_fin {m : List (List Int)} {px y : List Int} (hv : validM m = true) (hpx : ∀ j ∈ px, 0 ≤ j ∧ j < (colsM m : Int)) (hy : y.length = m.length) (hb : allB 1000000 y = true) :
    RFin m.length (px.length + 1) px.length (a0 (pixB px m (oneB y))) (redB m px (oneB y)) := by
  obtain ⟨b1, b2⟩ := pixB_bd hv hpx hy hb
  exact rd_fin (pixB_len _ _ _) pixB_row (validM_of hv).2.1 (Nat.le_succ _) b1 b2
theorem redB_cols (m : List (List Int)) (px : List Int) (bh : Nat → List Int) : (redB m px bh).cols = px.length := clearN_cols _ _
theorem box_cells {w3 W4 : World} {a b c d : Value} {t : TypeId} (h : w3.alloc (.cells #[a, b, c, d] t) = W4) : ∀ W, Below W4.heap.size W4 W → W.cell? ⟨w3.heap.size, 0, none⟩ = some a ∧ W.cell? ⟨w3.heap.size, 1, none⟩ = some b ∧ W.cell? ⟨w3.heap.size, 2, none⟩ = some c ∧ W.cell? ⟨w3.heap.size, 3, none⟩ = some d := by
  subst h
  intro W hb
  have hl : w3.heap.size < (w3.alloc (.cells #[a, b, c, d] t)).heap.size := by rw [World.size_alloc]; omega
  exact ⟨(hb.cell (p := ⟨w3.heap.size, 0, none⟩) hl).trans (alloc_cell _ _ _ _ _ rfl), (hb.cell (p := ⟨w3.heap.size, 1, none⟩) hl).trans (alloc_cell _ _ _ _ _ rfl), (hb.cell (p := ⟨w3.heap.size, 2, none⟩) hl).trans (alloc_cell _ _ _ _ _ rfl), (hb.cell (p := ⟨w3.heap.size, 3, none⟩) hl).trans (alloc_cell _ _ _ _ _ rfl)⟩
end Go.Proofs.YtfnomiingelfaaaGreat
/- Solve of the program: its fractions lie in new memory. -/
namespace Go.Proofs.YtfnomiingelfaaaGreat
open Go.RowKit

def RNPost (r : List (Int × Int) × Int) (w : World) (e : Ending) (w' : World) : Prop := Below w.heap.size w w' ∧ ∃ a cap, e = .returned (.tuple #[.slice a r.1.length cap, .int .i64 r.2]) ∧ Rl w' a r.1 ∧ ∀ ad : Addr, a = some ad → w.heap.size ≤ ad.block ∧ ad.block < w'.heap.size
theorem RNPost.err {w w' : World} {n : Int} (hb : Below w.heap.size w w') : RNPost ([], n) w (.returned (.tuple #[.slice none 0 0, .int .i64 n])) w' := ⟨hb, none, 0, rfl, fun j p h => by simp at h, fun ad e => by cases e⟩
set_option maxRecDepth 1000000 in
set_option maxHeartbeats 3200000 in
theorem lsolve_new (ma : Option Addr) (m : List (List Int)) (mc : Nat) (a : Option Addr) (px : List Int) (cap : Nat) (ya : Option Addr) (y : List Int) (yc : Nat) (w : World) (hm : MOk m) (hl : px.length ≤ 1000) (hly : y.length ≤ 1000) (hs : Ms w ma m) (hp : Sl w a px) (hy : Sl w ya y) :
    Calls Tryz.prog 60 #[.slice ma m.length mc, .slice a px.length cap, .slice ya y.length yc] w (RNPost (solveV m px y) w) := by
  obtain ⟨rv, hrv⟩ : ∃ rv, readE m y = rv := ⟨_, rfl⟩
  have HRE : Hid (Calls Tryz.prog 93 #[.slice ma m.length mc, .slice ya y.length yc] w fun e w' => e = .returned (.int .i64 rv) ∧ Below w.heap.size w w') := by rw [← hrv]; exact lread_any ma m mc ya y yc w hm (by omega) hs hy
  by_cases hr0 : rv = 0
  · subst hr0
    obtain ⟨hv, hyl, hyb⟩ := readE_ok hrv
    obtain ⟨v, hvv⟩ : ∃ v, listV m px = v := ⟨_, rfl⟩
    have HNA : Hid (∀ W, Below w.heap.size w W → Calls Tryz.prog 89 #[.slice ma m.length mc, .slice a px.length cap] W fun e w' => e = .returned (.int .i64 v) ∧ Below W.heap.size W w') := fun W hb => by rw [← hvv]; exact llisted_any ma m mc a px cap W hv hl (hs.below hb) (hp.below hb)
    by_cases h0 : v = 0
    · subst h0
      obtain ⟨h1, h2⟩ := listV_ok hvv hv
      obtain ⟨hm1, hm6, hc1, hc10, hrows⟩ := validM_of hv
      have h64 : Hid (All64 m) := fun q hq x hx => by
        obtain ⟨c, hc, rfl⟩ := mem_gt.1 hx
        have := gt_in (hrows q hq).2 hc
        unfold In64; omega
      have hy64 : ∀ x ∈ y, In64 x := fun x hx => by
        obtain ⟨c, hc, rfl⟩ := mem_gt.1 hx
        have := gt_in hyb hc
        unfold In64; omega
      have HF := Lib.hid (redB_fin hv h1 hyl hyb)
      have hco := redB_cols m px (oneB y)
      obtain ⟨rd, hrd⟩ : ∃ rd, redB m px (oneB y) = rd := ⟨_, rfl⟩
      have HRD : Hid (∀ W, Below w.heap.size w W → Calls Tryz.prog 90 #[.slice ma m.length mc, .slice a px.length cap, .func (.func 128) #[] #[.pointer (some ⟨W.heap.size, 0, none⟩)]] (W.alloc (.cells #[.slice ya y.length yc] 24)) (RdPost rd (W.alloc (.cells #[.slice ya y.length yc] 24)))) := fun W hb => by
        have hb2 : Below w.heap.size w (W.alloc (.cells #[.slice ya y.length yc] 24)) := hb.alloc hb.size _
        rw [← hrd]
        exact reduce_any0One (Lib.hid (one_beh (Nat.le_of_eq hyl.symm) hly (alloc_cell _ _ _ _ _ rfl) (hy.below hb2))) ⟨Nat.le_refl _, by decide⟩ (Lib.hid (oneB_ok hy64)) (Lib.hid hm6) (Lib.hid hm1) (Lib.hid h2) (Lib.hid h1) (Lib.hid fun r hr => (hrows r hr).1) h64 (Lib.hid (hs.below hb2)) (Lib.hid (hp.below hb2))
      have HSV : Hid (solveV m px y = if possB rd.rows rd.piv.length px.length = true then (if rd.piv.length < px.length then ([], 11) else (solL px.length rd.rows rd.piv rd.dv rd.piv.length, 0)) else ([], 8)) := by show _ = _; unfold solveV; rw [if_pos hrv, if_pos hvv, hrd]
      rw [hrd] at HF hco
      obtain ⟨pl, hpl⟩ : ∃ pl, px.length = pl := ⟨_, rfl⟩
      rw [hpl] at HF hco HSV HRD h2 HNA ⊢
      obtain ⟨cols, rows, piv, dv⟩ := rd
      dsimp only at hco HSV
      subst hco
      have hlen := HF.out.len
      have hrow := HF.out.row
      have hplr := HF.out.pl
      dsimp only at hlen hrow hplr
      have hpos := HF.out.pos
      dsimp only at hpos
      have hmid : ∀ t, t < piv.length → Mid (gt (rowL rows t) cols) := fun t ht => by
        have := HF.out.bdN t (by omega) cols (by omega)
        dsimp only at this
        unfold Mid; omega
      have hpz : ∀ t, t < piv.length → 0 ≤ gt piv t ∧ gt piv t < cols := fun t ht => HF.out.pz t ht
      obtain ⟨z, hz⟩ : ∃ z, possB rows piv.length cols = z := ⟨_, rfl⟩
      rw [hz] at HSV
      have HPO : Hid (∀ (g cp : Nat) (ads : List (Nat × Nat)) (pa : Option Addr) (pc base : Nat) (W : World), SI W base g ads rows → Calls Tryz.prog 95 #[.agg #[.int .i64 (cols : Int), .slice (some ⟨g, 0, none⟩) rows.length cp, .slice pa piv.length pc, .int .i64 dv]] W fun e w' => e = .returned (.bool z) ∧ Below W.heap.size W w') := fun g cp ads pa pc base W h => by rw [← hz]; exact possible_any cols g cp (cols + 1) ads rows pa piv.length pc piv dv base W rfl (by omega) (by omega) hrow (by omega) (by omega) h
      have HSO : Hid (∀ (g cp : Nat) (ads : List (Nat × Nat)) (pa : Option Addr) (pc base : Nat) (W : World), SI W base g ads rows → Sl W pa piv → Calls Tryz.prog 96 #[.agg #[.int .i64 (cols : Int), .slice (some ⟨g, 0, none⟩) rows.length cp, .slice pa piv.length pc, .int .i64 dv]] W fun e w' => ∃ b c, e = .returned (.slice (some ⟨b, 0, none⟩) cols c) ∧ OwnR w' W.heap.size (.slice (some ⟨b, 0, none⟩) cols c) (solL cols rows piv dv piv.length) ∧ Below W.heap.size W w') := fun g cp ads pa pc base W h h2 => solved_any cols g cp (cols + 1) ads rows pa piv pc dv base W (by omega) (by omega) hrow (by omega) (by omega) h h2 hpz hmid (by unfold Mid; omega) (by omega)
      clear hv hs hp hm hvv h1 hrd hrows h64 hm1 hm6 hc1 hc10 hrv hyl hyb hy64 hy hpl hlen hrow hplr hpos hmid hpz hz HF
      have HLS := solL_len cols rows piv dv piv.length
      cases z with
      | false =>
        rw [HSV.out]
        clear HSV
        go_enter Tryz.func60, Tryz.ntmps60
        go_wp2_with (first | (go_at_call 93; refine HRE.out.mono ?_; rintro e w1 ⟨rfl, hb⟩; have HB := Lib.hid hb; clear hb) | (go_at_call 89; refine (HNA.out w1 HB.out).mono ?_; rintro e w2 ⟨rfl, hb2⟩; have HB2 : Hid (Below w.heap.size w w2) := HB.out.trans (hb2.mono HB.out.size); clear hb2) | (go_at_call 94; refine (oneOf_any ya y.length yc w2).mono ?_; rintro e w9 ⟨rfl, rfl⟩) | (go_at_call 90; refine (HRD.out w2 HB2.out).mono ?_; rintro e w3 ⟨hb3, g, cp, ads, pa2, pc2, rfl, hgg, si, pi⟩; unfold rdV; dsimp only at si pi ⊢; obtain ⟨W4, hW4⟩ : ∃ W4, w3.alloc (.cells #[.int .i64 (cols : Int), .slice (some ⟨g, 0, none⟩) rows.length cp, .slice pa2 piv.length pc2, .int .i64 dv] 113) = W4 := ⟨_, rfl⟩; have HCW : Hid (∀ W, Below W4.heap.size W4 W → W.cell? ⟨w3.heap.size, 0, none⟩ = some (.int .i64 (cols : Int)) ∧ W.cell? ⟨w3.heap.size, 1, none⟩ = some (.slice (some ⟨g, 0, none⟩) rows.length cp) ∧ W.cell? ⟨w3.heap.size, 2, none⟩ = some (.slice pa2 piv.length pc2) ∧ W.cell? ⟨w3.heap.size, 3, none⟩ = some (.int .i64 dv)) := box_cells hW4; obtain ⟨k0, k1, k2, k3⟩ := HCW.out W4 (Below.refl _ _); have HB4 : Hid (Below w3.heap.size w3 W4) := hW4 ▸ (Below.refl _ _).alloc (Nat.le_refl _) _; have HSI := Lib.hid si; have HPI := Lib.hid (OwnI.sl pi); have HB3 := Lib.hid hb3; have HSI4 := Lib.hid (HSI.out.below HB4.out); have HPI4 := Lib.hid (HPI.out.below HB4.out); have HBW4 : Hid (Below w.heap.size w W4) := (HB2.out.alloc HB2.out.size _).trans ((HB3.out.mono (by rw [World.size_alloc]; have := HB2.out.size; omega)).trans (HB4.out.mono (by have h1 := HB3.out.size; rw [World.size_alloc] at h1; have := HB2.out.size; omega))); clear si pi hgg hb3) | (go_at_call 95; refine (HPO.out _ _ _ _ _ _ _ HSI4.out).mono ?_; rintro e w5 ⟨rfl, hb5⟩; have HB5 := Lib.hid hb5; obtain ⟨j0, j1, j2, j3⟩ := HCW.out w5 hb5; clear hb5) | (go_at_call 92; refine (rank_any cols g rows.length cp pa2 piv pc2 dv _).mono ?_; rintro e w6 ⟨rfl, hb6⟩; have HB6 : Hid (Below W4.heap.size W4 w6) := HB5.out.trans (hb6.mono HB5.out.size); obtain ⟨i0, i1, i2, i3⟩ := HCW.out w6 HB6.out; clear hb6) | (go_at_call 96; refine (HSO.out _ _ _ _ _ _ _ (HSI4.out.below HB6.out) (HPI4.out.below HB6.out)).mono ?_; rintro e w7 ⟨sb, sc, rfl, ho7, hb7⟩; have HO7 := Lib.hid ho7; have HB7 : Hid (Below W4.heap.size W4 w7) := HB6.out.trans (hb7.mono HB6.out.size); clear ho7 hb7))
        go_ret2
        exact RNPost.err (HBW4.out.trans (HB5.out.mono HBW4.out.size))
      | true =>
        by_cases hlt : piv.length < cols
        · have y0 : decide (piv.length < cols) = true := by simpa using hlt
          have HS2 : Hid (solveV m px y = ([], 11)) := by show _ = _; rw [HSV.out, if_pos rfl, if_pos hlt]
          rw [HS2.out]
          clear HSV
          go_enter Tryz.func60, Tryz.ntmps60
          go_wp2_with (first | (go_at_call 93; refine HRE.out.mono ?_; rintro e w1 ⟨rfl, hb⟩; have HB := Lib.hid hb; clear hb) | (go_at_call 89; refine (HNA.out w1 HB.out).mono ?_; rintro e w2 ⟨rfl, hb2⟩; have HB2 : Hid (Below w.heap.size w w2) := HB.out.trans (hb2.mono HB.out.size); clear hb2) | (go_at_call 94; refine (oneOf_any ya y.length yc w2).mono ?_; rintro e w9 ⟨rfl, rfl⟩) | (go_at_call 90; refine (HRD.out w2 HB2.out).mono ?_; rintro e w3 ⟨hb3, g, cp, ads, pa2, pc2, rfl, hgg, si, pi⟩; unfold rdV; dsimp only at si pi ⊢; obtain ⟨W4, hW4⟩ : ∃ W4, w3.alloc (.cells #[.int .i64 (cols : Int), .slice (some ⟨g, 0, none⟩) rows.length cp, .slice pa2 piv.length pc2, .int .i64 dv] 113) = W4 := ⟨_, rfl⟩; have HCW : Hid (∀ W, Below W4.heap.size W4 W → W.cell? ⟨w3.heap.size, 0, none⟩ = some (.int .i64 (cols : Int)) ∧ W.cell? ⟨w3.heap.size, 1, none⟩ = some (.slice (some ⟨g, 0, none⟩) rows.length cp) ∧ W.cell? ⟨w3.heap.size, 2, none⟩ = some (.slice pa2 piv.length pc2) ∧ W.cell? ⟨w3.heap.size, 3, none⟩ = some (.int .i64 dv)) := box_cells hW4; obtain ⟨k0, k1, k2, k3⟩ := HCW.out W4 (Below.refl _ _); have HB4 : Hid (Below w3.heap.size w3 W4) := hW4 ▸ (Below.refl _ _).alloc (Nat.le_refl _) _; have HSI := Lib.hid si; have HPI := Lib.hid (OwnI.sl pi); have HB3 := Lib.hid hb3; have HSI4 := Lib.hid (HSI.out.below HB4.out); have HPI4 := Lib.hid (HPI.out.below HB4.out); have HBW4 : Hid (Below w.heap.size w W4) := (HB2.out.alloc HB2.out.size _).trans ((HB3.out.mono (by rw [World.size_alloc]; have := HB2.out.size; omega)).trans (HB4.out.mono (by have h1 := HB3.out.size; rw [World.size_alloc] at h1; have := HB2.out.size; omega))); clear si pi hgg hb3) | (go_at_call 95; refine (HPO.out _ _ _ _ _ _ _ HSI4.out).mono ?_; rintro e w5 ⟨rfl, hb5⟩; have HB5 := Lib.hid hb5; obtain ⟨j0, j1, j2, j3⟩ := HCW.out w5 hb5; clear hb5) | (go_at_call 92; refine (rank_any cols g rows.length cp pa2 piv pc2 dv _).mono ?_; rintro e w6 ⟨rfl, hb6⟩; have HB6 : Hid (Below W4.heap.size W4 w6) := HB5.out.trans (hb6.mono HB5.out.size); obtain ⟨i0, i1, i2, i3⟩ := HCW.out w6 HB6.out; clear hb6) | (go_at_call 96; refine (HSO.out _ _ _ _ _ _ _ (HSI4.out.below HB6.out) (HPI4.out.below HB6.out)).mono ?_; rintro e w7 ⟨sb, sc, rfl, ho7, hb7⟩; have HO7 := Lib.hid ho7; have HB7 : Hid (Below W4.heap.size W4 w7) := HB6.out.trans (hb7.mono HB6.out.size); clear ho7 hb7))
          go_ret2
          exact RNPost.err (HBW4.out.trans (HB6.out.mono HBW4.out.size))
        · have y0 : decide (piv.length < cols) = false := by simpa using hlt
          have HS2 : Hid (solveV m px y = (solL cols rows piv dv piv.length, 0)) := by show _ = _; rw [HSV.out, if_pos rfl, if_neg hlt]
          rw [HS2.out]
          clear HSV
          go_enter Tryz.func60, Tryz.ntmps60
          go_wp2_with (first | (go_at_call 93; refine HRE.out.mono ?_; rintro e w1 ⟨rfl, hb⟩; have HB := Lib.hid hb; clear hb) | (go_at_call 89; refine (HNA.out w1 HB.out).mono ?_; rintro e w2 ⟨rfl, hb2⟩; have HB2 : Hid (Below w.heap.size w w2) := HB.out.trans (hb2.mono HB.out.size); clear hb2) | (go_at_call 94; refine (oneOf_any ya y.length yc w2).mono ?_; rintro e w9 ⟨rfl, rfl⟩) | (go_at_call 90; refine (HRD.out w2 HB2.out).mono ?_; rintro e w3 ⟨hb3, g, cp, ads, pa2, pc2, rfl, hgg, si, pi⟩; unfold rdV; dsimp only at si pi ⊢; obtain ⟨W4, hW4⟩ : ∃ W4, w3.alloc (.cells #[.int .i64 (cols : Int), .slice (some ⟨g, 0, none⟩) rows.length cp, .slice pa2 piv.length pc2, .int .i64 dv] 113) = W4 := ⟨_, rfl⟩; have HCW : Hid (∀ W, Below W4.heap.size W4 W → W.cell? ⟨w3.heap.size, 0, none⟩ = some (.int .i64 (cols : Int)) ∧ W.cell? ⟨w3.heap.size, 1, none⟩ = some (.slice (some ⟨g, 0, none⟩) rows.length cp) ∧ W.cell? ⟨w3.heap.size, 2, none⟩ = some (.slice pa2 piv.length pc2) ∧ W.cell? ⟨w3.heap.size, 3, none⟩ = some (.int .i64 dv)) := box_cells hW4; obtain ⟨k0, k1, k2, k3⟩ := HCW.out W4 (Below.refl _ _); have HB4 : Hid (Below w3.heap.size w3 W4) := hW4 ▸ (Below.refl _ _).alloc (Nat.le_refl _) _; have HSI := Lib.hid si; have HPI := Lib.hid (OwnI.sl pi); have HB3 := Lib.hid hb3; have HSI4 := Lib.hid (HSI.out.below HB4.out); have HPI4 := Lib.hid (HPI.out.below HB4.out); have HBW4 : Hid (Below w.heap.size w W4) := (HB2.out.alloc HB2.out.size _).trans ((HB3.out.mono (by rw [World.size_alloc]; have := HB2.out.size; omega)).trans (HB4.out.mono (by have h1 := HB3.out.size; rw [World.size_alloc] at h1; have := HB2.out.size; omega))); clear si pi hgg hb3) | (go_at_call 95; refine (HPO.out _ _ _ _ _ _ _ HSI4.out).mono ?_; rintro e w5 ⟨rfl, hb5⟩; have HB5 := Lib.hid hb5; obtain ⟨j0, j1, j2, j3⟩ := HCW.out w5 hb5; clear hb5) | (go_at_call 92; refine (rank_any cols g rows.length cp pa2 piv pc2 dv _).mono ?_; rintro e w6 ⟨rfl, hb6⟩; have HB6 : Hid (Below W4.heap.size W4 w6) := HB5.out.trans (hb6.mono HB5.out.size); obtain ⟨i0, i1, i2, i3⟩ := HCW.out w6 HB6.out; clear hb6) | (go_at_call 96; refine (HSO.out _ _ _ _ _ _ _ (HSI4.out.below HB6.out) (HPI4.out.below HB6.out)).mono ?_; rintro e w7 ⟨sb, sc, rfl, ho7, hb7⟩; have HO7 := Lib.hid ho7; have HB7 : Hid (Below W4.heap.size W4 w7) := HB6.out.trans (hb7.mono HB6.out.size); clear ho7 hb7))
          go_ret2
          refine ⟨HBW4.out.trans (HB7.out.mono HBW4.out.size), _, sc, by (rw [HLS]; rfl), OwnR.rl (cap := sc) (base := w6.heap.size) ?_, ?_⟩
          · rw [HLS]; exact HO7.out
          · rintro ad rfl2
            obtain rfl := Option.some.inj rfl2
            have h1 := OwnR.lt HO7.out
            have h2 := HBW4.out.size
            have h3 := HB6.out.size
            exact ⟨by dsimp only; omega, h1.2⟩
    · have y0 : (v == 0) = false := by simpa using h0
      have y1 : (v != 0) = true := by simpa using h0
      have HSV : Hid (solveV m px y = ([], v)) := by show _ = _; unfold solveV; rw [if_pos hrv, hvv, if_neg h0]
      rw [HSV.out]
      clear hv hs hp hm hvv h0 hrv hy hyl hyb HSV
      go_enter Tryz.func60, Tryz.ntmps60
      go_wp2_with (first | (go_at_call 93; refine HRE.out.mono ?_; rintro e w1 ⟨rfl, hb⟩; have HB := Lib.hid hb; clear hb) | (go_at_call 89; refine (HNA.out w1 HB.out).mono ?_; rintro e w2 ⟨rfl, hb2⟩; have HB2 : Hid (Below w.heap.size w w2) := HB.out.trans (hb2.mono HB.out.size); clear hb2))
      go_ret2
      exact RNPost.err HB2.out
  · have y0 : (rv == 0) = false := by simpa using hr0
    have y1 : (rv != 0) = true := by simpa using hr0
    have HSV : Hid (solveV m px y = ([], rv)) := by show _ = _; unfold solveV; rw [hrv, if_neg hr0]
    rw [HSV.out]
    clear hs hp hm hr0 hrv hy HSV
    go_enter Tryz.func60, Tryz.ntmps60
    go_wp2_with (go_at_call 93; refine HRE.out.mono ?_; rintro e w1 ⟨rfl, hb⟩; have HB := Lib.hid hb; clear hb)
    go_ret2
    exact RNPost.err HB.out
end Go.Proofs.YtfnomiingelfaaaGreat
/- fit of layer 4, and what it calls: contracts. -/
namespace Go.Proofs.YtfnomiingelfaaaGreat
open Go.RowKit

theorem box2 {w V : World} {a b : Value} {t : TypeId} (h : w.alloc (.cells #[a, b] t) = V) : ∀ W, Below V.heap.size V W → W.cell? ⟨w.heap.size, 0, none⟩ = some a ∧ W.cell? ⟨w.heap.size, 1, none⟩ = some b ∧ W.frozen? ⟨w.heap.size, 0, none⟩ = false ∧ W.frozen? ⟨w.heap.size, 1, none⟩ = false := by
  subst h
  intro W hb
  have hl : w.heap.size < (w.alloc (.cells #[a, b] t)).heap.size := by rw [World.size_alloc]; omega
  exact ⟨(hb.cell (p := ⟨w.heap.size, 0, none⟩) hl).trans (alloc_cell _ _ _ _ _ rfl), (hb.cell (p := ⟨w.heap.size, 1, none⟩) hl).trans (alloc_cell _ _ _ _ _ rfl), (hb.frozen (p := ⟨w.heap.size, 0, none⟩) hl).trans (by simp), (hb.frozen (p := ⟨w.heap.size, 1, none⟩) hl).trans (by simp)⟩
def ixZ (vs : List (Int × Int)) : Int := if vs.any (fun p => p.1 == 0) = true then (vs.findIdx (fun p => p.1 == 0) : Int) else -1
theorem ixZ_hit {vs : List (Int × Int)} {k : Nat} {p : Int × Int} (h : ∀ j, j < k → ∀ q, vs[j]? = some q → q.1 ≠ 0) (hp : vs[k]? = some p) (h0 : p.1 = 0) : ixZ vs = k := by
  obtain ⟨hk, e⟩ := List.getElem?_eq_some_iff.1 hp
  have ha : vs.any (fun p => p.1 == 0) = true := List.any_eq_true.2 ⟨p, List.mem_of_getElem? hp, by simpa using h0⟩
  unfold ixZ
  rw [if_pos ha]
  congr 1
  rw [List.findIdx_eq hk]
  refine ⟨by rw [e]; simpa using h0, fun j hj => ?_⟩
  have := h j hj _ (List.getElem?_eq_getElem (by omega))
  simpa using this
theorem ixZ_no {vs : List (Int × Int)} (h : ∀ j, j < vs.length → ∀ q, vs[j]? = some q → q.1 ≠ 0) : ixZ vs = -1 ∧ vs.any (fun p => p.1 == 0) = false := by
  have ha : vs.any (fun p => p.1 == 0) = false := by
    rw [List.any_eq_false]
    intro q hq
    obtain ⟨j, hj, e⟩ := List.getElem_of_mem hq
    have := h j hj q (by rw [List.getElem?_eq_getElem hj, e])
    simpa using this
  exact ⟨by unfold ixZ; rw [ha]; rfl, ha⟩
set_option maxRecDepth 100000 in
theorem zero_any (a b : Int) (w : World) : Calls Tryz.prog 30 #[.agg #[.int .i64 a, .int .i64 b]] w fun e w' => e = .returned (.bool (a == 0)) ∧ Below w.heap.size w w' := by
  obtain ⟨V, hV⟩ : ∃ V, w.alloc (.cells #[.int .i64 a, .int .i64 b] 52) = V := ⟨_, rfl⟩
  obtain ⟨t0, t1, _, _⟩ := box2 hV V (Below.refl _ _)
  have HB : Hid (Below w.heap.size w V) := by rw [← hV]; exact (Below.refl _ _).alloc (Nat.le_refl _) _
  go_enter Tryz.func30, Tryz.ntmps30
  go_wp2
  go_ret
  exact ⟨rfl, HB.out⟩
set_option maxRecDepth 1000000 in
set_option maxHeartbeats 1600000 in
theorem indexZ_any (a : Option Addr) (vs : List (Int × Int)) (cap : Nat) (w : World) (hl : vs.length ≤ 1000) (hs : Rl w a vs) :
    Calls Tryz.prog 97 #[.slice a vs.length cap, .func (.func 30) #[] #[]] w fun e w' => e = .returned (.int .i64 (ixZ vs)) ∧ Below w.heap.size w w' := by
  have HS := Lib.hid hs; clear hs
  obtain ⟨n, hn⟩ : ∃ n, vs.length = n := ⟨_, rfl⟩
  have HN := Lib.hid hn
  rw [hn] at hl ⊢
  clear hn
  go_enter Tryz.func97, Tryz.ntmps97
  go_wp2
  go_loopw [8] (fun i wr => ∃ k : Nat, k ≤ n ∧ i = .int .i64 k ∧ Below w.heap.size w wr ∧ ∀ j, j < k → ∀ q, vs[j]? = some q → q.1 ≠ 0) (fun i _ => n - (intOf i).toNat)
  case atStart => exact ⟨0, Nat.zero_le _, rfl, Below.refl _ _, fun j h => by omega⟩
  case round =>
    obtain ⟨k, hk, rfl, hb, hno⟩ := hrel
    have HNO := Lib.hid hno; clear hno
    have HB := Lib.hid hb; clear hb
    by_cases hlt : k < n
    · obtain ⟨p, hp⟩ : ∃ p, vs[k]? = some p := ⟨_, List.getElem?_eq_getElem (by rw [HN.out]; exact hlt)⟩
      obtain ⟨b, rfl, c1, c2⟩ := (HS.out.below HB.out) k p hp
      have HP := Lib.hid hp
      obtain ⟨p1, p2⟩ := p
      dsimp only at c1 c2
      have hk0 : (k : Int) < (n : Int) := by omega
      obtain ⟨z, hz⟩ : ∃ z, (p1 == 0) = z := ⟨_, rfl⟩
      have HZ := Lib.hid hz
      have HZE : Hid (∀ W, Calls Tryz.prog 30 #[.agg #[.int .i64 p1, .int .i64 p2]] W fun e w' => e = .returned (.bool z) ∧ Below W.heap.size W w') := fun W => by rw [← hz]; exact zero_any p1 p2 W
      clear hz hp
      cases z with
      | true =>
        go_wp2_with (go_at_call 30; refine (HZE.out _).mono ?_; rintro e w5 ⟨rfl, hb5⟩)
        go_ret
        exact ⟨ret_i64 (ixZ_hit HNO.out HP.out (by simpa using HZ.out)).symm, HB.out.trans (hb5.mono HB.out.size)⟩
      | false =>
        go_wp2_with (go_at_call 30; refine (HZE.out _).mono ?_; rintro e w5 ⟨rfl, hb5⟩)
        go_roundw
        case rel => exact ⟨k + 1, by omega, by go_num, HB.out.trans (hb5.mono HB.out.size), fun j hj q hq => by
          by_cases e : j = k
          · subst e
            rw [HP.out] at hq
            obtain rfl := Option.some.inj hq
            simpa using HZ.out
          · exact HNO.out j (by omega) q hq⟩
        case measure => simp [intOf]; omega
    · obtain rfl : n = k := by omega
      have HE : Hid (ixZ vs = -1) := (ixZ_no fun j hj => HNO.out j (by rw [HN.out] at hj; exact hj)).1
      go_wp2
      go_ret
      exact ⟨ret_i64 HE.out.symm, HB.out⟩
set_option maxRecDepth 100000 in
theorem containsZ_any (a : Option Addr) (vs : List (Int × Int)) (cap : Nat) (w : World) (hl : vs.length ≤ 1000) (hs : Rl w a vs) :
    Calls Tryz.prog 61 #[.slice a vs.length cap, .func (.func 30) #[] #[]] w fun e w' => e = .returned (.bool (vs.any fun p => p.1 == 0)) ∧ Below w.heap.size w w' := by
  have HI := Lib.hid (indexZ_any a vs cap w hl hs); clear hs
  have HE : Hid (decide (0 ≤ ixZ vs) = vs.any fun p => p.1 == 0) := by
    show _ = _
    unfold ixZ
    cases vs.any fun p => p.1 == 0
    · simp
    · simp
  obtain ⟨x, hx⟩ : ∃ x, ixZ vs = x := ⟨_, rfl⟩
  rw [hx] at HI HE
  clear hx
  go_enter Tryz.func61, Tryz.ntmps61
  go_wp2_with (go_at_call 97; refine HI.out.mono ?_; rintro e w' ⟨rfl, hb⟩)
  go_ret
  exact ⟨ret_bool (by rw [← HE.out]), hb⟩
set_option maxHeartbeats 400000 in
theorem cloneN_any (ad : Addr) (xs : List Int) (cap : Nat) (w : World) (hl : xs.length * 8 ≤ 140737488351232) (hs : Sl w (some ad) xs) :
    Calls Tryz.prog 62 #[.slice (some ad) xs.length cap] w fun e w' =>
      ∃ a c, e = .returned (.slice a xs.length c) ∧ Sl w' a xs ∧ Below w.heap.size w w' ∧ ∀ ad, a = some ad → w.heap.size ≤ ad.block ∧ ad.block < w'.heap.size := by
  have HN : Hid (∀ (j : Nat) (u : Value), (xs.map (Value.int .i64))[j]? = some u → (w.alloc (.cells #[] 3)).cell? (ad.add j) = some u) := fun j u hu => by
    have hj : j < xs.length := by have := (List.getElem?_eq_some_iff.1 hu).1; simpa using this
    obtain ⟨b, off, e, h⟩ := (hs.alloc (.cells #[] 3)) j hj
    obtain rfl := Option.some.inj e
    rw [addr_add, h]
    simpa [hj] using hu
  clear hs
  have hown := World.ownsRow_lit (base := w.heap.size) (e := 3) (size := 1) w #[] 0 (Nat.le_refl _) (by unfold maxLen; omega) rfl
  have qT : ∀ (w : World) (a : Option Addr) (n c n' c' : Nat), (binOp .eql 24 (.slice a n c) (.slice none n' c')).run Tryz.prog w = .ok (.bool a.isNone) w := fun w a n c n' c' => Lib.run_eql_slice_nil w _ _ a n c n' c' Tryz.underlying24
  obtain ⟨i0, hi, hz0, hz1, hz2⟩ := info_parts Tryz.infoInt
  go_enter Tryz.func62, Tryz.ntmps62
  go_wp2_with (at_builtin; go_must (refine wpList_append_own _ rfl _ _ 24 rfl w.heap.size 3 i0 (.int .i64 0) 1 8 Tryz.underlying24 hi hz0 hz1 hz2 rfl (by decide) _ 0 [] rfl hown ad xs.length cap (xs.map (Value.int .i64)) rfl (by simp) HN.out (map_oneCell xs) (by unfold maxLen; omega) (by omega) (by simp) ?_); intro v' w1 hown' hgrow hnil)
  go_ret
  have ho : OwnI w1 w.heap.size v' xs := by simpa [OwnI] using hown'
  obtain ⟨a, c, rfl, h1, h2⟩ := ho.parts
  refine ⟨a, ⟨c, rfl⟩, h1, ?_, fun ad e => ⟨(h2 ad e).2, (h2 ad e).1⟩⟩
  exact ((Below.refl w.heap.size w).alloc (Nat.le_refl _) _).grown hgrow (by simp) (fun k e => by have : k = w.heap.size := (by simpa [Act.eval, Value.ownBlock] using e.symm); omega)
structure FitAt (W : World) (base : Nat) (qa : Option Addr) (px : List Int) (va : Option Addr) (vs : List (Int × Int)) : Prop where
  sl : Sl W qa px
  rl : Rl W va vs
  q : ∀ ad, qa = some ad → base ≤ ad.block ∧ ad.block < W.heap.size
  v : ∀ ad, va = some ad → base ≤ ad.block ∧ ad.block < W.heap.size
def fitO (wr : Int × Int → Bool) (m : List (List Int)) (y px : List Int) : Option (List (Int × Int)) := if (solveV m px y).2 = 0 then (if (solveV m px y).1.any wr = true then none else some (solveV m px y).1) else none
def FitPost (r : Option (List (Int × Int))) (px : List Int) (w : World) (e : Ending) (w' : World) : Prop :=
  Below w.heap.size w w' ∧ ((r = none ∧ e = .returned (.tuple #[.agg #[.slice none 0 0, .slice none 0 0], .bool false])) ∨ (∃ vs qa qc va vc, r = some vs ∧ e = .returned (.tuple #[.agg #[.slice qa px.length qc, .slice va vs.length vc], .bool true]) ∧ FitAt w' w.heap.size qa px va vs))
theorem solveV_len (m : List (List Int)) (px y : List Int) : (solveV m px y).1.length ≤ px.length := by
  unfold solveV
  split
  · split
    · split
      · split
        · simp
        · rw [solL_len]; exact Nat.le_refl _
      · simp
    · simp
  · simp
set_option maxRecDepth 1000000 in
set_option maxHeartbeats 1600000 in
theorem sfit_any (wf : Value) (wr : Int × Int → Bool) (ma : Option Addr) (m : List (List Int)) (mc : Nat) (ya : Option Addr) (y : List Int) (yc : Nat) (pb : Addr) (px : List Int) (pc : Nat) (w : World) (hm : MOk m) (hl : px.length ≤ 1000) (hly : y.length ≤ 1000) (hs : Ms w ma m) (hp : Sl w (some pb) px) (hy : Sl w ya y)
    (hw : ∀ W a vs cap, Below w.heap.size w W → vs.length ≤ 1000 → Rl W a vs → Calls Tryz.prog 61 #[.slice a vs.length cap, wf] W fun e w' => e = .returned (.bool (vs.any wr)) ∧ Below W.heap.size W w') :
    Calls Tryz.prog 29 #[.agg #[.slice ma m.length mc, .slice ya y.length yc], .slice (some pb) px.length pc, wf] w (FitPost (fitO wr m y px) px w) := by
  obtain ⟨V1, hV1⟩ : ∃ V1, w.alloc (.cells #[.slice ma m.length mc, .slice ya y.length yc] 54) = V1 := ⟨_, rfl⟩
  obtain ⟨V, hV⟩ : ∃ V, V1.alloc (.cells #[.slice none 0 0, .slice none 0 0] 27) = V := ⟨_, rfl⟩
  have hs1 : V1.heap.size = w.heap.size + 1 := by rw [← hV1]; exact World.size_alloc _ _
  have hs2 : V.heap.size = w.heap.size + 2 := by rw [← hV, World.size_alloc]; omega
  have hb1 : Below w.heap.size w V1 := by rw [← hV1]; exact (Below.refl _ _).alloc (Nat.le_refl _) _
  have hb2 : Below V1.heap.size V1 V := by rw [← hV]; exact (Below.refl _ _).alloc (Nat.le_refl _) _
  have HBV : Hid (Below w.heap.size w V) := hb1.trans (hb2.mono (by omega))
  have HQ := Lib.hid (box2 hV1)
  have HF := Lib.hid (box2 hV)
  obtain ⟨q0, q1, _, _⟩ := HQ.out V hb2
  obtain ⟨f0, f1, f2, f3⟩ := HF.out V (Below.refl _ _)
  have HS2 := Lib.hid hs2
  have HS1 := Lib.hid hs1
  have HV1B : Hid (w.heap.size ≤ V1.heap.size) := hb1.size
  have HSO : Hid (Calls Tryz.prog 60 #[.slice ma m.length mc, .slice (some pb) px.length pc, .slice ya y.length yc] V (RNPost (solveV m px y) V)) := lsolve_new ma m mc (some pb) px pc ya y yc V hm hl hly (hs.below HBV.out) (hp.below HBV.out) (hy.below HBV.out)
  have HFO : Hid (fitO wr m y px = if (solveV m px y).2 = 0 then (if (solveV m px y).1.any wr = true then none else some (solveV m px y).1) else none) := rfl
  have hvl := solveV_len m px y
  obtain ⟨⟨vs, e0⟩, hsv⟩ : ∃ r, solveV m px y = r := ⟨_, rfl⟩
  rw [hsv] at HSO HFO hvl
  dsimp only at hvl HFO
  have HP := Lib.hid hp
  have HCL : Hid (∀ W, Below w.heap.size w W → Calls Tryz.prog 62 #[.slice (some pb) px.length pc] W fun e w' => ∃ a c, e = .returned (.slice a px.length c) ∧ Sl w' a px ∧ Below W.heap.size W w' ∧ ∀ ad, a = some ad → W.heap.size ≤ ad.block ∧ ad.block < w'.heap.size) := fun W hb => cloneN_any pb px pc W (by omega) (HP.out.below hb)
  have HW := Lib.hid hw
  obtain ⟨pl, hpl⟩ : ∃ pl, px.length = pl := ⟨_, rfl⟩
  have HPL := Lib.hid hpl
  unfold FitPost
  rw [hpl] at HSO HCL hl hvl ⊢
  clear hm hs hp hy hw hs1 hs2 hb1 hb2 hsv hpl
  by_cases he0 : e0 = 0
  · subst he0
    rw [if_pos rfl] at HFO
    obtain ⟨z, hz⟩ : ∃ z, vs.any wr = z := ⟨_, rfl⟩
    rw [hz] at HFO
    have HCO : Hid (∀ W a cap, Below w.heap.size w W → Rl W a vs → Calls Tryz.prog 61 #[.slice a vs.length cap, wf] W fun e w' => e = .returned (.bool z) ∧ Below W.heap.size W w') := fun W a cap hb hr => by rw [← hz]; exact HW.out W a vs cap hb (by omega) hr
    clear hz HW
    cases z with
    | true =>
      have HFN : Hid (fitO wr m y px = none) := by show _ = _; rw [HFO.out]; rfl
      clear HFO
      go_enter Tryz.func29, Tryz.ntmps29
      go_wp2_with (first
        | (go_at_call 60; refine HSO.out.mono ?_; rintro e w2 ⟨hb2, va, vc, rfl, hrl, hnw⟩; dsimp only at hrl ⊢; have HB2 := Lib.hid hb2; have HBW2 : Hid (Below w.heap.size w w2) := HBV.out.trans (hb2.mono HBV.out.size); have HRL := Lib.hid hrl; clear hb2 hrl hnw)
        | (go_at_call 61; refine (HCO.out w2 va vc HBW2.out HRL.out).mono ?_; rintro e w3 ⟨rfl, hb3⟩; have HB3 : Hid (Below V.heap.size V w3) := HB2.out.trans (hb3.mono HB2.out.size); have HBW3 : Hid (Below w.heap.size w w3) := HBV.out.trans (HB3.out.mono HBV.out.size); obtain ⟨g0, g1, g2, g3⟩ := HF.out w3 HB3.out; clear hb3))
      refine bodyPost_ret (v := .tuple #[.agg #[.slice none 0 0, .slice none 0 0], .bool false]) ?_ rfl ⟨(HBW3.out.setCell (p := ⟨V1.heap.size, 0, none⟩) HV1B.out _).setCell (p := ⟨V1.heap.size, 1, none⟩) HV1B.out _, .inl ⟨HFN.out, rfl⟩⟩
      rw [results_cell_tmp rfl]; go_simp
    | false =>
      have HFS : Hid (fitO wr m y px = some vs) := by show _ = _; rw [HFO.out]; rfl
      clear HFO
      go_enter Tryz.func29, Tryz.ntmps29
      go_wp2_with (first
        | (go_at_call 60; refine HSO.out.mono ?_; rintro e w2 ⟨hb2, va, vc, rfl, hrl, hnw⟩; dsimp only at hrl ⊢; have HB2 := Lib.hid hb2; have HBW2 : Hid (Below w.heap.size w w2) := HBV.out.trans (hb2.mono HBV.out.size); have HRL := Lib.hid hrl; have HNW := Lib.hid hnw; clear hb2 hrl hnw)
        | (go_at_call 61; refine (HCO.out w2 va vc HBW2.out HRL.out).mono ?_; rintro e w3 ⟨rfl, hb3⟩; have HB3 : Hid (Below V.heap.size V w3) := HB2.out.trans (hb3.mono HB2.out.size); have HBW3 : Hid (Below w.heap.size w w3) := HBV.out.trans (HB3.out.mono HBV.out.size); have HRL3 := Lib.hid (HRL.out.below hb3); have HS3 : Hid (w2.heap.size ≤ w3.heap.size) := hb3.size; clear hb3)
        | (go_at_call 62; refine (HCL.out w3 HBW3.out).mono ?_; rintro e w4 ⟨qa, qc, rfl, hsl, hb4, hqn⟩; have HB4 : Hid (Below V.heap.size V w4) := HB3.out.trans (hb4.mono HB3.out.size); have HBW4 : Hid (Below w.heap.size w w4) := HBV.out.trans (HB4.out.mono HBV.out.size); have HRL4 := Lib.hid (HRL3.out.below hb4); have HS4 : Hid (w3.heap.size ≤ w4.heap.size) := hb4.size; have HSL := Lib.hid hsl; have HQN := Lib.hid hqn; obtain ⟨g0, g1, g2, g3⟩ := HF.out w4 HB4.out; clear hb4 hsl hqn))
      refine bodyPost_ret (v := .tuple #[.agg #[.slice qa pl qc, .slice va vs.length vc], .bool true]) ?_ rfl ⟨(HBW4.out.setCell (p := ⟨V1.heap.size, 0, none⟩) HV1B.out _).setCell (p := ⟨V1.heap.size, 1, none⟩) HV1B.out _, .inr ⟨vs, qa, qc, va, vc, HFS.out, rfl, ?_, ?_, ?_, ?_⟩⟩
      · rw [results_cell_tmp rfl]; go_simp
      · have h2 := HS2.out
        have h3 := HB3.out.size
        refine sl_apart (sl_apart HSL.out (fun ad e => ?_) _) (fun ad e => ?_) _
        · have := (HQN.out ad e).1; show ad.block ≠ V1.heap.size; have := HS1.out; omega
        · have := (HQN.out ad e).1; show ad.block ≠ V1.heap.size; have := HS1.out; omega
      · have h2 := HS2.out
        intro j p hj
        obtain ⟨b, e, c1, c2⟩ := HRL4.out j p hj
        have := (HNW.out _ e).1
        have hne : b ≠ V1.heap.size := by dsimp only at this; have := HS1.out; omega
        exact ⟨b, e, (cell_other _ _ _ _ hne).trans ((cell_other _ _ _ _ hne).trans c1), (cell_other _ _ _ _ hne).trans ((cell_other _ _ _ _ hne).trans c2)⟩
      · intro ad e
        have h1 := HQN.out ad e
        have h2 := HS2.out
        have h3 := HB3.out.size
        rw [World.size_setCell, World.size_setCell]
        omega
      · intro ad e
        have h1 := HNW.out ad e
        have h2 := HS2.out
        have h3 := HS3.out
        have h4 := HS4.out
        rw [World.size_setCell, World.size_setCell]
        omega
  · have HFN : Hid (fitO wr m y px = none) := by show _ = _; rw [HFO.out, if_neg he0]
    have y1 : (e0 == 0) = false := by simpa using he0
    have y2 : (e0 != 0) = true := by simpa using he0
    clear HFO he0 HW
    go_enter Tryz.func29, Tryz.ntmps29
    go_wp2_with (go_at_call 60; refine HSO.out.mono ?_; rintro e w2 ⟨hb2, va, vc, rfl, hrl, hnw⟩; dsimp only at hrl ⊢; have HB2 := Lib.hid hb2; have HBW2 : Hid (Below w.heap.size w w2) := HBV.out.trans (hb2.mono HBV.out.size); obtain ⟨g0, g1, g2, g3⟩ := HF.out w2 hb2; clear hb2 hrl hnw)
    refine bodyPost_ret (v := .tuple #[.agg #[.slice none 0 0, .slice none 0 0], .bool false]) ?_ rfl ⟨(HBW2.out.setCell (p := ⟨V1.heap.size, 0, none⟩) HV1B.out _).setCell (p := ⟨V1.heap.size, 1, none⟩) HV1B.out _, .inl ⟨HFN.out, rfl⟩⟩
    rw [results_cell_tmp rfl]; go_simp
end Go.Proofs.YtfnomiingelfaaaGreat
/- More unknowns than equations: one solution that is not zero. Plain words. Speaks of no program. -/
namespace Go.Proofs.YtfnomiingelfaaaGreat

def overJ (j0 j : Nat) : Nat := if j < j0 then j else j + 1
theorem sum_over (f : Nat → Int) (j0 : Nat) : ∀ n, j0 ≤ n → sumTo f (n + 1) = f j0 + sumTo (fun j => f (overJ j0 j)) n
  | 0, h => by
    obtain rfl : j0 = 0 := by omega
    show sumTo f 0 + f 0 = f 0 + 0
    show (0 : Int) + f 0 = _
    omega
  | n + 1, h => by
    by_cases e : j0 ≤ n
    · have ih := sum_over f j0 n e
      show sumTo f (n + 1) + f (n + 1) = f j0 + (sumTo (fun j => f (overJ j0 j)) n + f (overJ j0 n))
      rw [ih, show overJ j0 n = n + 1 by unfold overJ; rw [if_neg (by omega)]]
      omega
    · obtain rfl : j0 = n + 1 := by omega
      show sumTo f (n + 1) + f (n + 1) = _
      rw [sumTo_congr (f := fun j => f (overJ (n + 1) j)) (g := f) (n + 1) fun i hi => by show f (overJ (n + 1) i) = f i; unfold overJ; rw [if_pos hi]]
      omega
theorem more_unknowns : ∀ (R N : Nat) (c : Nat → Nat → Int), R < N → ∃ w : Nat → Int, (∃ j, j < N ∧ w j ≠ 0) ∧ ∀ i, i < R → sumTo (fun j => c i j * w j) N = 0
  | 0, N, c, h => ⟨fun _ => 1, ⟨0, h, by decide⟩, fun i hi => absurd hi (by omega)⟩
  | R + 1, N, c, h => by
    by_cases hz : ∀ j, j < N → c R j = 0
    · obtain ⟨w, h1, h2⟩ := more_unknowns R N c (by omega)
      refine ⟨w, h1, fun i hi => ?_⟩
      by_cases e : i = R
      · subst e
        rw [sumTo_congr (g := fun _ => 0 * (0 : Int)) N fun j hj => by show c i j * w j = 0 * 0; rw [hz j hj]; omega, sumTo_mul]; omega
      · exact h2 i (by omega)
    · obtain ⟨j0, hj0, hc⟩ : ∃ j0, j0 < N ∧ c R j0 ≠ 0 := by
        apply Classical.byContradiction
        intro hn
        exact hz fun j hj => Classical.byContradiction fun e => hn ⟨j, hj, e⟩
      obtain ⟨n, rfl⟩ : ∃ n, N = n + 1 := ⟨N - 1, by omega⟩
      obtain ⟨w, ⟨j1, hj1, hw1⟩, h2⟩ := more_unknowns R n (fun i j => c R j0 * c i (overJ j0 j) - c i j0 * c R (overJ j0 j)) (by omega)
      let S := sumTo (fun j => c R (overJ j0 j) * w j) n
      let v : Nat → Int := fun j => if j = j0 then -S else c R j0 * w (if j < j0 then j else j - 1)
      have v0 : v j0 = -S := if_pos rfl
      have v1 : ∀ j, v (overJ j0 j) = c R j0 * w j := fun j => by
        show (if overJ j0 j = j0 then -S else _) = _
        unfold overJ
        by_cases e : j < j0
        · rw [if_pos e, if_neg (by omega), if_pos e]
        · rw [if_neg e, if_neg (by omega), if_neg (by omega), Nat.add_sub_cancel]
      have key : ∀ i, sumTo (fun j => c i j * v j) (n + 1) = -(c i j0 * S) + c R j0 * sumTo (fun j => c i (overJ j0 j) * w j) n := fun i => by
        rw [sum_over _ j0 n (by omega), v0]
        congr 1
        · exact Int.mul_neg _ _
        · rw [← sumTo_mul]
          exact sumTo_congr n fun j _ => by show c i (overJ j0 j) * v (overJ j0 j) = _; rw [v1, Int.mul_left_comm]
      refine ⟨v, ⟨overJ j0 j1, by unfold overJ; split <;> omega, by rw [v1]; exact Int.mul_ne_zero hc hw1⟩, fun i hi => ?_⟩
      rw [key]
      by_cases e : i = R
      · subst e
        show -(c i j0 * S) + c i j0 * S = 0
        omega
      · have h3 := h2 i (by omega)
        have e2 : sumTo (fun j => (c R j0 * c i (overJ j0 j) - c i j0 * c R (overJ j0 j)) * w j) n = c R j0 * sumTo (fun j => c i (overJ j0 j) * w j) n + -(c i j0 * S) := by
          rw [show -(c i j0 * S) = -(c i j0) * S from (Int.neg_mul _ _).symm, ← sumTo_mul, ← sumTo_mul, ← sumTo_add]
          refine sumTo_congr n fun j _ => ?_
          show (c R j0 * c i (overJ j0 j) - c i j0 * c R (overJ j0 j)) * w j = c R j0 * (c i (overJ j0 j) * w j) + -(c i j0) * (c R (overJ j0 j) * w j)
          rw [Int.sub_mul, Int.mul_assoc, Int.mul_assoc, Int.neg_mul]; omega
        have h3 : sumTo (fun j => (c R j0 * c i (overJ j0 j) - c i j0 * c R (overJ j0 j)) * w j) n = 0 := h3
        omega
end Go.Proofs.YtfnomiingelfaaaGreat
/- scaled of the answers: the contract. -/
namespace Go.Proofs.YtfnomiingelfaaaGreat
open Go.RowKit

end Go.Proofs.YtfnomiingelfaaaGreat
/- All ascending lists of numbers below n, by their lengths: what a breadth-first walk makes. Plain words. Speaks of no program. -/
namespace Go.Proofs.YtfnomiingelfaaaGreat
open Go.RowKit

theorem flatMap_map' {α β γ : Type} (l : List α) (f : α → β) (g : β → List γ) : (l.map f).flatMap g = l.flatMap fun a => g (f a) := by
  induction l with
  | nil => rfl
  | cons a l ih => rw [List.map_cons, List.flatMap_cons, List.flatMap_cons, ih]
theorem flatMap_congr' {α β : Type} {l : List α} {f g : α → List β} (h : ∀ a ∈ l, f a = g a) : l.flatMap f = l.flatMap g := by
  induction l with
  | nil => rfl
  | cons a l ih => rw [List.flatMap_cons, List.flatMap_cons, h a List.mem_cons_self, ih fun b hb => h b (List.mem_cons_of_mem _ hb)]
end Go.Proofs.YtfnomiingelfaaaGreat
/- Sets of the answers: the contract. -/
namespace Go.Proofs.YtfnomiingelfaaaGreat
open Go.RowKit

def MsN (w : World) (a : Option Addr) (m : List (List Int)) : Prop := ∀ i, i < m.length → ∃ b off ai ci, a = some ⟨b, off, none⟩ ∧ w.cell? ⟨b, off + i, none⟩ = some (.slice ai (m[i]?.getD []).length ci) ∧ Sl w ai (m[i]?.getD []) ∧ (m[i]? = some [] → ai = none ∧ ci = 0)
theorem MsN.ms {w : World} {a : Option Addr} {m : List (List Int)} (h : MsN w a m) : Ms w a m := fun i hi => by
  obtain ⟨b, off, ai, ci, h1, h2, h3, _⟩ := h i hi
  exact ⟨b, off, ai, ci, h1, h2, h3⟩
end Go.Proofs.YtfnomiingelfaaaGreat
/- A circuit on a set, as the answers find it: the kernel of the set's columns, put and signed. Plain words. -/
namespace Go.Proofs.YtfnomiingelfaaaGreat
open Go.RowKit

end Go.Proofs.YtfnomiingelfaaaGreat
/- Circuits of the answers: the contract. -/
namespace Go.Proofs.YtfnomiingelfaaaGreat
open Go.RowKit

end Go.Proofs.YtfnomiingelfaaaGreat
/- A set's columns have no higher rank than all; so the answers' circuits are layer 3's. Plain words. -/
namespace Go.Proofs.YtfnomiingelfaaaGreat
open Go.RowKit

theorem sum_null : ∀ n, sumTo (fun _ => (0 : Int)) n = 0
  | 0 => rfl
  | n + 1 => by show sumTo (fun _ => (0 : Int)) n + 0 = 0; rw [sum_null n]; rfl
theorem sum_one (a : Nat → Int) (q : Nat) (x : Int) : ∀ n, sumTo (fun c => a c * (if q = c then x else 0)) n = if q < n then a q * x else 0
  | 0 => rfl
  | n + 1 => by
    show sumTo (fun c => a c * (if q = c then x else 0)) n + a n * (if q = n then x else 0) = _
    rw [sum_one a q x n]
    by_cases e : q = n
    · subst e; rw [if_neg (by omega), if_pos rfl, if_pos (by omega)]; omega
    · rw [if_neg e, Int.mul_zero]
      by_cases e2 : q < n
      · rw [if_pos e2, if_pos (by omega)]; omega
      · rw [if_neg e2, if_neg (by omega)]; omega
def pushW (p : Nat → Nat) (w : Nat → Int) (k c : Nat) : Int := sumTo (fun u => if p u = c then w u else 0) k
theorem sum_push (p : Nat → Nat) (w a : Nat → Int) (n : Nat) : ∀ k, (∀ u, u < k → p u < n) → sumTo (fun c => a c * pushW p w k c) n = sumTo (fun u => a (p u) * w u) k
  | 0, _ => by
    show _ = (0 : Int)
    rw [← sum_null n]
    exact sumTo_congr n fun c _ => Int.mul_zero _
  | k + 1, h => by
    have ih := sum_push p w a n k fun u hu => h u (by omega)
    show _ = sumTo (fun u => a (p u) * w u) k + a (p k) * w k
    rw [← ih]
    have e := sum_one a (p k) (w k) n
    rw [if_pos (h k (by omega))] at e
    rw [← e, ← sumTo_add]
    refine sumTo_congr n fun c _ => ?_
    show a c * (pushW p w k c + if p k = c then w k else 0) = _
    exact Int.mul_add _ _ _
end Go.Proofs.YtfnomiingelfaaaGreat
/- The circuits of a mask are the least supports of its kernel vectors. Plain words. Speaks of no program. -/
namespace Go.Proofs.YtfnomiingelfaaaGreat
open Go.RowKit

def KerF (m : List (List Int)) (v : Nat → Int) : Prop := ∀ i, i < m.length → sumTo (fun c => a0 m i c * v c) (colsM m) = 0
structure SetP (m : List (List Int)) (px : List Int) : Prop where
  asc : px.Pairwise (· < ·)
  ok : pxOk m px
def pos (px : List Int) (u : Nat) : Nat := (gt px u).toNat
theorem pw_gt {px : List Int} (h : px.Pairwise (· < ·)) {s t : Nat} (hst : s < t) (ht : t < px.length) : gt px s < gt px t := by
  have := List.pairwise_iff_getElem.1 h s t (by omega) ht hst
  unfold gt
  simpa [ht, show s < px.length by omega] using this
section
variable {m : List (List Int)} {px : List Int}
theorem SetP.eq (h : SetP m px) {u : Nat} (hu : u < px.length) : gt px u = (pos px u : Int) := by
  have := h.ok _ (mem_gt.2 ⟨u, hu, rfl⟩)
  unfold pos; omega
theorem SetP.lt (h : SetP m px) {u : Nat} (hu : u < px.length) : pos px u < colsM m := by
  have := h.ok _ (mem_gt.2 ⟨u, hu, rfl⟩)
  unfold pos; omega
theorem SetP.inj (h : SetP m px) {s t : Nat} (hs : s < px.length) (ht : t < px.length) (e : pos px s = pos px t) : s = t := by
  have e1 := h.eq hs
  have e2 := h.eq ht
  rcases Nat.lt_trichotomy s t with q | q | q
  · have := pw_gt h.asc q ht; omega
  · exact q
  · have := pw_gt h.asc q hs; omega
theorem SetP.mem (h : SetP m px) {j : Nat} : (j : Int) ∈ px ↔ ∃ u, u < px.length ∧ pos px u = j := by
  rw [mem_gt]
  constructor
  · rintro ⟨t, ht, e⟩; exact ⟨t, ht, by rw [h.eq ht] at e; omega⟩
  · rintro ⟨t, ht, e⟩; exact ⟨t, ht, by rw [h.eq ht, e]⟩
theorem pushW_at {p : Nat → Nat} {w : Nat → Int} {u k : Nat} (hi : ∀ s, s < k → p s = p u → s = u) (hu : u < k) : pushW p w k (p u) = w u := by
  unfold pushW
  rw [sumOne (s := u) k hu fun i h e => if_neg fun e2 => e (hi i h e2), if_pos rfl]
theorem pushW_none {p : Nat → Nat} {w : Nat → Int} {k c : Nat} (hn : ∀ u, u < k → p u ≠ c) : pushW p w k c = 0 := by
  unfold pushW
  exact sumZ k fun i h => if_neg (hn i h)
structure CircP (m : List (List Int)) (px : List Int) (c : List Int) : Prop where
  len : c.length = colsM m
  ker : KerF m (gt c)
  supp : ∀ j, j < colsM m → (gt c j ≠ 0 ↔ (j : Int) ∈ px)
  bd : ∀ j, j < colsM m → -720 ≤ gt c j ∧ gt c j ≤ 720
  gcd : gcdL c = 1
  first : 0 < gt c (pos px 0)
  one : ∀ v, KerF m v → (∀ j, j < colsM m → v j ≠ 0 → (j : Int) ∈ px) → ∃ a b : Int, a ≠ 0 ∧ ∀ j, j < colsM m → a * v j = b * gt c j
def suppL (m : List (List Int)) (v : Nat → Int) : List Int := ((List.range (colsM m)).filter fun j => v j != 0).map fun (j : Nat) => (j : Int)
theorem suppL_mem {v : Nat → Int} {j : Nat} : (j : Int) ∈ suppL m v ↔ j < colsM m ∧ v j ≠ 0 := by
  unfold suppL
  rw [List.mem_map]
  constructor
  · rintro ⟨k, hk, e⟩
    obtain rfl : k = j := by omega
    rw [List.mem_filter, List.mem_range] at hk
    exact ⟨hk.1, by simpa using hk.2⟩
  · rintro ⟨h1, h2⟩
    exact ⟨j, by rw [List.mem_filter, List.mem_range]; exact ⟨h1, by simpa using h2⟩, rfl⟩
theorem suppL_set (v : Nat → Int) : SetP m (suppL m v) := by
  constructor
  · unfold suppL
    rw [List.pairwise_map]
    refine (List.pairwise_lt_range.filter _).imp fun h => ?_
    omega
  · intro j hj
    unfold suppL at hj
    obtain ⟨k, hk, rfl⟩ := List.mem_map.1 hj
    rw [List.mem_filter, List.mem_range] at hk
    omega
end
end Go.Proofs.YtfnomiingelfaaaGreat
/- IsKernel of both sides: contracts. -/
namespace Go.Proofs.YtfnomiingelfaaaGreat
open Go.RowKit

end Go.Proofs.YtfnomiingelfaaaGreat
/- What slices.AppendSeq keeps between two values (lists of ints in memory that the iterator made). Speaks of no function. -/
namespace Go.Proofs.YtfnomiingelfaaaGreat
open Go.RowKit

def hdS (x : SetV) : Option Addr × Nat := (some ⟨x.1, 0, none⟩, x.2.length)
structure AppI (w : World) (v : Value) (pre : List SetV) (C T : Blk) (W : World) : Prop where
  r : W.cell? ⟨w.heap.size, 0, none⟩ = some v
  fr : W.frozen? ⟨w.heap.size, 0, none⟩ = false
  bw : Below w.heap.size w W
  nt : ∀ b, b < w.heap.size + 1 → ¬ T b
  nv : ∀ g, v.ownBlock = some g → ¬ T g
  cc : ∀ b, C b ↔ b = w.heap.size ∨ v.ownBlock = some b ∨ ∃ x ∈ pre, b = x.1
  own : HR (w.heap.size + 1) v (pre.map hdS) (pre.map Prod.snd) W
  mem : ∀ x ∈ pre, MemS x W ∧ ¬ T x.1 ∧ w.heap.size + 1 ≤ x.1
theorem AppI.keep {w : World} {v : Value} {pre : List SetV} {C T T' : Blk} {W W' : World} (h : AppI w v pre C T W) (ht : Turned T W W') (hT : ∀ b, T' b → T b ∨ W.heap.size ≤ b) : AppI w v pre C T' W' := by
  have l0 := cell_lt h.r
  dsimp only at l0
  have hnt : ∀ b, b < w.heap.size + 1 → ¬ T' b := fun b hb e => (hT b e).elim (h.nt b hb) (by omega)
  have hmem : ∀ x ∈ pre, MemS x W' ∧ ¬ T' x.1 ∧ w.heap.size + 1 ≤ x.1 := fun x hx => by
    obtain ⟨m1, m2, m3⟩ := h.mem x hx
    exact ⟨memS_turned m1 ht m2, fun e => (hT _ e).elim m2 (by have := (OwnI.lt m1).1; omega), m3⟩
  refine ⟨ht.cell h.r (h.nt _ (by show w.heap.size < _; omega)), (ht.frozen l0 (h.nt _ (by show w.heap.size < _; omega))).trans h.fr, h.bw.trans (ht.below h.bw.size fun b hb => h.nt b (by omega)), hnt, fun g hg e => (hT g e).elim (h.nv g hg) (by have := (World.ownsRow.lt h.own.own g hg).2; omega), h.cc, ?_, hmem⟩
  refine ⟨h.own.len, row_same h.own.own fun b e => ht.same b (World.ownsRow.lt h.own.own b e).2 (h.nv b e), fun i x r e1 e2 => ?_, fun i x e ad ea => ⟨Nat.lt_of_lt_of_le (h.own.out i x e ad ea).1 ht.size, (h.own.out i x e ad ea).2⟩⟩
  rw [List.getElem?_map] at e1 e2
  obtain ⟨y, hy, rfl⟩ := Option.map_eq_some_iff.1 e1
  rw [hy] at e2
  cases e2
  exact OwnI.sl (hmem y (List.mem_of_getElem? hy)).1
theorem AppI.client {w : World} : Client fun pre C T W => ∃ v, AppI w v pre C T W where
  lt := by
    rintro pre C T W ⟨v, h⟩ b hb
    rcases (h.cc b).1 hb with rfl | e | ⟨x, hx, rfl⟩
    · exact ⟨cell_lt h.r, h.nt _ (by omega)⟩
    · exact ⟨(World.ownsRow.lt h.own.own b e).2, h.nv b e⟩
    · exact ⟨(OwnI.lt (h.mem x hx).1).1, (h.mem x hx).2.1⟩
  keep := fun ⟨v, h⟩ ht hT => ⟨v, h.keep ht hT⟩
theorem AppI.ms {w : World} {v : Value} {pre : List SetV} {C T : Blk} {W : World} (h : AppI w v pre C T W) : ∃ a c, v = .slice a (pre.map Prod.snd).length c ∧ Ms W a (pre.map Prod.snd) := h.own.ms
theorem AppI.box2 {w : World} {v : Value} {pre : List SetV} {C T : Blk} {V W2 : World} {o : Obj} (h : AppI w v pre C T V) (h2 : (V.alloc o).grownBy W2 v.ownBlock) : W2.cell? ⟨w.heap.size, 0, none⟩ = some v ∧ W2.frozen? ⟨w.heap.size, 0, none⟩ = false := by
  have l0 : w.heap.size < V.heap.size := cell_lt h.r
  have hbV : Below V.heap.size V (V.alloc o) := (Below.refl _ _).alloc (Nat.le_refl _) _
  have hbox : v.ownBlock ≠ some w.heap.size := fun e => by have := (World.ownsRow.lt h.own.own _ e).1; omega
  have blk : W2.heap[w.heap.size]? = V.heap[w.heap.size]? := (h2.block _ (by rw [World.size_alloc]; omega) (Ne.symm hbox)).trans (hbV.block _ l0)
  exact ⟨(World.cell?_of_block (a := ⟨w.heap.size, 0, none⟩) blk).trans h.r, (World.frozen?_of_block (a := ⟨w.heap.size, 0, none⟩) blk).trans h.fr⟩
theorem AppI.push {w : World} {v : Value} {pre : List SetV} {C T : Blk} {V W2 : World} {x : SetV} {g cap : Nat} {t : TypeId} (h : AppI w v pre C T V) (hx : MemS x V) (hT : T x.1)
    (h1 : W2.ownsRow (w.heap.size + 1) 24 1 (.slice (some ⟨g, 0, none⟩) (pre.length + 1) cap) (pre.length + 1) (hdO (pre.map hdS) (pre.map Prod.snd) ++ [.slice (some ⟨x.1, 0, none⟩) x.2.length x.2.length]))
    (h2 : (V.alloc (.cells #[.slice (some ⟨x.1, 0, none⟩) x.2.length x.2.length] t)).grownBy W2 v.ownBlock) (h3 : v.ownBlock = some g ∨ g = V.heap.size + 1) (hg : g < W2.heap.size) :
    Went (fun pre C T W => ∃ v, AppI w v pre C T W) (fun y b => b = y.1) pre x C T V (W2.setCell ⟨w.heap.size, 0, none⟩ (.slice (some ⟨g, 0, none⟩) (pre.length + 1) cap)) := by
  obtain ⟨V1, hV1⟩ : ∃ V1, V.alloc (.cells #[.slice (some ⟨x.1, 0, none⟩) x.2.length x.2.length] t) = V1 := ⟨_, rfl⟩
  have hV1s : V1.heap.size = V.heap.size + 1 := by rw [← hV1]; exact World.size_alloc _ _
  have hbV : Below V.heap.size V V1 := by rw [← hV1]; exact (Below.refl _ _).alloc (Nat.le_refl _) _
  rw [hV1] at h2
  have l0 : w.heap.size < V.heap.size := cell_lt h.r
  have hxl : x.1 < V.heap.size := (OwnI.lt hx).1
  have hxw : w.heap.size + 1 ≤ x.1 := Nat.le_of_not_lt fun e => h.nt _ e hT
  have hxv : v.ownBlock ≠ some x.1 := fun e => h.nv _ e hT
  have hgw : w.heap.size + 1 ≤ g := by
    rcases h3 with e | e
    · exact (World.ownsRow.lt h.own.own g e).1
    · omega
  have hxg : x.1 ≠ g := by
    rcases h3 with e | e
    · intro e2; exact hxv (by rw [e, e2])
    · omega
  have hvg : ∀ b, v.ownBlock = some b → b = g ∨ g = V.heap.size + 1 := fun b e => by
    rcases h3 with e2 | e2
    · rw [e] at e2; exact .inl (by cases e2; rfl)
    · exact .inr e2
  have h' := h.keep (turned_below hbV) (fun b e => Or.inl e)
  have hx' : MemS x V1 := OwnI.below hx hbV
  have hr := h'.own.push (row := x.2) (a := some ⟨x.1, 0, none⟩) (c := x.2.length) (g := g) (cap := cap) (OwnI.sl hx') (fun ad e => by cases e; exact ⟨by show x.1 < _; omega, hxv⟩) (by rw [List.length_map]; exact h1) h2 (by rw [hV1s]; exact h3)
  rw [List.length_map] at hr
  have blk : ∀ b, b < V1.heap.size → v.ownBlock ≠ some b → W2.heap[b]? = V1.heap[b]? := fun b hb hn => h2.block b hb (Ne.symm hn)
  have hbox : v.ownBlock ≠ some w.heap.size := fun e => by have := (World.ownsRow.lt h.own.own _ e).1; omega
  have memK : ∀ y : SetV, MemS y V → v.ownBlock ≠ some y.1 → w.heap.size + 1 ≤ y.1 → MemS y (W2.setCell ⟨w.heap.size, 0, none⟩ (.slice (some ⟨g, 0, none⟩) (pre.length + 1) cap)) := fun y hy hn hw => by
    have l := (OwnI.lt hy).1
    refine OwnI.sameBlock (OwnI.below hy hbV) ?_
    exact (Below.heap_setCell _ _ _ _ (by show y.1 ≠ w.heap.size; omega)).trans (blk _ (by omega) hn)
  have own' : ∀ y ∈ pre, v.ownBlock ≠ some y.1 := fun y hy e => by
    obtain ⟨i, hi, rfl⟩ := List.mem_iff_getElem.1 hy
    exact (h.own.out i (hdS pre[i]) (by simp [hi]) ⟨pre[i].1, 0, none⟩ rfl).2 e
  have hsz : V1.heap.size ≤ W2.heap.size := h2.size
  refine ⟨fun b => b = w.heap.size ∨ b = g ∨ ∃ y ∈ pre ++ [x], b = y.1, fun b => T b ∧ b ≠ x.1 ∧ b ≠ g, ⟨.slice (some ⟨g, 0, none⟩) (pre.length + 1) cap, ?_⟩, ?_, ?_, ?_⟩
  · refine ⟨?_, ?_, ?_, fun b hb e => h.nt b hb e.1, fun q hq e => ?_, fun b => ?_, ?_, fun y hy => ?_⟩
    · exact World.cell?_setCell_same _ _ _ ((World.cell?_of_block (blk _ (by show w.heap.size < _; omega) hbox)).trans h'.r)
    · have := (World.frozen?_of_block (a := ⟨w.heap.size, 0, none⟩) (blk _ (by show w.heap.size < _; omega) hbox)).trans h'.fr
      simpa using this
    · exact (h'.bw.grown h2 (by omega) (fun k e => by have := (World.ownsRow.lt h.own.own k e).1; omega)).setCell (p := ⟨w.heap.size, 0, none⟩) (Nat.le_refl _) _
    · simp [Value.ownBlock] at hq
      exact e.2.2 hq.symm
    · simp [Value.ownBlock, eq_comm]
    · have e1 : (pre ++ [x]).map hdS = pre.map hdS ++ [(some ⟨x.1, 0, none⟩, x.2.length)] := by simp [hdS]
      have e2 : (pre ++ [x]).map Prod.snd = pre.map Prod.snd ++ [x.2] := by simp
      rw [e1, e2]
      refine hr.far ?_ (fun i y hy ad ea => ?_) _
      · intro e; simp [Value.ownBlock] at e; omega
      · rcases get_snoc hy with hy | ⟨_, rfl⟩
        · rw [List.getElem?_map] at hy
          obtain ⟨z, hz, rfl⟩ := Option.map_eq_some_iff.1 hy
          have := (h.mem z (List.mem_of_getElem? hz)).2.2
          cases ea
          show z.1 ≠ w.heap.size
          omega
        · cases ea
          show x.1 ≠ w.heap.size
          omega
    · rcases List.mem_append.1 hy with hy | hy
      · obtain ⟨m1, m2, m3⟩ := h.mem y hy
        exact ⟨memK y m1 (own' y hy) m3, fun e => m2 e.1, m3⟩
      · obtain rfl : y = x := List.mem_singleton.1 hy
        exact ⟨memK y hx hxv hxw, fun e => e.2.1 rfl, hxw⟩
  · rintro b hb hl hn
    refine ⟨hb, hn, fun e => ?_⟩
    subst e
    rcases h3 with e | e
    · exact h.nv _ e hb
    · omega
  · rintro b (rfl | rfl | ⟨y, hy, rfl⟩)
    · exact .inl ((h.cc _).2 (.inl rfl))
    · rcases h3 with e | e
      · exact .inl ((h.cc _).2 (.inr (.inl e)))
      · exact .inr (.inr (by omega))
    · rcases List.mem_append.1 hy with hy | hy
      · exact .inl ((h.cc _).2 (.inr (.inr ⟨y, hy, rfl⟩)))
      · obtain rfl : y = x := List.mem_singleton.1 hy
        exact .inr (.inl rfl)
  · refine ((turned_below hbV).trans (turned_grown (T := fun b => C b ∨ b = x.1) h2 fun r e => .inl ((h.cc r).2 (.inr (.inl e)))) fun b e => .inl e).trans (turned_set _ _ (.inl ((h.cc _).2 (.inl rfl)))) fun b e => .inl e
end Go.Proofs.YtfnomiingelfaaaGreat
/- slices.AppendSeq over lists of ints: the contract. -/
namespace Go.Proofs.YtfnomiingelfaaaGreat
open Go.RowKit Go.Shelf
attribute [local go_sem] Oper.semAt_some

theorem AppI.start (w : World) : AppI w (.slice none 0 0) [] (fun b => b = w.heap.size) (fun _ => False) (w.alloc (.cells #[.slice none 0 0] 22)) := by
  refine ⟨alloc_cell _ _ _ _ _ rfl, by simp, (Below.refl _ _).alloc (Nat.le_refl _) _, fun _ _ e => e, fun _ h => (own_none h).elim, fun b => ?_, HR.nil _ _, fun x hx => by cases hx⟩
  simp [Value.ownBlock]
end Go.Proofs.YtfnomiingelfaaaGreat
/- slices.Collect over lists of ints; Circuits of layer 3: contracts. -/
namespace Go.Proofs.YtfnomiingelfaaaGreat
open Go.RowKit Go.Shelf

theorem len_small : ∀ n, n ≤ 10 → ∀ r, r ≤ 11 → (compl n r 0).length ≤ 300 := by decide +kernel
end Go.Proofs.YtfnomiingelfaaaGreat
/- All circuits, the first one, and what depends on itself: by least supports. Plain words. Speaks of no program. -/
namespace Go.Proofs.YtfnomiingelfaaaGreat
open Go.RowKit

theorem pw_len : ∀ (s : List Int) (b n : Nat), b ≤ n → s.Pairwise (· < ·) → (∀ j ∈ s, (b : Int) ≤ j ∧ j < n) → s.length + b ≤ n
  | [], b, n, hb, _, _ => by simpa using hb
  | x :: t, b, n, hb, hp, hj => by
    have h1 := hj x List.mem_cons_self
    rw [List.pairwise_cons] at hp
    have := pw_len t (x.toNat + 1) n (by omega) hp.2 fun j h => by
      have := hp.1 j h
      have := hj j (List.mem_cons_of_mem _ h)
      omega
    rw [List.length_cons]; omega
theorem compl_of : ∀ (s : List Int) (b n : Nat), s.Pairwise (· < ·) → (∀ j ∈ s, (b : Int) ≤ j ∧ j < n) → s ∈ compl n s.length b
  | [], b, n, _, _ => by simp [compl]
  | x :: t, b, n, hp, hj => by
    have h1 := hj x List.mem_cons_self
    rw [List.pairwise_cons] at hp
    have ht : ∀ j ∈ t, ((x.toNat + 1 : Nat) : Int) ≤ j ∧ j < n := fun j h => by
      have := hp.1 j h
      have := hj j (List.mem_cons_of_mem _ h)
      omega
    have hl := pw_len t (x.toNat + 1) n (by omega) hp.2 ht
    have ih := compl_of t (x.toNat + 1) n hp.2 ht
    rw [List.length_cons]
    unfold compl
    refine List.mem_flatMap.2 ⟨x.toNat - b, List.mem_range.2 (by omega), List.mem_map.2 ⟨t, ?_, ?_⟩⟩
    · rw [show b + (x.toNat - b) + 1 = x.toNat + 1 by omega]; exact ih
    · rw [show ((b + (x.toNat - b) : Nat) : Int) = x by omega]
theorem compl_asc {n : Nat} : ∀ {r b : Nat} {s : List Int}, s ∈ compl n r b → s.Pairwise (· < ·)
  | 0, b, s, h => by
    have : s = [] := by simpa [compl] using h
    subst this; exact List.Pairwise.nil
  | r + 1, b, s, h => by
    unfold compl at h
    obtain ⟨d, _, h2⟩ := List.mem_flatMap.1 h
    obtain ⟨t, ht, rfl⟩ := List.mem_map.1 h2
    rw [List.pairwise_cons]
    exact ⟨fun j hj => by have := (compl_mem ht).2 j hj; omega, compl_asc ht⟩
theorem pw_ext : ∀ {a b : List Int}, a.Pairwise (· < ·) → b.Pairwise (· < ·) → (∀ x, x ∈ a ↔ x ∈ b) → a = b
  | [], [], _, _, _ => rfl
  | [], y :: b, _, _, h => by have := (h y).2 List.mem_cons_self; cases this
  | x :: a, [], _, _, h => by have := (h x).1 List.mem_cons_self; cases this
  | x :: a, y :: b, ha, hb, h => by
    rw [List.pairwise_cons] at ha hb
    have e : x = y := by
      rcases List.mem_cons.1 ((h x).1 List.mem_cons_self) with e | e
      · exact e
      · rcases List.mem_cons.1 ((h y).2 List.mem_cons_self) with e2 | e2
        · exact e2.symm
        · have := hb.1 x e; have := ha.1 y e2; omega
    subst e
    congr 1
    refine pw_ext ha.2 hb.2 fun z => ⟨fun hz => ?_, fun hz => ?_⟩
    · rcases List.mem_cons.1 ((h z).1 (List.mem_cons_of_mem _ hz)) with e | e
      · have := ha.1 z hz; omega
      · exact e
    · rcases List.mem_cons.1 ((h z).2 (List.mem_cons_of_mem _ hz)) with e | e
      · have := hb.1 z hz; omega
      · exact e
section
variable {m : List (List Int)}
theorem compl_set {r : Nat} {s : List Int} (h : s ∈ compl (colsM m) r 0) : SetP m s := ⟨compl_asc h, fun j hj => by have := (compl_mem h).2 j hj; omega⟩
theorem SetP.compl {s : List Int} (h : SetP m s) : s ∈ compl (colsM m) s.length 0 := compl_of s 0 _ h.asc fun j hj => by have := h.ok j hj; omega
theorem nzTo_filter (xs : List Int) : ∀ k, nzTo xs k = (((List.range k).filter fun j => gt xs j != 0).length : Int)
  | 0 => rfl
  | k + 1 => by
    rw [List.range_succ, List.filter_append, List.length_append, nzTo, nzTo_filter xs k]
    by_cases e : gt xs k = 0
    · rw [if_pos e]; simp [e]
    · rw [if_neg e]; simp [e]
theorem CircP.supp_eq {S c : List Int} (hS : SetP m S) (h : CircP m S c) : suppL m (gt c) = S := by
  refine pw_ext (suppL_set _).asc hS.asc fun x => ⟨fun hx => ?_, fun hx => ?_⟩
  · have := (suppL_set (m := m) (gt c)).ok x hx
    obtain ⟨y, rfl⟩ : ∃ y : Nat, x = (y : Int) := ⟨x.toNat, by omega⟩
    have := suppL_mem.1 hx
    exact (h.supp y this.1).1 this.2
  · have := hS.ok x hx
    obtain ⟨y, rfl⟩ : ∃ y : Nat, x = (y : Int) := ⟨x.toNat, by omega⟩
    exact suppL_mem.2 ⟨by omega, (h.supp y (by omega)).2 hx⟩
theorem CircP.size {S c : List Int} (hS : SetP m S) (h : CircP m S c) : nzTo c c.length = S.length := by
  rw [nzTo_filter, h.len]
  have := congrArg List.length (h.supp_eq hS)
  unfold suppL at this
  rw [List.length_map] at this
  rw [this]
end
end Go.Proofs.YtfnomiingelfaaaGreat
/- Sets of a size, one after the other: the next one by its last number that can grow. Plain words. Speaks of no program. -/
namespace Go.Proofs.YtfnomiingelfaaaGreat
open Go.RowKit

def upFrom (a : Int) : Nat → List Int
  | 0 => []
  | k + 1 => a :: upFrom (a + 1) k
theorem upFrom_len (a : Int) : ∀ k, (upFrom a k).length = k
  | 0 => rfl
  | k + 1 => by show (upFrom (a + 1) k).length + 1 = k + 1; rw [upFrom_len]
theorem upFrom_gt : ∀ (k j : Nat) (a : Int), j < k → gt (upFrom a k) j = a + j
  | 0, j, a, h => by omega
  | k + 1, 0, a, h => by show a = a + (0 : Nat); omega
  | k + 1, j + 1, a, h => by
    show gt (upFrom (a + 1) k) j = a + (j + 1 : Nat)
    rw [upFrom_gt k j (a + 1) (by omega)]; omega
def nextS (n : Nat) : List Int → Option (List Int)
  | [] => none
  | x :: t => match nextS n t with
    | some t' => some (x :: t')
    | none => if x + 1 + t.length < n then some (upFrom (x + 1) (t.length + 1)) else none
theorem nextS_some {n : Nat} {x : Int} {t t' : List Int} (h : nextS n t = some t') : nextS n (x :: t) = some (x :: t') := by unfold nextS; rw [h]
theorem nextS_none {n : Nat} {x : Int} {t : List Int} (h : nextS n t = none) : nextS n (x :: t) = if x + 1 + t.length < n then some (upFrom (x + 1) (t.length + 1)) else none := by
  conv => lhs; unfold nextS
  rw [h]
def RunS (n : Nat) (L : List (List Int)) : Prop := (∀ i, i + 1 < L.length → nextS n (rowL L i) = some (rowL L (i + 1))) ∧ nextS n (rowL L (L.length - 1)) = none
theorem compl_head_is {n : Nat} : ∀ (r b : Nat), r + b ≤ n → (compl n r b).length ≠ 0 ∧ rowL (compl n r b) 0 = upFrom b r
  | 0, b, _ => by simp [compl, rowL, upFrom]
  | r + 1, b, h => by
    obtain ⟨k, hk⟩ : ∃ k, n - r - b = k + 1 := ⟨n - r - b - 1, by omega⟩
    obtain ⟨h1, h2⟩ := compl_head_is (n := n) r (b + 0 + 1) (by omega)
    have e : compl n (r + 1) b = ((compl n r (b + 0 + 1)).map fun s => ((b + 0 : Nat) : Int) :: s) ++ ((List.range k).flatMap fun d => (compl n r (b + (d + 1) + 1)).map fun s => ((b + (d + 1) : Nat) : Int) :: s) := by
      show ((List.range (n - r - b)).flatMap fun d => (compl n r (b + d + 1)).map fun s => ((b + d : Nat) : Int) :: s) = _
      rw [hk, List.range_succ_eq_map, List.flatMap_cons, flatMap_map']
    match hl : compl n r (b + 0 + 1) with
    | [] => rw [hl] at h1; exact absurd rfl h1
    | s :: L =>
      rw [hl] at e h2
      rw [e]
      have h2 : s = upFrom ((b + 0 + 1 : Nat) : Int) r := h2
      subst h2
      exact ⟨by simp, by show ((b + 0 : Nat) : Int) :: upFrom ((b + 0 + 1 : Nat) : Int) r = (b : Int) :: upFrom ((b : Int) + 1) r; simp⟩
theorem rowL_app1 {A B : List (List Int)} {i : Nat} (h : i < A.length) : rowL (A ++ B) i = rowL A i := by unfold rowL; rw [List.getElem?_append_left h]
theorem rowL_app2 {A B : List (List Int)} {i : Nat} (h : A.length ≤ i) : rowL (A ++ B) i = rowL B (i - A.length) := by unfold rowL; rw [List.getElem?_append_right h]
theorem rowL_mapS {A : List (List Int)} {f : List Int → List Int} {i : Nat} (h : i < A.length) : rowL (A.map f) i = f (rowL A i) := by unfold rowL; simp [h]
theorem RunS.join {n : Nat} {A B : List (List Int)} (hA : ∀ i, i + 1 < A.length → nextS n (rowL A i) = some (rowL A (i + 1))) (_ha : A.length ≠ 0) (hB : RunS n B) (hb : B.length ≠ 0) (hl : nextS n (rowL A (A.length - 1)) = some (rowL B 0)) : RunS n (A ++ B) := by
  constructor
  · intro i hi
    rw [List.length_append] at hi
    by_cases h1 : i + 1 < A.length
    · rw [rowL_app1 (by omega), rowL_app1 h1]; exact hA i h1
    · by_cases h2 : i < A.length
      · obtain rfl : i = A.length - 1 := by omega
        rw [rowL_app1 h2, rowL_app2 (by omega), hl, show A.length - 1 + 1 - A.length = 0 by omega]
      · rw [rowL_app2 (by omega), rowL_app2 (by omega), show i + 1 - A.length = (i - A.length) + 1 by omega]
        exact hB.1 _ (by omega)
  · rw [List.length_append, rowL_app2 (by omega), show A.length + B.length - 1 - A.length = B.length - 1 by omega]
    exact hB.2
theorem compl_run {n : Nat} : ∀ (r b : Nat), r + b ≤ n → RunS n (compl n r b)
  | 0, b, _ => ⟨fun i h => by simp [compl] at h, rfl⟩
  | r + 1, b, h => by
    have seg : ∀ d, r + (b + d + 1) ≤ n → (∀ i, i + 1 < ((compl n r (b + d + 1)).map fun s => ((b + d : Nat) : Int) :: s).length → nextS n (rowL ((compl n r (b + d + 1)).map fun s => ((b + d : Nat) : Int) :: s) i) = some (rowL ((compl n r (b + d + 1)).map fun s => ((b + d : Nat) : Int) :: s) (i + 1))) ∧ nextS n (rowL ((compl n r (b + d + 1)).map fun s => ((b + d : Nat) : Int) :: s) (((compl n r (b + d + 1)).map fun s => ((b + d : Nat) : Int) :: s).length - 1)) = if ((b + d : Nat) : Int) + 1 + r < n then some (upFrom (((b + d : Nat) : Int) + 1) (r + 1)) else none := fun d hd => by
      have ih := compl_run r (b + d + 1) hd
      have hne := (compl_head_is r (b + d + 1) hd).1
      constructor
      · intro i hi
        rw [List.length_map] at hi
        rw [rowL_mapS (by omega), rowL_mapS hi]
        exact nextS_some (ih.1 i hi)
      · rw [List.length_map, rowL_mapS (by omega), nextS_none ih.2]
        have hl : (rowL (compl n r (b + d + 1)) ((compl n r (b + d + 1)).length - 1)).length = r := (compl_mem (rowL_mem (show (compl n r (b + d + 1)).length - 1 < _ by omega))).1
        rw [hl]
    have key : ∀ k d, k + d = n - r - b → 1 ≤ k → RunS n ((List.range k).flatMap fun e => (compl n r (b + (d + e) + 1)).map fun s => ((b + (d + e) : Nat) : Int) :: s) ∧ rowL ((List.range k).flatMap fun e => (compl n r (b + (d + e) + 1)).map fun s => ((b + (d + e) : Nat) : Int) :: s) 0 = upFrom ((b + d : Nat) : Int) (r + 1) ∧ ((List.range k).flatMap fun e => (compl n r (b + (d + e) + 1)).map fun s => ((b + (d + e) : Nat) : Int) :: s).length ≠ 0 := by
      intro k
      induction k with
      | zero => intro d _ h1; omega
      | succ k ih =>
        intro d hd _
        obtain ⟨s1, s2⟩ := seg d (by omega)
        obtain ⟨h1, h2⟩ := compl_head_is (n := n) r (b + d + 1) (by omega)
        have e0 : ((List.range (k + 1)).flatMap fun e => (compl n r (b + (d + e) + 1)).map fun s => ((b + (d + e) : Nat) : Int) :: s) = ((compl n r (b + d + 1)).map fun s => ((b + d : Nat) : Int) :: s) ++ ((List.range k).flatMap fun e => (compl n r (b + (d + 1 + e) + 1)).map fun s => ((b + (d + 1 + e) : Nat) : Int) :: s) := by
          rw [List.range_succ_eq_map, List.flatMap_cons, flatMap_map', Nat.add_zero]
          congr 1
          exact flatMap_congr' fun e _ => by rw [show d + e.succ = d + 1 + e by omega]
        rw [e0]
        have hal : ((compl n r (b + d + 1)).map fun s => ((b + d : Nat) : Int) :: s).length ≠ 0 := by rw [List.length_map]; exact h1
        have hhead : rowL ((compl n r (b + d + 1)).map fun s => ((b + d : Nat) : Int) :: s) 0 = upFrom ((b + d : Nat) : Int) (r + 1) := by
          rw [rowL_mapS (by omega), h2]
          show ((b + d : Nat) : Int) :: upFrom ((b + d + 1 : Nat) : Int) r = ((b + d : Nat) : Int) :: upFrom (((b + d : Nat) : Int) + 1) r
          rw [show ((b + d + 1 : Nat) : Int) = ((b + d : Nat) : Int) + 1 by omega]
        by_cases hk : k = 0
        · subst hk
          rw [if_neg (by omega)] at s2
          rw [show (List.range 0).flatMap (fun e => (compl n r (b + (d + 1 + e) + 1)).map fun s => ((b + (d + 1 + e) : Nat) : Int) :: s) = [] from rfl, List.append_nil]
          exact ⟨⟨s1, s2⟩, hhead, hal⟩
        · obtain ⟨i1, i2, i3⟩ := ih (d + 1) (by omega) (by omega)
          rw [if_pos (by omega)] at s2
          refine ⟨RunS.join s1 hal i1 i3 ?_, ?_, by rw [List.length_append]; omega⟩
          · rw [s2, i2, show ((b + (d + 1) : Nat) : Int) = ((b + d : Nat) : Int) + 1 by omega]
          · rw [rowL_app1 (by omega)]; exact hhead
    have := (key (n - r - b) 0 (by omega) (by omega)).1
    have e : compl n (r + 1) b = (List.range (n - r - b)).flatMap fun e => (compl n r (b + (0 + e) + 1)).map fun s => ((b + (0 + e) : Nat) : Int) :: s := by
      show ((List.range (n - r - b)).flatMap fun d => (compl n r (b + d + 1)).map fun s => ((b + d : Nat) : Int) :: s) = _
      exact flatMap_congr' fun d _ => by rw [Nat.zero_add]
    rw [e]; exact this
theorem nextS_last {n : Nat} : ∀ (s : List Int), (∀ j, j < s.length → gt s j = (n : Int) - s.length + j) → nextS n s = none
  | [], _ => rfl
  | x :: t, h => by
    have h0 := h 0 (by simp)
    have hx : x = (n : Int) - (t.length + 1 : Nat) := by
      have : gt (x :: t) 0 = x := rfl
      rw [this, List.length_cons] at h0; omega
    rw [nextS_none (nextS_last t fun j hj => ?_), if_neg (by omega)]
    have := h (j + 1) (by rw [List.length_cons]; omega)
    rw [List.length_cons] at this
    have e : gt (x :: t) (j + 1) = gt t j := rfl
    rw [e] at this
    omega
theorem nextS_at {n : Nat} : ∀ (s : List Int) (i : Nat), s.Pairwise (· < ·) → (∀ j ∈ s, 0 ≤ j ∧ j < (n : Int)) → i < s.length → gt s i ≠ (n : Int) - s.length + i → (∀ j, i < j → j < s.length → gt s j = (n : Int) - s.length + j) → nextS n s = some (s.take i ++ upFrom (gt s i + 1) (s.length - i))
  | [], i, _, _, h, _, _ => by simp at h
  | x :: t, 0, hp, hb, _, hne, hl => by
    have hx : gt (x :: t) 0 = x := rfl
    have hxb := hb x List.mem_cons_self
    rw [List.pairwise_cons] at hp
    have hpl := pw_len t (x.toNat + 1) n (by omega) hp.2 fun j hj => by
      have := hp.1 j hj
      have := hb j (List.mem_cons_of_mem _ hj)
      omega
    rw [nextS_none (nextS_last t fun j hj => ?_)]
    · rw [hx, List.length_cons] at hne
      rw [if_pos (by omega)]; rfl
    · have := hl (j + 1) (by omega) (by rw [List.length_cons]; omega)
      rw [List.length_cons] at this
      have e : gt (x :: t) (j + 1) = gt t j := rfl
      rw [e] at this
      omega
  | x :: t, i + 1, hp, hb, hi, hne, hl => by
    rw [List.pairwise_cons] at hp
    have e : ∀ j, gt (x :: t) (j + 1) = gt t j := fun j => rfl
    rw [List.length_cons] at hi
    have ih := nextS_at t i hp.2 (fun j hj => hb j (List.mem_cons_of_mem _ hj)) (by omega) (by
      rw [e, List.length_cons] at hne
      intro h2; apply hne; rw [h2]; omega) fun j h1 h2 => by
        have := hl (j + 1) (by omega) (by rw [List.length_cons]; omega)
        rw [e, List.length_cons] at this
        omega
    rw [nextS_some ih, e, List.length_cons, show t.length + 1 - (i + 1) = t.length - i by omega]
    rfl
end Go.Proofs.YtfnomiingelfaaaGreat
/- sets and advance of layer 4: contracts. -/
namespace Go.Proofs.YtfnomiingelfaaaGreat
open Go.RowKit Go.Shelf

def stepS (s : List Int) (i : Nat) (x : Int) (q : Nat) : List Int := (List.range s.length).map fun j => if i ≤ j ∧ j < q then x + ((j : Int) - i) else gt s j
theorem stepS_len (s : List Int) (i : Nat) (x : Int) (q : Nat) : (stepS s i x q).length = s.length := by simp [stepS]
theorem stepS_start (s : List Int) (i : Nat) (x : Int) : stepS s i x i = s := by
  refine list_ext_gt (stepS_len _ _ _ _) fun k hk => ?_
  rw [stepS_len] at hk
  unfold stepS
  rw [gt_map_range _ hk, if_neg (by omega)]
theorem stepS_succ {s : List Int} {i : Nat} {x : Int} {q : Nat} (hi : i ≤ q) (hq : q < s.length) : (stepS s i x q).set q (x + q - i) = stepS s i x (q + 1) := by
  refine list_ext_gt (by rw [List.length_set, stepS_len, stepS_len]) fun k hk => ?_
  rw [List.length_set, stepS_len] at hk
  rw [gt_set (by rw [stepS_len]; exact hq)]
  unfold stepS
  rw [gt_map_range _ hk, gt_map_range _ hk]
  by_cases e : k = q
  · subst e; rw [if_pos rfl, if_pos (by omega)]; omega
  · rw [if_neg e]
    by_cases h : i ≤ k ∧ k < q
    · rw [if_pos h, if_pos (by omega)]
    · rw [if_neg h, if_neg (by omega)]
theorem stepS_end {s : List Int} {i : Nat} {x : Int} (hi : i < s.length) : stepS s i x s.length = s.take i ++ upFrom x (s.length - i) := by
  refine list_ext_gt (by rw [stepS_len, List.length_append, List.length_take, upFrom_len]; omega) fun k hk => ?_
  rw [stepS_len] at hk
  unfold stepS
  rw [gt_map_range _ hk]
  by_cases h : k < i
  · rw [if_neg (by omega)]
    unfold gt
    rw [List.getElem?_append_left (by rw [List.length_take]; omega), List.getElem?_take, if_pos h]
  · have e : gt (s.take i ++ upFrom x (s.length - i)) k = gt (upFrom x (s.length - i)) (k - i) := by
      unfold gt
      rw [List.getElem?_append_right (by rw [List.length_take]; omega), List.length_take, show min i s.length = i by omega]
    rw [if_pos (by omega), e, upFrom_gt _ _ _ (by omega)]; omega
set_option maxRecDepth 1000000 in
set_option maxHeartbeats 2000000 in
theorem advance_any (SB r n : Nat) (s : List Int) (hn : n ≤ 100) (hr : r ≤ 100) (hp : s.Pairwise (· < ·)) (hb : ∀ j ∈ s, 0 ≤ j ∧ j < (n : Int)) (hl : s.length = r) (w : World) (ho : OwnI w 0 (.slice (some ⟨SB, 0, none⟩) r r) s) :
    Calls Tryz.prog 101 #[.slice (some ⟨SB, 0, none⟩) r r, .int .i64 n] w fun e w' => (nextS n s = none ∧ e = .returned (.bool false) ∧ w' = w) ∨ (∃ s', nextS n s = some s' ∧ e = .returned (.bool true) ∧ OwnI w' 0 (.slice (some ⟨SB, 0, none⟩) r r) s' ∧ Turned (fun b => b = SB) w w') := by
  have HO := Lib.hid ho
  have HL := Lib.hid hl
  have HLAST : Hid ((∀ j, j < r → gt s j = (n : Int) - r + j) → nextS n s = none) := fun h => nextS_last s fun j hj => by rw [hl]; exact h j (by omega)
  have HAT : Hid (∀ i, i < r → gt s i ≠ (n : Int) - r + i → (∀ j, i < j → j < r → gt s j = (n : Int) - r + j) → nextS n s = some (stepS s i (gt s i + 1) r)) := fun i hi h1 h2 => by
    have k := nextS_at s i hp hb (by omega) (by rw [hl]; exact h1) fun j h3 h4 => by rw [hl]; exact h2 j h3 (by omega)
    rw [k, ← stepS_end (by omega), hl]
  have HBD : Hid (∀ i, i < r → 0 ≤ gt s i ∧ gt s i < n) := fun i hi => hb _ (mem_gt.2 ⟨i, by omega, rfl⟩)
  clear ho hl hp hb
  go_enter Tryz.func101, Tryz.ntmps101
  go_wp2
  go_loopw [5] (fun iv wr => ∃ k : Nat, k ≤ r ∧ iv = .int .i64 ((k : Int) - 1) ∧ wr = w ∧ ∀ j, k ≤ j → j < r → gt s j = (n : Int) - r + j) (fun iv _ => (intOf iv + 1).toNat)
  case atStart => exact ⟨r, Nat.le_refl _, rfl, rfl, fun j h1 h2 => by omega⟩
  case round =>
    obtain ⟨k, hk, rfl, rfl, hmax⟩ := hrel
    have HMX := Lib.hid hmax; clear hmax
    cases k with
    | zero =>
      have HNO := Lib.hid (HLAST.out fun j hj => HMX.out j (Nat.zero_le _) hj)
      go_wp2
      go_ret
      exact .inl ⟨HNO.out, rfl, rfl⟩
    | succ t =>
      have e1 : ((t + 1 : Nat) : Int) - 1 = (t : Int) := by omega
      rw [e1]
      have htr : t < r := by omega
      have ht0 : (t : Int) < (r : Int) := by omega
      obtain ⟨cz0, fz⟩ := HO.out.cell (j := t) (by rw [HL.out]; exact htr)
      have cz : wr.cell? ⟨SB, t, none⟩ = some (.int .i64 (gt s t)) := cz0
      have hbd := HBD.out t htr
      obtain ⟨x, hx⟩ : ∃ x, gt s t = x := ⟨_, rfl⟩
      have HX := Lib.hid hx
      rw [hx] at cz hbd
      clear hx e1 fz cz0
      by_cases hm : x = (n : Int) - r + t
      · have HM := Lib.hid hm
        clear hm
        have y1 : (x == (n : Int) - r + t) = true := by rw [HM.out]; simp
        have y2 : decide (x = (n : Int) - r + t) = true := by rw [HM.out]; simp
        go_wp2
        go_roundw
        case rel => exact ⟨t, by omega, by first | rfl | go_num, by first | trivial | rfl, fun j h1 h2 => by
          by_cases e : j = t
          · subst e; rw [HX.out]; exact HM.out
          · exact HMX.out j (by omega) h2⟩
        case measure => simp [intOf]
      · have y1 : (x == (n : Int) - r + t) = false := by simpa using hm
        have y2 : decide (x = (n : Int) - r + t) = false := by simpa using hm
        have HNX : Hid (nextS n s = some (stepS s t (x + 1) r)) := by
          have k := HAT.out t htr (by rw [HX.out]; exact hm) fun j h1 h2 => HMX.out j (by omega) h2
          rw [HX.out] at k; exact k
        clear hm
        go_wp2
        clear cz
        obtain ⟨wk, hwk⟩ : ∃ wk, wk = wr := ⟨_, rfl⟩
        subst hwk
        go_loopw [7] (fun kv wr2 => ∃ q : Nat, t ≤ q ∧ q ≤ r ∧ kv = .int .i64 q ∧ OwnI wr2 0 (.slice (some ⟨SB, 0, none⟩) r r) (stepS s t (x + 1) q) ∧ Turned (fun b => b = SB) wk wr2) (fun kv _ => r - (intOf kv).toNat)
        case atStart => exact ⟨t, Nat.le_refl _, by omega, rfl, by rw [stepS_start]; exact HO.out, Turned.refl _ _⟩
        case round =>
          obtain ⟨q, h1, h2, rfl, hO2, hT2⟩ := hrel
          have HO2 := Lib.hid hO2; clear hO2
          have HT2 := Lib.hid hT2; clear hT2
          by_cases hlt : q < r
          · obtain ⟨cz, fz⟩ := HO2.out.cell (j := q) (by rw [stepS_len, HL.out]; exact hlt)
            have hq0 : (q : Int) < (r : Int) := by omega
            have HST : Hid (OwnI (wr.setCell ⟨SB, q, none⟩ (.int .i64 (x + 1 + q - t))) 0 (.slice (some ⟨SB, 0, none⟩) r r) (stepS s t (x + 1) (q + 1))) := by
              have h := HO2.out.stored q (x + 1 + q - t)
              rw [stepS_succ h1 (by rw [HL.out]; exact hlt)] at h
              exact h
            have HT3 : Hid (Turned (fun b => b = SB) wk (wr.setCell ⟨SB, q, none⟩ (.int .i64 (x + 1 + q - t)))) := HT2.out.trans (turned_set (T := fun b => b = SB) _ _ rfl) fun b e => .inl e
            go_wp2
            go_roundw
            case rel => exact ⟨q + 1, by omega, by omega, by go_num, HST.out, HT3.out⟩
            case measure => simp [intOf]; omega
          · obtain rfl : q = r := by omega
            go_wp2
            go_ret
            exact .inr ⟨_, HNX.out, rfl, HO2.out, HT2.out⟩
theorem ssets_any (n size : Int) (w : World) : Calls Tryz.prog 69 #[.int .i64 n, .int .i64 size] w fun e w' =>
    e = .returned (.func (.func 100) #[] #[.pointer (some ⟨w.heap.size + 1, 0, none⟩), .pointer (some ⟨w.heap.size, 0, none⟩)]) ∧ w' = (w.alloc (.cells #[.int .i64 n] 3)).alloc (.cells #[.int .i64 size] 3) := by
  go_enter Tryz.func69, Tryz.ntmps69
  go_wp2
  go_ret
  exact ⟨rfl, rfl⟩
theorem wpListIn_make_full {F : Fence} {n : Nat} {P : Program} (w : World) {ops : Array Oper} {rest : List Oper} {o : Oper} {a : Act} {Q : Exit → Act → World → Prop}
    (hg : o.guard = none) (l c : Operand) (t : TypeId) (hop : o.op = Op.makeSlice t l c)
    (base : Nat) (e : TypeId) (i : TypeInfo) (z : Value) (size : Nat) (h1 : P.underlying t = some (.slice e)) (h2 : P.info? e = some i) (h3 : i.zero = some z) (h4 : i.size = size)
    (kl kc : IntKind) (L C : Int) (m : Nat) (hl : a.eval l = .int kl L) (hc : a.eval c = .int kc C) (hL : L = (m : Int)) (hC : C = (m : Int)) (b2 : i.bytes * m ≤ 281474976710656) (b3 : m ≤ maxLen) (b4 : base ≤ w.heap.size)
    (hK : ∀ w', w'.ownsRow base e size (.slice (some ⟨w.heap.size, 0, none⟩) m m) m (madeCells z.cells (m * size)).toList → w.grownBy w' none → wpListIn F n P ops Q rest (a.put o.dst (.slice (some ⟨w.heap.size, 0, none⟩) m m)) w') :
    wpListIn F n P ops Q (o :: rest) a w := by
  refine wpListIn_plain hg fun K hK' => ?_
  obtain ⟨w', hrun, r1, r2⟩ := run_make_full (P := P) w base t e i z size h1 h2 h3 h4 kl kc m b2 b3 b4
  subst hL
  subst hC
  unfold Oper.wpIn
  refine ⟨?_, ?_⟩
  · simp [Oper.about, hop]
  · rw [Oper.semAt_plain F _ _ (by rw [hop]; intro c hc'; cases hc')]
    simp [execOp, hop, hl, hc, hrun, Result.andThen]
    exact hK' _ _ (hK w' r1 r2)
end Go.Proofs.YtfnomiingelfaaaGreat
/- sets of layer 4: the contract of what it hands back. -/
namespace Go.Proofs.YtfnomiingelfaaaGreat
open Go.RowKit Go.Shelf
attribute [local go_sem] Oper.semAt_some

theorem stepS_all (s : List Int) (x : Int) : stepS s 0 x s.length = upFrom x s.length := by
  cases s with
  | nil => rfl
  | cons a t => rw [stepS_end (by simp)]; simp
theorem rows_split {Z : List (List Int)} {i : Nat} (h : i < Z.length) : Z = Z.take i ++ rowL Z i :: Z.drop (i + 1) := by
  conv => lhs; rw [← List.take_append_drop i Z, List.drop_eq_getElem_cons h]
  have : rowL Z i = Z[i] := by unfold rowL; simp [h]
  rw [this]
theorem take_row {Z : List (List Int)} {i : Nat} (h : i < Z.length) : Z.take (i + 1) = Z.take i ++ [rowL Z i] := by
  rw [List.take_succ_eq_append_getElem h]
  have : rowL Z i = Z[i] := by unfold rowL; simp [h]
  rw [this]
set_option maxRecDepth 1000000 in
set_option maxHeartbeats 4000000 in
theorem ssets1_seq (n size S N : Nat) (hn : n ≤ 100) (hs : size ≤ n) (w : World) (hS : w.cell? ⟨S, 0, none⟩ = some (.int .i64 size)) (hN : w.cell? ⟨N, 0, none⟩ = some (.int .i64 n)) :
    SeqM Tryz.prog 100 #[.pointer (some ⟨S, 0, none⟩), .pointer (some ⟨N, 0, none⟩)] encS MemS (fun _ _ => False) Prod.snd (compl n size 0) (fun b => b = S ∨ b = N) w := by
  intro l J Jx C T W hW hJ hJx hneed hY h0
  obtain ⟨i0, hi, hz0, hz1, hz2⟩ := info_parts Tryz.infoInt
  have cS : W.cell? ⟨S, 0, none⟩ = some (.int .i64 size) := (hW.cell (p := ⟨S, 0, none⟩) (cell_lt hS)).trans hS
  have cN : W.cell? ⟨N, 0, none⟩ = some (.int .i64 n) := (hW.cell (p := ⟨N, 0, none⟩) (cell_lt hN)).trans hN
  have LN : Hid (N < W.heap.size) := cell_lt cN
  have HY := Lib.hid hY
  have H0 := Lib.hid h0
  have HNEED : Hid (¬ C N) := hneed N (.inr rfl)
  have HN := Lib.hid cN
  obtain ⟨Z, hZ⟩ : ∃ Z, compl n size 0 = Z := ⟨_, rfl⟩
  have hrun := compl_run (n := n) size 0 (by omega)
  have hhead := compl_head_is (n := n) size 0 (by omega)
  have HROW : Hid (∀ i, i < Z.length → (rowL Z i).length = size ∧ (rowL Z i).Pairwise (· < ·) ∧ ∀ j ∈ rowL Z i, 0 ≤ j ∧ j < (n : Int)) := fun i hi => by
    have hm : rowL Z i ∈ compl n size 0 := by rw [hZ]; exact rowL_mem hi
    have h1 := compl_mem hm
    exact ⟨h1.1, compl_asc hm, fun j hj => by have := h1.2 j hj; omega⟩
  rw [hZ] at hrun hhead HY ⊢
  have HRUN := Lib.hid hrun
  have HHEAD := Lib.hid hhead
  clear hY h0 hneed hS hN hW cN hrun hhead hZ
  show Calls _ _ (#[.func (.yield l) #[] #[], .pointer (some ⟨S, 0, none⟩), .pointer (some ⟨N, 0, none⟩)]) _ _
  refine (callsIn_wide (n := 50)).1 ?_
  refine callsIn_of_wp Tryz.func100 rfl trivial ?_ rfl
  simp only [Tryz.ntmps100, List.size_toArray, List.length_cons, List.length_nil, Nat.reduceAdd, Nat.reduceSub, Array.replicate_succ, Array.replicate_zero, List.push_toArray, List.append_toArray, List.nil_append, List.cons_append]
  gi_wp2_with (gi_at_make; with_reducible refine wpListIn_make_full _ rfl (.tmp 6) (.tmp 6) 24 rfl W.heap.size 3 i0 (.int .i64 0) 1 Tryz.underlying24 hi hz0 hz1 .i64 .i64 (size : Int) (size : Int) size rfl rfl rfl rfl (by rw [hz2]; omega) (by unfold maxLen; omega) (Nat.le_refl _) ?_)
  rotate_left
  intro w5 hown hgrow
  have hb5 : Below W.heap.size W w5 := (Below.refl _ _).grown hgrow (Nat.le_refl _) (fun k e => by cases e)
  have hown2 : OwnI w5 W.heap.size (.slice (some ⟨W.heap.size, 0, none⟩) size size) (List.replicate size 0) := by
    have z := zeros_are size
    rw [Nat.mul_one] at z
    show w5.ownsRow _ _ _ _ _ _
    rw [List.length_replicate, ← z]; exact hown
  have HO5 : Hid (OwnI w5 0 (.slice (some ⟨W.heap.size, 0, none⟩) size size) (List.replicate size 0)) := hown2.mono (Nat.zero_le _)
  have HB5 := Lib.hid hb5
  obtain ⟨SB, hSB⟩ : ∃ SB, W.heap.size = SB := ⟨_, rfl⟩
  rw [hSB] at HO5 HB5 ⊢
  have HSB := Lib.hid hSB
  clear hown hown2 hgrow hb5 cS hSB
  gi_wp2
  gi_loopw [10] (fun i wr => ∃ k : Nat, k ≤ size ∧ i = .int .i64 (k : Int) ∧ OwnI wr 0 (.slice (some ⟨SB, 0, none⟩) size size) (stepS (List.replicate size 0) 0 0 k) ∧ Below SB W wr) (fun i _ => size - (intOf i).toNat)
  case atStart => exact ⟨0, Nat.zero_le _, rfl, by rw [stepS_start]; exact HO5.out, HB5.out⟩
  case round =>
    obtain ⟨k, hk, rfl, hO, hB⟩ := hrel
    have HO := Lib.hid hO; clear hO
    have HB := Lib.hid hB; clear hB
    by_cases hlt : k < size
    · obtain ⟨cz, fz⟩ := HO.out.cell (j := k) (by rw [stepS_len, List.length_replicate]; exact hlt)
      have hk0 : (k : Int) < (size : Int) := by omega
      have HST : Hid (OwnI (wr.setCell ⟨SB, k, none⟩ (.int .i64 (k : Int))) 0 (.slice (some ⟨SB, 0, none⟩) size size) (stepS (List.replicate size 0) 0 0 (k + 1))) := by
        have h := HO.out.stored k (k : Int)
        have e := stepS_succ (s := List.replicate size 0) (i := 0) (x := 0) (q := k) (Nat.zero_le _) (by rw [List.length_replicate]; exact hlt)
        rw [show (0 : Int) + (k : Int) - ((0 : Nat) : Int) = (k : Int) by omega] at e
        rw [e] at h
        exact h
      have HB2 : Hid (Below SB W (wr.setCell ⟨SB, k, none⟩ (.int .i64 (k : Int)))) := HB.out.setCell (p := ⟨SB, k, none⟩) (Nat.le_refl _) _
      gi_wp2
      go_roundw
      case rel => exact ⟨k + 1, by omega, by go_num, HST.out, HB2.out⟩
      case measure => simp [intOf]; omega
    · obtain rfl : k = size := by omega
      have HO6 : Hid (OwnI wr 0 (.slice (some ⟨SB, 0, none⟩) k k) (rowL Z 0)) := by
        have h := HO.out
        have e := stepS_all (List.replicate k 0) 0
        rw [List.length_replicate] at e
        rw [e] at h
        rw [HHEAD.out.2]; exact h
      have HLTN : Hid (N < SB) := by rw [← HSB.out]; exact LN.out
      have HJ6 : Hid (∃ pre C2 T2, pre.map Prod.snd = Z.take 0 ∧ J pre C2 T2 wr ∧ T2 SB ∧ ¬ C2 N) := ⟨[], C, fun b => T b ∨ W.heap.size ≤ b, rfl, hJ.keep H0.out (turned_below (by rw [HSB.out]; exact HB.out)) (fun b e => e), .inr (by rw [HSB.out]; exact Nat.le_refl _), HNEED.out⟩
      have hcN : wr.cell? ⟨N, 0, none⟩ = some (.int .i64 n) := (HB.out.cell (p := ⟨N, 0, none⟩) HLTN.out).trans HN.out
      have HCN := Lib.hid hcN
      have hZ0 : 0 < Z.length := Nat.pos_of_ne_zero HHEAD.out.1
      clear HO HB hcN
      gi_wp2
      gi_loopg [] Z.length (fun g wr => ∃ (i : Nat) (pre : List SetV) (C2 T2 : Blk), i < Z.length ∧ g = Z.length - i ∧ pre.map Prod.snd = Z.take i ∧ J pre C2 T2 wr ∧ T2 SB ∧ ¬ C2 N ∧ OwnI wr 0 (.slice (some ⟨SB, 0, none⟩) k k) (rowL Z i) ∧ wr.cell? ⟨N, 0, none⟩ = some (.int .i64 n))
      case atStart =>
        obtain ⟨pre, C2, T2, h1, h2, h3, h4⟩ := HJ6.out
        exact ⟨0, pre, C2, T2, hZ0, rfl, h1, h2, h3, h4, HO6.out, HCN.out⟩
      case round =>
        clear HO6 HJ6 HCN HHEAD H0 hZ0
        obtain ⟨i, pre, C2, T2, hi2, rfl, hpre, hj, hTS, hCN, hO, hcN⟩ := hrel
        obtain ⟨r1, r2, r3⟩ := HROW.out i hi2
        have HSPL := Lib.hid (rows_split hi2)
        have HTK := Lib.hid (take_row hi2)
        have HLAST : Hid (¬ i + 1 < Z.length → nextS n (rowL Z i) = none) := fun h => by
          have := HRUN.out.2
          rwa [show Z.length - 1 = i by omega] at this
        have HNEXT : Hid (i + 1 < Z.length → nextS n (rowL Z i) = some (rowL Z (i + 1))) := fun h => HRUN.out.1 i h
        obtain ⟨s, hs2⟩ : ∃ s, rowL Z i = s := ⟨_, rfl⟩
        rw [hs2] at r1 r2 r3 HSPL HTK HLAST HNEXT hO
        have HP : Hid (MemS (SB, s) wr) := by show OwnI _ _ _ _; dsimp only; rw [r1]; exact hO
        have hy := HY.out pre (SB, s) C2 T2 wr hj HP.out (fun _ h => h.elim) ⟨Z.drop (i + 1), by rw [hpre]; exact HSPL.out⟩ 49
        obtain ⟨fn, tmps, assign, body, hy1, hR⟩ := hy
        dsimp only [encS] at hy1
        rw [r1] at hy1
        have HR1 := Lib.hid r1; have HR2 := Lib.hid r2; have HR3 := Lib.hid r3
        have HJ2 := Lib.hid hj; have HTS := Lib.hid hTS; have HCN2 := Lib.hid hCN; have HO2 := Lib.hid hO; have HC2 := Lib.hid hcN; have HPRE := Lib.hid hpre
        have HI2 := Lib.hid hi2
        clear r1 r2 r3 hj hTS hCN hO hcN hpre hi2 hs2
        gi_wp2
        refine hR.mono ?_
        rintro e W3 (⟨rfl, hw⟩ | ⟨rfl, hw⟩)
        · obtain ⟨C3, T3, hj3, hT3, hC3, ht3⟩ := hw
          have hlt2 := (OwnI.lt HO2.out).1
          have hnS : ¬ C2 SB := fun e => (hJ.lt HJ2.out _ e).2 HTS.out
          have HO3 : Hid (OwnI W3 0 (.slice (some ⟨SB, 0, none⟩) k k) s) := HO2.out.sameBlock (ht3.same _ hlt2 fun e => e.elim hnS id)
          have HT3 : Hid (T3 SB) := hT3 SB HTS.out hlt2 id
          have hcN3 : W3.cell? ⟨N, 0, none⟩ = some (.int .i64 n) := ht3.cell HC2.out fun e => e.elim HCN2.out id
          have hNlt := cell_lt HC2.out
          have HNC3 : Hid (¬ C3 N) := fun e => (hC3 N e).elim HCN2.out fun e => e.elim id fun e => by dsimp only at hNlt; omega
          have HJ3 := Lib.hid hj3
          have HC3 := Lib.hid hcN3
          have HAD : Hid (Calls Tryz.prog 101 #[.slice (some ⟨SB, 0, none⟩) k k, .int .i64 n] W3 fun e w' => (nextS n s = none ∧ e = .returned (.bool false) ∧ w' = W3) ∨ (∃ s', nextS n s = some s' ∧ e = .returned (.bool true) ∧ OwnI w' 0 (.slice (some ⟨SB, 0, none⟩) k k) s' ∧ Turned (fun b => b = SB) W3 w')) := advance_any SB k n s hn (by omega) HR2.out HR3.out HR1.out W3 HO3.out
          clear hj3 hT3 hC3 ht3 hlt2 hnS hNlt hy1 hR
          by_cases hlast : i + 1 < Z.length
          · have hnx := HNEXT.out hlast
            have HAD2 : Hid (Calls Tryz.prog 101 #[.slice (some ⟨SB, 0, none⟩) k k, .int .i64 n] W3 fun e w' => e = .returned (.bool true) ∧ Hid (OwnI w' 0 (.slice (some ⟨SB, 0, none⟩) k k) (rowL Z (i + 1))) ∧ Hid (Turned (fun b => b = SB) W3 w')) := HAD.out.mono fun e w' h => by
              rcases h with ⟨h1, _⟩ | ⟨s', h1, h2, h3, h4⟩
              · rw [hnx] at h1; cases h1
              · rw [hnx] at h1
                obtain rfl := Option.some.inj h1
                exact ⟨h2, h3, h4⟩
            clear HAD hnx
            gi_wp2_with (refine ⟨trivial, ?_⟩; gi_at_call 101; refine (callsIn_wide.2 HAD2.out).mono ?_; rintro e w7 ⟨rfl, HO7, HT7⟩)
            gi_roundg (Z.length - (i + 1))
            case rel => exact ⟨i + 1, pre ++ [(SB, s)], C3, T3, hlast, rfl, by rw [List.map_append, HPRE.out, HTK.out]; rfl, hJ.keep HJ3.out (HT7.out.mono fun b _ e => by rw [e]; exact HT3.out) (fun b e => .inl e), HT3.out, HNC3.out, HO7.out, HT7.out.cell HC3.out (fun e => by have e : N = SB := e; have := HLTN.out; omega)⟩
            case measure => omega
          · have hnx := HLAST.out hlast
            have HAD2 : Hid (Calls Tryz.prog 101 #[.slice (some ⟨SB, 0, none⟩) k k, .int .i64 n] W3 fun e w' => e = .returned (.bool false) ∧ w' = W3) := HAD.out.mono fun e w' h => by
              rcases h with ⟨h1, h2, h3⟩ | ⟨s', h1, _⟩
              · exact ⟨h2, h3⟩
              · rw [hnx] at h1; cases h1
            have HEND : Hid ((pre ++ [(SB, s)]).map Prod.snd = Z) := by
              show _ = _
              rw [List.map_append, HPRE.out]
              have h1 := HTK.out
              rw [List.take_of_length_le (by omega)] at h1
              exact h1.symm
            clear HAD hnx
            gi_wp2_with (refine ⟨trivial, ?_⟩; gi_at_call 101; refine (callsIn_wide.2 HAD2.out).mono ?_; rintro e w7 ⟨rfl, rfl⟩)
            go_end0
            exact ⟨⟨_, rfl⟩, .inl ⟨_, _, _, HEND.out, HJ3.out⟩⟩
        · obtain ⟨C3, T3, hj3, _⟩ := hw
          have HJ3 := Lib.hid hj3
          clear hj3 hy1 hR
          gi_wp2
          refine ⟨trivial, ?_⟩
          gi_wp2
          go_end0
          exact ⟨⟨_, rfl⟩, .inr ⟨_, _, _, HJ3.out⟩⟩
end Go.Proofs.YtfnomiingelfaaaGreat
