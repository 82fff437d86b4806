/- A list of ints appended to a slice of the call's own; Grow of a nil slice; Concat: contracts. -/
import Derived.Test.YtkakjfijmekdjabOwnW
import Derived.Lib.AppendZerosOnto
import Derived.Lib.SliceRun
namespace Go.Proofs.Ytkakjfijmekdjab
open Go.RowKit

theorem news_of {W : World} {b off : Nat} {ys : List Int} (h : Sl W (some ⟨b, off, none⟩) ys) : ∀ j u, (ys.map (Value.int .i64))[j]? = some u → W.cell? ((⟨b, off, none⟩ : Addr).add j) = some u := h.news
/-- A list of ints appended to a slice of the call's own. -/
theorem wpList_pushL {ops : Array Oper} {rest : List Oper} {o : Oper} {a : Act} {Q : Exit → Act → World → Prop} (hgd : o.guard = none) (s x : Operand)
    (ho : o.op = .call { callee := .builtin .append, args := #[s, x], argTypes := #[26, 26] }) (base : Nat) (v : Value) (zs : List Int) (b off : Nat) (ys : List Int) (c : Nat) (V : World)
    (hs : a.eval s = v) (hx : a.eval x = .slice (some ⟨b, off, none⟩) ys.length c) (hown : OwnI V base v zs) (hsl : Sl V (some ⟨b, off, none⟩) ys) (hl : zs.length + ys.length ≤ 100000) (hbase : base ≤ V.heap.size)
    (h : ∀ v' w', OwnI w' base v' (zs ++ ys) → Below base V w' → wpList Try.prog ops Q rest (a.put o.dst v') w') : wpList Try.prog ops Q (o :: rest) a V := by
  obtain ⟨i0, hi, hz0, hz1, hz2⟩ := info_parts Try.infoInt
  refine wpList_append_own V hgd s x 26 ho base 3 i0 (.int .i64 0) 1 8 Try.underlying26 hi hz0 hz1 hz2 rfl (by decide) v zs.length (zs.map (Value.int .i64)) hs hown ⟨b, off, none⟩ ys.length c (ys.map (Value.int .i64)) hx (by simp) (news_of hsl) (map_oneCell ys) (by unfold maxLen; omega) (by omega) hbase ?_
  intro v' w' h1 h2 h3
  refine h v' w' ?_ ((Below.refl base V).grown h2 hbase (fun k e => (World.ownsRow.lt hown k e).1))
  show w'.ownsRow _ _ _ _ _ _
  rw [List.length_append, List.map_append]; exact h1
/-- The same in a region that draws its order. -/
theorem step_pushL {ops : Array Oper} {o : Oper} {a : Act} {K : Act → World → Prop} {Q : Exit → Act → World → Prop} {E : Prop} (hgd : o.guard = none) (s x : Operand)
    (ho : o.op = .call { callee := .builtin .append, args := #[s, x], argTypes := #[26, 26] }) (base : Nat) (v : Value) (zs : List Int) (b off : Nat) (ys : List Int) (c : Nat) (V : World)
    (hs : a.eval s = v) (hx : a.eval x = .slice (some ⟨b, off, none⟩) ys.length c) (hown : OwnI V base v zs) (hsl : Sl V (some ⟨b, off, none⟩) ys) (hl : zs.length + ys.length ≤ 100000) (hbase : base ≤ V.heap.size)
    (h : ∀ v' w', OwnI w' base v' (zs ++ ys) → Below base V w' → K (a.put o.dst v') w') : if Region.wanted o (yielded ops a.tmps) = true then Oper.wp Try.prog o a V K Q else E := by
  have hw : Region.wanted o (yielded ops a.tmps) = true := by simp [Region.wanted, hgd]
  rw [if_pos hw]
  obtain ⟨i0, hi, hz0, hz1, hz2⟩ := info_parts Try.infoInt
  refine wp_append_own V s x 26 ho base 3 i0 (.int .i64 0) 1 8 Try.underlying26 hi hz0 hz1 hz2 rfl (by decide) v zs.length (zs.map (Value.int .i64)) hs hown ⟨b, off, none⟩ ys.length c (ys.map (Value.int .i64)) hx (by simp) (news_of hsl) (map_oneCell ys) (by unfold maxLen; omega) (by omega) hbase ?_
  intro v' w' h1 h2 h3
  refine h v' w' ?_ ((Below.refl base V).grown h2 hbase (fun k e => (World.ownsRow.lt hown k e).1))
  show w'.ownsRow _ _ _ _ _ _
  rw [List.length_append, List.map_append]; exact h1

theorem grow_cells {w : World} {n G : Nat} (hG : n ≤ G) (hm : G ≤ maxLen) (B : Nat) (hB : B ≤ w.heap.size) : OwnI (w.alloc (.cells (Builtin.zeroCells #[Value.int .i64 0] n ++ Builtin.zeroCells #[Value.int .i64 0] (G - n)) 3)).drew B (.slice (some ⟨w.heap.size, 0, none⟩) 0 G) [] := by
  refine ⟨by simp, .inr ⟨w.heap.size, G, Builtin.zeroCells #[Value.int .i64 0] n ++ Builtin.zeroCells #[Value.int .i64 0] (G - n), rfl, hB, ?_, by simp, hm, ?_, by simp⟩⟩
  · show (w.heap.push (.cells (Builtin.zeroCells #[Value.int .i64 0] n ++ Builtin.zeroCells #[Value.int .i64 0] (G - n)) 3))[w.heap.size]? = _
    rw [Array.getElem?_push_size]
  · simp [size_zeroCells]; omega
set_option maxRecDepth 100000 in
theorem grow_nil (n : Nat) (h1 : 1 ≤ n) (h2 : n ≤ 1000) (w : World) :
    Calls Try.prog 97 #[.slice none 0 0, .int .i64 n] w fun e w' => ∃ G, e = .returned (.slice (some ⟨w.heap.size, 0, none⟩) 0 G) ∧ OwnI w' w.heap.size (.slice (some ⟨w.heap.size, 0, none⟩) 0 G) [] ∧ Below w.heap.size w w' := by
  obtain ⟨i0, hi, hz0, hz1, hz2⟩ := info_parts Try.infoInt
  have hrz : ∀ ty, (Builtin.append_ #[26, 3] ty #[.slice none 0 0, .int .i64 (n : Int)]).run Try.prog w =
      .ok (.slice (some ⟨w.heap.size, 0, none⟩) n (grownCap w n 0 3)) (w.drew.alloc (.cells ((#[] : Array Value) ++ Builtin.zeroCells (Value.int .i64 0).cells n ++ Builtin.zeroCells (Value.int .i64 0).cells (grownCap w n 0 3 - n)) 3)) := fun ty => by
    have h := Lib.run_append_grow_zeros w 26 3 ty 3 i0 (.int .i64 0) .i64 .i64 Try.underlying26 Try.underlying3 hi hz0 none 0 0 [] (run_firstCells_none w.drew i0.size 0 0 0) n (by omega) (by omega) (by omega) (by omega)
      (by rw [hz2]; omega)
      (by rw [Nat.zero_add]; exact growslice_fits (by omega) (by rw [hz2]; omega))
    rw [Nat.zero_add] at h
    exact h
  have hGn : n ≤ grownCap w n 0 3 := grownCap_ge w _ _ _
  have hG63 := grownCap_le_maxLen w n 0 3 (by unfold maxLen; omega)
  obtain ⟨G, hG⟩ : ∃ G, G = grownCap w n 0 3 := ⟨_, rfl⟩
  rw [← hG] at hrz hGn hG63
  have HOW := Lib.hid (grow_cells (w := w) hGn hG63 w.heap.size (Nat.le_refl _))
  have HBW : Hid (Below w.heap.size w (w.alloc (.cells (Builtin.zeroCells #[Value.int .i64 0] n ++ Builtin.zeroCells #[Value.int .i64 0] (G - n)) 3)).drew) := ((Below.refl _ _).alloc (Nat.le_refl _) _).drew
  unfold maxLen at hG63
  clear hG
  go_enter Try.func97, Try.ntmps97
  go_wp2_with (at_builtin; refine Lib.wpList_append_run _ rfl _ _ _ _ rfl _ _ rfl rfl _ _ (hrz _) ?_)
  all_goals
    go_ret
    exact ⟨G, rfl, HOW.out, HBW.out⟩

/-- The rows of ls up to k, one behind the other. -/
def catTo (ls : List (Nat × Nat × List Int × Nat)) (k : Nat) : List Int := ((ls.take k).map fun x => x.2.2.1).flatten
theorem catTo_succ {ls : List (Nat × Nat × List Int × Nat)} {k : Nat} {x : Nat × Nat × List Int × Nat} (h : ls[k]? = some x) : catTo ls (k + 1) = catTo ls k ++ x.2.2.1 := by
  have hk := (List.getElem?_eq_some_iff.1 h).1
  unfold catTo
  rw [List.take_succ_eq_append_getElem hk, List.map_append, List.flatten_append]
  simp [(List.getElem?_eq_some_iff.1 h).2]
theorem catTo_le {ls : List (Nat × Nat × List Int × Nat)} {k : Nat} (hk : k ≤ ls.length) : (catTo ls k).length ≤ (catTo ls ls.length).length := by
  unfold catTo
  have e : ls.take ls.length = ls.take k ++ ls.drop k := by simp
  rw [e, List.map_append, List.flatten_append, List.length_append]; omega
set_option maxRecDepth 100000 in
set_option maxHeartbeats 400000 in
theorem concat_any (B : Nat) (ls : List (Nat × Nat × List Int × Nat)) (w : World) (hl : ls.length ≤ 100) (h1 : 1 ≤ (catTo ls ls.length).length) (h2 : (catTo ls ls.length).length ≤ 1000)
    (hc : ∀ k, k < ls.length → ∃ b off xs c, ls[k]? = some (b, off, xs, c) ∧ w.cell? ⟨B, k, none⟩ = some (.slice (some ⟨b, off, none⟩) xs.length c) ∧ Sl w (some ⟨b, off, none⟩) xs) (hB : B < w.heap.size) :
    Calls Try.prog 75 #[.slice (some ⟨B, 0, none⟩) ls.length ls.length] w fun e w' => ∃ v, e = .returned v ∧ OwnI w' w.heap.size v (catTo ls ls.length) ∧ Below w.heap.size w w' := by
  have HC := Lib.hid hc; clear hc
  have HLE : Hid (∀ k, k ≤ ls.length → (catTo ls k).length ≤ (catTo ls ls.length).length) := fun k hk => catTo_le hk
  obtain ⟨T, hT⟩ : ∃ T, (catTo ls ls.length).length = T := ⟨_, rfl⟩
  have HT := Lib.hid hT
  rw [hT] at h1 h2
  clear hT
  go_enter Try.func75, Try.ntmps75
  go_wp2
  go_loop [3, 11] (fun t i => ∃ k n : Nat, k ≤ ls.length ∧ i = .int .i64 k ∧ t = .int .i64 n ∧ Hid ((catTo ls k).length = n)) (fun _ i => ls.length - (intOf i).toNat)
  case atStart => exact ⟨0, 0, Nat.zero_le _, rfl, rfl, Lib.hid (by simp [catTo])⟩
  case round =>
    obtain ⟨k, n, hk, rfl, rfl, HN⟩ := hrel
    by_cases hlt : k < ls.length
    · obtain ⟨b, off, xs, c, hls, hcell, hsl⟩ := HC.out k hlt
      have HS : Hid ((catTo ls (k + 1)).length = n + xs.length) := by show _ = _; rw [catTo_succ hls, List.length_append, HN.out]
      have hn1 : n + xs.length ≤ 1000 := by have h3 := HLE.out (k + 1) (by omega); rw [HS.out, HT.out] at h3; omega
      have HLS := Lib.hid hls; clear hls
      have HSL := Lib.hid hsl; clear hsl
      go_wp2
      go_round
      case rel => exact ⟨k + 1, n + xs.length, by omega, by go_num, by simp, HS⟩
      case measure => simp [intOf]; omega
    · obtain rfl : k = ls.length := by omega
      obtain rfl : n = T := by rw [← HN.out, HT.out]
      go_wp2_with fail
      refine (grow_nil n h1 h2 _).mono ?_
      rintro e w1 ⟨G, rfl, hO1, hB1⟩
      have HO1 := Lib.hid hO1; clear hO1
      have HB1 := Lib.hid hB1; clear hB1
      go_wp2
      go_loopw [6, 27] (fun v i wr => ∃ k : Nat, k ≤ ls.length ∧ i = .int .i64 k ∧ OwnI wr w.heap.size v (catTo ls k) ∧ Below w.heap.size w wr) (fun _ i _ => ls.length - (intOf i).toNat)
      case atStart => exact ⟨0, Nat.zero_le _, rfl, by simpa [catTo] using HO1.out, HB1.out⟩
      case round =>
        obtain ⟨k, hk, rfl, hO, hBw⟩ := hrel
        have HO := Lib.hid hO; clear hO
        have HBw := Lib.hid hBw; clear hBw
        by_cases hlt : k < ls.length
        · obtain ⟨b, off, xs, c, hls, hcell0, hsl⟩ := HC.out k hlt
          have HS : Hid (catTo ls (k + 1) = catTo ls k ++ xs) := catTo_succ hls
          have hn1 : (catTo ls k).length + xs.length ≤ 1000 := by have h3 := HLE.out (k + 1) (by omega); rw [HS.out, List.length_append, HT.out] at h3; omega
          have hcell := (HBw.out.cell (p := ⟨B, k, none⟩) hB).trans hcell0
          have HSL := Lib.hid (hsl.below HBw.out); clear hsl hcell0
          have HLS := Lib.hid hls; clear hls
          have HN1 := Lib.hid hn1
          have hx1 : xs.length ≤ 1000 := by omega
          clear hn1
          go_wp2_with (at_builtin; go_must (refine wpList_pushL rfl (.tmp 31) (.tmp 32) rfl w.heap.size _ (catTo ls k) b off xs c _ rfl rfl HO.out HSL.out (by have := HN1.out; omega) HBw.out.size ?_); intro v' w9 ho' hb')
          go_roundw
          case rel => exact ⟨k + 1, by omega, by go_num, by rw [HS.out]; exact ho', HBw.out.trans hb'⟩
          case measure => simp [intOf]; omega
        · obtain rfl : k = ls.length := by omega
          go_wp2
          go_ret
          exact ⟨_, rfl, HO.out, HBw.out⟩
end Go.Proofs.Ytkakjfijmekdjab
