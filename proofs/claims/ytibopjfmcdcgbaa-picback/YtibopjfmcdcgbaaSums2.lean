/- Added of layer 1 and of its answers: contracts. -/
import Derived.Test.YtibopjfmcdcgbaaSums1
import Derived.StillTailTactics
import Derived.Laws.ResultCell
namespace Go.Proofs.Ytibopjfmcdcgbaa
open Go.RowKit

/-- What a function that returns a picture and an error returns. -/
def PPost (r : (Int × Int × List Int) × Int) (w : World) (e : Ending) (w' : World) : Prop :=
  Below w.heap.size w w' ∧ ∃ a cap, e = .returned (.tuple #[.agg #[.int .i64 r.1.1, .int .i64 r.1.2.1, .slice a r.1.2.2.length cap], .int .i64 r.2]) ∧ Sl w' a r.1.2.2
theorem PPost.err {w w' : World} (n : Int) {r : (Int × Int × List Int) × Int} (hr : r = ((0, 0, []), n)) (hb : Below w.heap.size w w') : PPost r w (.returned (.tuple #[.agg #[.int .i64 0, .int .i64 0, .slice none 0 0], .int .i64 n])) w' := by
  subst hr; exact ⟨hb, none, 0, rfl, Sl.none _⟩
theorem PPost.ok {w w' : World} {base n cap : Nat} {a : Option Addr} {wd hg : Int} {ys : List Int} {r : (Int × Int × List Int) × Int} (hr : r = ((wd, hg, ys), 0)) (hb : Below w.heap.size w w') (ho : OwnI w' base (.slice a n cap) ys) (hn : n = ys.length) : PPost r w (.returned (.tuple #[.agg #[.int .i64 wd, .int .i64 hg, .slice a n cap], .int .i64 0])) w' := by
  subst hr hn; exact ⟨hb, a, cap, rfl, ho.sl⟩
def addL (xs ys : List Int) (k : Nat) : List Int := (List.range k).map (fun i => gt xs i + gt ys i)
theorem addL_length (xs ys : List Int) (k : Nat) : (addL xs ys k).length = k := by simp [addL]
theorem addL_succ (xs ys : List Int) (k : Nat) : addL xs ys (k + 1) = addL xs ys k ++ [gt xs k + gt ys k] := by simp [addL, List.range_succ]
def addV (w1 h1 : Int) (xs : List Int) (w2 h2 : Int) (ys : List Int) : (Int × Int × List Int) × Int :=
  if bothV w1 h1 xs w2 h2 ys = 0 then (if allB 1000000 (addL xs ys xs.length) = true then ((w1, h1, addL xs ys xs.length), 0) else ((0, 0, []), 4)) else ((0, 0, []), bothV w1 h1 xs w2 h2 ys)
/-- The first k numbers of zs are the sums. -/
structure AddK (xs ys : List Int) (k : Nat) (zs : List Int) : Prop where
  len : zs.length = xs.length
  yes : ∀ j, j < k → gt zs j = gt xs j + gt ys j
theorem AddK.next {xs ys zs : List Int} {k : Nat} (h : AddK xs ys k zs) (hk : k < xs.length) {x : Int} (hx : x = gt xs k + gt ys k) : AddK xs ys (k + 1) (zs.set k x) := by
  have hkz : k < zs.length := by rw [h.len]; exact hk
  refine ⟨by rw [List.length_set]; exact h.len, fun j hj => ?_⟩
  rw [gt_set hkz]
  by_cases e : j = k
  · subst e; rw [if_pos rfl, hx]
  · rw [if_neg e]; exact h.yes j (by omega)
theorem AddK.all {xs ys zs : List Int} (h : AddK xs ys xs.length zs) : zs = addL xs ys xs.length := by
  refine list_ext_gt (by rw [h.len, addL_length]) fun j hj => ?_
  rw [h.len] at hj
  rw [h.yes j hj]
  unfold addL
  rw [gt_map_range _ hj]
theorem zeros_are (n : Nat) : (madeCells (Value.int .i64 0).cells (n * 1)).toList = (List.replicate n (0 : Int)).map (Value.int .i64) := by
  rw [Nat.mul_one]
  show (madeCells #[Value.int .i64 0] n).toList = _
  rw [toList_madeCells_one]; simp
/-- Two boxes and a third one, of the result. -/
structure Three (w : World) (v0 v1 v2 u0 u1 u2 r0 r1 r2 : Value) (V : World) : Prop where
  two : Two w v0 v1 v2 u0 u1 u2 V
  size : w.heap.size + 3 ≤ V.heap.size
  e0 : V.cell? ⟨w.heap.size + 2, 0, none⟩ = some r0
  e1 : V.cell? ⟨w.heap.size + 2, 1, none⟩ = some r1
  e2 : V.cell? ⟨w.heap.size + 2, 2, none⟩ = some r2
  f0 : V.frozen? ⟨w.heap.size + 2, 0, none⟩ = false
  f1 : V.frozen? ⟨w.heap.size + 2, 1, none⟩ = false
  f2 : V.frozen? ⟨w.heap.size + 2, 2, none⟩ = false
theorem Three.mk0 (w : World) (v0 v1 v2 u0 u1 u2 r0 r1 r2 : Value) (t s r : TypeId) : Three w v0 v1 v2 u0 u1 u2 r0 r1 r2 (((w.alloc (.cells #[v0, v1, v2] t)).alloc (.cells #[u0, u1, u2] s)).alloc (.cells #[r0, r1, r2] r)) := by
  have T := Two.mk0 w v0 v1 v2 u0 u1 u2 t s
  have e1 : ((w.alloc (.cells #[v0, v1, v2] t)).alloc (.cells #[u0, u1, u2] s)).heap.size = w.heap.size + 2 := by rw [World.size_alloc, World.size_alloc]
  generalize (w.alloc (.cells #[v0, v1, v2] t)).alloc (.cells #[u0, u1, u2] s) = V at *
  have B : ∀ k v, #[r0, r1, r2][k]? = some v → (V.alloc (.cells #[r0, r1, r2] r)).cell? ⟨w.heap.size + 2, k, none⟩ = some v := fun k v h => by
    rw [← e1]; exact alloc_cell _ _ _ _ _ h
  refine ⟨T.next ((Below.refl (w.heap.size + 2) V).alloc (by omega) _) (Nat.le_refl _), by rw [World.size_alloc, e1]; exact Nat.le_refl _, B 0 _ rfl, B 1 _ rfl, B 2 _ rfl, ?_, ?_, ?_⟩
  all_goals (rw [← e1]; simp)
theorem Three.next {w V V' : World} {v0 v1 v2 u0 u1 u2 r0 r1 r2 : Value} (h : Three w v0 v1 v2 u0 u1 u2 r0 r1 r2 V) {B : Nat} (hb : Below B V V') (hB : w.heap.size + 3 ≤ B) : Three w v0 v1 v2 u0 u1 u2 r0 r1 r2 V' := by
  have hb' : Below (w.heap.size + 3) V V' := hb.mono hB
  exact ⟨h.two.next hb (by omega), Nat.le_trans h.size hb.size, (hb'.cell (p := ⟨w.heap.size + 2, 0, none⟩) (by show w.heap.size + 2 < _; omega)).trans h.e0, (hb'.cell (p := ⟨w.heap.size + 2, 1, none⟩) (by show w.heap.size + 2 < _; omega)).trans h.e1, (hb'.cell (p := ⟨w.heap.size + 2, 2, none⟩) (by show w.heap.size + 2 < _; omega)).trans h.e2,
    (hb'.frozen (p := ⟨w.heap.size + 2, 0, none⟩) (by show w.heap.size + 2 < _; omega)).trans h.f0, (hb'.frozen (p := ⟨w.heap.size + 2, 1, none⟩) (by show w.heap.size + 2 < _; omega)).trans h.f1, (hb'.frozen (p := ⟨w.heap.size + 2, 2, none⟩) (by show w.heap.size + 2 < _; omega)).trans h.f2⟩

theorem set3 {w V : World} (h : Below w.heap.size w V) {R : Nat} (hR : w.heap.size ≤ R) (a b c : Value) : Below w.heap.size w (((V.setCell ⟨R, 0, none⟩ a).setCell ⟨R, 1, none⟩ b).setCell ⟨R, 2, none⟩ c) :=
  ((h.setCell (p := ⟨R, 0, none⟩) hR _).setCell (p := ⟨R, 1, none⟩) hR _).setCell (p := ⟨R, 2, none⟩) hR _
theorem set3_heap (V : World) {R g : Nat} (hg : g ≠ R) (a b c : Value) : (((V.setCell ⟨R, 0, none⟩ a).setCell ⟨R, 1, none⟩ b).setCell ⟨R, 2, none⟩ c).heap[g]? = V.heap[g]? :=
  (Below.heap_setCell _ _ _ g hg).trans ((Below.heap_setCell _ _ _ g hg).trans (Below.heap_setCell _ _ _ g hg))

set_option maxRecDepth 100000 in
theorem added_any (w1 h1 : Int) (a : Option Addr) (xs : List Int) (ca : Nat) (w2 h2 : Int) (b : Option Addr) (ys : List Int) (cb : Nat) (w : World) (hx : xs.length ≤ 140737488351232) (hy : ys.length ≤ 140737488351232) (ha : Sl w a xs) (hb : Sl w b ys) :
    Calls Try.prog 32 #[.agg #[.int .i64 w1, .int .i64 h1, .slice a xs.length ca], .agg #[.int .i64 w2, .int .i64 h2, .slice b ys.length cb]] w (PPost (addV w1 h1 xs w2 h2 ys) w) := by
  have HA := Lib.hid ha; clear ha
  have HB := Lib.hid hb; clear hb
  have T0 := Lib.hid (Two.mk0 w (.int .i64 w1) (.int .i64 h1) (.slice a xs.length ca) (.int .i64 w2) (.int .i64 h2) (.slice b ys.length cb) 24 24)
  have HD : Hid (∀ x, bothV w1 h1 xs w2 h2 ys = x → addV w1 h1 xs w2 h2 ys = if x = 0 then (if allB 1000000 (addL xs ys xs.length) = true then ((w1, h1, addL xs ys xs.length), 0) else ((0, 0, []), 4)) else ((0, 0, []), x)) := by rintro x rfl; rfl
  obtain ⟨i0, hi, hz0, hz1, hz2⟩ := info_parts Try.infoInt
  go_enter Try.func32, Try.ntmps32
  go_wp2_with fail
  have T3 := Lib.hid (Three.mk0 w (.int .i64 w1) (.int .i64 h1) (.slice a xs.length ca) (.int .i64 w2) (.int .i64 h2) (.slice b ys.length cb) (.int .i64 0) (.int .i64 0) (.slice none 0 0) 24 24 24)
  generalize ((w.alloc (.cells #[.int .i64 w1, .int .i64 h1, .slice a xs.length ca] 24)).alloc (.cells #[.int .i64 w2, .int .i64 h2, .slice b ys.length cb] 24)).alloc (.cells #[.int .i64 0, .int .i64 0, .slice none 0 0] 24) = V0 at *
  refine (matched_any w1 h1 a xs ca w2 h2 b ys cb _ hx hy (HA.out.below T3.out.two.below) (HB.out.below T3.out.two.below)).mono ?_
  rintro e w3 ⟨rfl, hb1⟩
  have T1 := Lib.hid (T3.out.next hb1 T3.out.size)
  clear hb1 T3 T0
  obtain ⟨⟨c0, c1, c2, d0, d1, d2, _, _⟩, hsz, e0, e1, e2, f0, f1, f2⟩ := T1.out
  obtain ⟨x, hx0⟩ : ∃ x, bothV w1 h1 xs w2 h2 ys = x := ⟨_, rfl⟩
  rw [hx0]
  by_cases hz : x = 0
  · subst hz
    obtain ⟨va, vb, rfl, rfl⟩ := bothV_0 hx0
    have hlx := validPic_of va
    have hly := validPic_of vb
    have hm := (mul_bd ⟨hlx.1, hlx.2.1⟩ ⟨hlx.2.2.1, hlx.2.2.2.1⟩).2
    have hl256 : xs.length ≤ 256 := by omega
    have hle : ys.length = xs.length := by omega
    have AX := Lib.hid hlx.2.2.2.2.2
    have AY := Lib.hid hly.2.2.2.2.2
    have HLE := Lib.hid hle
    have HX0 := Lib.hid hx0
    clear va vb hlx hly hm hx0 hle
    go_wp2_with (with_reducible refine wpList_make_full _ rfl (.tmp 18) (.tmp 18) 22 rfl w3.heap.size 3 i0 (.int .i64 0) 1 Try.underlying22 hi hz0 hz1 .i64 .i64 (xs.length : Int) (xs.length : Int) xs.length rfl rfl rfl rfl (by rw [hz2]; omega) (by unfold maxLen; omega) (Nat.le_refl _) ?_)
    rotate_left
    intro w4 hown hgrow
    have HO4 : Hid (OwnI w4 w3.heap.size (.slice (some ⟨w3.heap.size, 0, none⟩) xs.length xs.length) (List.replicate xs.length 0)) := by
      have z := zeros_are xs.length
      rw [Nat.mul_one] at z
      show w4.ownsRow _ _ _ _ _ _
      rw [List.length_replicate, ← z]; exact hown
    have HB4 : Hid (Below w3.heap.size w3 w4) := (Below.refl _ _).grown hgrow (Nat.le_refl _) (fun k e => by cases e)
    clear hown hgrow
    have T4 := Lib.hid (T1.out.next HB4.out T1.out.size)
    clear c0 c1 c2 d0 d1 d2 e0 e1 e2 f0 f1 f2
    have hS3 := T1.out.size
    go_wp2
    go_loopw [22] (fun i wr => ∃ (k : Nat) (zs : List Int), k ≤ xs.length ∧ i = .int .i64 k ∧ OwnI wr w3.heap.size (.slice (some ⟨w3.heap.size, 0, none⟩) xs.length xs.length) zs ∧ AddK xs ys k zs ∧ Below w3.heap.size w3 wr) (fun i _ => xs.length - (intOf i).toNat)
    case atStart => exact ⟨0, _, Nat.zero_le _, rfl, HO4.out, ⟨by simp, fun j h => absurd h (by omega)⟩, HB4.out⟩
    case round =>
      obtain ⟨k, zs, hk, rfl, hO, hA, hB⟩ := hrel
      have HO := Lib.hid hO; clear hO
      have HAK := Lib.hid hA; clear hA
      have HB3 := Lib.hid hB; clear hB
      have T2 := Lib.hid (T1.out.next HB3.out T1.out.size)
      obtain ⟨⟨c0, c1, c2, d0, d1, d2, _, _⟩, hsz2, e0, e1, e2, f0, f1, f2⟩ := T2.out
      by_cases hlt : k < xs.length
      · have hlt2 : k < ys.length := by rw [HLE.out]; exact hlt
        obtain ⟨ba, oa, x, rfl, hcx, HX⟩ := (HA.out.below T2.out.two.below).at hlt
        obtain ⟨bb, ob, y, rfl, hcy, HY⟩ := (HB.out.below T2.out.two.below).at hlt2
        obtain ⟨x1, x2⟩ := allB_get AX.out HX.out
        obtain ⟨y1, y2⟩ := allB_get AY.out HY.out
        have GX := Lib.hid (gt_some' HX.out)
        have GY := Lib.hid (gt_some' HY.out)
        obtain ⟨hcz, hfz⟩ := HO.out.cell (j := k) (by rw [HAK.out.len]; exact hlt)
        have hgV := HO.out.lt
        go_wp2
        go_still_tail 14, (by kernel_rfl)
        change wpList _ _ _ _ _ wr.drew
        go_wp2
        go_roundw
        case rel =>
          exact ⟨k + 1, zs.set k (x + y), by omega, by go_num, HO.out.drew.stored k _, HAK.out.next hlt (by rw [GX.out, GY.out]), (HB3.out.drew).setCell hgV.2 _⟩
        case measure => simp [intOf]; omega
      · obtain rfl : k = xs.length := by omega
        have hzl : Hid (zs.length = xs.length) := HAK.out.len
        have hzs := HAK.out.all
        have HZ := Lib.hid hzs; clear hzs
        have hsl := HO.out.sl
        have HSL := Lib.hid hsl; clear hsl
        have HV := Lib.hid (HD.out _ HX0.out)
        have hwi := within_any 1000000 (by omega) (by omega) (some ⟨w3.heap.size, 0, none⟩) zs xs.length wr (by rw [hzl.out]; exact hx) HSL.out
        rw [hzl.out] at hwi
        have HWI := Lib.hid hwi; clear hwi
        cases hal : allB 1000000 zs
        · have HAL := Lib.hid hal; clear hal
          go_wp2_with fail
          refine HWI.out.mono ?_
          rintro e w5 ⟨rfl, hb5⟩
          have T5 := Lib.hid (T2.out.next hb5 T2.out.size)
          clear c0 c1 c2 d0 d1 d2 e0 e1 e2 f0 f1 f2
          obtain ⟨⟨c0, c1, c2, d0, d1, d2, _, _⟩, hsz3, e0, e1, e2, f0, f1, f2⟩ := T5.out
          rw [HAL.out]
          go_wp2
          (try simp only [Exit.inBlock, Exit.then])
          refine bodyPost_ret (v := .tuple #[.agg #[.int .i64 0, .int .i64 0, .slice none 0 0], .int .i64 4]) (by rw [results_cell_tmp rfl]; go_simp) rfl ?_
          exact PPost.err 4 (by rw [HV.out, ← HZ.out, HAL.out]; simp) (set3 T5.out.two.below (by omega) _ _ _)
        · have HAL := Lib.hid hal; clear hal
          go_wp2_with fail
          refine HWI.out.mono ?_
          rintro e w5 ⟨rfl, hb5⟩
          have T5 := Lib.hid (T2.out.next hb5 T2.out.size)
          have HO5 := Lib.hid (HO.out.below hb5)
          clear c0 c1 c2 d0 d1 d2 e0 e1 e2 f0 f1 f2
          obtain ⟨⟨c0, c1, c2, d0, d1, d2, _, _⟩, hsz3, e0, e1, e2, f0, f1, f2⟩ := T5.out
          rw [HAL.out]
          go_wp2
          (try simp only [Exit.inBlock, Exit.then])
          refine bodyPost_ret (v := .tuple #[.agg #[.int .i64 w1, .int .i64 h1, .slice (some ⟨w3.heap.size, 0, none⟩) xs.length xs.length], .int .i64 0]) (by rw [results_cell_tmp rfl]; go_simp) rfl ?_
          refine PPost.ok (base := w3.heap.size) (ys := zs) (by rw [HV.out, ← HZ.out, HAL.out]; simp) (set3 T5.out.two.below (by omega) _ _ _) ?_ hzl.out.symm
          refine HO5.out.sameBlock ?_
          exact set3_heap _ (by omega) _ _ _
  · have HX0 := Lib.hid hx0; clear hx0
    have hz' : (x == 0) = false := by simpa using hz
    have hz'' : (x != 0) = true := by simpa using hz
    go_wp2
    (try simp only [Exit.inBlock, Exit.then])
    refine bodyPost_ret (v := .tuple #[.agg #[.int .i64 0, .int .i64 0, .slice none 0 0], .int .i64 x]) (by rw [results_cell_tmp rfl]; go_simp) rfl ?_
    exact PPost.err x (by rw [HD.out _ HX0.out, if_neg hz]) (set3 T1.out.two.below (by omega) _ _ _)
end Go.Proofs.Ytibopjfmcdcgbaa
