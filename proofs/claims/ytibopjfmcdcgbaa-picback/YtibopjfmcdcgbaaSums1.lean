/- Pairs of pictures: matched, both, Same, Differ of layer 1 and of its answers: contracts. -/
import Derived.Test.YtibopjfmcdcgbaaUnw
namespace Go.Proofs.Ytibopjfmcdcgbaa
open Go.RowKit

/-- Two boxes keep their cells behind what writes nothing older. -/
structure Two (w : World) (v0 v1 v2 u0 u1 u2 : Value) (V : World) : Prop where
  c0 : V.cell? ⟨w.heap.size, 0, none⟩ = some v0
  c1 : V.cell? ⟨w.heap.size, 1, none⟩ = some v1
  c2 : V.cell? ⟨w.heap.size, 2, none⟩ = some v2
  d0 : V.cell? ⟨w.heap.size + 1, 0, none⟩ = some u0
  d1 : V.cell? ⟨w.heap.size + 1, 1, none⟩ = some u1
  d2 : V.cell? ⟨w.heap.size + 1, 2, none⟩ = some u2
  size : w.heap.size + 2 ≤ V.heap.size
  below : Below w.heap.size w V
theorem Two.mk0 (w : World) (v0 v1 v2 u0 u1 u2 : Value) (t s : TypeId) : Two w v0 v1 v2 u0 u1 u2 ((w.alloc (.cells #[v0, v1, v2] t)).alloc (.cells #[u0, u1, u2] s)) := by
  have e1 : (w.alloc (.cells #[v0, v1, v2] t)).heap.size = w.heap.size + 1 := World.size_alloc _ _
  have A : ∀ k v, #[v0, v1, v2][k]? = some v → ((w.alloc (.cells #[v0, v1, v2] t)).alloc (.cells #[u0, u1, u2] s)).cell? ⟨w.heap.size, k, none⟩ = some v := fun k v h => by
    rw [alloc_old _ _ _ _ (by omega)]; exact alloc_cell _ _ _ _ _ h
  have B : ∀ k v, #[u0, u1, u2][k]? = some v → ((w.alloc (.cells #[v0, v1, v2] t)).alloc (.cells #[u0, u1, u2] s)).cell? ⟨w.heap.size + 1, k, none⟩ = some v := fun k v h => by
    rw [← e1]; exact alloc_cell _ _ _ _ _ h
  exact ⟨A 0 _ rfl, A 1 _ rfl, A 2 _ rfl, B 0 _ rfl, B 1 _ rfl, B 2 _ rfl, by rw [World.size_alloc, e1]; exact Nat.le_refl _, ((Below.refl _ _).alloc (Nat.le_refl _) _).alloc (by omega) _⟩
theorem Two.next {w V V' : World} {v0 v1 v2 u0 u1 u2 : Value} (h : Two w v0 v1 v2 u0 u1 u2 V) {B : Nat} (hb : Below B V V') (hB : w.heap.size + 2 ≤ B) : Two w v0 v1 v2 u0 u1 u2 V' := by
  have hb' : Below (w.heap.size + 2) V V' := hb.mono hB
  exact ⟨(hb'.cell (p := ⟨w.heap.size, 0, none⟩) (by show w.heap.size < _; omega)).trans h.c0, (hb'.cell (p := ⟨w.heap.size, 1, none⟩) (by show w.heap.size < _; omega)).trans h.c1, (hb'.cell (p := ⟨w.heap.size, 2, none⟩) (by show w.heap.size < _; omega)).trans h.c2,
    (hb'.cell (p := ⟨w.heap.size + 1, 0, none⟩) (by show w.heap.size + 1 < _; omega)).trans h.d0, (hb'.cell (p := ⟨w.heap.size + 1, 1, none⟩) (by show w.heap.size + 1 < _; omega)).trans h.d1, (hb'.cell (p := ⟨w.heap.size + 1, 2, none⟩) (by show w.heap.size + 1 < _; omega)).trans h.d2,
    Nat.le_trans h.size hb.size, h.below.trans (hb'.mono (by omega))⟩

/-- What two pictures are asked first. -/
def bothV (w1 h1 : Int) (xs : List Int) (w2 h2 : Int) (ys : List Int) : Int :=
  if validPicB w1 h1 xs = false ∨ validPicB w2 h2 ys = false then 1 else if ¬ w1 = w2 ∨ ¬ h1 = h2 then 9 else 0
theorem bothV_0 {w1 h1 : Int} {xs : List Int} {w2 h2 : Int} {ys : List Int} (h : bothV w1 h1 xs w2 h2 ys = 0) : validPicB w1 h1 xs = true ∧ validPicB w2 h2 ys = true ∧ w1 = w2 ∧ h1 = h2 := by
  unfold bothV at h
  split at h
  · cases h
  · split at h
    · cases h
    · rename_i a b
      simp at a b
      exact ⟨a.1, a.2, b.1, b.2⟩

theorem matched_any (w1 h1 : Int) (a : Option Addr) (xs : List Int) (ca : Nat) (w2 h2 : Int) (b : Option Addr) (ys : List Int) (cb : Nat) (w : World) (hx : xs.length ≤ 140737488351232) (hy : ys.length ≤ 140737488351232) (ha : Sl w a xs) (hb : Sl w b ys) :
    Calls Try.prog 63 #[.agg #[.int .i64 w1, .int .i64 h1, .slice a xs.length ca], .agg #[.int .i64 w2, .int .i64 h2, .slice b ys.length cb]] w fun e w' => e = .returned (.int .i64 (bothV w1 h1 xs w2 h2 ys)) ∧ Below w.heap.size w w' := by
  have HA := Lib.hid ha; clear ha
  have HB := Lib.hid hb; clear hb
  have T0 := Lib.hid (Two.mk0 w (.int .i64 w1) (.int .i64 h1) (.slice a xs.length ca) (.int .i64 w2) (.int .i64 h2) (.slice b ys.length cb) 24 24)
  have HV : Hid (∀ x y, validPicB w1 h1 xs = x → validPicB w2 h2 ys = y → bothV w1 h1 xs w2 h2 ys = if x = false ∨ y = false then 1 else if ¬ w1 = w2 ∨ ¬ h1 = h2 then 9 else 0) := by rintro x y rfl rfl; rfl
  cases hv : validPicB w1 h1 xs
  · have HX := Lib.hid hv; clear hv
    go_enter Try.func63, Try.ntmps63
    go_wp2_with fail
    refine (valid_any _ _ _ _ _ _ hx (HA.out.below T0.out.below)).mono ?_
    rintro e w3 ⟨rfl, hb1⟩
    rw [HX.out]
    go_wp2
    go_ret
    exact ⟨ret_i64 (by rw [HV.out _ _ HX.out rfl]; simp), T0.out.below.trans (hb1.mono T0.out.below.size)⟩
  · have HX := Lib.hid hv; clear hv
    go_enter Try.func63, Try.ntmps63
    go_wp2_with fail
    refine (valid_any _ _ _ _ _ _ hx (HA.out.below T0.out.below)).mono ?_
    rintro e w3 ⟨rfl, hb1⟩
    rw [HX.out]
    have T1 := Lib.hid (T0.out.next hb1 T0.out.size)
    clear hb1
    obtain ⟨c0, c1, c2, d0, d1, d2, hsz, _⟩ := T1.out
    go_wp2_with fail
    refine (valid_any _ _ _ _ _ _ hy (HB.out.below T1.out.below)).mono ?_
    rintro e w4 ⟨rfl, hb2⟩
    have T2 := Lib.hid (T1.out.next hb2 T1.out.size)
    clear c0 c1 c2 d0 d1 d2 hb2
    obtain ⟨c0, c1, c2, d0, d1, d2, _, _⟩ := T2.out
    cases hv2 : validPicB w2 h2 ys
    · have HY := Lib.hid hv2; clear hv2
      go_wp2
      go_ret
      exact ⟨ret_i64 (by rw [HV.out _ _ HX.out HY.out]; simp), T2.out.below⟩
    · have HY := Lib.hid hv2; clear hv2
      by_cases e1 : w1 = w2
      · by_cases e2 : h1 = h2
        · subst e1 e2
          go_wp2
          go_ret
          exact ⟨ret_i64 (by rw [HV.out _ _ HX.out HY.out]; simp), T2.out.below⟩
        · have e2' : (h1 == h2) = false := by simpa using e2
          have e2'' : (h1 != h2) = true := by simpa using e2
          subst e1
          go_wp2
          go_ret
          exact ⟨ret_i64 (by rw [HV.out _ _ HX.out HY.out]; simp [e2]), T2.out.below⟩
      · have e1' : (w1 == w2) = false := by simpa using e1
        have e1'' : (w1 != w2) = true := by simpa using e1
        go_wp2
        go_ret
        exact ⟨ret_i64 (by rw [HV.out _ _ HX.out HY.out]; simp [e1]), T2.out.below⟩

theorem both_any (w1 h1 : Int) (a : Option Addr) (xs : List Int) (ca : Nat) (w2 h2 : Int) (b : Option Addr) (ys : List Int) (cb : Nat) (w : World) (hx : xs.length ≤ 140737488351232) (hy : ys.length ≤ 140737488351232) (ha : Sl w a xs) (hb : Sl w b ys) :
    Calls Try.prog 64 #[.agg #[.int .i64 w1, .int .i64 h1, .slice a xs.length ca], .agg #[.int .i64 w2, .int .i64 h2, .slice b ys.length cb]] w fun e w' => e = .returned (.int .i64 (bothV w1 h1 xs w2 h2 ys)) ∧ Below w.heap.size w w' := by
  have HA := Lib.hid ha; clear ha
  have HB := Lib.hid hb; clear hb
  have T0 := Lib.hid (Two.mk0 w (.int .i64 w1) (.int .i64 h1) (.slice a xs.length ca) (.int .i64 w2) (.int .i64 h2) (.slice b ys.length cb) 24 24)
  have HV : Hid (∀ x y, validPicB w1 h1 xs = x → validPicB w2 h2 ys = y → bothV w1 h1 xs w2 h2 ys = if x = false ∨ y = false then 1 else if ¬ w1 = w2 ∨ ¬ h1 = h2 then 9 else 0) := by rintro x y rfl rfl; rfl
  cases hv : validPicB w1 h1 xs
  · have HX := Lib.hid hv; clear hv
    go_enter Try.func64, Try.ntmps64
    go_wp2_with fail
    refine (rvalid_any _ _ _ _ _ _ hx (HA.out.below T0.out.below)).mono ?_
    rintro e w3 ⟨rfl, hb1⟩
    rw [HX.out]
    go_wp2
    go_ret
    exact ⟨ret_i64 (by rw [HV.out _ _ HX.out rfl]; simp), T0.out.below.trans (hb1.mono T0.out.below.size)⟩
  · have HX := Lib.hid hv; clear hv
    go_enter Try.func64, Try.ntmps64
    go_wp2_with fail
    refine (rvalid_any _ _ _ _ _ _ hx (HA.out.below T0.out.below)).mono ?_
    rintro e w3 ⟨rfl, hb1⟩
    rw [HX.out]
    have T1 := Lib.hid (T0.out.next hb1 T0.out.size)
    clear hb1
    obtain ⟨c0, c1, c2, d0, d1, d2, hsz, _⟩ := T1.out
    go_wp2_with fail
    refine (rvalid_any _ _ _ _ _ _ hy (HB.out.below T1.out.below)).mono ?_
    rintro e w4 ⟨rfl, hb2⟩
    have T2 := Lib.hid (T1.out.next hb2 T1.out.size)
    clear c0 c1 c2 d0 d1 d2 hb2
    obtain ⟨c0, c1, c2, d0, d1, d2, _, _⟩ := T2.out
    cases hv2 : validPicB w2 h2 ys
    · have HY := Lib.hid hv2; clear hv2
      go_wp2
      go_ret
      exact ⟨ret_i64 (by rw [HV.out _ _ HX.out HY.out]; simp), T2.out.below⟩
    · have HY := Lib.hid hv2; clear hv2
      by_cases e1 : w1 = w2
      · by_cases e2 : h1 = h2
        · subst e1 e2
          go_wp2
          go_ret
          exact ⟨ret_i64 (by rw [HV.out _ _ HX.out HY.out]; simp), T2.out.below⟩
        · have e2' : (h1 == h2) = false := by simpa using e2
          have e2'' : (h1 != h2) = true := by simpa using e2
          subst e1
          go_wp2
          go_ret
          exact ⟨ret_i64 (by rw [HV.out _ _ HX.out HY.out]; simp [e2]), T2.out.below⟩
      · have e1' : (w1 == w2) = false := by simpa using e1
        have e1'' : (w1 != w2) = true := by simpa using e1
        go_wp2
        go_ret
        exact ⟨ret_i64 (by rw [HV.out _ _ HX.out HY.out]; simp [e1]), T2.out.below⟩

/-- Same of a picture and one with the same sides and numbers. -/
theorem same_any (w1 h1 : Int) (a : Option Addr) (xs : List Int) (ca : Nat) (b : Option Addr) (cb : Nat) (w : World) (hx : xs.length ≤ 140737488351232) (ha : Sl w a xs) (hb : Sl w b xs) :
    Calls Try.prog 36 #[.agg #[.int .i64 w1, .int .i64 h1, .slice a xs.length ca], .agg #[.int .i64 w1, .int .i64 h1, .slice b xs.length cb]] w fun e w' => e = .returned (.bool true) ∧ Below w.heap.size w w' := by
  have HA := Lib.hid ha; clear ha
  have HB := Lib.hid hb; clear hb
  have T0 := Lib.hid (Two.mk0 w (.int .i64 w1) (.int .i64 h1) (.slice a xs.length ca) (.int .i64 w1) (.int .i64 h1) (.slice b xs.length cb) 24 24)
  go_enter Try.func36, Try.ntmps36
  go_wp2_with fail
  refine (sameInts_any a xs ca b xs cb _ hx hx (HA.out.below T0.out.below) (HB.out.below T0.out.below)).mono ?_
  rintro e v5 ⟨rfl, n5, rfl⟩
  rw [decide_eq_true (rfl : xs = xs)]
  go_wp2
  go_ret
  exact ⟨rfl, below_drewN T0.out.below _⟩

/-- The first k places at which lists differ. -/
def diffs (xs ys : List Int) (k : Nat) : List Int := ((List.range k).filter (fun i => gt xs i != gt ys i)).map (fun i : Nat => (i : Int))
theorem diffs_yes {xs ys : List Int} {k : Nat} (h : ¬ gt xs k = gt ys k) : diffs xs ys (k + 1) = diffs xs ys k ++ [(k : Int)] := by simp [diffs, List.range_succ, List.filter_append, h]
theorem diffs_no {xs ys : List Int} {k : Nat} (h : gt xs k = gt ys k) : diffs xs ys (k + 1) = diffs xs ys k := by simp [diffs, List.range_succ, List.filter_append, h]
theorem diffs_length (xs ys : List Int) (k : Nat) : (diffs xs ys k).length ≤ k := by
  have := List.length_filter_le (fun i => gt xs i != gt ys i) (List.range k)
  simpa [diffs] using this
def difV (w1 h1 : Int) (xs : List Int) (w2 h2 : Int) (ys : List Int) : List Int × Int :=
  if bothV w1 h1 xs w2 h2 ys = 0 then (diffs xs ys xs.length, 0) else ([], bothV w1 h1 xs w2 h2 ys)
theorem OwnI.any {w : World} {base : Nat} {v : Value} {xs : List Int} (h : OwnI w base v xs) : ∃ a cap, v = .slice a xs.length cap ∧ Sl w a xs := by
  have h' := h
  obtain ⟨hx, ⟨rfl, h0⟩ | ⟨g, cap, cur, rfl, _⟩⟩ := h
  · have : xs = [] := List.eq_nil_of_length_eq_zero h0
    subst this
    exact ⟨none, 0, rfl, Sl.none _⟩
  · exact ⟨some ⟨g, 0, none⟩, cap, rfl, h'.sl⟩
theorem LPost.own {w w' : World} {base : Nat} {v : Value} {ys : List Int} {r : List Int × Int} (hr : r = (ys, 0)) (hb : Below w.heap.size w w') (ho : OwnI w' base v ys) : LPost r w (.returned (.tuple #[v, .int .i64 0])) w' := by
  obtain ⟨a, cap, rfl, hs⟩ := ho.any
  subst hr; exact ⟨hb, a, cap, rfl, hs⟩
theorem gt_some' {xs : List Int} {k : Nat} {x : Int} (h : xs[k]? = some x) : gt xs k = x := by unfold gt; rw [h]; rfl
theorem OwnI.drewN {w : World} {base : Nat} {v : Value} {xs : List Int} (h : OwnI w base v xs) (n : Nat) : OwnI (w.drewN n) base v xs := h

set_option maxRecDepth 100000 in
theorem differ_any (w1 h1 : Int) (a : Option Addr) (xs : List Int) (ca : Nat) (w2 h2 : Int) (b : Option Addr) (ys : List Int) (cb : Nat) (w : World) (hx : xs.length ≤ 140737488351232) (hy : ys.length ≤ 140737488351232) (ha : Sl w a xs) (hb : Sl w b ys) :
    Calls Try.prog 34 #[.agg #[.int .i64 w1, .int .i64 h1, .slice a xs.length ca], .agg #[.int .i64 w2, .int .i64 h2, .slice b ys.length cb]] w (LPost (difV w1 h1 xs w2 h2 ys) w) := by
  have HA := Lib.hid ha; clear ha
  have HB := Lib.hid hb; clear hb
  have T0 := Lib.hid (Two.mk0 w (.int .i64 w1) (.int .i64 h1) (.slice a xs.length ca) (.int .i64 w2) (.int .i64 h2) (.slice b ys.length cb) 24 24)
  have HD : Hid (∀ x, bothV w1 h1 xs w2 h2 ys = x → difV w1 h1 xs w2 h2 ys = if x = 0 then (diffs xs ys xs.length, 0) else ([], x)) := by rintro x rfl; rfl
  go_enter Try.func34, Try.ntmps34
  go_wp2_with fail
  refine (matched_any w1 h1 a xs ca w2 h2 b ys cb _ hx hy (HA.out.below T0.out.below) (HB.out.below T0.out.below)).mono ?_
  rintro e w3 ⟨rfl, hb1⟩
  have T1 := Lib.hid (T0.out.next hb1 T0.out.size)
  clear hb1
  obtain ⟨c0, c1, c2, d0, d1, d2, hsz, _⟩ := T1.out
  obtain ⟨x, hx0⟩ : ∃ x, bothV w1 h1 xs w2 h2 ys = x := ⟨_, rfl⟩
  rw [hx0]
  by_cases hz : x = 0
  · subst hz
    obtain ⟨va, vb, rfl, rfl⟩ := bothV_0 hx0
    have hlx := validPic_of va
    have hly := validPic_of vb
    have hm := (mul_bd ⟨hlx.1, hlx.2.1⟩ ⟨hlx.2.2.1, hlx.2.2.2.1⟩).2
    have hl256 : xs.length ≤ 256 := by omega
    have hle : ys.length = xs.length := by omega
    have HLE := Lib.hid hle
    have HX0 := Lib.hid hx0
    clear va vb hlx hly hm hx0 hle
    go_wp2
    go_loopw [7, 19] (fun v i wr => ∃ k : Nat, k ≤ xs.length ∧ i = .int .i64 k ∧ OwnI wr w3.heap.size v (diffs xs ys k) ∧ Below w3.heap.size w3 wr) (fun _ i _ => xs.length - (intOf i).toNat)
    case atStart => exact ⟨0, Nat.zero_le _, rfl, OwnI.nil _ _, Below.refl _ _⟩
    case round =>
      obtain ⟨k, hk, rfl, hO, hB⟩ := hrel
      have HO := Lib.hid hO; clear hO
      have HB3 := Lib.hid hB; clear hB
      have T2 := Lib.hid (T1.out.next HB3.out T1.out.size)
      clear c0 c1 c2 d0 d1 d2
      obtain ⟨c0, c1, c2, d0, d1, d2, _, _⟩ := T2.out
      by_cases hlt : k < xs.length
      · have hlt2 : k < ys.length := by rw [HLE.out]; exact hlt
        obtain ⟨ba, oa, x, rfl, hcx, HX⟩ := (HA.out.below T2.out.below).at hlt
        obtain ⟨bb, ob, y, rfl, hcy, HY⟩ := (HB.out.below T2.out.below).at hlt2
        have gx := gt_some' HX.out
        have gy := gt_some' HY.out
        have GX := Lib.hid gx; clear gx
        have GY := Lib.hid gy; clear gy
        have hdl := diffs_length xs ys k
        have HDL := Lib.hid hdl; clear hdl
        by_cases he : x = y
        · subst he
          go_wp2
          go_roundw
          case rel => exact ⟨k + 1, by omega, by go_num, by rw [diffs_no (by rw [GX.out, GY.out])]; exact HO.out, HB3.out⟩
          case measure => simp [intOf]; omega
        · have hne : (x == y) = false := by simpa using he
          have hne' : (x != y) = true := by simpa using he
          go_wp2_with (at_builtin; go_must (refine wpList_push rfl (.tmp 31) (.tmp 33) rfl w3.heap.size _ (diffs xs ys k) (k : Int) _ _ _ rfl rfl rfl HO.out (by have := HDL.out; omega) HB3.out.size ?_); intro v' w9 ho' hb')
          go_roundw
          case rel => exact ⟨k + 1, by omega, by go_num, by rw [diffs_yes (by rw [GX.out, GY.out]; exact he)]; exact ho', HB3.out.trans hb'⟩
          case measure => simp [intOf]; omega
      · obtain rfl : k = xs.length := by omega
        go_wp2
        go_ret2
        exact LPost.own (by rw [HD.out _ HX0.out]; simp) T2.out.below HO.out
  · have HX0 := Lib.hid hx0; clear hx0
    have hz' : (x == 0) = false := by simpa using hz
    have hz'' : (x != 0) = true := by simpa using hz
    go_wp2
    go_ret2
    exact LPost.err x (by rw [HD.out _ HX0.out, if_neg hz]) T1.out.below

set_option maxRecDepth 100000 in
theorem rdiffer_any (w1 h1 : Int) (a : Option Addr) (xs : List Int) (ca : Nat) (w2 h2 : Int) (b : Option Addr) (ys : List Int) (cb : Nat) (w : World) (hx : xs.length ≤ 140737488351232) (hy : ys.length ≤ 140737488351232) (ha : Sl w a xs) (hb : Sl w b ys) :
    Calls Try.prog 35 #[.agg #[.int .i64 w1, .int .i64 h1, .slice a xs.length ca], .agg #[.int .i64 w2, .int .i64 h2, .slice b ys.length cb]] w (LPost (difV w1 h1 xs w2 h2 ys) w) := by
  have HA := Lib.hid ha; clear ha
  have HB := Lib.hid hb; clear hb
  have T0 := Lib.hid (Two.mk0 w (.int .i64 w1) (.int .i64 h1) (.slice a xs.length ca) (.int .i64 w2) (.int .i64 h2) (.slice b ys.length cb) 24 24)
  have HD : Hid (∀ x, bothV w1 h1 xs w2 h2 ys = x → difV w1 h1 xs w2 h2 ys = if x = 0 then (diffs xs ys xs.length, 0) else ([], x)) := by rintro x rfl; rfl
  go_enter Try.func35, Try.ntmps35
  go_wp2_with fail
  refine (both_any w1 h1 a xs ca w2 h2 b ys cb _ hx hy (HA.out.below T0.out.below) (HB.out.below T0.out.below)).mono ?_
  rintro e w3 ⟨rfl, hb1⟩
  have T1 := Lib.hid (T0.out.next hb1 T0.out.size)
  clear hb1
  obtain ⟨c0, c1, c2, d0, d1, d2, hsz, _⟩ := T1.out
  obtain ⟨x, hx0⟩ : ∃ x, bothV w1 h1 xs w2 h2 ys = x := ⟨_, rfl⟩
  rw [hx0]
  by_cases hz : x = 0
  · subst hz
    obtain ⟨va, vb, rfl, rfl⟩ := bothV_0 hx0
    have hlx := validPic_of va
    have hly := validPic_of vb
    have hm := (mul_bd ⟨hlx.1, hlx.2.1⟩ ⟨hlx.2.2.1, hlx.2.2.2.1⟩).2
    have hl256 : xs.length ≤ 256 := by omega
    have hle : ys.length = xs.length := by omega
    have HLE := Lib.hid hle
    have HX0 := Lib.hid hx0
    clear va vb hlx hly hm hx0 hle
    go_wp2
    go_loopw [7, 18] (fun v i wr => ∃ k : Nat, k ≤ xs.length ∧ i = .int .i64 k ∧ OwnI wr w3.heap.size v (diffs xs ys k) ∧ Below w3.heap.size w3 wr) (fun _ i _ => xs.length - (intOf i).toNat)
    case atStart => exact ⟨0, Nat.zero_le _, rfl, OwnI.nil _ _, Below.refl _ _⟩
    case round =>
      obtain ⟨k, hk, rfl, hO, hB⟩ := hrel
      have HO := Lib.hid hO; clear hO
      have HB3 := Lib.hid hB; clear hB
      have T2 := Lib.hid (T1.out.next HB3.out T1.out.size)
      clear c0 c1 c2 d0 d1 d2
      obtain ⟨c0, c1, c2, d0, d1, d2, _, _⟩ := T2.out
      by_cases hlt : k < xs.length
      · have hlt2 : k < ys.length := by rw [HLE.out]; exact hlt
        obtain ⟨ba, oa, x, rfl, hcx, HX⟩ := (HA.out.below T2.out.below).at hlt
        obtain ⟨bb, ob, y, rfl, hcy, HY⟩ := (HB.out.below T2.out.below).at hlt2
        have gx := gt_some' HX.out
        have gy := gt_some' HY.out
        have GX := Lib.hid gx; clear gx
        have GY := Lib.hid gy; clear gy
        have hdl := diffs_length xs ys k
        have HDL := Lib.hid hdl; clear hdl
        by_cases he : x = y
        · subst he
          go_wp2
          go_quiet (fail)
          go_wp2
          go_roundw
          case rel => exact ⟨k + 1, by omega, by go_num, by rw [diffs_no (by rw [GX.out, GY.out])]; exact HO.out.drewN _, below_drewN HB3.out _⟩
          case measure => simp [intOf]; omega
        · have hne : (x == y) = false := by simpa using he
          have hne' : (x != y) = true := by simpa using he
          go_wp2
          go_quiet (fail)
          go_wp2_with (at_builtin; go_must (refine wpList_push rfl (.tmp 32) (.tmp 34) rfl w3.heap.size _ (diffs xs ys k) (k : Int) _ _ _ rfl rfl rfl (HO.out.drewN _) (by have := HDL.out; omega) HB3.out.size ?_); intro v' w9 ho' hb')
          go_roundw
          case rel => exact ⟨k + 1, by omega, by go_num, by rw [diffs_yes (by rw [GX.out, GY.out]; exact he)]; exact ho', (below_drewN HB3.out _).trans hb'⟩
          case measure => simp [intOf]; omega
      · obtain rfl : k = xs.length := by omega
        go_wp2
        go_ret2
        exact LPost.own (by rw [HD.out _ HX0.out]; simp) T2.out.below HO.out
  · have HX0 := Lib.hid hx0; clear hx0
    have hz' : (x == 0) = false := by simpa using hz
    have hz'' : (x != 0) = true := by simpa using hz
    go_wp2
    go_ret2
    exact LPost.err x (by rw [HD.out _ HX0.out, if_neg hz]) T1.out.below
end Go.Proofs.Ytibopjfmcdcgbaa
