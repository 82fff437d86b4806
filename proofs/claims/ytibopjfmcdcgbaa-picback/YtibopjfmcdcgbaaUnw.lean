/- Unwalsh of layer 1 and of its answers, Walsh of the answers: contracts. -/
import Derived.Test.YtibopjfmcdcgbaaRefWalsh
namespace Go.Proofs.Ytibopjfmcdcgbaa
open Go.RowKit

/-- What a function that returns a list and an error returns: r's list and r's error; nothing older is written. -/
def LPost (r : List Int × Int) (w : World) (e : Ending) (w' : World) : Prop :=
  Below w.heap.size w w' ∧ ∃ a cap, e = .returned (.tuple #[.slice a r.1.length cap, .int .i64 r.2]) ∧ Sl w' a r.1
theorem Sl.none (w : World) : Sl w none [] := fun k h => absurd h (by simp)
theorem LPost.err {w w' : World} (n : Int) {r : List Int × Int} (hr : r = ([], n)) (hb : Below w.heap.size w w') : LPost r w (.returned (.tuple #[.slice none 0 0, .int .i64 n])) w' := by
  subst hr; exact ⟨hb, none, 0, rfl, Sl.none _⟩
theorem LPost.ok {w w' : World} {base n cap : Nat} {a : Option Addr} {ys : List Int} {r : List Int × Int} (hr : r = (ys, 0)) (hb : Below w.heap.size w w') (ho : OwnI w' base (.slice a n cap) ys) (hn : n = ys.length) : LPost r w (.returned (.tuple #[.slice a n cap, .int .i64 0])) w' := by
  subst hr hn; exact ⟨hb, a, cap, rfl, ho.sl⟩
def walV (xs : List Int) : List Int × Int := if powerB xs = true then (walshTo xs (lg xs.length), 0) else ([], 1)
theorem walsh_post (a : Option Addr) (xs : List Int) (cap : Nat) (w : World) (hl : xs.length ≤ 140737488351232) (hs : Sl w a xs) :
    Calls Try.prog 43 #[.slice a xs.length cap] w (LPost (walV xs) w) := by
  refine (walsh_any a xs cap w hl hs).mono ?_
  rintro e w' ⟨hb, ⟨hp, g, c, rfl, ho⟩ | ⟨hp, rfl⟩⟩
  · exact LPost.ok (by simp [walV, hp]) hb ho (by rw [walshTo_length])
  · exact LPost.err 1 (by simp [walV, hp]) hb
theorem sums_all {xs : List Int} (hpw : powB xs.length = true) {M : Int} (hM : M ≤ 1000000000000) (hall : allB M xs = true) : sums xs xs.length = walshTo xs (lg xs.length) := (walshTo_sums hpw hM hall).symm
theorem rWalsh_any (a : Option Addr) (xs : List Int) (cap : Nat) (w : World) (hl : xs.length ≤ 140737488351232) (hs : Sl w a xs) :
    Calls Try.prog 44 #[.slice a xs.length cap] w (LPost (walV xs) w) := by
  have HS := Lib.hid hs; clear hs
  cases hp : powerB xs
  · go_enter Try.func44, Try.ntmps44
    go_wp2_with (go_at_call 22; refine (rPower_any _ _ _ _ hl HS.out).mono ?_; rintro e w1 ⟨rfl, rfl⟩)
    go_ret2
    exact LPost.err 1 (by simp [walV, hp]) (Below.refl _ _)
  · obtain ⟨hv, hpw⟩ := powerB_of hp
    have hle := (powB_le hpw).2
    have hall : allB 1000000 xs = true := by simp [validListB] at hv; exact hv.2
    have HA := Lib.hid hall; clear hall
    have HP := Lib.hid hpw; clear hpw hv
    go_enter Try.func44, Try.ntmps44
    go_wp2_with (first | (go_at_call 22; refine (rPower_any _ _ _ _ hl HS.out).mono ?_; rintro e w1 ⟨rfl, rfl⟩) | (go_at_call 69; refine (rwalsh_any _ _ _ _ hle 1000000 (by omega) (by omega) HA.out HS.out).mono ?_; rintro e w2 ⟨v, rfl, ho, hb⟩; have HO := Lib.hid ho; clear ho; have HB := Lib.hid hb; clear hb))
    go_ret2
    obtain ⟨g, c, rfl, _⟩ := HO.out.shape (by rw [sums_length]; exact (powB_le HP.out).1)
    rw [sums_length, sums_all HP.out (by omega) HA.out] at HO
    rw [sums_length]
    exact LPost.ok (ys := walshTo xs (lg xs.length)) (by simp [walV, hp]) HB.out HO.out (by rw [walshTo_length])

/-- The list whose transform a list is, or the error. -/
def unwV (xs : List Int) : List Int × Int :=
  if powB xs.length = true ∧ allB 256000000 xs = true then
    let zs := walshTo xs (lg xs.length)
    if ∀ z ∈ zs, z.tmod xs.length = 0 then
      let ys := zs.map (fun z => z.tdiv xs.length)
      if allB 1000000 ys = true then (ys, 0) else ([], 4)
    else ([], 8)
  else ([], 1)
/-- The first k numbers of zs divided by n. -/
structure Div (zs : List Int) (n k : Nat) (ys : List Int) : Prop where
  len : ys.length = zs.length
  no : ∀ j, j < k → (gt zs j).tmod n = 0 ∧ gt ys j = (gt zs j).tdiv n
  rest : ∀ j, k ≤ j → gt ys j = gt zs j
theorem Div.start (zs : List Int) (n : Nat) : Div zs n 0 zs := ⟨rfl, fun j h => absurd h (by omega), fun _ _ => rfl⟩
theorem Div.next {zs ys : List Int} {n k : Nat} (h : Div zs n k ys) (hk : k < zs.length) (x : Int) (hx : gt zs k = x) (hm : x.tmod n = 0) : Div zs n (k + 1) (ys.set k (x.tdiv n)) := by
  have hky : k < ys.length := by rw [h.len]; exact hk
  refine ⟨by rw [List.length_set]; exact h.len, fun j hj => ?_, fun j hj => ?_⟩
  · rw [gt_set hky]
    by_cases e : j = k
    · subst e; rw [if_pos rfl, hx]; exact ⟨hm, rfl⟩
    · rw [if_neg e]; exact h.no j (by omega)
  · rw [gt_set hky, if_neg (by omega)]; exact h.rest j (by omega)
theorem gt_mem {zs : List Int} {z : Int} (h : z ∈ zs) : ∃ j, j < zs.length ∧ gt zs j = z := by
  obtain ⟨j, hj, rfl⟩ := List.mem_iff_getElem.1 h
  exact ⟨j, hj, by unfold gt; simp [hj]⟩
theorem Div.all {zs ys : List Int} {n : Nat} (h : Div zs n zs.length ys) : (∀ z ∈ zs, z.tmod n = 0) ∧ ys = zs.map (fun z => z.tdiv n) := by
  refine ⟨fun z hz => ?_, list_ext_gt (by rw [h.len]; simp) fun j hj => ?_⟩
  · obtain ⟨j, hj, rfl⟩ := gt_mem hz; exact (h.no j hj).1
  · rw [h.len] at hj
    rw [(h.no j hj).2]
    unfold gt; simp [hj]
theorem unwV_4 {xs ys : List Int} (hp : powB xs.length = true) (ha : allB 256000000 xs = true) (hd : Div (walshTo xs (lg xs.length)) xs.length xs.length ys) : unwV xs = if allB 1000000 ys = true then (ys, 0) else ([], 4) := by
  have hd' : Div (walshTo xs (lg xs.length)) xs.length (walshTo xs (lg xs.length)).length ys := by rw [walshTo_length]; exact hd
  obtain ⟨h1, h2⟩ := hd'.all
  unfold unwV
  rw [if_pos ⟨hp, ha⟩]
  dsimp only
  rw [if_pos h1, ← h2]
theorem unwV_8 {xs : List Int} (hp : powB xs.length = true) (ha : allB 256000000 xs = true) {k : Nat} {x : Int} (hk : k < xs.length) (hx : gt (walshTo xs (lg xs.length)) k = x) (hm : ¬ x.tmod xs.length = 0) : unwV xs = ([], 8) := by
  unfold unwV
  rw [if_pos ⟨hp, ha⟩]
  dsimp only
  rw [if_neg]
  intro h
  refine hm (h x ?_)
  rw [← hx]; unfold gt
  rw [List.getElem?_eq_getElem (by rw [walshTo_length]; exact hk)]
  exact List.getElem_mem _
theorem tdiv_bd {x : Int} (n : Nat) {M : Int} (h : -M ≤ x ∧ x ≤ M) : -M ≤ x.tdiv n ∧ x.tdiv n ≤ M := by
  have h1 : (x.tdiv n).natAbs = x.natAbs / n := by rw [Int.natAbs_tdiv]; rfl
  have h2 : x.natAbs / n ≤ x.natAbs := Nat.div_le_self _ _
  omega
theorem tmod_bd {x : Int} (n : Nat) {M : Int} (h : -M ≤ x ∧ x ≤ M) : -M ≤ x.tmod n ∧ x.tmod n ≤ M := by
  have h1 : (x.tmod n).natAbs = x.natAbs % n := by rw [Int.natAbs_tmod]; rfl
  have h2 : x.natAbs % n ≤ x.natAbs := Nat.mod_le _ _
  omega
theorem wal_bound {xs : List Int} (hpw : powB xs.length = true) (hall : allB 256000000 xs = true) {k : Nat} (hk : k < xs.length) : -65536000000 ≤ gt (walshTo xs (lg xs.length)) k ∧ gt (walshTo xs (lg xs.length)) k ≤ 65536000000 := by
  rw [walshTo_sums hpw (by omega) hall, gt_map_range _ hk]
  have h := wsum_bound (by omega) hall k xs.length (Nat.le_refl _)
  have h2 := (powB_le hpw).2
  omega

set_option maxRecDepth 100000 in
theorem unwalsh_any (a : Option Addr) (xs : List Int) (cap : Nat) (w : World) (hl : xs.length ≤ 140737488351232) (hs : Sl w a xs) :
    Calls Try.prog 45 #[.slice a xs.length cap] w (LPost (unwV xs) w) := by
  have HS := Lib.hid hs; clear hs
  cases hp : powB xs.length
  · have HP := Lib.hid hp; clear hp
    go_enter Try.func45, Try.ntmps45
    go_wp2_with (go_at_call 55; refine (powerLong_any _ _ _ _ hl).mono ?_; rintro e w5 ⟨rfl, rfl⟩; rw [HP.out])
    go_ret2
    exact LPost.err 1 (by simp [unwV, HP.out]) (Below.refl _ _)
  · cases ha : allB 256000000 xs
    · have HP := Lib.hid hp; clear hp
      have HA := Lib.hid ha; clear ha
      go_enter Try.func45, Try.ntmps45
      go_wp2_with (first | (go_at_call 55; refine (powerLong_any _ _ _ _ hl).mono ?_; rintro e w5 ⟨rfl, rfl⟩; rw [HP.out]) | (go_at_call 53; refine (within_any 256000000 (by omega) (by omega) _ _ _ _ hl HS.out).mono ?_; rintro e w1 ⟨rfl, hb1⟩; have hB1 := Lib.hid hb1; clear hb1; rw [HA.out]))
      go_ret2
      exact LPost.err 1 (by simp [unwV, HA.out]) hB1.out
    · obtain ⟨hpos, hle⟩ := powB_le hp
      have HP := Lib.hid hp; clear hp
      have HA := Lib.hid ha; clear ha
      obtain ⟨b, off, rfl⟩ := some_of HS.out hpos
      go_enter Try.func45, Try.ntmps45
      go_wp2_with (first | (go_at_call 55; refine (powerLong_any _ _ _ _ hl).mono ?_; rintro e w5 ⟨rfl, rfl⟩; rw [HP.out]) | (go_at_call 53; refine (within_any 256000000 (by omega) (by omega) _ _ _ _ hl HS.out).mono ?_; rintro e w1 ⟨rfl, hb1⟩; have hB1 := Lib.hid hb1; clear hb1; rw [HA.out]) | (go_at_call 68; refine (transformed_any b off xs cap _ HP.out (HS.out.below hB1.out)).mono ?_; rintro e w2 ⟨g, cap', p, rfl, hk, ho, hb2⟩; rw [← lg_pow HP.out hk] at ho; clear hk))
      have HB := Lib.hid (show Below w.heap.size w w2 from hB1.out.trans (hb2.mono hB1.out.size))
      have HO := Lib.hid (show OwnI w2 w.heap.size (.slice (some ⟨g, 0, none⟩) xs.length cap') (walshTo xs (lg xs.length)) from ho.mono hB1.out.size)
      clear ho hb2
      go_loopw [19] (fun i wr => ∃ (k : Nat) (ys : List Int), k ≤ xs.length ∧ i = .int .i64 k ∧ OwnI wr w.heap.size (.slice (some ⟨g, 0, none⟩) xs.length cap') ys ∧ Div (walshTo xs (lg xs.length)) xs.length k ys ∧ Below w.heap.size w wr) (fun i _ => xs.length - (intOf i).toNat)
      case atStart => exact ⟨0, _, Nat.zero_le _, rfl, HO.out, Div.start _ _, HB.out⟩
      case round =>
        obtain ⟨k, ys, hk, rfl, hO, hD, hB⟩ := hrel
        have HO3 := Lib.hid hO; clear hO
        have HD := Lib.hid hD; clear hD
        have HB3 := Lib.hid hB; clear hB
        have hyl : Hid (ys.length = xs.length) := by show ys.length = xs.length; rw [HD.out.len, walshTo_length]
        by_cases hlt : k < xs.length
        · have gx := HD.out.rest k (Nat.le_refl _)
          have wb := wal_bound HP.out HA.out hlt
          rw [← gx] at wb
          obtain ⟨x, hx⟩ : ∃ x, gt ys k = x := ⟨_, rfl⟩
          rw [hx] at gx wb
          have GX := Lib.hid gx; clear gx
          have hcell : wr.cell? ⟨g, k, none⟩ = some (.int .i64 x) := by
            have h1 := HO3.out.cell (j := k) (by rw [hyl.out]; exact hlt)
            rw [h1.1, ← hx]; rfl
          have hfr := (HO3.out.cell (j := k) (by rw [hyl.out]; exact hlt)).2
          have hgV := HO3.out.lt
          clear hx
          obtain ⟨x1, x2⟩ := wb
          obtain ⟨d1, d2⟩ := tdiv_bd xs.length (M := 65536000000) ⟨x1, x2⟩
          by_cases hm : x.tmod xs.length = 0
          · go_wp2
            go_roundw
            case rel =>
              refine ⟨k + 1, ys.set k (x.tdiv xs.length), by omega, by go_num, HO3.out.stored k _, HD.out.next (by rw [walshTo_length]; exact hlt) x GX.out.symm hm, HB3.out.setCell hgV.2 _⟩
            case measure => simp [intOf]; omega
          · go_wp2
            go_ret2
            exact LPost.err 8 (unwV_8 HP.out HA.out hlt GX.out.symm hm) HB3.out
        · obtain rfl : k = xs.length := by omega
          have HV := Lib.hid (unwV_4 HP.out HA.out HD.out)
          have HS3 := Lib.hid HO3.out.sl
          have hvl : Hid (validListB ys = allB 1000000 ys) := by
            show validListB ys = allB 1000000 ys
            have : rangeB ys.length 1 256 = true := by rw [hyl.out]; simp [rangeB]; omega
            simp [validListB, this]
          rw [← hyl.out]
          cases hy : allB 1000000 ys
          · have HY := Lib.hid hy; clear hy
            go_wp2_with (go_at_call 53; refine (within_any 1000000 (by omega) (by omega) _ ys _ _ (by rw [hyl.out]; exact hl) HS3.out).mono ?_; rintro e w4 ⟨rfl, hb4⟩; rw [HY.out])
            go_ret2
            exact LPost.err 4 (by rw [HV.out, HY.out]; rfl) (HB3.out.trans (hb4.mono HB3.out.size))
          · have HY := Lib.hid hy; clear hy
            go_wp2_with (go_at_call 53; refine (within_any 1000000 (by omega) (by omega) _ ys _ _ (by rw [hyl.out]; exact hl) HS3.out).mono ?_; rintro e w4 ⟨rfl, hb4⟩; rw [HY.out])
            go_ret2
            exact LPost.ok (by rw [HV.out, HY.out]; rfl) (HB3.out.trans (hb4.mono HB3.out.size)) (by have h := HO3.out.below hb4; rw [← hyl.out] at h; exact h) rfl

set_option maxRecDepth 100000 in
theorem runwalsh_any (a : Option Addr) (xs : List Int) (cap : Nat) (w : World) (hl : xs.length ≤ 140737488351232) (hs : Sl w a xs) :
    Calls Try.prog 46 #[.slice a xs.length cap] w (LPost (unwV xs) w) := by
  have HS := Lib.hid hs; clear hs
  cases hp : powB xs.length
  · have HP := Lib.hid hp; clear hp
    go_enter Try.func46, Try.ntmps46
    go_wp2_with (go_at_call 56; refine (rpower_any _ _ hl).mono ?_; rintro e w5 ⟨rfl, rfl⟩; rw [HP.out])
    go_ret2
    exact LPost.err 1 (by simp [unwV, HP.out]) (Below.refl _ _)
  · cases ha : allB 256000000 xs
    · have HP := Lib.hid hp; clear hp
      have HA := Lib.hid ha; clear ha
      go_enter Try.func46, Try.ntmps46
      go_wp2_with (first | (go_at_call 56; refine (rpower_any _ _ hl).mono ?_; rintro e w5 ⟨rfl, rfl⟩; rw [HP.out]) | (go_at_call 54; refine (rall_any 256000000 (by omega) (by omega) _ _ _ _ hl HS.out).mono ?_; rintro e w1 ⟨rfl, rfl⟩; rw [HA.out]))
      go_ret2
      exact LPost.err 1 (by simp [unwV, HA.out]) (Below.refl _ _)
    · obtain ⟨hpos, hle⟩ := powB_le hp
      have HP := Lib.hid hp; clear hp
      have HA := Lib.hid ha; clear ha
      obtain ⟨b, off, rfl⟩ := some_of HS.out hpos
      go_enter Try.func46, Try.ntmps46
      go_wp2_with (first | (go_at_call 56; refine (rpower_any _ _ hl).mono ?_; rintro e w5 ⟨rfl, rfl⟩; rw [HP.out]) | (go_at_call 54; refine (rall_any 256000000 (by omega) (by omega) _ _ _ _ hl HS.out).mono ?_; rintro e w1 ⟨rfl, rfl⟩; rw [HA.out]) | (go_at_call 69; refine (rwalsh_any _ _ _ _ hle 256000000 (by omega) (by omega) HA.out HS.out).mono ?_; rintro e w2 ⟨v, rfl, ho, hb2⟩; obtain ⟨g, cap', rfl, _⟩ := ho.shape (by rw [sums_length]; exact hpos); rw [sums_length, sums_all HP.out (by omega) HA.out] at ho; rw [sums_length]))
      have HB := Lib.hid (show Below w.heap.size w w2 from hb2)
      have HO := Lib.hid (show OwnI w2 w.heap.size (.slice (some ⟨g, 0, none⟩) xs.length cap') (walshTo xs (lg xs.length)) from ho)
      clear ho hb2
      go_loopw [20] (fun i wr => ∃ (k : Nat) (ys : List Int), k ≤ xs.length ∧ i = .int .i64 k ∧ OwnI wr w.heap.size (.slice (some ⟨g, 0, none⟩) xs.length cap') ys ∧ Div (walshTo xs (lg xs.length)) xs.length k ys ∧ Below w.heap.size w wr) (fun i _ => xs.length - (intOf i).toNat)
      case atStart => exact ⟨0, _, Nat.zero_le _, rfl, HO.out, Div.start _ _, HB.out⟩
      case round =>
        obtain ⟨k, ys, hk, rfl, hO, hD, hB⟩ := hrel
        have HO3 := Lib.hid hO; clear hO
        have HD := Lib.hid hD; clear hD
        have HB3 := Lib.hid hB; clear hB
        have hyl : Hid (ys.length = xs.length) := by show ys.length = xs.length; rw [HD.out.len, walshTo_length]
        by_cases hlt : k < xs.length
        · have gx := HD.out.rest k (Nat.le_refl _)
          have wb := wal_bound HP.out HA.out hlt
          rw [← gx] at wb
          obtain ⟨x, hx⟩ : ∃ x, gt ys k = x := ⟨_, rfl⟩
          rw [hx] at gx wb
          have GX := Lib.hid gx; clear gx
          have hcell : wr.cell? ⟨g, k, none⟩ = some (.int .i64 x) := by
            have h1 := HO3.out.cell (j := k) (by rw [hyl.out]; exact hlt)
            rw [h1.1, ← hx]; rfl
          have hfr := (HO3.out.cell (j := k) (by rw [hyl.out]; exact hlt)).2
          have hgV := HO3.out.lt
          clear hx
          obtain ⟨x1, x2⟩ := wb
          obtain ⟨d1, d2⟩ := tdiv_bd xs.length (M := 65536000000) ⟨x1, x2⟩
          by_cases hm : x.tmod xs.length = 0
          · go_wp2
            go_roundw
            case rel =>
              refine ⟨k + 1, ys.set k (x.tdiv xs.length), by omega, by go_num, HO3.out.stored k _, HD.out.next (by rw [walshTo_length]; exact hlt) x GX.out.symm hm, HB3.out.setCell hgV.2 _⟩
            case measure => simp [intOf]; omega
          · go_wp2
            go_ret2
            exact LPost.err 8 (unwV_8 HP.out HA.out hlt GX.out.symm hm) HB3.out
        · obtain rfl : k = xs.length := by omega
          have HV := Lib.hid (unwV_4 HP.out HA.out HD.out)
          have HS3 := Lib.hid HO3.out.sl
          have hvl : Hid (validListB ys = allB 1000000 ys) := by
            show validListB ys = allB 1000000 ys
            have : rangeB ys.length 1 256 = true := by rw [hyl.out]; simp [rangeB]; omega
            simp [validListB, this]
          rw [← hyl.out]
          cases hy : allB 1000000 ys
          · have HY := Lib.hid hy; clear hy
            go_wp2_with (go_at_call 20; refine (rvalidList_any _ ys _ _ (by rw [hyl.out]; exact hl) HS3.out).mono ?_; rintro e w4 ⟨rfl, rfl⟩; rw [hvl.out, HY.out])
            go_ret2
            exact LPost.err 4 (by rw [HV.out, HY.out]; rfl) HB3.out
          · have HY := Lib.hid hy; clear hy
            go_wp2_with (go_at_call 20; refine (rvalidList_any _ ys _ _ (by rw [hyl.out]; exact hl) HS3.out).mono ?_; rintro e w4 ⟨rfl, rfl⟩; rw [hvl.out, HY.out])
            go_ret2
            exact LPost.ok (by rw [HV.out, HY.out]; rfl) HB3.out (by have h := HO3.out; rw [← hyl.out] at h; exact h) rfl
theorem walV_len {xs : List Int} {n : Nat} (h : xs.length ≤ n) : (walV xs).1.length ≤ n := by
  unfold walV; split
  · rw [walshTo_length]; exact h
  · exact Nat.zero_le _
theorem unwV_len {xs : List Int} {n : Nat} (h : xs.length ≤ n) : (unwV xs).1.length ≤ n := by
  unfold unwV; dsimp only; split
  · split
    · split
      · simp [walshTo_length]; exact h
      · exact Nat.zero_le _
    · exact Nat.zero_le _
  · exact Nat.zero_le _
end Go.Proofs.Ytibopjfmcdcgbaa
