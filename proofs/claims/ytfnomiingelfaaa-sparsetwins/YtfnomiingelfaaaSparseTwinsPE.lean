/- Parts of the proof of SparseTwins: plain words, walks and contracts, each under its own heading. -/
import Derived.Test.YtfnomiingelfaaaSparseTwinsPB
import Derived.Test.YtfnomiingelfaaaSparseTwinsPD
import Derived.Test.YtfnomiingelfaaaSparseTwinsPA
import Derived.Deep.RegionLaw
import Derived.Laws.MakeOwn
import Derived.Test.YtfnomiingelfaaaSparseTwinsPC
import Derived.Laws.ResultCell
import Derived.Sort.LoopGhostIn
import Derived.BigQuiet
import Derived.Laws.AppendOwnNone
/- Twins of layer 4: a contract. -/
namespace Go.Proofs.Ytfnomiingelfaaa
open Go.RowKit

theorem belt {w V V' : World} (hb : Below w.heap.size w V) (h : Below V.heap.size V V') : Below w.heap.size w V' := hb.trans (h.mono hb.size)
def twA (h : List Int) (k : Int) (i : Nat) : List Int := (List.range h.length).map fun j => if j < i then (if nzTo h j < k then gt h j else 0) else 0
def twB (h : List Int) (k : Int) (i : Nat) : List Int := (List.range h.length).map fun j => if j < i then (if nzTo h j < k then 0 else -gt h j) else 0
theorem twA_len (h : List Int) (k : Int) (i : Nat) : (twA h k i).length = h.length := by simp [twA]
theorem twB_len (h : List Int) (k : Int) (i : Nat) : (twB h k i).length = h.length := by simp [twB]
theorem gt_twA {h : List Int} {k : Int} {i j : Nat} (hj : j < h.length) : gt (twA h k i) j = if j < i then (if nzTo h j < k then gt h j else 0) else 0 := by
  unfold twA; conv => lhs; unfold gt
  rw [List.getElem?_map, List.getElem?_range hj]; rfl
theorem gt_twB {h : List Int} {k : Int} {i j : Nat} (hj : j < h.length) : gt (twB h k i) j = if j < i then (if nzTo h j < k then 0 else -gt h j) else 0 := by
  unfold twB; conv => lhs; unfold gt
  rw [List.getElem?_map, List.getElem?_range hj]; rfl
theorem tw_zero (h : List Int) (k : Int) : twA h k 0 = List.replicate h.length 0 ∧ twB h k 0 = List.replicate h.length 0 := by
  unfold twA twB
  constructor <;> (refine List.ext_getElem (by simp) fun j h1 h2 => ?_; simp)
theorem ext_gt {a b : List Int} (hl : a.length = b.length) (h : ∀ j, j < a.length → gt a j = gt b j) : a = b := by
  refine List.ext_getElem hl fun j h1 h2 => ?_
  have := h j h1
  unfold gt at this
  simpa [h1, h2] using this
theorem tw_lit {h : List Int} {k : Int} {i : Nat} (hi : i < h.length) (hk : nzTo h i < k) : (twA h k i).set i (gt h i) = twA h k (i + 1) ∧ twB h k i = twB h k (i + 1) := by
  constructor
  · refine ext_gt (by rw [List.length_set, twA_len, twA_len]) fun j hj => ?_
    rw [List.length_set, twA_len] at hj
    rw [gt_set (by rw [twA_len]; exact hi), gt_twA hj, gt_twA hj]
    by_cases e : j = i
    · subst e; rw [if_pos rfl, if_pos (by omega), if_pos hk]
    · rw [if_neg e]
      by_cases e2 : j < i
      · rw [if_pos e2, if_pos (by omega : j < i + 1)]
      · rw [if_neg e2, if_neg (by omega : ¬ j < i + 1)]
  · refine ext_gt (by rw [twB_len, twB_len]) fun j hj => ?_
    rw [twB_len] at hj
    rw [gt_twB hj, gt_twB hj]
    by_cases e : j = i
    · subst e; rw [if_neg (by omega), if_pos (by omega), if_pos hk]
    · by_cases e2 : j < i
      · rw [if_pos e2, if_pos (by omega : j < i + 1)]
      · rw [if_neg e2, if_neg (by omega : ¬ j < i + 1)]
theorem tw_not {h : List Int} {k : Int} {i : Nat} (hi : i < h.length) (hk : ¬ nzTo h i < k) : (twB h k i).set i (-gt h i) = twB h k (i + 1) ∧ twA h k i = twA h k (i + 1) := by
  constructor
  · refine ext_gt (by rw [List.length_set, twB_len, twB_len]) fun j hj => ?_
    rw [List.length_set, twB_len] at hj
    rw [gt_set (by rw [twB_len]; exact hi), gt_twB hj, gt_twB hj]
    by_cases e : j = i
    · subst e; rw [if_pos rfl, if_pos (by omega), if_neg hk]
    · rw [if_neg e]
      by_cases e2 : j < i
      · rw [if_pos e2, if_pos (by omega : j < i + 1)]
      · rw [if_neg e2, if_neg (by omega : ¬ j < i + 1)]
  · refine ext_gt (by rw [twA_len, twA_len]) fun j hj => ?_
    rw [twA_len] at hj
    rw [gt_twA hj, gt_twA hj]
    by_cases e : j = i
    · subst e; rw [if_neg (by omega), if_pos (by omega), if_neg hk]
    · by_cases e2 : j < i
      · rw [if_pos e2, if_pos (by omega : j < i + 1)]
      · rw [if_neg e2, if_neg (by omega : ¬ j < i + 1)]
def twinsV (m : List (List Int)) (k : Int) : (List Int × List Int) × Int :=
  if validM m = true then (if rangeB k 1 10 = true then (if (circuitV m).2 = 0 then (if 2 * k < nzTo (circuitV m).1 (circuitV m).1.length then (([], []), 8) else ((twA (circuitV m).1 k (circuitV m).1.length, twB (circuitV m).1 k (circuitV m).1.length), 0)) else (([], []), (circuitV m).2)) else (([], []), 7)) else (([], []), 1)
def TWPost (r : (List Int × List Int) × Int) (w : World) (e : Ending) (w' : World) : Prop :=
  Below w.heap.size w w' ∧ ∃ a ca b cb, e = .returned (.tuple #[.slice a r.1.1.length ca, .slice b r.1.2.length cb, .int .i64 r.2]) ∧ Sl w' a r.1.1 ∧ Sl w' b r.1.2
theorem TWPost.err {w w' : World} (n : Int) (hb : Below w.heap.size w w') : TWPost (([], []), n) w (.returned (.tuple #[.slice none 0 0, .slice none 0 0, .int .i64 n])) w' := ⟨hb, none, 0, none, 0, rfl, Sl.none _, Sl.none _⟩
theorem tw_take (h : List Int) {i : Nat} (hi : i ≤ h.length) : ∀ n, n ≤ i → nzTo (h.take i) n = nzTo h n
  | 0, _ => rfl
  | n + 1, hn => by
    have e : gt (h.take i) n = gt h n := by unfold gt; rw [List.getElem?_take]; simp [show n < i by omega]
    unfold nzTo
    rw [e, tw_take h hi n (by omega)]
theorem sl_take {w : World} {a : Option Addr} {xs : List Int} (h : Sl w a xs) (i : Nat) : Sl w a (xs.take i) := fun k hk => by
  have hk2 : k < xs.length := by rw [List.length_take] at hk; omega
  obtain ⟨b, o, e, hc⟩ := h k hk2
  refine ⟨b, o, e, ?_⟩
  rw [hc, List.getElem?_take, if_pos (by rw [List.length_take] at hk; omega)]
set_option maxRecDepth 1000000 in
set_option maxHeartbeats 4000000 in
theorem stwinsX_any (a : Option Addr) (m : List (List Int)) (cap : Nat) (k : Int) (w : World) (hm : MOk m) (hs : Ms w a m) :
    Calls Try.prog 13 #[.slice a m.length cap, .int .i64 k] w (TWPost (twinsV m k) w) := by
  have HVA : Hid (Calls Try.prog 32 #[.slice a m.length cap] w fun e w' => e = .returned (.bool (validM m)) ∧ Below w.heap.size w w') := mvalid_any a m cap w hm hs
  have HCI : Hid (∀ V, Below w.heap.size w V → Calls Try.prog 33 #[.slice a m.length cap] V (CCPost (circuitV m) V)) := fun V hb => circuit_cap a m cap V hm (hs.below hb)
  clear hm hs
  have hcl := circuitV_len (m := m)
  have hbd0 := circuit_160 (m := m)
  obtain ⟨⟨h, e0⟩, hr⟩ : ∃ r, circuitV m = r := ⟨_, rfl⟩
  obtain ⟨v, hv⟩ : ∃ v, validM m = v := ⟨_, rfl⟩
  have HTV : Hid (twinsV m k = if v = true then (if rangeB k 1 10 = true then (if e0 = 0 then (if 2 * k < nzTo h h.length then (([], []), 8) else ((twA h k h.length, twB h k h.length), 0)) else (([], []), e0)) else (([], []), 7)) else (([], []), 1)) := by show _ = _; unfold twinsV; rw [hr, hv]
  rw [hr] at HCI hcl hbd0
  rw [hv] at HVA
  dsimp only at hcl hbd0
  clear hr hv
  obtain ⟨n, hn⟩ : ∃ n, h.length = n := ⟨_, rfl⟩
  have HN := Lib.hid hn
  have HCI : Hid (∀ V, Below w.heap.size w V → Calls Try.prog 33 #[.slice a m.length cap] V fun e w' => ∃ ah, e = .returned (.tuple #[.slice ah n n, .int .i64 e0]) ∧ Below V.heap.size V w' ∧ Sl w' ah h) := fun V hb => by
    refine (HCI.out V hb).mono ?_
    rintro e w' ⟨h1, ah, h2, h3⟩
    rw [show (h, e0).1.length = n from hn] at h2
    exact ⟨ah, h2, h1, h3⟩
  rw [hn] at hcl HTV
  obtain ⟨t, ht⟩ : ∃ t, nzTo h n = t := ⟨_, rfl⟩
  have HT := Lib.hid ht
  rw [ht] at HTV
  have ht0 : 0 ≤ t ∧ t ≤ n := by rw [← ht]; exact nzTo_in h n
  have HLT : Hid (∀ V ah c j, j ≤ n → Sl V ah h → Calls Try.prog 26 #[.slice ah (j : Nat) c] V fun e w' => e = .returned (.int .i64 (nzTo h j)) ∧ V = w') := fun V ah c j hj hs => by
    have hl : (h.take j).length = j := by rw [List.length_take, hn]; omega
    have z := lit_any ah (h.take j) c V (by omega) (sl_take hs j)
    rw [hl, tw_take h (by omega) j (Nat.le_refl _)] at z
    exact z
  clear hn ht
  cases v
  case false =>
    have HE : Hid (twinsV m k = (([], []), 1)) := HTV.out
    rw [HE.out]
    clear HTV
    go_enter Try.func13, Try.ntmps13
    go_wp2_with (go_at_call 32; refine HVA.out.mono ?_; rintro e w1 ⟨rfl, hb⟩; have HB1 := Lib.hid hb; clear hb)
    go_ret3
    exact TWPost.err 1 HB1.out
  case true =>
  rw [if_pos rfl] at HTV
  by_cases h1 : k < 1
  · have hr0 : rangeB k 1 10 = false := by simp [rangeB]; omega
    have HE : Hid (twinsV m k = (([], []), 7)) := by show _ = _; rw [HTV.out, hr0]; rfl
    rw [HE.out]
    clear HTV hr0
    go_enter Try.func13, Try.ntmps13
    go_wp2_with (go_at_call 32; refine HVA.out.mono ?_; rintro e w1 ⟨rfl, hb⟩; have HB1 := Lib.hid hb; clear hb)
    go_ret3
    exact TWPost.err 7 HB1.out
  by_cases h2 : 10 < k
  · have hr0 : rangeB k 1 10 = false := by simp [rangeB]; omega
    have HE : Hid (twinsV m k = (([], []), 7)) := by show _ = _; rw [HTV.out, hr0]; rfl
    rw [HE.out]
    clear HTV hr0
    go_enter Try.func13, Try.ntmps13
    go_wp2_with (go_at_call 32; refine HVA.out.mono ?_; rintro e w1 ⟨rfl, hb⟩; have HB1 := Lib.hid hb; clear hb)
    go_ret3
    exact TWPost.err 7 HB1.out
  have hr0 : rangeB k 1 10 = true := by simp [rangeB]; omega
  rw [if_pos hr0] at HTV
  clear hr0
  by_cases he : e0 = 0
  case neg =>
    have HE : Hid (twinsV m k = (([], []), e0)) := by show _ = _; rw [HTV.out, if_neg he]
    rw [HE.out]
    have y2 : (e0 != 0) = true := by simpa using he
    clear HTV he
    go_enter Try.func13, Try.ntmps13
    go_wp2_with (first
      | (go_at_call 32; refine HVA.out.mono ?_; rintro e w1 ⟨rfl, hb⟩; have HB1 := Lib.hid hb; clear hb)
      | (go_at_call 33; refine (HCI.out _ HB1.out).mono ?_; rintro e w2 ⟨ah, rfl, hb, hsl⟩; have HB2 := Lib.hid (belt HB1.out hb); clear hb hsl))
    go_ret3
    exact TWPost.err e0 HB2.out
  subst he
  have HBD := Lib.hid (hbd0 rfl)
  rw [if_pos rfl] at HTV
  clear hbd0
  have w2k : IntKind.i64.wrap (2 * k) = 2 * k := IntWalk.i64_in _ (by omega)
  by_cases h3 : 2 * k < t
  · have HE : Hid (twinsV m k = (([], []), 8)) := by show _ = _; rw [HTV.out, if_pos h3]
    rw [HE.out]
    clear HTV
    go_enter Try.func13, Try.ntmps13
    go_wp2_with (first
      | (go_at_call 32; refine HVA.out.mono ?_; rintro e w1 ⟨rfl, hb⟩; have HB1 := Lib.hid hb; clear hb)
      | (go_at_call 33; refine (HCI.out _ HB1.out).mono ?_; rintro e w2 ⟨ah, rfl, hb, hsl⟩; have HB2 := Lib.hid (belt HB1.out hb); have HS := Lib.hid hsl; clear hb hsl)
      | (go_at_call 26; refine (HLT.out _ _ _ n (Nat.le_refl _) HS.out).mono ?_; rintro e w3 ⟨rfl, rfl⟩; rw [HT.out]))
    go_ret3
    exact TWPost.err 8 HB2.out
  have HE : Hid (twinsV m k = ((twA h k n, twB h k n), 0)) := by show _ = _; rw [HTV.out, if_neg h3]
  rw [HE.out]
  clear HTV HE
  obtain ⟨i0, hi, hz0, hz1, hz2⟩ := info_parts Try.infoInt
  obtain ⟨Z, hZ⟩ : ∃ Z, madeCells (Value.int .i64 0).cells (n * 1) = Z := ⟨_, rfl⟩
  have hmk : ∀ W : World, (Instr.makeSlice 24 (.int .i64 (n : Int)) (.int .i64 (n : Int))).run Try.prog W = .ok (.slice (some ⟨W.heap.size, 0, none⟩) n n) (W.alloc (.cells Z 3)) := fun W => by
    have z := run_make (P := Try.prog) W 24 3 i0 (.int .i64 0) Try.underlying24 hi hz0 .i64 .i64 (n : Int) (n : Int) (by omega) (Int.le_refl _) (by rw [hz2]; omega) (by omega)
    rw [hz1, Int.toNat_natCast, hZ] at z
    exact z
  have HZ := Lib.hid hZ
  clear hi hz0 hz1 hz2 hZ
  go_enter Try.func13, Try.ntmps13
  go_wp2_with (first
    | (go_at_call 32; refine HVA.out.mono ?_; rintro e w1 ⟨rfl, hb⟩; have HB1 := Lib.hid hb; clear hb)
    | (go_at_call 33; refine (HCI.out _ HB1.out).mono ?_; rintro e w2 ⟨ah, rfl, hb, hsl⟩; have HB2 := Lib.hid (belt HB1.out hb); have HS := Lib.hid hsl; clear hb hsl)
    | (go_at_call 26; refine (HLT.out _ _ _ n (Nat.le_refl _) HS.out).mono ?_; rintro e w3 ⟨rfl, rfl⟩; rw [HT.out]))
  -- REGION
  obtain ⟨V1, hV1⟩ : ∃ V1, ((w2.alloc (Obj.cells Z 3)).alloc (Obj.cells Z 3)).drew = V1 := ⟨_, rfl⟩
  have hzs : Z.size = n * 1 := by rw [← HZ.out]; exact size_madeCells _ _
  have hzl : Z.toList = (List.replicate n (0 : Int)).map (Value.int .i64) := by rw [← HZ.out]; exact zeros_are n
  have hsz1 : (w2.alloc (Obj.cells Z 3)).heap.size = w2.heap.size + 1 := World.size_alloc _ _
  have HO0 : Hid (OwnI V1 w.heap.size (.slice (some ⟨w2.heap.size, 0, none⟩) n n) (List.replicate n 0)) := by
    have z : OwnI (w2.alloc (Obj.cells Z 3)) w2.heap.size (.slice (some ⟨w2.heap.size, 0, none⟩) n n) (List.replicate n 0) := by
      have y := World.ownsRow_lit (base := w2.heap.size) (e := 3) (size := 1) w2 Z n (Nat.le_refl _) (by unfold maxLen; omega) hzs
      rw [hzl] at y
      show World.ownsRow _ _ _ _ _ _ _
      rw [List.length_replicate]
      exact y
    have z2 : OwnI V1 w2.heap.size (.slice (some ⟨w2.heap.size, 0, none⟩) n n) (List.replicate n 0) := by
      rw [← hV1]
      exact ((z.below ((Below.refl _ _).alloc (Nat.le_refl _) _))).drew
    exact OwnI.mono z2 HB2.out.size
  have HO1 : Hid (OwnI V1 w.heap.size (.slice (some ⟨w2.heap.size + 1, 0, none⟩) n n) (List.replicate n 0)) := by
    have z : OwnI ((w2.alloc (Obj.cells Z 3)).alloc (Obj.cells Z 3)) w2.heap.size (.slice (some ⟨w2.heap.size + 1, 0, none⟩) n n) (List.replicate n 0) := by
      have y := World.ownsRow_lit (base := w2.heap.size) (e := 3) (size := 1) (w2.alloc (Obj.cells Z 3)) Z n (by omega) (by unfold maxLen; omega) hzs
      rw [hzl, hsz1] at y
      show World.ownsRow _ _ _ _ _ _ _
      rw [List.length_replicate]
      exact y
    have z2 : OwnI V1 w2.heap.size (.slice (some ⟨w2.heap.size + 1, 0, none⟩) n n) (List.replicate n 0) := by
      rw [← hV1]
      exact z.drew
    exact OwnI.mono z2 HB2.out.size
  have HBV : Hid (Below w2.heap.size w2 V1) := by
    rw [← hV1]
    exact (((Below.refl _ _).alloc (Nat.le_refl _) _).alloc (by omega) _).drew
  obtain ⟨G1, hG1⟩ : ∃ g, w2.heap.size + 1 = g := ⟨_, rfl⟩
  obtain ⟨G0, hG0⟩ : ∃ g, w2.heap.size = g := ⟨_, rfl⟩
  have HG0 := Lib.hid hG0
  have HG1 := Lib.hid hG1
  have HNE : Hid (G0 ≠ G1 ∧ w2.heap.size ≤ G0 ∧ w2.heap.size ≤ G1) := by show _ ∧ _; omega
  have HK1 : Hid (1 ≤ k ∧ k ≤ 10) := by show _ ∧ _; omega
  rw [hG0] at HO0
  rw [hG1] at HO1
  clear hzs hzl hsz1 hG0 hG1 ht0
  go_region_law (fail)
  · clear hmk
    simp only [Act.put, List.getElem_toArray, List.getElem_cons_zero, List.getElem_cons_succ, List.setIfInBounds_toArray, List.set_cons_zero, List.set_cons_succ]
    rw [HG1.out, HG0.out]
    clear hV1
    go_wp2
    go_loopw [40] (fun i wr => ∃ j : Nat, j ≤ n ∧ i = .int .i64 j ∧ OwnI wr w.heap.size (.slice (some ⟨G0, 0, none⟩) n n) (twA h k j) ∧ OwnI wr w.heap.size (.slice (some ⟨G1, 0, none⟩) n n) (twB h k j) ∧ Below w2.heap.size w2 wr) (fun i _ => n - (intOf i).toNat)
    case atStart => exact ⟨0, Nat.zero_le _, rfl, by rw [(tw_zero h k).1, HN.out]; exact HO0.out, by rw [(tw_zero h k).2, HN.out]; exact HO1.out, HBV.out⟩
    case round =>
      obtain ⟨j, hj, rfl, hoa, hob, hb⟩ := hrel
      have HA := Lib.hid hoa
      have HB := Lib.hid hob
      have HBB := Lib.hid hb
      have HSW := Lib.hid (HS.out.below hb)
      clear hoa hob hb
      by_cases hlt : j < n
      · have hjh : j < h.length := by rw [HN.out]; exact hlt
        obtain ⟨b, o, x, hae, hc, hx⟩ := HSW.out.at hjh
        have hgx := gt_some' hx.out
        have hxb := HBD.out j
        rw [hgx] at hxb
        have HGX := Lib.hid hgx
        have HJH := Lib.hid hjh
        obtain ⟨q, hq⟩ : ∃ q, nzTo h j = q := ⟨_, rfl⟩
        have HQ := Lib.hid hq
        have HLJ : Hid (∀ c, Calls Try.prog 26 #[.slice ah (j : Nat) c] wr fun e w' => e = .returned (.int .i64 q) ∧ wr = w') := fun c => by rw [← hq]; exact HLT.out _ _ _ j hj HSW.out
        obtain rfl := hae
        have wneg : IntKind.i64.wrap (-x) = -x := IntWalk.i64_in _ (by omega)
        obtain ⟨ca, fa⟩ := HA.out.cell (j := j) (by rw [twA_len]; exact hjh)
        obtain ⟨cb, fb⟩ := HB.out.cell (j := j) (by rw [twB_len]; exact hjh)
        have hjn : (j : Int) ≤ n := by omega
        clear hgx hjh hq hxb
        by_cases hqk : q < k
        · have HT2 := Lib.hid (tw_lit HJH.out (by rw [HQ.out]; exact hqk))
          rw [HGX.out] at HT2
          clear cb fb wneg
          go_wp2_with (go_at_call 26; refine (HLJ.out _).mono ?_; rintro e w4 ⟨rfl, rfl⟩)
          go_roundw
          case rel => exact ⟨j + 1, by omega, by go_num, by rw [← HT2.out.1]; exact HA.out.stored j x, by rw [← HT2.out.2]; exact OwnI.sameBlock HB.out (Below.heap_setCell _ _ _ _ (Ne.symm HNE.out.1)), HBB.out.setCell (p := ⟨G0, j, none⟩) HNE.out.2.1 _⟩
          case measure => simp [intOf]; omega
        · have HT2 := Lib.hid (tw_not HJH.out (by rw [HQ.out]; exact hqk))
          rw [HGX.out] at HT2
          clear ca fa
          go_wp2_with (go_at_call 26; refine (HLJ.out _).mono ?_; rintro e w4 ⟨rfl, rfl⟩)
          go_roundw
          case rel => exact ⟨j + 1, by omega, by go_num, by rw [← HT2.out.2]; exact OwnI.sameBlock HA.out (Below.heap_setCell _ _ _ _ HNE.out.1), by rw [← HT2.out.1]; exact HB.out.stored j (-x), HBB.out.setCell (p := ⟨G1, j, none⟩) HNE.out.2.2 _⟩
          case measure => simp [intOf]; omega
      · obtain rfl : j = n := by omega
        go_wp2
        go_ret3
        exact ⟨belt HB2.out HBB.out, some ⟨G0, 0, none⟩, j, some ⟨G1, 0, none⟩, j, by dsimp only; rw [twA_len, twB_len, HN.out]; rfl, HA.out.sl, HB.out.sl⟩
  · clear hmk
    simp only [Act.put, List.getElem_toArray, List.getElem_cons_zero, List.getElem_cons_succ, List.setIfInBounds_toArray, List.set_cons_zero, List.set_cons_succ]
    rw [HG1.out, HG0.out]
    clear hV1
    go_wp2
    go_loopw [40] (fun i wr => ∃ j : Nat, j ≤ n ∧ i = .int .i64 j ∧ OwnI wr w.heap.size (.slice (some ⟨G1, 0, none⟩) n n) (twA h k j) ∧ OwnI wr w.heap.size (.slice (some ⟨G0, 0, none⟩) n n) (twB h k j) ∧ Below w2.heap.size w2 wr) (fun i _ => n - (intOf i).toNat)
    case atStart => exact ⟨0, Nat.zero_le _, rfl, by rw [(tw_zero h k).1, HN.out]; exact HO1.out, by rw [(tw_zero h k).2, HN.out]; exact HO0.out, HBV.out⟩
    case round =>
      obtain ⟨j, hj, rfl, hoa, hob, hb⟩ := hrel
      have HA := Lib.hid hoa
      have HB := Lib.hid hob
      have HBB := Lib.hid hb
      have HSW := Lib.hid (HS.out.below hb)
      clear hoa hob hb
      by_cases hlt : j < n
      · have hjh : j < h.length := by rw [HN.out]; exact hlt
        obtain ⟨b, o, x, hae, hc, hx⟩ := HSW.out.at hjh
        have hgx := gt_some' hx.out
        have hxb := HBD.out j
        rw [hgx] at hxb
        have HGX := Lib.hid hgx
        have HJH := Lib.hid hjh
        obtain ⟨q, hq⟩ : ∃ q, nzTo h j = q := ⟨_, rfl⟩
        have HQ := Lib.hid hq
        have HLJ : Hid (∀ c, Calls Try.prog 26 #[.slice ah (j : Nat) c] wr fun e w' => e = .returned (.int .i64 q) ∧ wr = w') := fun c => by rw [← hq]; exact HLT.out _ _ _ j hj HSW.out
        obtain rfl := hae
        have wneg : IntKind.i64.wrap (-x) = -x := IntWalk.i64_in _ (by omega)
        obtain ⟨ca, fa⟩ := HA.out.cell (j := j) (by rw [twA_len]; exact hjh)
        obtain ⟨cb, fb⟩ := HB.out.cell (j := j) (by rw [twB_len]; exact hjh)
        have hjn : (j : Int) ≤ n := by omega
        clear hgx hjh hq hxb
        by_cases hqk : q < k
        · have HT2 := Lib.hid (tw_lit HJH.out (by rw [HQ.out]; exact hqk))
          rw [HGX.out] at HT2
          clear cb fb wneg
          go_wp2_with (go_at_call 26; refine (HLJ.out _).mono ?_; rintro e w4 ⟨rfl, rfl⟩)
          go_roundw
          case rel => exact ⟨j + 1, by omega, by go_num, by rw [← HT2.out.1]; exact HA.out.stored j x, by rw [← HT2.out.2]; exact OwnI.sameBlock HB.out (Below.heap_setCell _ _ _ _ HNE.out.1), HBB.out.setCell (p := ⟨G1, j, none⟩) HNE.out.2.2 _⟩
          case measure => simp [intOf]; omega
        · have HT2 := Lib.hid (tw_not HJH.out (by rw [HQ.out]; exact hqk))
          rw [HGX.out] at HT2
          clear ca fa
          go_wp2_with (go_at_call 26; refine (HLJ.out _).mono ?_; rintro e w4 ⟨rfl, rfl⟩)
          go_roundw
          case rel => exact ⟨j + 1, by omega, by go_num, by rw [← HT2.out.2]; exact OwnI.sameBlock HA.out (Below.heap_setCell _ _ _ _ (Ne.symm HNE.out.1)), by rw [← HT2.out.1]; exact HB.out.stored j (-x), HBB.out.setCell (p := ⟨G0, j, none⟩) HNE.out.2.1 _⟩
          case measure => simp [intOf]; omega
      · obtain rfl : j = n := by omega
        go_wp2
        go_ret3
        exact ⟨belt HB2.out HBB.out, some ⟨G1, 0, none⟩, j, some ⟨G0, 0, none⟩, j, by dsimp only; rw [twA_len, twB_len, HN.out]; rfl, HA.out.sl, HB.out.sl⟩
end Go.Proofs.Ytfnomiingelfaaa
/- Read and Back of the answers of layer 2: contracts (as in the text of layer 2's statements, on their own). -/
namespace Go.Proofs.Ytfnomiingelfaaa
open Go.RowKit

set_option maxRecDepth 100000 in
set_option maxHeartbeats 400000 in
theorem rread_any (a : Option Addr) (m : List (List Int)) (cap : Nat) (b : Option Addr) (xs : List Int) (cb : Nat) (w : World) (hm : MOk m) (hl : xs.length ≤ 9223372036854775807) (hs : Ms w a m) (hx : Sl w b xs) :
    Calls Try.prog 31 #[.slice a m.length cap, .slice b xs.length cb] w (LPost (readV m xs) w) := by
  have HM := Lib.hid hm; clear hm
  have HS := Lib.hid hs; clear hs
  have HX := Lib.hid hx; clear hx
  go_enter Try.func31, Try.ntmps31
  go_wp2_with fail
  refine (rvalid_any _ _ _ _ HM.out HS.out).mono ?_
  rintro e w1 ⟨rfl, rfl⟩
  cases hv : validM m
  · have HV := Lib.hid hv; clear hv
    go_wp2
    go_ret2
    exact LPost.err 1 (readV_no HV.out) (Below.refl _ _)
  · obtain ⟨hm1, hm6, hc1, hc10, _⟩ := validM_of hv
    have HV := Lib.hid hv; clear hv
    obtain ⟨b0, o0, a0, c0, rfl, hcell⟩ := row0 HS.out hm1
    obtain ⟨f, hf⟩ : ∃ f, fitsV xs (colsM m) 1000000 = f := ⟨_, rfl⟩
    have HF := Lib.hid hf; clear hf
    go_wp2_with fail
    refine (rlisted_any _ _ _ _ _ (by omega) (by omega) _ hl HX.out).mono ?_
    rintro e w2 ⟨rfl, rfl⟩
    rw [HF.out]
    clear hcell
    by_cases h0 : f = 0
    · subst h0
      obtain ⟨hxl, hxa⟩ := fitsV_0 HF.out
      have hxl' : xs.length ≤ 10 := by omega
      have HXL : Hid (xs.length = colsM m) := by show xs.length = colsM m; omega
      clear hxl
      have HXA := Lib.hid hxa; clear hxa
      have HT : Hid (∀ k r, m[k]? = some r → (readL m xs).take (k + 1) = (readL m xs).take k ++ [dot r xs]) := by
        intro k r hr
        have hk : k < m.length := (List.getElem?_eq_some_iff.1 hr).1
        rw [List.take_succ_eq_append_getElem (by rw [readL_length]; exact hk)]
        congr 2
        simp [readL, (List.getElem?_eq_some_iff.1 hr).2]
      go_wp2
      go_loopw [7, 24] (fun v i wr => ∃ (k : Nat), k ≤ m.length ∧ i = .int .i64 k ∧ OwnI wr w.heap.size v ((readL m xs).take k) ∧ Below w.heap.size w wr) (fun _ i _ => m.length - (intOf i).toNat)
      case atStart => exact ⟨0, Nat.zero_le _, rfl, OwnI.nil _ _, Below.refl _ _⟩
      case round =>
        obtain ⟨k, hk, rfl, hO, hB⟩ := hrel
        have HO := Lib.hid hO; clear hO
        have HB3 := Lib.hid hB; clear hB
        by_cases hlt : k < m.length
        · obtain ⟨b1, o1, ai, r, ci, he1, hcell, hsl, HR⟩ := (HS.out.below HB3.out).at hlt
          obtain ⟨rfl, rfl⟩ : b0 = b1 ∧ o0 = o1 := by simpa using he1
          clear he1
          obtain ⟨hrl, hra⟩ := validM_row HV.out HR.out
          have hr10 : r.length ≤ 10 := by omega
          have hrx : r.length ≤ xs.length := by have := HXL.out; omega
          have HPB := Lib.hid (PB_of hra HXA.out hrx (by omega))
          have HSL := Lib.hid hsl; clear hsl
          clear hrl hra
          go_wp2_with fail
          refine (rdot_any _ _ _ _ _ _ _ hr10 hrx hl HPB.out HSL.out (HX.out.below HB3.out)).mono ?_
          rintro e w5 ⟨rfl, n5, hw5⟩
          have hb5 := drew_below hw5; clear hw5
          have HO5 := Lib.hid (HO.out.below hb5)
          have HB5 : Hid (Below w.heap.size w w5) := Below.next HB3.out hb5 (Nat.le_refl _)
          clear hb5
          go_wp2_with (at_builtin; go_must (refine wpList_push rfl (.tmp 28) (.tmp 32) rfl w.heap.size _ ((readL m xs).take k) _ _ _ _ rfl rfl rfl HO5.out (by rw [List.length_take]; omega) HB5.out.size ?_); intro v' w9 ho' hb')
          go_roundw
          case rel => exact ⟨k + 1, by omega, by go_num, by rw [HT.out k r HR.out]; exact ho', HB5.out.trans hb'⟩
          case measure => simp [intOf]; omega
        · obtain rfl : k = m.length := by omega
          go_wp2
          go_ret2
          exact LPost.own (by rw [readV_ok HV.out HF.out, List.take_of_length_le (by rw [readL_length]; exact Nat.le_refl _)]) HB3.out HO.out
    · have e0 : (f == 0) = false := by simpa using h0
      have e1 : (f != 0) = true := by simpa using h0
      have H0 := Lib.hid h0; clear h0
      go_wp2
      go_ret2
      exact LPost.err f (readV_err HV.out HF.out H0.out) (Below.refl _ _)
end Go.Proofs.Ytfnomiingelfaaa
/- Independent of both sides, readings checked: contracts. -/
namespace Go.Proofs.Ytfnomiingelfaaa
open Go.RowKit

set_option maxRecDepth 100000 in
set_option maxHeartbeats 800000 in
theorem lread_any (ma : Option Addr) (m : List (List Int)) (mc : Nat) (a : Option Addr) (y : List Int) (cap : Nat) (w : World) (hm : MOk m) (hl : y.length ≤ 9223372036854775807) (hs : Ms w ma m) (hy : Sl w a y) :
    Calls Try.prog 80 #[.slice ma m.length mc, .slice a y.length cap] w fun e w' => e = .returned (.int .i64 (readE m y)) ∧ Below w.heap.size w w' := by
  have HVA : Hid (Calls Try.prog 32 #[.slice ma m.length mc] w fun e w' => e = .returned (.bool (validM m)) ∧ Below w.heap.size w w') := mvalid_any ma m mc w hm hs
  obtain ⟨q, hq⟩ : ∃ q, allB 1000000 y = q := ⟨_, rfl⟩
  have HWI : Hid (∀ W, Below w.heap.size w W → Calls Try.prog 99 #[.slice a y.length cap, .int .i64 1000000] W fun e w' => e = .returned (.bool q) ∧ W = w') := fun W hb => by rw [← hq]; exact lwithin_any a y cap 1000000 W (by decide) (by decide) hl (hy.below hb)
  have hml := hm.1
  cases hv : validM m
  case false =>
    rw [hv] at HVA
    have HE : Hid (readE m y = 1) := by show _ = _; simp [readE, hv]
    clear hv hq hs hy hm
    go_enter Try.func80, Try.ntmps80
    go_wp2_with (go_at_call 32; refine HVA.out.mono ?_; rintro e w1 ⟨rfl, hb⟩; have HB := Lib.hid hb; clear hb)
    go_ret
    exact ⟨ret_i64 HE.out.symm, HB.out⟩
  case true =>
    rw [hv] at HVA
    by_cases hlen : (y.length : Int) = (m.length : Int)
    · have y0 : ((y.length : Int) == (m.length : Int)) = true := by simpa using hlen
      have y1 : ((y.length : Int) != (m.length : Int)) = false := by simpa using hlen
      have HE : Hid (readE m y = if q = true then 0 else 7) := by show _ = _; unfold readE fitsV; rw [if_pos hv, if_pos hlen, hq]
      clear hv hq hs hy hm hlen
      cases q
      · go_enter Try.func80, Try.ntmps80
        go_wp2_with (first | (go_at_call 32; refine HVA.out.mono ?_; rintro e w1 ⟨rfl, hb⟩; have HB := Lib.hid hb; clear hb) | (go_at_call 99; refine (HWI.out w1 HB.out).mono ?_; rintro e w2 ⟨rfl, rfl⟩))
        go_ret
        exact ⟨ret_i64 (by rw [HE.out]; rfl), HB.out⟩
      · go_enter Try.func80, Try.ntmps80
        go_wp2_with (first | (go_at_call 32; refine HVA.out.mono ?_; rintro e w1 ⟨rfl, hb⟩; have HB := Lib.hid hb; clear hb) | (go_at_call 99; refine (HWI.out w1 HB.out).mono ?_; rintro e w2 ⟨rfl, rfl⟩))
        go_ret
        exact ⟨ret_i64 (by rw [HE.out]; rfl), HB.out⟩
    · have y0 : ((y.length : Int) == (m.length : Int)) = false := by simpa using hlen
      have y1 : ((y.length : Int) != (m.length : Int)) = true := by simpa using hlen
      have HE : Hid (readE m y = 9) := by show _ = _; unfold readE fitsV; rw [if_pos hv, if_neg hlen]
      clear hv hq hs hy hm hlen
      go_enter Try.func80, Try.ntmps80
      go_wp2_with (go_at_call 32; refine HVA.out.mono ?_; rintro e w1 ⟨rfl, hb⟩; have HB := Lib.hid hb; clear hb)
      go_ret
      exact ⟨ret_i64 HE.out.symm, HB.out⟩
end Go.Proofs.Ytfnomiingelfaaa
/- Solve of both sides: contracts. -/
namespace Go.Proofs.Ytfnomiingelfaaa
open Go.RowKit

def solveV (m : List (List Int)) (px y : List Int) : List (Int × Int) × Int :=
  if readE m y = 0 then (if listV m px = 0 then (if possB (redB m px (oneB y)).rows (redB m px (oneB y)).piv.length px.length = true then (if (redB m px (oneB y)).piv.length < px.length then ([], 11) else (solL px.length (redB m px (oneB y)).rows (redB m px (oneB y)).piv (redB m px (oneB y)).dv (redB m px (oneB y)).piv.length, 0)) else ([], 8)) else ([], listV m px)) else ([], readE m y)
def RLPost (r : List (Int × Int) × Int) (w : World) (e : Ending) (w' : World) : Prop := Below w.heap.size w w' ∧ ∃ a cap, e = .returned (.tuple #[.slice a r.1.length cap, .int .i64 r.2]) ∧ Rl w' a r.1
theorem RLPost.err {w w' : World} {n : Int} (hb : Below w.heap.size w w') : RLPost ([], n) w (.returned (.tuple #[.slice none 0 0, .int .i64 n])) w' := ⟨hb, none, 0, rfl, fun j p h => by simp at h⟩
theorem readE_ok {m : List (List Int)} {y : List Int} (h : readE m y = 0) : validM m = true ∧ y.length = m.length ∧ allB 1000000 y = true := by
  unfold readE at h
  split at h
  · rename_i hv
    obtain ⟨h1, h2⟩ := fitsV_0 h
    exact ⟨hv, by omega, h2⟩
  · cases h
theorem pixB_row {px : List Int} {m : List (List Int)} {y : List Int} : ∀ q ∈ pixB px m (oneB y), q.length = px.length + 1 := fun q hq => by
  obtain ⟨i, _, rfl⟩ := List.mem_map.1 hq
  rw [List.length_append, pixR_len]; rfl
theorem pixB_at {px : List Int} {m : List (List Int)} {y : List Int} {i c : Nat} (hi : i < m.length) : a0 (pixB px m (oneB y)) i c = if c < px.length then gt (rowL m i) (gt px c).toNat else if c = px.length then gt y i else 0 := by
  unfold a0
  have e : rowL (pixB px m (oneB y)) i = pixR px (rowL m i) ++ [gt y i] := by unfold pixB rowL; simp [hi]; rfl
  rw [e, gt_snoc, pixR_len]
  split
  · rename_i h; rw [gt_pixR h]
  · rfl
theorem pixB_bd {m : List (List Int)} {px y : List Int} (hv : validM m = true) (hpx : ∀ j ∈ px, 0 ≤ j ∧ j < (colsM m : Int)) (hy : y.length = m.length) (hb : allB 1000000 y = true) :
    (∀ i, i < m.length → ∀ c, c < px.length → -1 ≤ a0 (pixB px m (oneB y)) i c ∧ a0 (pixB px m (oneB y)) i c ≤ 1) ∧ ∀ i, i < m.length → ∀ c, c < px.length + 1 → -1000000 ≤ a0 (pixB px m (oneB y)) i c ∧ a0 (pixB px m (oneB y)) i c ≤ 1000000 := by
  obtain ⟨_, _, _, _, hrows⟩ := validM_of hv
  have h1 : ∀ i, i < m.length → ∀ c, c < px.length → -1 ≤ a0 (pixB px m (oneB y)) i c ∧ a0 (pixB px m (oneB y)) i c ≤ 1 := fun i hi c hc => by
    rw [pixB_at hi, if_pos hc]
    have hr := hrows _ (rowL_mem hi)
    have := hpx _ (mem_gt.2 ⟨c, hc, rfl⟩)
    exact gt_in hr.2 (by rw [hr.1]; omega)
  refine ⟨h1, fun i hi c hc => ?_⟩
  by_cases e : c < px.length
  · have := h1 i hi c e; omega
  · rw [pixB_at hi, if_neg e, if_pos (by omega)]
    exact gt_in hb (by omega)
theorem redB_fin {m : List (List Int)} {px y : List Int} (hv : validM m = true) (hpx : ∀ j ∈ px, 0 ≤ j ∧ j < (colsM m : Int)) (hy : y.length = m.length) (hb : allB 1000000 y = true) :
    RFin m.length (px.length + 1) px.length (a0 (pixB px m (oneB y))) (redB m px (oneB y)) := by
  obtain ⟨b1, b2⟩ := pixB_bd hv hpx hy hb
  exact rd_fin (pixB_len _ _ _) pixB_row (validM_of hv).2.1 (Nat.le_succ _) b1 b2
theorem redB_cols (m : List (List Int)) (px : List Int) (bh : Nat → List Int) : (redB m px bh).cols = px.length := clearN_cols _ _
theorem box_cells {w3 W4 : World} {a b c d : Value} {t : TypeId} (h : w3.alloc (.cells #[a, b, c, d] t) = W4) : ∀ W, Below W4.heap.size W4 W → W.cell? ⟨w3.heap.size, 0, none⟩ = some a ∧ W.cell? ⟨w3.heap.size, 1, none⟩ = some b ∧ W.cell? ⟨w3.heap.size, 2, none⟩ = some c ∧ W.cell? ⟨w3.heap.size, 3, none⟩ = some d := by
  subst h
  intro W hb
  have hl : w3.heap.size < (w3.alloc (.cells #[a, b, c, d] t)).heap.size := by rw [World.size_alloc]; omega
  exact ⟨(hb.cell (p := ⟨w3.heap.size, 0, none⟩) hl).trans (alloc_cell _ _ _ _ _ rfl), (hb.cell (p := ⟨w3.heap.size, 1, none⟩) hl).trans (alloc_cell _ _ _ _ _ rfl), (hb.cell (p := ⟨w3.heap.size, 2, none⟩) hl).trans (alloc_cell _ _ _ _ _ rfl), (hb.cell (p := ⟨w3.heap.size, 3, none⟩) hl).trans (alloc_cell _ _ _ _ _ rfl)⟩
end Go.Proofs.Ytfnomiingelfaaa
/- Solve of the program: its fractions lie in new memory. -/
namespace Go.Proofs.Ytfnomiingelfaaa
open Go.RowKit

def RNPost (r : List (Int × Int) × Int) (w : World) (e : Ending) (w' : World) : Prop := Below w.heap.size w w' ∧ ∃ a cap, e = .returned (.tuple #[.slice a r.1.length cap, .int .i64 r.2]) ∧ Rl w' a r.1 ∧ ∀ ad : Addr, a = some ad → w.heap.size ≤ ad.block ∧ ad.block < w'.heap.size
theorem RNPost.err {w w' : World} {n : Int} (hb : Below w.heap.size w w') : RNPost ([], n) w (.returned (.tuple #[.slice none 0 0, .int .i64 n])) w' := ⟨hb, none, 0, rfl, fun j p h => by simp at h, fun ad e => by cases e⟩
set_option maxRecDepth 1000000 in
set_option maxHeartbeats 3200000 in
theorem lsolve_new (ma : Option Addr) (m : List (List Int)) (mc : Nat) (a : Option Addr) (px : List Int) (cap : Nat) (ya : Option Addr) (y : List Int) (yc : Nat) (w : World) (hm : MOk m) (hl : px.length ≤ 1000) (hly : y.length ≤ 1000) (hs : Ms w ma m) (hp : Sl w a px) (hy : Sl w ya y) :
    Calls Try.prog 66 #[.slice ma m.length mc, .slice a px.length cap, .slice ya y.length yc] w (RNPost (solveV m px y) w) := by
  obtain ⟨rv, hrv⟩ : ∃ rv, readE m y = rv := ⟨_, rfl⟩
  have HRE : Hid (Calls Try.prog 80 #[.slice ma m.length mc, .slice ya y.length yc] w fun e w' => e = .returned (.int .i64 rv) ∧ Below w.heap.size w w') := by rw [← hrv]; exact lread_any ma m mc ya y yc w hm (by omega) hs hy
  by_cases hr0 : rv = 0
  · subst hr0
    obtain ⟨hv, hyl, hyb⟩ := readE_ok hrv
    obtain ⟨v, hvv⟩ : ∃ v, listV m px = v := ⟨_, rfl⟩
    have HNA : Hid (∀ W, Below w.heap.size w W → Calls Try.prog 84 #[.slice ma m.length mc, .slice a px.length cap] W fun e w' => e = .returned (.int .i64 v) ∧ Below W.heap.size W w') := fun W hb => by rw [← hvv]; exact llisted_any ma m mc a px cap W hv hl (hs.below hb) (hp.below hb)
    by_cases h0 : v = 0
    · subst h0
      obtain ⟨h1, h2⟩ := listV_ok hvv hv
      obtain ⟨hm1, hm6, hc1, hc10, hrows⟩ := validM_of hv
      have h64 : Hid (All64 m) := fun q hq x hx => by
        obtain ⟨c, hc, rfl⟩ := mem_gt.1 hx
        have := gt_in (hrows q hq).2 hc
        unfold In64; omega
      have hy64 : ∀ x ∈ y, In64 x := fun x hx => by
        obtain ⟨c, hc, rfl⟩ := mem_gt.1 hx
        have := gt_in hyb hc
        unfold In64; omega
      have HF := Lib.hid (redB_fin hv h1 hyl hyb)
      have hco := redB_cols m px (oneB y)
      obtain ⟨rd, hrd⟩ : ∃ rd, redB m px (oneB y) = rd := ⟨_, rfl⟩
      have HRD : Hid (∀ W, Below w.heap.size w W → Calls Try.prog 83 #[.slice ma m.length mc, .slice a px.length cap, .func (.func 100) #[] #[.pointer (some ⟨W.heap.size, 0, none⟩)]] (W.alloc (.cells #[.slice ya y.length yc] 24)) (RdPost rd (W.alloc (.cells #[.slice ya y.length yc] 24)))) := fun W hb => by
        have hb2 : Below w.heap.size w (W.alloc (.cells #[.slice ya y.length yc] 24)) := hb.alloc hb.size _
        rw [← hrd]
        exact reduce_any0One (Lib.hid (one_beh (Nat.le_of_eq hyl.symm) hly (alloc_cell _ _ _ _ _ rfl) (hy.below hb2))) ⟨Nat.le_refl _, by decide⟩ (Lib.hid (oneB_ok hy64)) (Lib.hid hm6) (Lib.hid hm1) (Lib.hid h2) (Lib.hid h1) (Lib.hid fun r hr => (hrows r hr).1) h64 (Lib.hid (hs.below hb2)) (Lib.hid (hp.below hb2))
      have HSV : Hid (solveV m px y = if possB rd.rows rd.piv.length px.length = true then (if rd.piv.length < px.length then ([], 11) else (solL px.length rd.rows rd.piv rd.dv rd.piv.length, 0)) else ([], 8)) := by show _ = _; unfold solveV; rw [if_pos hrv, if_pos hvv, hrd]
      rw [hrd] at HF hco
      obtain ⟨pl, hpl⟩ : ∃ pl, px.length = pl := ⟨_, rfl⟩
      rw [hpl] at HF hco HSV HRD h2 HNA ⊢
      obtain ⟨cols, rows, piv, dv⟩ := rd
      dsimp only at hco HSV
      subst hco
      have hlen := HF.out.len
      have hrow := HF.out.row
      have hplr := HF.out.pl
      dsimp only at hlen hrow hplr
      have hpos := HF.out.pos
      dsimp only at hpos
      have hmid : ∀ t, t < piv.length → Mid (gt (rowL rows t) cols) := fun t ht => by
        have := HF.out.bdN t (by omega) cols (by omega)
        dsimp only at this
        unfold Mid; omega
      have hpz : ∀ t, t < piv.length → 0 ≤ gt piv t ∧ gt piv t < cols := fun t ht => HF.out.pz t ht
      obtain ⟨z, hz⟩ : ∃ z, possB rows piv.length cols = z := ⟨_, rfl⟩
      rw [hz] at HSV
      have HPO : Hid (∀ (g cp : Nat) (ads : List (Nat × Nat)) (pa : Option Addr) (pc base : Nat) (W : World), SI W base g ads rows → Calls Try.prog 82 #[.agg #[.int .i64 (cols : Int), .slice (some ⟨g, 0, none⟩) rows.length cp, .slice pa piv.length pc, .int .i64 dv]] W fun e w' => e = .returned (.bool z) ∧ Below W.heap.size W w') := fun g cp ads pa pc base W h => by rw [← hz]; exact possible_any cols g cp (cols + 1) ads rows pa piv.length pc piv dv base W rfl (by omega) (by omega) hrow (by omega) (by omega) h
      have HSO : Hid (∀ (g cp : Nat) (ads : List (Nat × Nat)) (pa : Option Addr) (pc base : Nat) (W : World), SI W base g ads rows → Sl W pa piv → Calls Try.prog 85 #[.agg #[.int .i64 (cols : Int), .slice (some ⟨g, 0, none⟩) rows.length cp, .slice pa piv.length pc, .int .i64 dv]] W fun e w' => ∃ b c, e = .returned (.slice (some ⟨b, 0, none⟩) cols c) ∧ OwnR w' W.heap.size (.slice (some ⟨b, 0, none⟩) cols c) (solL cols rows piv dv piv.length) ∧ Below W.heap.size W w') := fun g cp ads pa pc base W h h2 => solved_any cols g cp (cols + 1) ads rows pa piv pc dv base W (by omega) (by omega) hrow (by omega) (by omega) h h2 hpz hmid (by unfold Mid; omega) (by omega)
      clear hv hs hp hm hvv h1 hrd hrows h64 hm1 hm6 hc1 hc10 hrv hyl hyb hy64 hy hpl hlen hrow hplr hpos hmid hpz hz HF
      have HLS := solL_len cols rows piv dv piv.length
      cases z with
      | false =>
        rw [HSV.out]
        clear HSV
        go_enter Try.func66, Try.ntmps66
        go_wp2_with (first | (go_at_call 80; refine HRE.out.mono ?_; rintro e w1 ⟨rfl, hb⟩; have HB := Lib.hid hb; clear hb) | (go_at_call 84; refine (HNA.out w1 HB.out).mono ?_; rintro e w2 ⟨rfl, hb2⟩; have HB2 : Hid (Below w.heap.size w w2) := HB.out.trans (hb2.mono HB.out.size); clear hb2) | (go_at_call 81; refine (oneOf_any ya y.length yc w2).mono ?_; rintro e w9 ⟨rfl, rfl⟩) | (go_at_call 83; refine (HRD.out w2 HB2.out).mono ?_; rintro e w3 ⟨hb3, g, cp, ads, pa2, pc2, rfl, hgg, si, pi⟩; unfold rdV; dsimp only at si pi ⊢; obtain ⟨W4, hW4⟩ : ∃ W4, w3.alloc (.cells #[.int .i64 (cols : Int), .slice (some ⟨g, 0, none⟩) rows.length cp, .slice pa2 piv.length pc2, .int .i64 dv] 87) = W4 := ⟨_, rfl⟩; have HCW : Hid (∀ W, Below W4.heap.size W4 W → W.cell? ⟨w3.heap.size, 0, none⟩ = some (.int .i64 (cols : Int)) ∧ W.cell? ⟨w3.heap.size, 1, none⟩ = some (.slice (some ⟨g, 0, none⟩) rows.length cp) ∧ W.cell? ⟨w3.heap.size, 2, none⟩ = some (.slice pa2 piv.length pc2) ∧ W.cell? ⟨w3.heap.size, 3, none⟩ = some (.int .i64 dv)) := box_cells hW4; obtain ⟨k0, k1, k2, k3⟩ := HCW.out W4 (Below.refl _ _); have HB4 : Hid (Below w3.heap.size w3 W4) := hW4 ▸ (Below.refl _ _).alloc (Nat.le_refl _) _; have HSI := Lib.hid si; have HPI := Lib.hid (OwnI.sl pi); have HB3 := Lib.hid hb3; have HSI4 := Lib.hid (HSI.out.below HB4.out); have HPI4 := Lib.hid (HPI.out.below HB4.out); have HBW4 : Hid (Below w.heap.size w W4) := (HB2.out.alloc HB2.out.size _).trans ((HB3.out.mono (by rw [World.size_alloc]; have := HB2.out.size; omega)).trans (HB4.out.mono (by have h1 := HB3.out.size; rw [World.size_alloc] at h1; have := HB2.out.size; omega))); clear si pi hgg hb3) | (go_at_call 82; refine (HPO.out _ _ _ _ _ _ _ HSI4.out).mono ?_; rintro e w5 ⟨rfl, hb5⟩; have HB5 := Lib.hid hb5; obtain ⟨j0, j1, j2, j3⟩ := HCW.out w5 hb5; clear hb5) | (go_at_call 63; refine (rank_any cols g rows.length cp pa2 piv pc2 dv _).mono ?_; rintro e w6 ⟨rfl, hb6⟩; have HB6 : Hid (Below W4.heap.size W4 w6) := HB5.out.trans (hb6.mono HB5.out.size); obtain ⟨i0, i1, i2, i3⟩ := HCW.out w6 HB6.out; clear hb6) | (go_at_call 85; refine (HSO.out _ _ _ _ _ _ _ (HSI4.out.below HB6.out) (HPI4.out.below HB6.out)).mono ?_; rintro e w7 ⟨sb, sc, rfl, ho7, hb7⟩; have HO7 := Lib.hid ho7; have HB7 : Hid (Below W4.heap.size W4 w7) := HB6.out.trans (hb7.mono HB6.out.size); clear ho7 hb7))
        go_ret2
        exact RNPost.err (HBW4.out.trans (HB5.out.mono HBW4.out.size))
      | true =>
        by_cases hlt : piv.length < cols
        · have y0 : decide (piv.length < cols) = true := by simpa using hlt
          have HS2 : Hid (solveV m px y = ([], 11)) := by show _ = _; rw [HSV.out, if_pos rfl, if_pos hlt]
          rw [HS2.out]
          clear HSV
          go_enter Try.func66, Try.ntmps66
          go_wp2_with (first | (go_at_call 80; refine HRE.out.mono ?_; rintro e w1 ⟨rfl, hb⟩; have HB := Lib.hid hb; clear hb) | (go_at_call 84; refine (HNA.out w1 HB.out).mono ?_; rintro e w2 ⟨rfl, hb2⟩; have HB2 : Hid (Below w.heap.size w w2) := HB.out.trans (hb2.mono HB.out.size); clear hb2) | (go_at_call 81; refine (oneOf_any ya y.length yc w2).mono ?_; rintro e w9 ⟨rfl, rfl⟩) | (go_at_call 83; refine (HRD.out w2 HB2.out).mono ?_; rintro e w3 ⟨hb3, g, cp, ads, pa2, pc2, rfl, hgg, si, pi⟩; unfold rdV; dsimp only at si pi ⊢; obtain ⟨W4, hW4⟩ : ∃ W4, w3.alloc (.cells #[.int .i64 (cols : Int), .slice (some ⟨g, 0, none⟩) rows.length cp, .slice pa2 piv.length pc2, .int .i64 dv] 87) = W4 := ⟨_, rfl⟩; have HCW : Hid (∀ W, Below W4.heap.size W4 W → W.cell? ⟨w3.heap.size, 0, none⟩ = some (.int .i64 (cols : Int)) ∧ W.cell? ⟨w3.heap.size, 1, none⟩ = some (.slice (some ⟨g, 0, none⟩) rows.length cp) ∧ W.cell? ⟨w3.heap.size, 2, none⟩ = some (.slice pa2 piv.length pc2) ∧ W.cell? ⟨w3.heap.size, 3, none⟩ = some (.int .i64 dv)) := box_cells hW4; obtain ⟨k0, k1, k2, k3⟩ := HCW.out W4 (Below.refl _ _); have HB4 : Hid (Below w3.heap.size w3 W4) := hW4 ▸ (Below.refl _ _).alloc (Nat.le_refl _) _; have HSI := Lib.hid si; have HPI := Lib.hid (OwnI.sl pi); have HB3 := Lib.hid hb3; have HSI4 := Lib.hid (HSI.out.below HB4.out); have HPI4 := Lib.hid (HPI.out.below HB4.out); have HBW4 : Hid (Below w.heap.size w W4) := (HB2.out.alloc HB2.out.size _).trans ((HB3.out.mono (by rw [World.size_alloc]; have := HB2.out.size; omega)).trans (HB4.out.mono (by have h1 := HB3.out.size; rw [World.size_alloc] at h1; have := HB2.out.size; omega))); clear si pi hgg hb3) | (go_at_call 82; refine (HPO.out _ _ _ _ _ _ _ HSI4.out).mono ?_; rintro e w5 ⟨rfl, hb5⟩; have HB5 := Lib.hid hb5; obtain ⟨j0, j1, j2, j3⟩ := HCW.out w5 hb5; clear hb5) | (go_at_call 63; refine (rank_any cols g rows.length cp pa2 piv pc2 dv _).mono ?_; rintro e w6 ⟨rfl, hb6⟩; have HB6 : Hid (Below W4.heap.size W4 w6) := HB5.out.trans (hb6.mono HB5.out.size); obtain ⟨i0, i1, i2, i3⟩ := HCW.out w6 HB6.out; clear hb6) | (go_at_call 85; refine (HSO.out _ _ _ _ _ _ _ (HSI4.out.below HB6.out) (HPI4.out.below HB6.out)).mono ?_; rintro e w7 ⟨sb, sc, rfl, ho7, hb7⟩; have HO7 := Lib.hid ho7; have HB7 : Hid (Below W4.heap.size W4 w7) := HB6.out.trans (hb7.mono HB6.out.size); clear ho7 hb7))
          go_ret2
          exact RNPost.err (HBW4.out.trans (HB6.out.mono HBW4.out.size))
        · have y0 : decide (piv.length < cols) = false := by simpa using hlt
          have HS2 : Hid (solveV m px y = (solL cols rows piv dv piv.length, 0)) := by show _ = _; rw [HSV.out, if_pos rfl, if_neg hlt]
          rw [HS2.out]
          clear HSV
          go_enter Try.func66, Try.ntmps66
          go_wp2_with (first | (go_at_call 80; refine HRE.out.mono ?_; rintro e w1 ⟨rfl, hb⟩; have HB := Lib.hid hb; clear hb) | (go_at_call 84; refine (HNA.out w1 HB.out).mono ?_; rintro e w2 ⟨rfl, hb2⟩; have HB2 : Hid (Below w.heap.size w w2) := HB.out.trans (hb2.mono HB.out.size); clear hb2) | (go_at_call 81; refine (oneOf_any ya y.length yc w2).mono ?_; rintro e w9 ⟨rfl, rfl⟩) | (go_at_call 83; refine (HRD.out w2 HB2.out).mono ?_; rintro e w3 ⟨hb3, g, cp, ads, pa2, pc2, rfl, hgg, si, pi⟩; unfold rdV; dsimp only at si pi ⊢; obtain ⟨W4, hW4⟩ : ∃ W4, w3.alloc (.cells #[.int .i64 (cols : Int), .slice (some ⟨g, 0, none⟩) rows.length cp, .slice pa2 piv.length pc2, .int .i64 dv] 87) = W4 := ⟨_, rfl⟩; have HCW : Hid (∀ W, Below W4.heap.size W4 W → W.cell? ⟨w3.heap.size, 0, none⟩ = some (.int .i64 (cols : Int)) ∧ W.cell? ⟨w3.heap.size, 1, none⟩ = some (.slice (some ⟨g, 0, none⟩) rows.length cp) ∧ W.cell? ⟨w3.heap.size, 2, none⟩ = some (.slice pa2 piv.length pc2) ∧ W.cell? ⟨w3.heap.size, 3, none⟩ = some (.int .i64 dv)) := box_cells hW4; obtain ⟨k0, k1, k2, k3⟩ := HCW.out W4 (Below.refl _ _); have HB4 : Hid (Below w3.heap.size w3 W4) := hW4 ▸ (Below.refl _ _).alloc (Nat.le_refl _) _; have HSI := Lib.hid si; have HPI := Lib.hid (OwnI.sl pi); have HB3 := Lib.hid hb3; have HSI4 := Lib.hid (HSI.out.below HB4.out); have HPI4 := Lib.hid (HPI.out.below HB4.out); have HBW4 : Hid (Below w.heap.size w W4) := (HB2.out.alloc HB2.out.size _).trans ((HB3.out.mono (by rw [World.size_alloc]; have := HB2.out.size; omega)).trans (HB4.out.mono (by have h1 := HB3.out.size; rw [World.size_alloc] at h1; have := HB2.out.size; omega))); clear si pi hgg hb3) | (go_at_call 82; refine (HPO.out _ _ _ _ _ _ _ HSI4.out).mono ?_; rintro e w5 ⟨rfl, hb5⟩; have HB5 := Lib.hid hb5; obtain ⟨j0, j1, j2, j3⟩ := HCW.out w5 hb5; clear hb5) | (go_at_call 63; refine (rank_any cols g rows.length cp pa2 piv pc2 dv _).mono ?_; rintro e w6 ⟨rfl, hb6⟩; have HB6 : Hid (Below W4.heap.size W4 w6) := HB5.out.trans (hb6.mono HB5.out.size); obtain ⟨i0, i1, i2, i3⟩ := HCW.out w6 HB6.out; clear hb6) | (go_at_call 85; refine (HSO.out _ _ _ _ _ _ _ (HSI4.out.below HB6.out) (HPI4.out.below HB6.out)).mono ?_; rintro e w7 ⟨sb, sc, rfl, ho7, hb7⟩; have HO7 := Lib.hid ho7; have HB7 : Hid (Below W4.heap.size W4 w7) := HB6.out.trans (hb7.mono HB6.out.size); clear ho7 hb7))
          go_ret2
          refine ⟨HBW4.out.trans (HB7.out.mono HBW4.out.size), _, sc, by (rw [HLS]; rfl), OwnR.rl (cap := sc) (base := w6.heap.size) ?_, ?_⟩
          · rw [HLS]; exact HO7.out
          · rintro ad rfl2
            obtain rfl := Option.some.inj rfl2
            have h1 := OwnR.lt HO7.out
            have h2 := HBW4.out.size
            have h3 := HB6.out.size
            exact ⟨by dsimp only; omega, h1.2⟩
    · have y0 : (v == 0) = false := by simpa using h0
      have y1 : (v != 0) = true := by simpa using h0
      have HSV : Hid (solveV m px y = ([], v)) := by show _ = _; unfold solveV; rw [if_pos hrv, hvv, if_neg h0]
      rw [HSV.out]
      clear hv hs hp hm hvv h0 hrv hy hyl hyb HSV
      go_enter Try.func66, Try.ntmps66
      go_wp2_with (first | (go_at_call 80; refine HRE.out.mono ?_; rintro e w1 ⟨rfl, hb⟩; have HB := Lib.hid hb; clear hb) | (go_at_call 84; refine (HNA.out w1 HB.out).mono ?_; rintro e w2 ⟨rfl, hb2⟩; have HB2 : Hid (Below w.heap.size w w2) := HB.out.trans (hb2.mono HB.out.size); clear hb2))
      go_ret2
      exact RNPost.err HB2.out
  · have y0 : (rv == 0) = false := by simpa using hr0
    have y1 : (rv != 0) = true := by simpa using hr0
    have HSV : Hid (solveV m px y = ([], rv)) := by show _ = _; unfold solveV; rw [hrv, if_neg hr0]
    rw [HSV.out]
    clear hs hp hm hr0 hrv hy HSV
    go_enter Try.func66, Try.ntmps66
    go_wp2_with (go_at_call 80; refine HRE.out.mono ?_; rintro e w1 ⟨rfl, hb⟩; have HB := Lib.hid hb; clear hb)
    go_ret2
    exact RNPost.err HB.out
end Go.Proofs.Ytfnomiingelfaaa
/- fit of layer 4, and what it calls: contracts. -/
namespace Go.Proofs.Ytfnomiingelfaaa
open Go.RowKit

theorem box2 {w V : World} {a b : Value} {t : TypeId} (h : w.alloc (.cells #[a, b] t) = V) : ∀ W, Below V.heap.size V W → W.cell? ⟨w.heap.size, 0, none⟩ = some a ∧ W.cell? ⟨w.heap.size, 1, none⟩ = some b ∧ W.frozen? ⟨w.heap.size, 0, none⟩ = false ∧ W.frozen? ⟨w.heap.size, 1, none⟩ = false := by
  subst h
  intro W hb
  have hl : w.heap.size < (w.alloc (.cells #[a, b] t)).heap.size := by rw [World.size_alloc]; omega
  exact ⟨(hb.cell (p := ⟨w.heap.size, 0, none⟩) hl).trans (alloc_cell _ _ _ _ _ rfl), (hb.cell (p := ⟨w.heap.size, 1, none⟩) hl).trans (alloc_cell _ _ _ _ _ rfl), (hb.frozen (p := ⟨w.heap.size, 0, none⟩) hl).trans (by simp), (hb.frozen (p := ⟨w.heap.size, 1, none⟩) hl).trans (by simp)⟩
def ixZ (vs : List (Int × Int)) : Int := if vs.any (fun p => p.1 == 0) = true then (vs.findIdx (fun p => p.1 == 0) : Int) else -1
theorem ixZ_hit {vs : List (Int × Int)} {k : Nat} {p : Int × Int} (h : ∀ j, j < k → ∀ q, vs[j]? = some q → q.1 ≠ 0) (hp : vs[k]? = some p) (h0 : p.1 = 0) : ixZ vs = k := by
  obtain ⟨hk, e⟩ := List.getElem?_eq_some_iff.1 hp
  have ha : vs.any (fun p => p.1 == 0) = true := List.any_eq_true.2 ⟨p, List.mem_of_getElem? hp, by simpa using h0⟩
  unfold ixZ
  rw [if_pos ha]
  congr 1
  rw [List.findIdx_eq hk]
  refine ⟨by rw [e]; simpa using h0, fun j hj => ?_⟩
  have := h j hj _ (List.getElem?_eq_getElem (by omega))
  simpa using this
theorem ixZ_no {vs : List (Int × Int)} (h : ∀ j, j < vs.length → ∀ q, vs[j]? = some q → q.1 ≠ 0) : ixZ vs = -1 ∧ vs.any (fun p => p.1 == 0) = false := by
  have ha : vs.any (fun p => p.1 == 0) = false := by
    rw [List.any_eq_false]
    intro q hq
    obtain ⟨j, hj, e⟩ := List.getElem_of_mem hq
    have := h j hj q (by rw [List.getElem?_eq_getElem hj, e])
    simpa using this
  exact ⟨by unfold ixZ; rw [ha]; rfl, ha⟩
set_option maxRecDepth 100000 in
theorem zero_any (a b : Int) (w : World) : Calls Try.prog 46 #[.agg #[.int .i64 a, .int .i64 b]] w fun e w' => e = .returned (.bool (a == 0)) ∧ Below w.heap.size w w' := by
  obtain ⟨V, hV⟩ : ∃ V, w.alloc (.cells #[.int .i64 a, .int .i64 b] 47) = V := ⟨_, rfl⟩
  obtain ⟨t0, t1, _, _⟩ := box2 hV V (Below.refl _ _)
  have HB : Hid (Below w.heap.size w V) := by rw [← hV]; exact (Below.refl _ _).alloc (Nat.le_refl _) _
  go_enter Try.func46, Try.ntmps46
  go_wp2
  go_ret
  exact ⟨rfl, HB.out⟩
set_option maxRecDepth 1000000 in
set_option maxHeartbeats 1600000 in
theorem indexZ_any (a : Option Addr) (vs : List (Int × Int)) (cap : Nat) (w : World) (hl : vs.length ≤ 1000) (hs : Rl w a vs) :
    Calls Try.prog 86 #[.slice a vs.length cap, .func (.func 46) #[] #[]] w fun e w' => e = .returned (.int .i64 (ixZ vs)) ∧ Below w.heap.size w w' := by
  have HS := Lib.hid hs; clear hs
  obtain ⟨n, hn⟩ : ∃ n, vs.length = n := ⟨_, rfl⟩
  have HN := Lib.hid hn
  rw [hn] at hl ⊢
  clear hn
  go_enter Try.func86, Try.ntmps86
  go_wp2
  go_loopw [8] (fun i wr => ∃ k : Nat, k ≤ n ∧ i = .int .i64 k ∧ Below w.heap.size w wr ∧ ∀ j, j < k → ∀ q, vs[j]? = some q → q.1 ≠ 0) (fun i _ => n - (intOf i).toNat)
  case atStart => exact ⟨0, Nat.zero_le _, rfl, Below.refl _ _, fun j h => by omega⟩
  case round =>
    obtain ⟨k, hk, rfl, hb, hno⟩ := hrel
    have HNO := Lib.hid hno; clear hno
    have HB := Lib.hid hb; clear hb
    by_cases hlt : k < n
    · obtain ⟨p, hp⟩ : ∃ p, vs[k]? = some p := ⟨_, List.getElem?_eq_getElem (by rw [HN.out]; exact hlt)⟩
      obtain ⟨b, rfl, c1, c2⟩ := (HS.out.below HB.out) k p hp
      have HP := Lib.hid hp
      obtain ⟨p1, p2⟩ := p
      dsimp only at c1 c2
      have hk0 : (k : Int) < (n : Int) := by omega
      obtain ⟨z, hz⟩ : ∃ z, (p1 == 0) = z := ⟨_, rfl⟩
      have HZ := Lib.hid hz
      have HZE : Hid (∀ W, Calls Try.prog 46 #[.agg #[.int .i64 p1, .int .i64 p2]] W fun e w' => e = .returned (.bool z) ∧ Below W.heap.size W w') := fun W => by rw [← hz]; exact zero_any p1 p2 W
      clear hz hp
      cases z with
      | true =>
        go_wp2_with (go_at_call 46; refine (HZE.out _).mono ?_; rintro e w5 ⟨rfl, hb5⟩)
        go_ret
        exact ⟨ret_i64 (ixZ_hit HNO.out HP.out (by simpa using HZ.out)).symm, HB.out.trans (hb5.mono HB.out.size)⟩
      | false =>
        go_wp2_with (go_at_call 46; refine (HZE.out _).mono ?_; rintro e w5 ⟨rfl, hb5⟩)
        go_roundw
        case rel => exact ⟨k + 1, by omega, by go_num, HB.out.trans (hb5.mono HB.out.size), fun j hj q hq => by
          by_cases e : j = k
          · subst e
            rw [HP.out] at hq
            obtain rfl := Option.some.inj hq
            simpa using HZ.out
          · exact HNO.out j (by omega) q hq⟩
        case measure => simp [intOf]; omega
    · obtain rfl : n = k := by omega
      have HE : Hid (ixZ vs = -1) := (ixZ_no fun j hj => HNO.out j (by rw [HN.out] at hj; exact hj)).1
      go_wp2
      go_ret
      exact ⟨ret_i64 HE.out.symm, HB.out⟩
set_option maxRecDepth 100000 in
theorem containsZ_any (a : Option Addr) (vs : List (Int × Int)) (cap : Nat) (w : World) (hl : vs.length ≤ 1000) (hs : Rl w a vs) :
    Calls Try.prog 67 #[.slice a vs.length cap, .func (.func 46) #[] #[]] w fun e w' => e = .returned (.bool (vs.any fun p => p.1 == 0)) ∧ Below w.heap.size w w' := by
  have HI := Lib.hid (indexZ_any a vs cap w hl hs); clear hs
  have HE : Hid (decide (0 ≤ ixZ vs) = vs.any fun p => p.1 == 0) := by
    show _ = _
    unfold ixZ
    cases vs.any fun p => p.1 == 0
    · simp
    · simp
  obtain ⟨x, hx⟩ : ∃ x, ixZ vs = x := ⟨_, rfl⟩
  rw [hx] at HI HE
  clear hx
  go_enter Try.func67, Try.ntmps67
  go_wp2_with (go_at_call 86; refine HI.out.mono ?_; rintro e w' ⟨rfl, hb⟩)
  go_ret
  exact ⟨ret_bool (by rw [← HE.out]), hb⟩
set_option maxHeartbeats 400000 in
theorem cloneN_any (ad : Addr) (xs : List Int) (cap : Nat) (w : World) (hl : xs.length * 8 ≤ 140737488351232) (hs : Sl w (some ad) xs) :
    Calls Try.prog 68 #[.slice (some ad) xs.length cap] w fun e w' =>
      ∃ a c, e = .returned (.slice a xs.length c) ∧ Sl w' a xs ∧ Below w.heap.size w w' ∧ ∀ ad, a = some ad → w.heap.size ≤ ad.block ∧ ad.block < w'.heap.size := by
  have HN : Hid (∀ (j : Nat) (u : Value), (xs.map (Value.int .i64))[j]? = some u → (w.alloc (.cells #[] 3)).cell? (ad.add j) = some u) := fun j u hu => by
    have hj : j < xs.length := by have := (List.getElem?_eq_some_iff.1 hu).1; simpa using this
    obtain ⟨b, off, e, h⟩ := (hs.alloc (.cells #[] 3)) j hj
    obtain rfl := Option.some.inj e
    rw [addr_add, h]
    simpa [hj] using hu
  clear hs
  have hown := World.ownsRow_lit (base := w.heap.size) (e := 3) (size := 1) w #[] 0 (Nat.le_refl _) (by unfold maxLen; omega) rfl
  have qT : ∀ (w : World) (a : Option Addr) (n c n' c' : Nat), (binOp .eql 24 (.slice a n c) (.slice none n' c')).run Try.prog w = .ok (.bool a.isNone) w := fun w a n c n' c' => Lib.run_eql_slice_nil w _ _ a n c n' c' Try.underlying24
  obtain ⟨i0, hi, hz0, hz1, hz2⟩ := info_parts Try.infoInt
  go_enter Try.func68, Try.ntmps68
  go_wp2_with (at_builtin; go_must (refine wpList_append_own _ rfl _ _ 24 rfl w.heap.size 3 i0 (.int .i64 0) 1 8 Try.underlying24 hi hz0 hz1 hz2 rfl (by decide) _ 0 [] rfl hown ad xs.length cap (xs.map (Value.int .i64)) rfl (by simp) HN.out (map_oneCell xs) (by unfold maxLen; omega) (by omega) (by simp) ?_); intro v' w1 hown' hgrow hnil)
  go_ret
  have ho : OwnI w1 w.heap.size v' xs := by simpa [OwnI] using hown'
  obtain ⟨a, c, rfl, h1, h2⟩ := ho.parts
  refine ⟨a, ⟨c, rfl⟩, h1, ?_, fun ad e => ⟨(h2 ad e).2, (h2 ad e).1⟩⟩
  exact ((Below.refl w.heap.size w).alloc (Nat.le_refl _) _).grown hgrow (by simp) (fun k e => by have : k = w.heap.size := (by simpa [Act.eval, Value.ownBlock] using e.symm); omega)
structure FitAt (W : World) (base : Nat) (qa : Option Addr) (px : List Int) (va : Option Addr) (vs : List (Int × Int)) : Prop where
  sl : Sl W qa px
  rl : Rl W va vs
  q : ∀ ad, qa = some ad → base ≤ ad.block ∧ ad.block < W.heap.size
  v : ∀ ad, va = some ad → base ≤ ad.block ∧ ad.block < W.heap.size
def fitO (wr : Int × Int → Bool) (m : List (List Int)) (y px : List Int) : Option (List (Int × Int)) := if (solveV m px y).2 = 0 then (if (solveV m px y).1.any wr = true then none else some (solveV m px y).1) else none
def FitPost (r : Option (List (Int × Int))) (px : List Int) (w : World) (e : Ending) (w' : World) : Prop :=
  Below w.heap.size w w' ∧ ((r = none ∧ e = .returned (.tuple #[.agg #[.slice none 0 0, .slice none 0 0], .bool false])) ∨ (∃ vs qa qc va vc, r = some vs ∧ e = .returned (.tuple #[.agg #[.slice qa px.length qc, .slice va vs.length vc], .bool true]) ∧ FitAt w' w.heap.size qa px va vs))
theorem solveV_len (m : List (List Int)) (px y : List Int) : (solveV m px y).1.length ≤ px.length := by
  unfold solveV
  split
  · split
    · split
      · split
        · simp
        · rw [solL_len]; exact Nat.le_refl _
      · simp
    · simp
  · simp
set_option maxRecDepth 1000000 in
set_option maxHeartbeats 1600000 in
theorem sfit_any (wf : Value) (wr : Int × Int → Bool) (ma : Option Addr) (m : List (List Int)) (mc : Nat) (ya : Option Addr) (y : List Int) (yc : Nat) (pb : Addr) (px : List Int) (pc : Nat) (w : World) (hm : MOk m) (hl : px.length ≤ 1000) (hly : y.length ≤ 1000) (hs : Ms w ma m) (hp : Sl w (some pb) px) (hy : Sl w ya y)
    (hw : ∀ W a vs cap, Below w.heap.size w W → vs.length ≤ 1000 → Rl W a vs → Calls Try.prog 67 #[.slice a vs.length cap, wf] W fun e w' => e = .returned (.bool (vs.any wr)) ∧ Below W.heap.size W w') :
    Calls Try.prog 44 #[.agg #[.slice ma m.length mc, .slice ya y.length yc], .slice (some pb) px.length pc, wf] w (FitPost (fitO wr m y px) px w) := by
  obtain ⟨V1, hV1⟩ : ∃ V1, w.alloc (.cells #[.slice ma m.length mc, .slice ya y.length yc] 49) = V1 := ⟨_, rfl⟩
  obtain ⟨V, hV⟩ : ∃ V, V1.alloc (.cells #[.slice none 0 0, .slice none 0 0] 41) = V := ⟨_, rfl⟩
  have hs1 : V1.heap.size = w.heap.size + 1 := by rw [← hV1]; exact World.size_alloc _ _
  have hs2 : V.heap.size = w.heap.size + 2 := by rw [← hV, World.size_alloc]; omega
  have hb1 : Below w.heap.size w V1 := by rw [← hV1]; exact (Below.refl _ _).alloc (Nat.le_refl _) _
  have hb2 : Below V1.heap.size V1 V := by rw [← hV]; exact (Below.refl _ _).alloc (Nat.le_refl _) _
  have HBV : Hid (Below w.heap.size w V) := hb1.trans (hb2.mono (by omega))
  have HQ := Lib.hid (box2 hV1)
  have HF := Lib.hid (box2 hV)
  obtain ⟨q0, q1, _, _⟩ := HQ.out V hb2
  obtain ⟨f0, f1, f2, f3⟩ := HF.out V (Below.refl _ _)
  have HS2 := Lib.hid hs2
  have HS1 := Lib.hid hs1
  have HV1B : Hid (w.heap.size ≤ V1.heap.size) := hb1.size
  have HSO : Hid (Calls Try.prog 66 #[.slice ma m.length mc, .slice (some pb) px.length pc, .slice ya y.length yc] V (RNPost (solveV m px y) V)) := lsolve_new ma m mc (some pb) px pc ya y yc V hm hl hly (hs.below HBV.out) (hp.below HBV.out) (hy.below HBV.out)
  have HFO : Hid (fitO wr m y px = if (solveV m px y).2 = 0 then (if (solveV m px y).1.any wr = true then none else some (solveV m px y).1) else none) := rfl
  have hvl := solveV_len m px y
  obtain ⟨⟨vs, e0⟩, hsv⟩ : ∃ r, solveV m px y = r := ⟨_, rfl⟩
  rw [hsv] at HSO HFO hvl
  dsimp only at hvl HFO
  have HP := Lib.hid hp
  have HCL : Hid (∀ W, Below w.heap.size w W → Calls Try.prog 68 #[.slice (some pb) px.length pc] W fun e w' => ∃ a c, e = .returned (.slice a px.length c) ∧ Sl w' a px ∧ Below W.heap.size W w' ∧ ∀ ad, a = some ad → W.heap.size ≤ ad.block ∧ ad.block < w'.heap.size) := fun W hb => cloneN_any pb px pc W (by omega) (HP.out.below hb)
  have HW := Lib.hid hw
  obtain ⟨pl, hpl⟩ : ∃ pl, px.length = pl := ⟨_, rfl⟩
  have HPL := Lib.hid hpl
  unfold FitPost
  rw [hpl] at HSO HCL hl hvl ⊢
  clear hm hs hp hy hw hs1 hs2 hb1 hb2 hsv hpl
  by_cases he0 : e0 = 0
  · subst he0
    rw [if_pos rfl] at HFO
    obtain ⟨z, hz⟩ : ∃ z, vs.any wr = z := ⟨_, rfl⟩
    rw [hz] at HFO
    have HCO : Hid (∀ W a cap, Below w.heap.size w W → Rl W a vs → Calls Try.prog 67 #[.slice a vs.length cap, wf] W fun e w' => e = .returned (.bool z) ∧ Below W.heap.size W w') := fun W a cap hb hr => by rw [← hz]; exact HW.out W a vs cap hb (by omega) hr
    clear hz HW
    cases z with
    | true =>
      have HFN : Hid (fitO wr m y px = none) := by show _ = _; rw [HFO.out]; rfl
      clear HFO
      go_enter Try.func44, Try.ntmps44
      go_wp2_with (first
        | (go_at_call 66; refine HSO.out.mono ?_; rintro e w2 ⟨hb2, va, vc, rfl, hrl, hnw⟩; dsimp only at hrl ⊢; have HB2 := Lib.hid hb2; have HBW2 : Hid (Below w.heap.size w w2) := HBV.out.trans (hb2.mono HBV.out.size); have HRL := Lib.hid hrl; clear hb2 hrl hnw)
        | (go_at_call 67; refine (HCO.out w2 va vc HBW2.out HRL.out).mono ?_; rintro e w3 ⟨rfl, hb3⟩; have HB3 : Hid (Below V.heap.size V w3) := HB2.out.trans (hb3.mono HB2.out.size); have HBW3 : Hid (Below w.heap.size w w3) := HBV.out.trans (HB3.out.mono HBV.out.size); obtain ⟨g0, g1, g2, g3⟩ := HF.out w3 HB3.out; clear hb3))
      refine bodyPost_ret (v := .tuple #[.agg #[.slice none 0 0, .slice none 0 0], .bool false]) ?_ rfl ⟨(HBW3.out.setCell (p := ⟨V1.heap.size, 0, none⟩) HV1B.out _).setCell (p := ⟨V1.heap.size, 1, none⟩) HV1B.out _, .inl ⟨HFN.out, rfl⟩⟩
      rw [results_cell_tmp rfl]; go_simp
    | false =>
      have HFS : Hid (fitO wr m y px = some vs) := by show _ = _; rw [HFO.out]; rfl
      clear HFO
      go_enter Try.func44, Try.ntmps44
      go_wp2_with (first
        | (go_at_call 66; refine HSO.out.mono ?_; rintro e w2 ⟨hb2, va, vc, rfl, hrl, hnw⟩; dsimp only at hrl ⊢; have HB2 := Lib.hid hb2; have HBW2 : Hid (Below w.heap.size w w2) := HBV.out.trans (hb2.mono HBV.out.size); have HRL := Lib.hid hrl; have HNW := Lib.hid hnw; clear hb2 hrl hnw)
        | (go_at_call 67; refine (HCO.out w2 va vc HBW2.out HRL.out).mono ?_; rintro e w3 ⟨rfl, hb3⟩; have HB3 : Hid (Below V.heap.size V w3) := HB2.out.trans (hb3.mono HB2.out.size); have HBW3 : Hid (Below w.heap.size w w3) := HBV.out.trans (HB3.out.mono HBV.out.size); have HRL3 := Lib.hid (HRL.out.below hb3); have HS3 : Hid (w2.heap.size ≤ w3.heap.size) := hb3.size; clear hb3)
        | (go_at_call 68; refine (HCL.out w3 HBW3.out).mono ?_; rintro e w4 ⟨qa, qc, rfl, hsl, hb4, hqn⟩; have HB4 : Hid (Below V.heap.size V w4) := HB3.out.trans (hb4.mono HB3.out.size); have HBW4 : Hid (Below w.heap.size w w4) := HBV.out.trans (HB4.out.mono HBV.out.size); have HRL4 := Lib.hid (HRL3.out.below hb4); have HS4 : Hid (w3.heap.size ≤ w4.heap.size) := hb4.size; have HSL := Lib.hid hsl; have HQN := Lib.hid hqn; obtain ⟨g0, g1, g2, g3⟩ := HF.out w4 HB4.out; clear hb4 hsl hqn))
      refine bodyPost_ret (v := .tuple #[.agg #[.slice qa pl qc, .slice va vs.length vc], .bool true]) ?_ rfl ⟨(HBW4.out.setCell (p := ⟨V1.heap.size, 0, none⟩) HV1B.out _).setCell (p := ⟨V1.heap.size, 1, none⟩) HV1B.out _, .inr ⟨vs, qa, qc, va, vc, HFS.out, rfl, ?_, ?_, ?_, ?_⟩⟩
      · rw [results_cell_tmp rfl]; go_simp
      · have h2 := HS2.out
        have h3 := HB3.out.size
        refine sl_apart (sl_apart HSL.out (fun ad e => ?_) _) (fun ad e => ?_) _
        · have := (HQN.out ad e).1; show ad.block ≠ V1.heap.size; have := HS1.out; omega
        · have := (HQN.out ad e).1; show ad.block ≠ V1.heap.size; have := HS1.out; omega
      · have h2 := HS2.out
        intro j p hj
        obtain ⟨b, e, c1, c2⟩ := HRL4.out j p hj
        have := (HNW.out _ e).1
        have hne : b ≠ V1.heap.size := by dsimp only at this; have := HS1.out; omega
        exact ⟨b, e, (cell_other _ _ _ _ hne).trans ((cell_other _ _ _ _ hne).trans c1), (cell_other _ _ _ _ hne).trans ((cell_other _ _ _ _ hne).trans c2)⟩
      · intro ad e
        have h1 := HQN.out ad e
        have h2 := HS2.out
        have h3 := HB3.out.size
        rw [World.size_setCell, World.size_setCell]
        omega
      · intro ad e
        have h1 := HNW.out ad e
        have h2 := HS2.out
        have h3 := HS3.out
        have h4 := HS4.out
        rw [World.size_setCell, World.size_setCell]
        omega
  · have HFN : Hid (fitO wr m y px = none) := by show _ = _; rw [HFO.out, if_neg he0]
    have y1 : (e0 == 0) = false := by simpa using he0
    have y2 : (e0 != 0) = true := by simpa using he0
    clear HFO he0 HW
    go_enter Try.func44, Try.ntmps44
    go_wp2_with (go_at_call 66; refine HSO.out.mono ?_; rintro e w2 ⟨hb2, va, vc, rfl, hrl, hnw⟩; dsimp only at hrl ⊢; have HB2 := Lib.hid hb2; have HBW2 : Hid (Below w.heap.size w w2) := HBV.out.trans (hb2.mono HBV.out.size); obtain ⟨g0, g1, g2, g3⟩ := HF.out w2 hb2; clear hb2 hrl hnw)
    refine bodyPost_ret (v := .tuple #[.agg #[.slice none 0 0, .slice none 0 0], .bool false]) ?_ rfl ⟨(HBW2.out.setCell (p := ⟨V1.heap.size, 0, none⟩) HV1B.out _).setCell (p := ⟨V1.heap.size, 1, none⟩) HV1B.out _, .inl ⟨HFN.out, rfl⟩⟩
    rw [results_cell_tmp rfl]; go_simp
end Go.Proofs.Ytfnomiingelfaaa
/- Sets of a size, one after the other: the next one by its last number that can grow. Plain words. Speaks of no program. -/
namespace Go.Proofs.Ytfnomiingelfaaa
open Go.RowKit

def upFrom (a : Int) : Nat → List Int
  | 0 => []
  | k + 1 => a :: upFrom (a + 1) k
theorem upFrom_len (a : Int) : ∀ k, (upFrom a k).length = k
  | 0 => rfl
  | k + 1 => by show (upFrom (a + 1) k).length + 1 = k + 1; rw [upFrom_len]
theorem upFrom_gt : ∀ (k j : Nat) (a : Int), j < k → gt (upFrom a k) j = a + j
  | 0, j, a, h => by omega
  | k + 1, 0, a, h => by show a = a + (0 : Nat); omega
  | k + 1, j + 1, a, h => by
    show gt (upFrom (a + 1) k) j = a + (j + 1 : Nat)
    rw [upFrom_gt k j (a + 1) (by omega)]; omega
def nextS (n : Nat) : List Int → Option (List Int)
  | [] => none
  | x :: t => match nextS n t with
    | some t' => some (x :: t')
    | none => if x + 1 + t.length < n then some (upFrom (x + 1) (t.length + 1)) else none
theorem nextS_some {n : Nat} {x : Int} {t t' : List Int} (h : nextS n t = some t') : nextS n (x :: t) = some (x :: t') := by unfold nextS; rw [h]
theorem nextS_none {n : Nat} {x : Int} {t : List Int} (h : nextS n t = none) : nextS n (x :: t) = if x + 1 + t.length < n then some (upFrom (x + 1) (t.length + 1)) else none := by
  conv => lhs; unfold nextS
  rw [h]
def RunS (n : Nat) (L : List (List Int)) : Prop := (∀ i, i + 1 < L.length → nextS n (rowL L i) = some (rowL L (i + 1))) ∧ nextS n (rowL L (L.length - 1)) = none
theorem compl_head_is {n : Nat} : ∀ (r b : Nat), r + b ≤ n → (compl n r b).length ≠ 0 ∧ rowL (compl n r b) 0 = upFrom b r
  | 0, b, _ => by simp [compl, rowL, upFrom]
  | r + 1, b, h => by
    obtain ⟨k, hk⟩ : ∃ k, n - r - b = k + 1 := ⟨n - r - b - 1, by omega⟩
    obtain ⟨h1, h2⟩ := compl_head_is (n := n) r (b + 0 + 1) (by omega)
    have e : compl n (r + 1) b = ((compl n r (b + 0 + 1)).map fun s => ((b + 0 : Nat) : Int) :: s) ++ ((List.range k).flatMap fun d => (compl n r (b + (d + 1) + 1)).map fun s => ((b + (d + 1) : Nat) : Int) :: s) := by
      show ((List.range (n - r - b)).flatMap fun d => (compl n r (b + d + 1)).map fun s => ((b + d : Nat) : Int) :: s) = _
      rw [hk, List.range_succ_eq_map, List.flatMap_cons, flatMap_map']
    match hl : compl n r (b + 0 + 1) with
    | [] => rw [hl] at h1; exact absurd rfl h1
    | s :: L =>
      rw [hl] at e h2
      rw [e]
      have h2 : s = upFrom ((b + 0 + 1 : Nat) : Int) r := h2
      subst h2
      exact ⟨by simp, by show ((b + 0 : Nat) : Int) :: upFrom ((b + 0 + 1 : Nat) : Int) r = (b : Int) :: upFrom ((b : Int) + 1) r; simp⟩
theorem rowL_app1 {A B : List (List Int)} {i : Nat} (h : i < A.length) : rowL (A ++ B) i = rowL A i := by unfold rowL; rw [List.getElem?_append_left h]
theorem rowL_app2 {A B : List (List Int)} {i : Nat} (h : A.length ≤ i) : rowL (A ++ B) i = rowL B (i - A.length) := by unfold rowL; rw [List.getElem?_append_right h]
theorem rowL_mapS {A : List (List Int)} {f : List Int → List Int} {i : Nat} (h : i < A.length) : rowL (A.map f) i = f (rowL A i) := by unfold rowL; simp [h]
theorem RunS.join {n : Nat} {A B : List (List Int)} (hA : ∀ i, i + 1 < A.length → nextS n (rowL A i) = some (rowL A (i + 1))) (_ha : A.length ≠ 0) (hB : RunS n B) (hb : B.length ≠ 0) (hl : nextS n (rowL A (A.length - 1)) = some (rowL B 0)) : RunS n (A ++ B) := by
  constructor
  · intro i hi
    rw [List.length_append] at hi
    by_cases h1 : i + 1 < A.length
    · rw [rowL_app1 (by omega), rowL_app1 h1]; exact hA i h1
    · by_cases h2 : i < A.length
      · obtain rfl : i = A.length - 1 := by omega
        rw [rowL_app1 h2, rowL_app2 (by omega), hl, show A.length - 1 + 1 - A.length = 0 by omega]
      · rw [rowL_app2 (by omega), rowL_app2 (by omega), show i + 1 - A.length = (i - A.length) + 1 by omega]
        exact hB.1 _ (by omega)
  · rw [List.length_append, rowL_app2 (by omega), show A.length + B.length - 1 - A.length = B.length - 1 by omega]
    exact hB.2
theorem compl_run {n : Nat} : ∀ (r b : Nat), r + b ≤ n → RunS n (compl n r b)
  | 0, b, _ => ⟨fun i h => by simp [compl] at h, rfl⟩
  | r + 1, b, h => by
    have seg : ∀ d, r + (b + d + 1) ≤ n → (∀ i, i + 1 < ((compl n r (b + d + 1)).map fun s => ((b + d : Nat) : Int) :: s).length → nextS n (rowL ((compl n r (b + d + 1)).map fun s => ((b + d : Nat) : Int) :: s) i) = some (rowL ((compl n r (b + d + 1)).map fun s => ((b + d : Nat) : Int) :: s) (i + 1))) ∧ nextS n (rowL ((compl n r (b + d + 1)).map fun s => ((b + d : Nat) : Int) :: s) (((compl n r (b + d + 1)).map fun s => ((b + d : Nat) : Int) :: s).length - 1)) = if ((b + d : Nat) : Int) + 1 + r < n then some (upFrom (((b + d : Nat) : Int) + 1) (r + 1)) else none := fun d hd => by
      have ih := compl_run r (b + d + 1) hd
      have hne := (compl_head_is r (b + d + 1) hd).1
      constructor
      · intro i hi
        rw [List.length_map] at hi
        rw [rowL_mapS (by omega), rowL_mapS hi]
        exact nextS_some (ih.1 i hi)
      · rw [List.length_map, rowL_mapS (by omega), nextS_none ih.2]
        have hl : (rowL (compl n r (b + d + 1)) ((compl n r (b + d + 1)).length - 1)).length = r := (compl_mem (rowL_mem (show (compl n r (b + d + 1)).length - 1 < _ by omega))).1
        rw [hl]
    have key : ∀ k d, k + d = n - r - b → 1 ≤ k → RunS n ((List.range k).flatMap fun e => (compl n r (b + (d + e) + 1)).map fun s => ((b + (d + e) : Nat) : Int) :: s) ∧ rowL ((List.range k).flatMap fun e => (compl n r (b + (d + e) + 1)).map fun s => ((b + (d + e) : Nat) : Int) :: s) 0 = upFrom ((b + d : Nat) : Int) (r + 1) ∧ ((List.range k).flatMap fun e => (compl n r (b + (d + e) + 1)).map fun s => ((b + (d + e) : Nat) : Int) :: s).length ≠ 0 := by
      intro k
      induction k with
      | zero => intro d _ h1; omega
      | succ k ih =>
        intro d hd _
        obtain ⟨s1, s2⟩ := seg d (by omega)
        obtain ⟨h1, h2⟩ := compl_head_is (n := n) r (b + d + 1) (by omega)
        have e0 : ((List.range (k + 1)).flatMap fun e => (compl n r (b + (d + e) + 1)).map fun s => ((b + (d + e) : Nat) : Int) :: s) = ((compl n r (b + d + 1)).map fun s => ((b + d : Nat) : Int) :: s) ++ ((List.range k).flatMap fun e => (compl n r (b + (d + 1 + e) + 1)).map fun s => ((b + (d + 1 + e) : Nat) : Int) :: s) := by
          rw [List.range_succ_eq_map, List.flatMap_cons, flatMap_map', Nat.add_zero]
          congr 1
          exact flatMap_congr' fun e _ => by rw [show d + e.succ = d + 1 + e by omega]
        rw [e0]
        have hal : ((compl n r (b + d + 1)).map fun s => ((b + d : Nat) : Int) :: s).length ≠ 0 := by rw [List.length_map]; exact h1
        have hhead : rowL ((compl n r (b + d + 1)).map fun s => ((b + d : Nat) : Int) :: s) 0 = upFrom ((b + d : Nat) : Int) (r + 1) := by
          rw [rowL_mapS (by omega), h2]
          show ((b + d : Nat) : Int) :: upFrom ((b + d + 1 : Nat) : Int) r = ((b + d : Nat) : Int) :: upFrom (((b + d : Nat) : Int) + 1) r
          rw [show ((b + d + 1 : Nat) : Int) = ((b + d : Nat) : Int) + 1 by omega]
        by_cases hk : k = 0
        · subst hk
          rw [if_neg (by omega)] at s2
          rw [show (List.range 0).flatMap (fun e => (compl n r (b + (d + 1 + e) + 1)).map fun s => ((b + (d + 1 + e) : Nat) : Int) :: s) = [] from rfl, List.append_nil]
          exact ⟨⟨s1, s2⟩, hhead, hal⟩
        · obtain ⟨i1, i2, i3⟩ := ih (d + 1) (by omega) (by omega)
          rw [if_pos (by omega)] at s2
          refine ⟨RunS.join s1 hal i1 i3 ?_, ?_, by rw [List.length_append]; omega⟩
          · rw [s2, i2, show ((b + (d + 1) : Nat) : Int) = ((b + d : Nat) : Int) + 1 by omega]
          · rw [rowL_app1 (by omega)]; exact hhead
    have := (key (n - r - b) 0 (by omega) (by omega)).1
    have e : compl n (r + 1) b = (List.range (n - r - b)).flatMap fun e => (compl n r (b + (0 + e) + 1)).map fun s => ((b + (0 + e) : Nat) : Int) :: s := by
      show ((List.range (n - r - b)).flatMap fun d => (compl n r (b + d + 1)).map fun s => ((b + d : Nat) : Int) :: s) = _
      exact flatMap_congr' fun d _ => by rw [Nat.zero_add]
    rw [e]; exact this
theorem nextS_last {n : Nat} : ∀ (s : List Int), (∀ j, j < s.length → gt s j = (n : Int) - s.length + j) → nextS n s = none
  | [], _ => rfl
  | x :: t, h => by
    have h0 := h 0 (by simp)
    have hx : x = (n : Int) - (t.length + 1 : Nat) := by
      have : gt (x :: t) 0 = x := rfl
      rw [this, List.length_cons] at h0; omega
    rw [nextS_none (nextS_last t fun j hj => ?_), if_neg (by omega)]
    have := h (j + 1) (by rw [List.length_cons]; omega)
    rw [List.length_cons] at this
    have e : gt (x :: t) (j + 1) = gt t j := rfl
    rw [e] at this
    omega
theorem nextS_at {n : Nat} : ∀ (s : List Int) (i : Nat), s.Pairwise (· < ·) → (∀ j ∈ s, 0 ≤ j ∧ j < (n : Int)) → i < s.length → gt s i ≠ (n : Int) - s.length + i → (∀ j, i < j → j < s.length → gt s j = (n : Int) - s.length + j) → nextS n s = some (s.take i ++ upFrom (gt s i + 1) (s.length - i))
  | [], i, _, _, h, _, _ => by simp at h
  | x :: t, 0, hp, hb, _, hne, hl => by
    have hx : gt (x :: t) 0 = x := rfl
    have hxb := hb x List.mem_cons_self
    rw [List.pairwise_cons] at hp
    have hpl := pw_len t (x.toNat + 1) n (by omega) hp.2 fun j hj => by
      have := hp.1 j hj
      have := hb j (List.mem_cons_of_mem _ hj)
      omega
    rw [nextS_none (nextS_last t fun j hj => ?_)]
    · rw [hx, List.length_cons] at hne
      rw [if_pos (by omega)]; rfl
    · have := hl (j + 1) (by omega) (by rw [List.length_cons]; omega)
      rw [List.length_cons] at this
      have e : gt (x :: t) (j + 1) = gt t j := rfl
      rw [e] at this
      omega
  | x :: t, i + 1, hp, hb, hi, hne, hl => by
    rw [List.pairwise_cons] at hp
    have e : ∀ j, gt (x :: t) (j + 1) = gt t j := fun j => rfl
    rw [List.length_cons] at hi
    have ih := nextS_at t i hp.2 (fun j hj => hb j (List.mem_cons_of_mem _ hj)) (by omega) (by
      rw [e, List.length_cons] at hne
      intro h2; apply hne; rw [h2]; omega) fun j h1 h2 => by
        have := hl (j + 1) (by omega) (by rw [List.length_cons]; omega)
        rw [e, List.length_cons] at this
        omega
    rw [nextS_some ih, e, List.length_cons, show t.length + 1 - (i + 1) = t.length - i by omega]
    rfl
end Go.Proofs.Ytfnomiingelfaaa
/- sets and advance of layer 4: contracts. -/
namespace Go.Proofs.Ytfnomiingelfaaa
open Go.RowKit Go.Shelf

def stepS (s : List Int) (i : Nat) (x : Int) (q : Nat) : List Int := (List.range s.length).map fun j => if i ≤ j ∧ j < q then x + ((j : Int) - i) else gt s j
theorem stepS_len (s : List Int) (i : Nat) (x : Int) (q : Nat) : (stepS s i x q).length = s.length := by simp [stepS]
theorem stepS_start (s : List Int) (i : Nat) (x : Int) : stepS s i x i = s := by
  refine list_ext_gt (stepS_len _ _ _ _) fun k hk => ?_
  rw [stepS_len] at hk
  unfold stepS
  rw [gt_map_range _ hk, if_neg (by omega)]
theorem stepS_succ {s : List Int} {i : Nat} {x : Int} {q : Nat} (hi : i ≤ q) (hq : q < s.length) : (stepS s i x q).set q (x + q - i) = stepS s i x (q + 1) := by
  refine list_ext_gt (by rw [List.length_set, stepS_len, stepS_len]) fun k hk => ?_
  rw [List.length_set, stepS_len] at hk
  rw [gt_set (by rw [stepS_len]; exact hq)]
  unfold stepS
  rw [gt_map_range _ hk, gt_map_range _ hk]
  by_cases e : k = q
  · subst e; rw [if_pos rfl, if_pos (by omega)]; omega
  · rw [if_neg e]
    by_cases h : i ≤ k ∧ k < q
    · rw [if_pos h, if_pos (by omega)]
    · rw [if_neg h, if_neg (by omega)]
theorem stepS_end {s : List Int} {i : Nat} {x : Int} (hi : i < s.length) : stepS s i x s.length = s.take i ++ upFrom x (s.length - i) := by
  refine list_ext_gt (by rw [stepS_len, List.length_append, List.length_take, upFrom_len]; omega) fun k hk => ?_
  rw [stepS_len] at hk
  unfold stepS
  rw [gt_map_range _ hk]
  by_cases h : k < i
  · rw [if_neg (by omega)]
    unfold gt
    rw [List.getElem?_append_left (by rw [List.length_take]; omega), List.getElem?_take, if_pos h]
  · have e : gt (s.take i ++ upFrom x (s.length - i)) k = gt (upFrom x (s.length - i)) (k - i) := by
      unfold gt
      rw [List.getElem?_append_right (by rw [List.length_take]; omega), List.length_take, show min i s.length = i by omega]
    rw [if_pos (by omega), e, upFrom_gt _ _ _ (by omega)]; omega
set_option maxRecDepth 1000000 in
set_option maxHeartbeats 2000000 in
theorem advance_any (SB r n : Nat) (s : List Int) (hn : n ≤ 100) (hr : r ≤ 100) (hp : s.Pairwise (· < ·)) (hb : ∀ j ∈ s, 0 ≤ j ∧ j < (n : Int)) (hl : s.length = r) (w : World) (ho : OwnI w 0 (.slice (some ⟨SB, 0, none⟩) r r) s) :
    Calls Try.prog 65 #[.slice (some ⟨SB, 0, none⟩) r r, .int .i64 n] w fun e w' => (nextS n s = none ∧ e = .returned (.bool false) ∧ w' = w) ∨ (∃ s', nextS n s = some s' ∧ e = .returned (.bool true) ∧ OwnI w' 0 (.slice (some ⟨SB, 0, none⟩) r r) s' ∧ Turned (fun b => b = SB) w w') := by
  have HO := Lib.hid ho
  have HL := Lib.hid hl
  have HLAST : Hid ((∀ j, j < r → gt s j = (n : Int) - r + j) → nextS n s = none) := fun h => nextS_last s fun j hj => by rw [hl]; exact h j (by omega)
  have HAT : Hid (∀ i, i < r → gt s i ≠ (n : Int) - r + i → (∀ j, i < j → j < r → gt s j = (n : Int) - r + j) → nextS n s = some (stepS s i (gt s i + 1) r)) := fun i hi h1 h2 => by
    have k := nextS_at s i hp hb (by omega) (by rw [hl]; exact h1) fun j h3 h4 => by rw [hl]; exact h2 j h3 (by omega)
    rw [k, ← stepS_end (by omega), hl]
  have HBD : Hid (∀ i, i < r → 0 ≤ gt s i ∧ gt s i < n) := fun i hi => hb _ (mem_gt.2 ⟨i, by omega, rfl⟩)
  clear ho hl hp hb
  go_enter Try.func65, Try.ntmps65
  go_wp2
  go_loopw [5] (fun iv wr => ∃ k : Nat, k ≤ r ∧ iv = .int .i64 ((k : Int) - 1) ∧ wr = w ∧ ∀ j, k ≤ j → j < r → gt s j = (n : Int) - r + j) (fun iv _ => (intOf iv + 1).toNat)
  case atStart => exact ⟨r, Nat.le_refl _, rfl, rfl, fun j h1 h2 => by omega⟩
  case round =>
    obtain ⟨k, hk, rfl, rfl, hmax⟩ := hrel
    have HMX := Lib.hid hmax; clear hmax
    cases k with
    | zero =>
      have HNO := Lib.hid (HLAST.out fun j hj => HMX.out j (Nat.zero_le _) hj)
      go_wp2
      go_ret
      exact .inl ⟨HNO.out, rfl, rfl⟩
    | succ t =>
      have e1 : ((t + 1 : Nat) : Int) - 1 = (t : Int) := by omega
      rw [e1]
      have htr : t < r := by omega
      have ht0 : (t : Int) < (r : Int) := by omega
      obtain ⟨cz0, fz⟩ := HO.out.cell (j := t) (by rw [HL.out]; exact htr)
      have cz : wr.cell? ⟨SB, t, none⟩ = some (.int .i64 (gt s t)) := cz0
      have hbd := HBD.out t htr
      obtain ⟨x, hx⟩ : ∃ x, gt s t = x := ⟨_, rfl⟩
      have HX := Lib.hid hx
      rw [hx] at cz hbd
      clear hx e1 fz cz0
      by_cases hm : x = (n : Int) - r + t
      · have HM := Lib.hid hm
        clear hm
        have y1 : (x == (n : Int) - r + t) = true := by rw [HM.out]; simp
        have y2 : decide (x = (n : Int) - r + t) = true := by rw [HM.out]; simp
        go_wp2
        go_roundw
        case rel => exact ⟨t, by omega, by first | rfl | go_num, by first | trivial | rfl, fun j h1 h2 => by
          by_cases e : j = t
          · subst e; rw [HX.out]; exact HM.out
          · exact HMX.out j (by omega) h2⟩
        case measure => simp [intOf]
      · have y1 : (x == (n : Int) - r + t) = false := by simpa using hm
        have y2 : decide (x = (n : Int) - r + t) = false := by simpa using hm
        have HNX : Hid (nextS n s = some (stepS s t (x + 1) r)) := by
          have k := HAT.out t htr (by rw [HX.out]; exact hm) fun j h1 h2 => HMX.out j (by omega) h2
          rw [HX.out] at k; exact k
        clear hm
        go_wp2
        clear cz
        obtain ⟨wk, hwk⟩ : ∃ wk, wk = wr := ⟨_, rfl⟩
        subst hwk
        go_loopw [7] (fun kv wr2 => ∃ q : Nat, t ≤ q ∧ q ≤ r ∧ kv = .int .i64 q ∧ OwnI wr2 0 (.slice (some ⟨SB, 0, none⟩) r r) (stepS s t (x + 1) q) ∧ Turned (fun b => b = SB) wk wr2) (fun kv _ => r - (intOf kv).toNat)
        case atStart => exact ⟨t, Nat.le_refl _, by omega, rfl, by rw [stepS_start]; exact HO.out, Turned.refl _ _⟩
        case round =>
          obtain ⟨q, h1, h2, rfl, hO2, hT2⟩ := hrel
          have HO2 := Lib.hid hO2; clear hO2
          have HT2 := Lib.hid hT2; clear hT2
          by_cases hlt : q < r
          · obtain ⟨cz, fz⟩ := HO2.out.cell (j := q) (by rw [stepS_len, HL.out]; exact hlt)
            have hq0 : (q : Int) < (r : Int) := by omega
            have HST : Hid (OwnI (wr.setCell ⟨SB, q, none⟩ (.int .i64 (x + 1 + q - t))) 0 (.slice (some ⟨SB, 0, none⟩) r r) (stepS s t (x + 1) (q + 1))) := by
              have h := HO2.out.stored q (x + 1 + q - t)
              rw [stepS_succ h1 (by rw [HL.out]; exact hlt)] at h
              exact h
            have HT3 : Hid (Turned (fun b => b = SB) wk (wr.setCell ⟨SB, q, none⟩ (.int .i64 (x + 1 + q - t)))) := HT2.out.trans (turned_set (T := fun b => b = SB) _ _ rfl) fun b e => .inl e
            go_wp2
            go_roundw
            case rel => exact ⟨q + 1, by omega, by omega, by go_num, HST.out, HT3.out⟩
            case measure => simp [intOf]; omega
          · obtain rfl : q = r := by omega
            go_wp2
            go_ret
            exact .inr ⟨_, HNX.out, rfl, HO2.out, HT2.out⟩
theorem ssets_any (n size : Int) (w : World) : Calls Try.prog 43 #[.int .i64 n, .int .i64 size] w fun e w' =>
    e = .returned (.func (.func 64) #[] #[.pointer (some ⟨w.heap.size + 1, 0, none⟩), .pointer (some ⟨w.heap.size, 0, none⟩)]) ∧ w' = (w.alloc (.cells #[.int .i64 n] 3)).alloc (.cells #[.int .i64 size] 3) := by
  go_enter Try.func43, Try.ntmps43
  go_wp2
  go_ret
  exact ⟨rfl, rfl⟩
theorem wpListIn_make_full {F : Fence} {n : Nat} {P : Program} (w : World) {ops : Array Oper} {rest : List Oper} {o : Oper} {a : Act} {Q : Exit → Act → World → Prop}
    (hg : o.guard = none) (l c : Operand) (t : TypeId) (hop : o.op = Op.makeSlice t l c)
    (base : Nat) (e : TypeId) (i : TypeInfo) (z : Value) (size : Nat) (h1 : P.underlying t = some (.slice e)) (h2 : P.info? e = some i) (h3 : i.zero = some z) (h4 : i.size = size)
    (kl kc : IntKind) (L C : Int) (m : Nat) (hl : a.eval l = .int kl L) (hc : a.eval c = .int kc C) (hL : L = (m : Int)) (hC : C = (m : Int)) (b2 : i.bytes * m ≤ 281474976710656) (b3 : m ≤ maxLen) (b4 : base ≤ w.heap.size)
    (hK : ∀ w', w'.ownsRow base e size (.slice (some ⟨w.heap.size, 0, none⟩) m m) m (madeCells z.cells (m * size)).toList → w.grownBy w' none → wpListIn F n P ops Q rest (a.put o.dst (.slice (some ⟨w.heap.size, 0, none⟩) m m)) w') :
    wpListIn F n P ops Q (o :: rest) a w := by
  refine wpListIn_plain hg fun K hK' => ?_
  obtain ⟨w', hrun, r1, r2⟩ := run_make_full (P := P) w base t e i z size h1 h2 h3 h4 kl kc m b2 b3 b4
  subst hL
  subst hC
  unfold Oper.wpIn
  refine ⟨?_, ?_⟩
  · simp [Oper.about, hop]
  · rw [Oper.semAt_plain F _ _ (by rw [hop]; intro c hc'; cases hc')]
    simp [execOp, hop, hl, hc, hrun, Result.andThen]
    exact hK' _ _ (hK w' r1 r2)
end Go.Proofs.Ytfnomiingelfaaa
/- sets of layer 4: the contract of what it hands back. -/
namespace Go.Proofs.Ytfnomiingelfaaa
open Go.RowKit Go.Shelf
attribute [local go_sem] Oper.semAt_some

theorem stepS_all (s : List Int) (x : Int) : stepS s 0 x s.length = upFrom x s.length := by
  cases s with
  | nil => rfl
  | cons a t => rw [stepS_end (by simp)]; simp
theorem rows_split {Z : List (List Int)} {i : Nat} (h : i < Z.length) : Z = Z.take i ++ rowL Z i :: Z.drop (i + 1) := by
  conv => lhs; rw [← List.take_append_drop i Z, List.drop_eq_getElem_cons h]
  have : rowL Z i = Z[i] := by unfold rowL; simp [h]
  rw [this]
theorem take_row {Z : List (List Int)} {i : Nat} (h : i < Z.length) : Z.take (i + 1) = Z.take i ++ [rowL Z i] := by
  rw [List.take_succ_eq_append_getElem h]
  have : rowL Z i = Z[i] := by unfold rowL; simp [h]
  rw [this]
set_option maxRecDepth 1000000 in
set_option maxHeartbeats 4000000 in
theorem ssets1_seq (n size S N : Nat) (hn : n ≤ 100) (hs : size ≤ n) (w : World) (hS : w.cell? ⟨S, 0, none⟩ = some (.int .i64 size)) (hN : w.cell? ⟨N, 0, none⟩ = some (.int .i64 n)) :
    SeqM Try.prog 64 #[.pointer (some ⟨S, 0, none⟩), .pointer (some ⟨N, 0, none⟩)] encS MemS (fun _ _ => False) Prod.snd (compl n size 0) (fun b => b = S ∨ b = N) w := by
  intro l J Jx C T W hW hJ hJx hneed hY h0
  obtain ⟨i0, hi, hz0, hz1, hz2⟩ := info_parts Try.infoInt
  have cS : W.cell? ⟨S, 0, none⟩ = some (.int .i64 size) := (hW.cell (p := ⟨S, 0, none⟩) (cell_lt hS)).trans hS
  have cN : W.cell? ⟨N, 0, none⟩ = some (.int .i64 n) := (hW.cell (p := ⟨N, 0, none⟩) (cell_lt hN)).trans hN
  have LN : Hid (N < W.heap.size) := cell_lt cN
  have HY := Lib.hid hY
  have H0 := Lib.hid h0
  have HNEED : Hid (¬ C N) := hneed N (.inr rfl)
  have HN := Lib.hid cN
  obtain ⟨Z, hZ⟩ : ∃ Z, compl n size 0 = Z := ⟨_, rfl⟩
  have hrun := compl_run (n := n) size 0 (by omega)
  have hhead := compl_head_is (n := n) size 0 (by omega)
  have HROW : Hid (∀ i, i < Z.length → (rowL Z i).length = size ∧ (rowL Z i).Pairwise (· < ·) ∧ ∀ j ∈ rowL Z i, 0 ≤ j ∧ j < (n : Int)) := fun i hi => by
    have hm : rowL Z i ∈ compl n size 0 := by rw [hZ]; exact rowL_mem hi
    have h1 := compl_mem hm
    exact ⟨h1.1, compl_asc hm, fun j hj => by have := h1.2 j hj; omega⟩
  rw [hZ] at hrun hhead HY ⊢
  have HRUN := Lib.hid hrun
  have HHEAD := Lib.hid hhead
  clear hY h0 hneed hS hN hW cN hrun hhead hZ
  show Calls _ _ (#[.func (.yield l) #[] #[], .pointer (some ⟨S, 0, none⟩), .pointer (some ⟨N, 0, none⟩)]) _ _
  refine (callsIn_wide (n := 50)).1 ?_
  refine callsIn_of_wp Try.func64 rfl trivial ?_ rfl
  simp only [Try.ntmps64, List.size_toArray, List.length_cons, List.length_nil, Nat.reduceAdd, Nat.reduceSub, Array.replicate_succ, Array.replicate_zero, List.push_toArray, List.append_toArray, List.nil_append, List.cons_append]
  gi_wp2_with (gi_at_make; with_reducible refine wpListIn_make_full _ rfl (.tmp 6) (.tmp 6) 24 rfl W.heap.size 3 i0 (.int .i64 0) 1 Try.underlying24 hi hz0 hz1 .i64 .i64 (size : Int) (size : Int) size rfl rfl rfl rfl (by rw [hz2]; omega) (by unfold maxLen; omega) (Nat.le_refl _) ?_)
  rotate_left
  intro w5 hown hgrow
  have hb5 : Below W.heap.size W w5 := (Below.refl _ _).grown hgrow (Nat.le_refl _) (fun k e => by cases e)
  have hown2 : OwnI w5 W.heap.size (.slice (some ⟨W.heap.size, 0, none⟩) size size) (List.replicate size 0) := by
    have z := zeros_are size
    rw [Nat.mul_one] at z
    show w5.ownsRow _ _ _ _ _ _
    rw [List.length_replicate, ← z]; exact hown
  have HO5 : Hid (OwnI w5 0 (.slice (some ⟨W.heap.size, 0, none⟩) size size) (List.replicate size 0)) := hown2.mono (Nat.zero_le _)
  have HB5 := Lib.hid hb5
  obtain ⟨SB, hSB⟩ : ∃ SB, W.heap.size = SB := ⟨_, rfl⟩
  rw [hSB] at HO5 HB5 ⊢
  have HSB := Lib.hid hSB
  clear hown hown2 hgrow hb5 cS hSB
  gi_wp2
  gi_loopw [10] (fun i wr => ∃ k : Nat, k ≤ size ∧ i = .int .i64 (k : Int) ∧ OwnI wr 0 (.slice (some ⟨SB, 0, none⟩) size size) (stepS (List.replicate size 0) 0 0 k) ∧ Below SB W wr) (fun i _ => size - (intOf i).toNat)
  case atStart => exact ⟨0, Nat.zero_le _, rfl, by rw [stepS_start]; exact HO5.out, HB5.out⟩
  case round =>
    obtain ⟨k, hk, rfl, hO, hB⟩ := hrel
    have HO := Lib.hid hO; clear hO
    have HB := Lib.hid hB; clear hB
    by_cases hlt : k < size
    · obtain ⟨cz, fz⟩ := HO.out.cell (j := k) (by rw [stepS_len, List.length_replicate]; exact hlt)
      have hk0 : (k : Int) < (size : Int) := by omega
      have HST : Hid (OwnI (wr.setCell ⟨SB, k, none⟩ (.int .i64 (k : Int))) 0 (.slice (some ⟨SB, 0, none⟩) size size) (stepS (List.replicate size 0) 0 0 (k + 1))) := by
        have h := HO.out.stored k (k : Int)
        have e := stepS_succ (s := List.replicate size 0) (i := 0) (x := 0) (q := k) (Nat.zero_le _) (by rw [List.length_replicate]; exact hlt)
        rw [show (0 : Int) + (k : Int) - ((0 : Nat) : Int) = (k : Int) by omega] at e
        rw [e] at h
        exact h
      have HB2 : Hid (Below SB W (wr.setCell ⟨SB, k, none⟩ (.int .i64 (k : Int)))) := HB.out.setCell (p := ⟨SB, k, none⟩) (Nat.le_refl _) _
      gi_wp2
      go_roundw
      case rel => exact ⟨k + 1, by omega, by go_num, HST.out, HB2.out⟩
      case measure => simp [intOf]; omega
    · obtain rfl : k = size := by omega
      have HO6 : Hid (OwnI wr 0 (.slice (some ⟨SB, 0, none⟩) k k) (rowL Z 0)) := by
        have h := HO.out
        have e := stepS_all (List.replicate k 0) 0
        rw [List.length_replicate] at e
        rw [e] at h
        rw [HHEAD.out.2]; exact h
      have HLTN : Hid (N < SB) := by rw [← HSB.out]; exact LN.out
      have HJ6 : Hid (∃ pre C2 T2, pre.map Prod.snd = Z.take 0 ∧ J pre C2 T2 wr ∧ T2 SB ∧ ¬ C2 N) := ⟨[], C, fun b => T b ∨ W.heap.size ≤ b, rfl, hJ.keep H0.out (turned_below (by rw [HSB.out]; exact HB.out)) (fun b e => e), .inr (by rw [HSB.out]; exact Nat.le_refl _), HNEED.out⟩
      have hcN : wr.cell? ⟨N, 0, none⟩ = some (.int .i64 n) := (HB.out.cell (p := ⟨N, 0, none⟩) HLTN.out).trans HN.out
      have HCN := Lib.hid hcN
      have hZ0 : 0 < Z.length := Nat.pos_of_ne_zero HHEAD.out.1
      clear HO HB hcN
      gi_wp2
      gi_loopg [] Z.length (fun g wr => ∃ (i : Nat) (pre : List SetV) (C2 T2 : Blk), i < Z.length ∧ g = Z.length - i ∧ pre.map Prod.snd = Z.take i ∧ J pre C2 T2 wr ∧ T2 SB ∧ ¬ C2 N ∧ OwnI wr 0 (.slice (some ⟨SB, 0, none⟩) k k) (rowL Z i) ∧ wr.cell? ⟨N, 0, none⟩ = some (.int .i64 n))
      case atStart =>
        obtain ⟨pre, C2, T2, h1, h2, h3, h4⟩ := HJ6.out
        exact ⟨0, pre, C2, T2, hZ0, rfl, h1, h2, h3, h4, HO6.out, HCN.out⟩
      case round =>
        clear HO6 HJ6 HCN HHEAD H0 hZ0
        obtain ⟨i, pre, C2, T2, hi2, rfl, hpre, hj, hTS, hCN, hO, hcN⟩ := hrel
        obtain ⟨r1, r2, r3⟩ := HROW.out i hi2
        have HSPL := Lib.hid (rows_split hi2)
        have HTK := Lib.hid (take_row hi2)
        have HLAST : Hid (¬ i + 1 < Z.length → nextS n (rowL Z i) = none) := fun h => by
          have := HRUN.out.2
          rwa [show Z.length - 1 = i by omega] at this
        have HNEXT : Hid (i + 1 < Z.length → nextS n (rowL Z i) = some (rowL Z (i + 1))) := fun h => HRUN.out.1 i h
        obtain ⟨s, hs2⟩ : ∃ s, rowL Z i = s := ⟨_, rfl⟩
        rw [hs2] at r1 r2 r3 HSPL HTK HLAST HNEXT hO
        have HP : Hid (MemS (SB, s) wr) := by show OwnI _ _ _ _; dsimp only; rw [r1]; exact hO
        have hy := HY.out pre (SB, s) C2 T2 wr hj HP.out (fun _ h => h.elim) ⟨Z.drop (i + 1), by rw [hpre]; exact HSPL.out⟩ 49
        obtain ⟨fn, tmps, assign, body, hy1, hR⟩ := hy
        dsimp only [encS] at hy1
        rw [r1] at hy1
        have HR1 := Lib.hid r1; have HR2 := Lib.hid r2; have HR3 := Lib.hid r3
        have HJ2 := Lib.hid hj; have HTS := Lib.hid hTS; have HCN2 := Lib.hid hCN; have HO2 := Lib.hid hO; have HC2 := Lib.hid hcN; have HPRE := Lib.hid hpre
        have HI2 := Lib.hid hi2
        clear r1 r2 r3 hj hTS hCN hO hcN hpre hi2 hs2
        gi_wp2
        refine hR.mono ?_
        rintro e W3 (⟨rfl, hw⟩ | ⟨rfl, hw⟩)
        · obtain ⟨C3, T3, hj3, hT3, hC3, ht3⟩ := hw
          have hlt2 := (OwnI.lt HO2.out).1
          have hnS : ¬ C2 SB := fun e => (hJ.lt HJ2.out _ e).2 HTS.out
          have HO3 : Hid (OwnI W3 0 (.slice (some ⟨SB, 0, none⟩) k k) s) := HO2.out.sameBlock (ht3.same _ hlt2 fun e => e.elim hnS id)
          have HT3 : Hid (T3 SB) := hT3 SB HTS.out hlt2 id
          have hcN3 : W3.cell? ⟨N, 0, none⟩ = some (.int .i64 n) := ht3.cell HC2.out fun e => e.elim HCN2.out id
          have hNlt := cell_lt HC2.out
          have HNC3 : Hid (¬ C3 N) := fun e => (hC3 N e).elim HCN2.out fun e => e.elim id fun e => by dsimp only at hNlt; omega
          have HJ3 := Lib.hid hj3
          have HC3 := Lib.hid hcN3
          have HAD : Hid (Calls Try.prog 65 #[.slice (some ⟨SB, 0, none⟩) k k, .int .i64 n] W3 fun e w' => (nextS n s = none ∧ e = .returned (.bool false) ∧ w' = W3) ∨ (∃ s', nextS n s = some s' ∧ e = .returned (.bool true) ∧ OwnI w' 0 (.slice (some ⟨SB, 0, none⟩) k k) s' ∧ Turned (fun b => b = SB) W3 w')) := advance_any SB k n s hn (by omega) HR2.out HR3.out HR1.out W3 HO3.out
          clear hj3 hT3 hC3 ht3 hlt2 hnS hNlt hy1 hR
          by_cases hlast : i + 1 < Z.length
          · have hnx := HNEXT.out hlast
            have HAD2 : Hid (Calls Try.prog 65 #[.slice (some ⟨SB, 0, none⟩) k k, .int .i64 n] W3 fun e w' => e = .returned (.bool true) ∧ Hid (OwnI w' 0 (.slice (some ⟨SB, 0, none⟩) k k) (rowL Z (i + 1))) ∧ Hid (Turned (fun b => b = SB) W3 w')) := HAD.out.mono fun e w' h => by
              rcases h with ⟨h1, _⟩ | ⟨s', h1, h2, h3, h4⟩
              · rw [hnx] at h1; cases h1
              · rw [hnx] at h1
                obtain rfl := Option.some.inj h1
                exact ⟨h2, h3, h4⟩
            clear HAD hnx
            gi_wp2_with (refine ⟨trivial, ?_⟩; gi_at_call 65; refine (callsIn_wide.2 HAD2.out).mono ?_; rintro e w7 ⟨rfl, HO7, HT7⟩)
            gi_roundg (Z.length - (i + 1))
            case rel => exact ⟨i + 1, pre ++ [(SB, s)], C3, T3, hlast, rfl, by rw [List.map_append, HPRE.out, HTK.out]; rfl, hJ.keep HJ3.out (HT7.out.mono fun b _ e => by rw [e]; exact HT3.out) (fun b e => .inl e), HT3.out, HNC3.out, HO7.out, HT7.out.cell HC3.out (fun e => by have e : N = SB := e; have := HLTN.out; omega)⟩
            case measure => omega
          · have hnx := HLAST.out hlast
            have HAD2 : Hid (Calls Try.prog 65 #[.slice (some ⟨SB, 0, none⟩) k k, .int .i64 n] W3 fun e w' => e = .returned (.bool false) ∧ w' = W3) := HAD.out.mono fun e w' h => by
              rcases h with ⟨h1, h2, h3⟩ | ⟨s', h1, _⟩
              · exact ⟨h2, h3⟩
              · rw [hnx] at h1; cases h1
            have HEND : Hid ((pre ++ [(SB, s)]).map Prod.snd = Z) := by
              show _ = _
              rw [List.map_append, HPRE.out]
              have h1 := HTK.out
              rw [List.take_of_length_le (by omega)] at h1
              exact h1.symm
            clear HAD hnx
            gi_wp2_with (refine ⟨trivial, ?_⟩; gi_at_call 65; refine (callsIn_wide.2 HAD2.out).mono ?_; rintro e w7 ⟨rfl, rfl⟩)
            go_end0
            exact ⟨⟨_, rfl⟩, .inl ⟨_, _, _, HEND.out, HJ3.out⟩⟩
        · obtain ⟨C3, T3, hj3, _⟩ := hw
          have HJ3 := Lib.hid hj3
          clear hj3 hy1 hR
          gi_wp2
          refine ⟨trivial, ?_⟩
          gi_wp2
          go_end0
          exact ⟨⟨_, rfl⟩, .inr ⟨_, _, _, HJ3.out⟩⟩
end Go.Proofs.Ytfnomiingelfaaa
/- (question).fits of layer 4: the contract of what it hands back. -/
namespace Go.Proofs.Ytfnomiingelfaaa
open Go.RowKit Go.Shelf
attribute [local go_sem] Oper.semAt_some

structure FitV where
  qa : Option Addr
  qc : Nat
  px : List Int
  va : Option Addr
  vc : Nat
  vs : List (Int × Int)
abbrev fitV (x : FitV) : Value := .agg #[.slice x.qa x.px.length x.qc, .slice x.va x.vs.length x.vc]
abbrev encF (x : FitV) : Array Value := #[fitV x]
abbrev keyF (x : FitV) : List Int × List (Int × Int) := (x.px, x.vs)
def MemF (x : FitV) (W : World) : Prop := FitAt W 0 x.qa x.px x.va x.vs
def ownF (x : FitV) : Blk := fun b => (∃ ad, x.qa = some ad ∧ b = ad.block) ∨ (∃ ad, x.va = some ad ∧ b = ad.block)
def fitsTo (wr : Int × Int → Bool) (m : List (List Int)) (y : List Int) (j : Nat) : List (List Int × List (Int × Int)) := (List.range j).flatMap fun s => (compl (colsM m) s 0).filterMap fun px => (fitO wr m y px).map fun vs => (px, vs)
theorem fitsTo_succ (wr : Int × Int → Bool) (m : List (List Int)) (y : List Int) (j : Nat) : fitsTo wr m y (j + 1) = fitsTo wr m y j ++ (compl (colsM m) j 0).filterMap fun px => (fitO wr m y px).map fun vs => (px, vs) := by
  unfold fitsTo; rw [List.range_succ, List.flatMap_append]; simp
theorem fitsTo_split (wr : Int × Int → Bool) (m : List (List Int)) (y : List Int) (k n : Nat) (h : k ≤ n) : ∃ post, fitsTo wr m y n = fitsTo wr m y k ++ post := by
  obtain ⟨d, rfl⟩ : ∃ d, n = k + d := ⟨n - k, by omega⟩
  unfold fitsTo
  rw [List.range_add, List.flatMap_append]
  exact ⟨_, rfl⟩
theorem memF_put (x : FitV) (W : World) (l : Nat) (r r' : Loop) (h : MemF x W) (hl : W.heap[l]? = some (.loop r)) : MemF x (W.putObj l (.loop r')) := by
  have key : ∀ {a : Addr} {v : Value}, W.cell? a = some v → (W.putObj l (.loop r')).cell? a = some v := fun {a v} hc => by
    refine (World.cell?_of_block (World.putObj_heap_other fun e => ?_)).trans hc
    unfold World.cell? at hc
    rw [e, hl] at hc
    cases hc
  have hsz : W.heap.size ≤ (W.putObj l (.loop r')).heap.size := (turned_put (T := fun b => b = l) W (.loop r') rfl).size
  refine ⟨fun k hk => ?_, fun j p hj => ?_, fun ad e => ⟨(h.q ad e).1, Nat.lt_of_lt_of_le (h.q ad e).2 hsz⟩, fun ad e => ⟨(h.v ad e).1, Nat.lt_of_lt_of_le (h.v ad e).2 hsz⟩⟩
  · obtain ⟨b, o, e, hc⟩ := h.sl k hk
    exact ⟨b, o, e, key hc⟩
  · obtain ⟨b, e, c1, c2⟩ := h.rl j p hj
    exact ⟨b, e, key c1, key c2⟩
structure FIn {α : Type} (w0 : World) (bs : List (Addr × Value)) (Y l : Nat) (ms : List Nat) (K : List α → Blk → Blk → World → Prop) (pre : List α) (C T : Blk) (W : World) : Prop where
  cl : ∃ T2, K pre C T2 W ∧ (∀ b, T b → T2 b) ∧ T2 Y ∧ ∀ D, D ∈ ms → T2 D
  nc : ∀ b, (b < w0.heap.size ∨ ∃ p ∈ bs, b = p.1.block) → ¬ C b
  nt : ∀ b, (b < w0.heap.size ∨ ∃ p ∈ bs, b = p.1.block) ∨ b = Y ∨ b ∈ ms → ¬ T b
  cB : ∀ p ∈ bs, W.cell? p.1 = some p.2
  bw : Below w0.heap.size w0 W
  cY : W.cell? ⟨Y, 0, none⟩ = some (.func (.yield l) #[] #[])
  dm : ∀ D, D ∈ ms → W.heap[D]? = some (.deferred (some []))
theorem FIn.client {α β : Type} {w0 : World} {bs : List (Addr × Value)} {Y l : Nat} {ms : List Nat} {K : List α → Blk → Blk → World → Prop} {q : List β → List α → Prop} (hK : Client K) : Client fun (s : List β) C T W => ∃ pre, q s pre ∧ FIn w0 bs Y l ms K pre C T W where
  lt := by
    rintro s C T W ⟨pre, _, h⟩ b hb
    obtain ⟨T2, hk, h1, _⟩ := h.cl
    exact ⟨(hK.lt hk b hb).1, fun e => (hK.lt hk b hb).2 (h1 b e)⟩
  keep := by
    rintro s C T T' W W' ⟨pre, hq, h⟩ ht hT
    obtain ⟨T2, hk, h1, h2, h3⟩ := h.cl
    have lY := cell_lt h.cY
    have lD : ∀ D, D ∈ ms → D < W.heap.size := fun D hD => (Array.getElem?_eq_some_iff.1 (h.dm D hD)).1
    have hnt : ∀ b, (b < w0.heap.size ∨ ∃ p ∈ bs, b = p.1.block) ∨ b = Y ∨ b ∈ ms → ¬ T' b := by
      intro b hb e
      rcases hT b e with q | q
      · exact h.nt b hb q
      · have := h.bw.size
        rcases hb with (hb | ⟨p, hp, rfl⟩) | rfl | hb
        · omega
        · have := cell_lt (h.cB p hp); omega
        · dsimp only at lY; omega
        · have := lD b hb; omega
    refine ⟨pre, hq, ⟨fun b => T2 b ∨ W.heap.size ≤ b, hK.keep hk (ht.mono fun b _ e => h1 b e) (fun b e => e), fun b e => (hT b e).elim (fun e => .inl (h1 b e)) .inr, .inl h2, fun D hD => .inl (h3 D hD)⟩, h.nc, hnt, fun p hp => ht.cell (h.cB p hp) (h.nt _ (.inl (.inr ⟨p, hp, rfl⟩))), h.bw.trans (ht.below h.bw.size fun b hb => h.nt b (.inl (.inl hb))), ht.cell h.cY (h.nt _ (by simp)), fun D hD => (ht.same D (lD D hD) (h.nt D (by simp [hD]))).trans (h.dm D hD)⟩
theorem fin_next {α : Type} {own : α → Blk} {x : α} {w0 V2 W5 W6 : World} {bs : List (Addr × Value)} {Y l : Nat} {ms : List Nat} {J K : List α → Blk → Blk → World → Prop} {pre' : List α} {C3 T3 T2 : Blk} (hJ : Client J) (hI : FIn w0 bs Y l ms J pre' C3 T3 V2)
    (hk : J pre' C3 T2 V2) (h1 : ∀ b, T3 b → T2 b) (h2 : T2 Y) (h3 : ∀ D, D ∈ ms → T2 D) (hb5 : Below V2.heap.size V2 W5) (hbh : ∀ b, own x b → V2.heap.size ≤ b) (hw : Went K own pre' x C3 (fun b => T2 b ∨ V2.heap.size ≤ b) W5 W6) :
    ∃ C', FIn w0 bs Y l ms K (pre' ++ [x]) C' (fun b => T3 b ∧ b < V2.heap.size) W6 ∧ (∀ b, C' b → C3 b ∨ V2.heap.size ≤ b) ∧ Turned C3 V2 W6 := by
  obtain ⟨C', T', hj6, hT', hC', ht'⟩ := hw
  have s5 := hb5.size
  have lY := cell_lt hI.cY
  dsimp only at lY
  have lD : ∀ D, D ∈ ms → D < V2.heap.size := fun D hD => (Array.getElem?_eq_some_iff.1 (hI.dm D hD)).1
  have lw := hI.bw.size
  have nC : ∀ b, T2 b → ¬ C3 b := fun b hb hc => (hJ.lt hk b hc).2 hb
  have no : ∀ b, b < V2.heap.size → ¬ C3 b → ¬ (C3 b ∨ own x b) := fun b hb hn e => e.elim hn fun e => by have := hbh b e; omega
  have t5 : Turned C3 V2 W5 := turned_below hb5
  have hc5 : ∀ {a : Addr} {v : Value}, a.block < V2.heap.size → V2.cell? a = some v → ¬ C3 a.block → W6.cell? a = some v := fun hl hc hn => ht'.cell ((hb5.cell hl).trans hc) (no _ hl hn)
  refine ⟨C', ⟨⟨T', hj6, fun b hb => hT' b (.inl (h1 b hb.1)) (by omega) (fun e => by have := hbh b e; omega), hT' Y (.inl h2) (by omega) (fun e => by have := hbh _ e; omega), fun D hD => hT' D (.inl (h3 D hD)) (by have := lD D hD; omega) (fun e => by have := hbh _ e; have := lD D hD; omega)⟩, ?_, fun b hb e => hI.nt b hb e.1, fun p hp => hc5 (cell_lt (hI.cB p hp)) (hI.cB p hp) (hI.nc _ (.inr ⟨p, hp, rfl⟩)), ?_, hc5 lY hI.cY (nC Y h2), ?_⟩, ?_, ?_⟩
  · intro b hb e
    rcases hC' b e with q | q | q
    · exact hI.nc b hb q
    · have := hbh b q
      rcases hb with hb | ⟨p, hp, rfl⟩
      · omega
      · have := cell_lt (hI.cB p hp); omega
    · rcases hb with hb | ⟨p, hp, rfl⟩
      · omega
      · have := cell_lt (hI.cB p hp); omega
  · exact hI.bw.trans ((hb5.mono lw).trans (ht'.below (by omega) fun b hb => no b (by omega) (hI.nc b (.inl hb))))
  · intro D hD
    have := lD D hD
    exact (ht'.same D (by omega) (no D this (nC D (h3 D hD)))).trans ((hb5.block D this).trans (hI.dm D hD))
  · intro b hb
    rcases hC' b hb with q | q | q
    · exact .inl q
    · exact .inr (hbh b q)
    · exact .inr (by omega)
  · exact t5.trans ht' fun b e => e.elim .inl fun e => .inr (hbh b e)
theorem fit_leaves {α β : Type} {key : α → β} {fn : Func} {tmps : Array Value} {K J Jx : List α → Blk → Blk → World → Prop} {Z : List β} {pre : List α} {C T2 : Blk} {ms : List Nat} {V : World} (hf : fn.results = #[]) (hK : Client K) (hk : K pre C T2 V) (hT : ∀ D, D ∈ ms → T2 D) (hn : ms.Nodup) (hd : ∀ D, D ∈ ms → V.heap[D]? = some (.deferred (some [])))
    (hR : ∀ C T W, K pre C T W → (∃ xs C T, xs.map key = Z ∧ J xs C T W) ∨ (∃ pre C T, Jx pre C T W)) :
    LeavesInM Fence.wide 50 Try.prog fn tmps (fun e W' => (∃ v, e = .returned v) ∧ ((∃ xs C T, xs.map key = Z ∧ J xs C T W') ∨ (∃ pre C T, Jx pre C T W'))) (ms.map mark) .returning V := by
  refine leaves_marks2 (fun W => ∃ C T, K pre C T W ∧ ∀ D, D ∈ ms → T D) ms ?_ ?_ ms V (fun _ h => h) hn hd ⟨C, T2, hk, hT⟩
  · rintro W D hD ⟨C', T', h1, h2⟩
    exact ⟨C', T', hK.keep h1 (turned_put W _ (h2 D hD)) (fun b e => .inl e), h2⟩
  · rintro W ⟨C', T', h1, _⟩
    exact ⟨_, results_none hf _ _ _, ⟨_, rfl⟩, hR _ _ _ h1⟩
set_option maxRecDepth 1000000 in
set_option maxHeartbeats 4000000 in
theorem fits1_seq {wg : Nat} {wl : Array Value} {wr : Int × Int → Bool} {ma : Option Addr} {m : List (List Int)} {mc : Nat} {ya : Option Addr} {y : List Int} {yc Q KB WB kk : Nat} {w0 w : World} {bs : List (Addr × Value)} (hv : validM m = true) (hly : y.length ≤ 1000) (hkk : kk ≤ 100) (hms : Ms w0 ma m) (hys : Sl w0 ya y) (hbw : Below w0.heap.size w0 w) (hbs : ∀ p ∈ bs, w.cell? p.1 = some p.2)
    (hQ0 : ((⟨Q, 0, none⟩ : Addr), Value.slice ma m.length mc) ∈ bs) (hQ1 : ((⟨Q, 1, none⟩ : Addr), Value.slice ya y.length yc) ∈ bs) (hKB : ((⟨KB, 0, none⟩ : Addr), Value.int .i64 kk) ∈ bs) (hWB : ((⟨WB, 0, none⟩ : Addr), .func (.func wg) #[] wl) ∈ bs)
    (hcf : ∀ W a vs cap, (∀ p ∈ bs, W.cell? p.1 = some p.2) → vs.length ≤ 1000 → Rl W a vs → Calls Try.prog 67 #[.slice a vs.length cap, .func (.func wg) #[] wl] W fun e w' => e = .returned (.bool (vs.any wr)) ∧ Below W.heap.size W w') :
    SeqM Try.prog 41 #[.pointer (some ⟨Q, 0, none⟩), .pointer (some ⟨KB, 0, none⟩), .pointer (some ⟨WB, 0, none⟩)] encF MemF ownF keyF (fitsTo wr m y (min kk (rankM m) + 1)) (fun b => b < w0.heap.size ∨ ∃ p ∈ bs, b = p.1.block) w := by
  intro l J Jx C T W hW hJ hJx hneed hY h0
  obtain ⟨mn, hmn0⟩ : ∃ mn, min kk (rankM m) = mn := ⟨_, rfl⟩
  rw [hmn0] at hY ⊢
  obtain ⟨hm1, hm6, hc1, hc10, hrows⟩ := validM_of hv
  have HRL : Hid (∀ r ∈ m, r.length = colsM m) := fun r hr => (hrows r hr).1
  have HM1 := Lib.hid hm1
  have HC : Hid (1 ≤ colsM m ∧ colsM m ≤ 10) := ⟨hc1, hc10⟩
  have HMS := Lib.hid hms
  have HYS := Lib.hid hys
  have HV := Lib.hid hv
  have HY := Lib.hid hY
  have H0 := Lib.hid h0
  have HNEED := Lib.hid hneed
  have HCF := Lib.hid hcf
  have HLY := Lib.hid hly
  have HW0 : Hid (Below w0.heap.size w0 W) := hbw.trans (hW.mono hbw.size)
  have HWW := Lib.hid hW
  have HBS := Lib.hid hbs
  have HKK := Lib.hid hkk
  have HCELL : Hid (∀ V : World, (∀ p ∈ bs, V.cell? p.1 = some p.2) → V.cell? ⟨Q, 0, none⟩ = some (.slice ma m.length mc) ∧ V.cell? ⟨Q, 1, none⟩ = some (.slice ya y.length yc) ∧ V.cell? ⟨KB, 0, none⟩ = some (.int .i64 kk) ∧ V.cell? ⟨WB, 0, none⟩ = some (.func (.func wg) #[] wl)) := fun V hb => ⟨hb _ hQ0, hb _ hQ1, hb _ hKB, hb _ hWB⟩
  obtain ⟨b1, o1, ai, rr, ci, rfl, hcell, hsl, HR⟩ := hms.at (show 0 < m.length from hm1)
  have HROW : Hid (∀ V, Below w0.heap.size w0 V → V.cell? ⟨b1, o1, none⟩ = some (.slice ai (colsM m) ci)) := fun V hb => by
    rw [← (hrows rr (List.mem_of_getElem? HR.out)).1]
    exact (hb.cell (p := ⟨b1, o1, none⟩) (cell_lt hcell)).trans hcell
  clear hms hys hv hY h0 hneed hcf hly hkk hW hrows hc1 hc10 hm6 hQ0 hQ1 hKB hWB hcell hsl HR hbs hbw
  obtain ⟨V, hV⟩ : ∃ V, W.alloc (.cells #[.func (.yield l) #[] #[]] 70) = V := ⟨_, rfl⟩
  have HB0 : Hid (Below W.heap.size W V) := by rw [← hV]; exact (Below.refl _ _).alloc (Nat.le_refl _) _
  have HVS : Hid (V.heap.size = W.heap.size + 1) := by rw [← hV]; exact World.size_alloc _ _
  have HCY : Hid (V.cell? ⟨W.heap.size, 0, none⟩ = some (.func (.yield l) #[] #[])) := by rw [← hV]; exact alloc_cell _ _ _ _ _ rfl
  have HBW : Hid (Below w0.heap.size w0 V) := HW0.out.trans (HB0.out.mono HW0.out.size)
  have HBV : Hid (∀ p ∈ bs, V.cell? p.1 = some p.2) := fun p hp => by
    have h1 := (HWW.out.cell (p := p.1) (cell_lt (HBS.out p hp))).trans (HBS.out p hp)
    exact (HB0.out.cell (p := p.1) (cell_lt h1)).trans h1
  obtain ⟨cq0, cq1, ck0, cw0⟩ := HCELL.out V HBV.out
  show Calls _ _ (#[.func (.yield l) #[] #[], .pointer (some ⟨Q, 0, none⟩), .pointer (some ⟨KB, 0, none⟩), .pointer (some ⟨WB, 0, none⟩)]) _ _
  refine (callsIn_wide (n := 50)).1 ?_
  refine callsIn_of_wp_marks Try.func41 rfl trivial ?_ rfl
  simp only [Try.ntmps41, List.size_toArray, List.length_cons, List.length_nil, Nat.reduceAdd, Nat.reduceSub, Array.replicate_succ, Array.replicate_zero, List.push_toArray, List.append_toArray, List.nil_append, List.cons_append]
  obtain ⟨rk, hrk⟩ : ∃ rk, rankM m = rk := ⟨_, rfl⟩
  have hrkc : rk ≤ colsM m := by
    have h := (basis_fin HV.out).count
    unfold rankM at hrk
    omega
  have HRV : Hid (rankV m = ((rk : Int), 0)) := by
    show _ = _
    unfold rankV
    rw [if_pos HV.out]
    unfold rankM at hrk
    rw [hrk]
  have HRA : Hid (∀ V', Below w0.heap.size w0 V' → Calls Try.prog 42 #[.slice (some ⟨b1, o1, none⟩) m.length mc] V' fun e w' => e = .returned (.tuple #[.int .i64 (rk : Int), .int .i64 0]) ∧ Below V'.heap.size V' w') := fun V' hb => by
    have h := lrank_any (some ⟨b1, o1, none⟩) m mc V' (mok_of HV.out) (HMS.out.below hb)
    rw [HRV.out] at h
    exact h
  have hmn : min kk rk = mn := by rw [← hrk]; exact hmn0
  have HMNC : Hid (mn ≤ colsM m) := by show _ ≤ _; omega
  have hrk10 : rk ≤ 10 := by have := HC.out.2; omega
  clear hrk hrkc hmn0
  have hcases : kk < rk ∧ mn = kk ∨ kk = rk ∧ mn = kk ∨ rk < kk ∧ mn = rk := by omega
  rcases hcases with ⟨h, rfl⟩ | ⟨rfl, rfl⟩ | ⟨h, rfl⟩
  all_goals
   (try have hI : (mn : Int) < (rk : Int) := by omega)
   (try have hI : (mn : Int) < (kk : Int) := by omega)
  all_goals gi_wp2_with (refine ⟨trivial, ?_⟩; gi_at_call 42; refine (callsIn_wide.2 (HRA.out V HBW.out)).mono ?_; rintro e w3 ⟨rfl, hb3⟩; have HB3 := Lib.hid hb3; have HBW3 : Hid (Below w0.heap.size w0 w3) := HBW.out.trans (hb3.mono HBW.out.size); have HBV3 : Hid (∀ p ∈ bs, w3.cell? p.1 = some p.2) := fun p hp => (hb3.cell (p := p.1) (cell_lt (HBV.out p hp))).trans (HBV.out p hp); obtain ⟨dq0, dq1, dk0, dw0⟩ := HCELL.out w3 HBV3.out; clear hb3)
  all_goals
    clear hrk10 hmn HRA HRV
    have HW3 : Hid (Below W.heap.size W w3) := HB0.out.trans (HB3.out.mono (by have := HVS.out; omega))
    have HI0 : Hid (∃ pre C, FIn w0 bs W.heap.size l [] J pre C (fun _ => False) w3 ∧ pre.map keyF = fitsTo wr m y 0) := by
      refine ⟨[], C, ⟨⟨fun b => T b ∨ W.heap.size ≤ b, hJ.keep H0.out (turned_below HW3.out) (fun b e => e), fun b e => e.elim, .inr (Nat.le_refl _), fun D hD => by cases hD⟩, HNEED.out, fun b _ e => e, HBV3.out, HBW3.out, ?_, fun D hD => by cases hD⟩, rfl⟩
      exact (HB3.out.cell (p := ⟨W.heap.size, 0, none⟩) (by have := HVS.out; show W.heap.size < _; omega)).trans HCY.out
    clear hV cq0 cq1 ck0 cw0 dq0 dq1 dk0 dw0
    refine wpIn_loop (fun a' X => ∃ (k : Nat) (ms : List Nat) (u5 u6 u7 u8 u9 u10 u11 u12 u13 u14 u15 u16 u17 u18 u19 u22 u23 u24 u25 u26 u27 u28 u29 u30 u31 u32 u33 u34 u35 u36 u37 u38 u39 u40 u41 u42 u43 u44 u45 u46 : Value), a' = { tmps := #[.func (.yield l) #[] #[], .pointer (some ⟨Q, 0, none⟩), .pointer (some ⟨KB, 0, none⟩), .pointer (some ⟨WB, 0, none⟩), .pointer (some ⟨W.heap.size, 0, none⟩), u5, u6, u7, u8, u9, u10, u11, u12, u13, u14, u15, u16, u17, u18, u19, .int .i64 ((mn : Int) + 1), .int .i64 (k : Int), u22, u23, u24, u25, u26, u27, u28, u29, u30, u31, u32, u33, u34, u35, u36, u37, u38, u39, u40, u41, u42, u43, u44, u45, u46], defers := ms.map mark } ∧ k ≤ mn + 1 ∧ ms.Nodup ∧ ∃ pre C, FIn w0 bs W.heap.size l ms J pre C (fun _ => False) X ∧ pre.map keyF = fitsTo wr m y k)
      (fun a' _ => 12 - (intOf (a'.tmps.getD 21 undef)).toNat) ?start ?round
    case start =>
      exact ⟨0, [], _, _, _, _, _, _, _, _, _, _, _, _, _, _, _, _, _, _, _, _, _, _, _, _, _, _, _, _, _, _, _, _, _, _, _, _, _, _, _, _, rfl, Nat.zero_le _, List.nodup_nil, HI0.out⟩
    case round =>
      rintro a' X ⟨k, ms, u5, u6, u7, u8, u9, u10, u11, u12, u13, u14, u15, u16, u17, u18, u19, u22, u23, u24, u25, u26, u27, u28, u29, u30, u31, u32, u33, u34, u35, u36, u37, u38, u39, u40, u41, u42, u43, u44, u45, u46, rfl, hk, hnd, pre, C1, hI, hpre⟩
      have HI := Lib.hid hI
      have HPRE := Lib.hid hpre
      have HND := Lib.hid hnd
      clear HI0 hpre hnd
      by_cases hlt : k < mn + 1
      · obtain ⟨n, hn⟩ : ∃ n, colsM m = n := ⟨_, rfl⟩
        have HN := Lib.hid hn
        have hn1 : 1 ≤ n := by rw [← hn]; exact HC.out.1
        have hn10 : n ≤ 10 := by rw [← hn]; exact HC.out.2
        have hkn : k ≤ n := by have := HMNC.out; omega
        have hcX := HROW.out X hI.bw
        rw [hn] at hcX
        obtain ⟨cq0, cq1, ck0, cw0⟩ := HCELL.out X hI.cB
        clear hn hI
        gi_wp2_with (refine ⟨trivial, ?_⟩; gi_at_call 43; refine (callsIn_wide.2 (ssets_any (n : Int) (k : Int) X)).mono ?_; rintro e w4 ⟨rfl, rfl⟩)
        obtain ⟨V1, hV1⟩ : ∃ V1, (X.alloc (.cells #[.int .i64 (n : Int)] 3)).alloc (.cells #[.int .i64 (k : Int)] 3) = V1 := ⟨_, rfl⟩
        have hv1 : V1.heap.size = X.heap.size + 2 := by rw [← hV1, World.size_alloc, World.size_alloc]
        have hcN : V1.cell? ⟨X.heap.size, 0, none⟩ = some (.int .i64 n) := by rw [← hV1]; exact (alloc_old _ _ _ _ (alloc_lt' rfl)).trans (alloc_cell _ _ _ _ _ rfl)
        have hcS : V1.cell? ⟨X.heap.size + 1, 0, none⟩ = some (.int .i64 (k : Int)) := by rw [← hV1]; exact (two_last _ _ _ _).1
        have hbX : Below X.heap.size X V1 := by rw [← hV1]; exact ((Below.refl _ _).alloc (Nat.le_refl _) _).alloc (by rw [World.size_alloc]; omega) _
        rw [hV1]
        have hC1 : ∀ b, C1 b → b < X.heap.size := by
          obtain ⟨T2, hk2, _⟩ := HI.out.cl
          exact fun b hb => (hJ.lt hk2 b hb).1
        have hI1 : ∃ pre', (pre'.map keyF = fitsTo wr m y k ++ (([] : List SetV).map Prod.snd).filterMap fun px => (fitO wr m y px).map fun vs => (px, vs)) ∧ FIn w0 bs W.heap.size l ms J pre' C1 (fun _ => False) V1 :=
          (FIn.client hJ (q := fun (s : List SetV) pre' => pre'.map keyF = fitsTo wr m y k ++ (s.map Prod.snd).filterMap fun px => (fitO wr m y px).map fun vs => (px, vs))).keep ⟨pre, by rw [HPRE.out]; simp, HI.out⟩ (turned_below hbX) (fun b e => e.elim)
        have HI1 := Lib.hid hI1
        have HXV := Lib.hid hbX
        have HV1 := Lib.hid hv1
        have HC1 := Lib.hid hC1
        have HK := Lib.hid hlt
        clear hI1 hbX hV1 hcX hC1 cq0 cq1 ck0 cw0
        refine wpIn_rangeFunc_M (by omega) (gf := 64) (lb := #[.pointer (some ⟨X.heap.size + 1, 0, none⟩), .pointer (some ⟨X.heap.size, 0, none⟩)]) rfl (enters_of Try.func64 (by kernel_rfl) rfl)
          (ssets1_seq n k (X.heap.size + 1) X.heap.size (by omega) hkn V1 hcS hcN) (Below.refl _ _) (fun _ => rfl) memS_put
          (fun s C T W' => ∃ pre', (pre'.map keyF = fitsTo wr m y k ++ (s.map Prod.snd).filterMap fun px => (fitO wr m y px).map fun vs => (px, vs)) ∧ FIn w0 bs W.heap.size l ms J pre' C T W')
          (fun c s C T W' => ∃ pre' : List FitV, c = .ret ∧ FIn w0 bs W.heap.size l ms Jx pre' C T W')
          (FIn.client hJ) (fun c => FIn.client hJx (q := fun _ _ => c = .ret)) C1 (fun _ => False) ?need (fun _ e => e.elim) HI1.out
          (fun x => { tmps := #[.func (.yield l) #[] #[], .pointer (some ⟨Q, 0, none⟩), .pointer (some ⟨KB, 0, none⟩), .pointer (some ⟨WB, 0, none⟩), .pointer (some ⟨W.heap.size, 0, none⟩), u5, u6, .int .i64 (k : Int), .slice (some ⟨x.1, 0, none⟩) x.2.length x.2.length, u9, u10, u11, u12, u13, u14, u15, u16, u17, u18, u19, .int .i64 ((mn : Int) + 1), .int .i64 (k : Int), .bool true, .int .i64 (k : Int), .pointer (some ⟨Q, 0, none⟩), .slice (some ⟨b1, o1, none⟩) m.length mc, .pointer (some ⟨b1, o1, none⟩), .slice ai n ci, .int .i64 (n : Int), .int .i64 (k : Int), .func (.func 64) #[] #[.pointer (some ⟨X.heap.size + 1, 0, none⟩), .pointer (some ⟨X.heap.size, 0, none⟩)], .slice (some ⟨x.1, 0, none⟩) x.2.length x.2.length, u32, u33, u34, u35, u36, u37, u38, u39, u40, u41, u42, u43, u44, u45, u46], defers := [] }) ?assign ?body ?done ?stop
        case need =>
          have h1 := HV1.out
          rintro b (rfl | rfl)
          · exact ⟨fun e => by have := HC1.out _ e; omega, by omega⟩
          · exact ⟨fun e => by have := HC1.out _ e; omega, by omega⟩
        case assign =>
          intro l2 x V K hK
          gi_wp2
          exact hK
        case stop =>
          rintro D c pre2 C3 T3 V2 hD ⟨pre', rfl, hI'⟩ hTD hK2
          obtain ⟨T2, q1, q2, q3, q4⟩ := hI'.cl
          have X1 := Lib.hid q1; have X4 := Lib.hid q4
          have XT := Lib.hid (q2 D hTD)
          have XD := Lib.hid hK2
          have XM := Lib.hid hI'.dm
          have hlD : ∀ E, E ∈ ms → E < X.heap.size := fun E hE => (Array.getElem?_eq_some_iff.1 (HI.out.dm E hE)).1
          have XN : Hid ((D :: ms).Nodup) := List.nodup_cons.2 ⟨fun hm => by have := hlD D hm; have := HV1.out; omega, HND.out⟩
          clear q1 q2 q3 q4 hI' hK2 hTD hD hcS hcN hv1 hlD
          gi_wp2
          refine fit_leaves (ms := D :: ms) rfl hJx X1.out ?_ XN.out ?_ (fun C T W h => .inr ⟨_, _, _, h⟩)
          · intro E hE
            rcases List.mem_cons.1 hE with rfl | hE
            · exact XT.out
            · exact X4.out E hE
          · intro E hE
            rcases List.mem_cons.1 hE with rfl | hE
            · exact XD.out
            · exact XM.out E hE
        case done =>
          rintro D ys C3 T3 V2 hD hys ⟨pre', hpre', hI'⟩ hTD hK2
          have hlD : ∀ E, E ∈ ms → E < X.heap.size := fun E hE => (Array.getElem?_eq_some_iff.1 (HI.out.dm E hE)).1
          have XN : Hid ((D :: ms).Nodup) := List.nodup_cons.2 ⟨fun hm => by have := hlD D hm; have := HV1.out; omega, HND.out⟩
          have XP : Hid (pre'.map keyF = fitsTo wr m y (k + 1)) := by show _ = _; rw [hpre', hys, fitsTo_succ, HN.out]
          have XI : Hid (FIn w0 bs W.heap.size l (D :: ms) J pre' C3 (fun _ => False) V2) := by
            obtain ⟨T2, q1, q2, q3, q4⟩ := hI'.cl
            refine ⟨⟨T2, q1, fun b e => e.elim, q3, fun E hE => ?_⟩, hI'.nc, fun b _ e => e, hI'.cB, hI'.bw, hI'.cY, fun E hE => ?_⟩
            · rcases List.mem_cons.1 hE with rfl | hE
              · exact q2 _ hTD
              · exact q4 E hE
            · rcases List.mem_cons.1 hE with rfl | hE
              · exact hK2
              · exact hI'.dm E hE
          clear hys hpre' hI' hTD hK2 hcS hcN hv1 hlD hD
          gi_wp2
          refine ⟨?_, ?_⟩
          · refine ⟨k + 1, D :: ms, ?_⟩
            (repeat apply Exists.intro)
            refine ⟨?_, by have := HK.out; omega, XN.out, pre', C3, XI.out, XP.out⟩
            simp only [List.map_cons, mark]
            congr 1
          · have := HK.out; simp [intOf]; omega
        case body =>
          rintro l2 pre2 ⟨xb, xs⟩ C3 T3 V2 ⟨pre', hpre', hI'⟩ hmem hown ⟨rest, hrest⟩
          dsimp only at hmem hrest
          have hin : xs ∈ compl n k 0 := by rw [hrest]; simp
          obtain ⟨hxl, hxr⟩ := compl_mem hin
          have hxl2 : xs.length ≤ 1000 := by omega
          have XSL := Lib.hid (OwnI.sl hmem)
          have XI := Lib.hid hI'
          have XP := Lib.hid hpre'
          have XR := Lib.hid hrest
          obtain ⟨cq0, cq1, ck0, cw0⟩ := HCELL.out V2 hI'.cB
          obtain ⟨r, hr⟩ : ∃ r, fitO wr m y xs = r := ⟨_, rfl⟩
          have HFO := Lib.hid hr
          have HFT : Hid (Calls Try.prog 44 #[.agg #[.slice (some ⟨b1, o1, none⟩) m.length mc, .slice ya y.length yc], .slice (some ⟨xb, 0, none⟩) xs.length xs.length, .func (.func wg) #[] wl] V2 (FitPost r xs V2)) := by
            rw [← hr]
            exact sfit_any (.func (.func wg) #[] wl) wr _ m mc ya y yc ⟨xb, 0, none⟩ xs xs.length V2 (mok_of HV.out) hxl2 HLY.out (HMS.out.below hI'.bw) XSL.out (HYS.out.below hI'.bw) fun W a vs cap hb h1 h2 => HCF.out W a vs cap (fun p hp => (hb.cell (p := p.1) (cell_lt (hI'.cB p hp))).trans (hI'.cB p hp)) h1 h2
          have hcY2 := hI'.cY
          clear hmem hrest hin hxl hxr hI' hpre' hown hcS hcN hv1 hr
          dsimp only
          cases r with
          | none =>
            have HFT2 : Hid (Calls Try.prog 44 #[.agg #[.slice (some ⟨b1, o1, none⟩) m.length mc, .slice ya y.length yc], .slice (some ⟨xb, 0, none⟩) xs.length xs.length, .func (.func wg) #[] wl] V2 fun e w' => Hid (Below V2.heap.size V2 w') ∧ e = .returned (.tuple #[.agg #[.slice none 0 0, .slice none 0 0], .bool false])) := HFT.out.mono fun e w' ⟨h1, h2⟩ => ⟨h1, by
              rcases h2 with ⟨_, h2⟩ | ⟨vs, _, _, _, _, h3, _⟩
              · exact h2
              · cases h3⟩
            clear HFT
            gi_wp2_with (refine ⟨trivial, ?_⟩; gi_at_call 44; refine (callsIn_wide.2 HFT2.out).mono ?_; rintro e W5 ⟨HB5, rfl⟩)
            have HB6 : Hid (Below V2.heap.size V2 (W5.alloc (.cells #[.slice none 0 0, .slice none 0 0] 41))) := HB5.out.alloc HB5.out.size _
            obtain ⟨q1, q2, q3⟩ := (FIn.client hJ (q := fun (s : List SetV) pre' => pre'.map keyF = fitsTo wr m y k ++ (s.map Prod.snd).filterMap fun px => (fitO wr m y px).map fun vs => (px, vs))).keep (pre := pre2) ⟨pre', XP.out, XI.out⟩ (turned_below HB6.out) (fun b e => .inl e)
            have Q1 := Lib.hid q2; have Q3 := Lib.hid q3
            clear q2 q3
            refine ⟨fun _ h => (by cases h), ?_⟩
            gi_wp2
            refine ⟨C3, T3, ⟨q1, ?_, Q3.out⟩, fun b hb _ _ => hb, fun b hb => .inl hb, turned_below HB6.out⟩
            rw [Q1.out, List.map_append, List.filterMap_append]
            simp [HFO.out]
          | some vs =>
            obtain ⟨T2, q1, q2, q3, q4⟩ := XI.out.cl
            have XPR : Hid (∃ rest2, fitsTo wr m y (mn + 1) = pre'.map keyF ++ (xs, vs) :: rest2) := by
              obtain ⟨post, hpost⟩ := fitsTo_split wr m y (k + 1) (mn + 1) (by have := HK.out; omega)
              refine ⟨rest.filterMap (fun px => (fitO wr m y px).map fun vs => (px, vs)) ++ post, ?_⟩
              rw [hpost, fitsTo_succ, HN.out, XR.out, XP.out, List.filterMap_append, List.filterMap_cons, HFO.out]
              simp
            have Q1 := Lib.hid q1; have Q2 := Lib.hid q2; have Q3 := Lib.hid q3; have Q4 := Lib.hid q4
            have HYP : Hid (∀ qa qc va vc W5, Below V2.heap.size V2 W5 → FitAt W5 V2.heap.size qa xs va vs → YieldAt Fence.wide 47 Try.prog l (encF ⟨qa, qc, xs, va, vc, vs⟩) (W5.alloc (.cells #[.slice qa xs.length qc, .slice va vs.length vc] 41)) fun e W' =>
                (e = .returned (.bool true) ∧ Went J ownF pre' ⟨qa, qc, xs, va, vc, vs⟩ C3 (fun b => T2 b ∨ V2.heap.size ≤ b) (W5.alloc (.cells #[.slice qa xs.length qc, .slice va vs.length vc] 41)) W') ∨ (e = .returned (.bool false) ∧ Went Jx ownF pre' ⟨qa, qc, xs, va, vc, vs⟩ C3 (fun b => T2 b ∨ V2.heap.size ≤ b) (W5.alloc (.cells #[.slice qa xs.length qc, .slice va vs.length vc] 41)) W')) := by
              intro qa qc va vc W5 hb5 hfa
              have hb6 : Below V2.heap.size V2 (W5.alloc (.cells #[.slice qa xs.length qc, .slice va vs.length vc] 41)) := hb5.alloc hb5.size _
              have hb7 : Below W5.heap.size W5 (W5.alloc (.cells #[.slice qa xs.length qc, .slice va vs.length vc] 41)) := (Below.refl _ _).alloc (Nat.le_refl _) _
              refine HY.out pre' ⟨qa, qc, xs, va, vc, vs⟩ C3 (fun b => T2 b ∨ V2.heap.size ≤ b) _ (hJ.keep Q1.out (turned_below hb6) (fun b e => e)) ⟨hfa.sl.below hb7, hfa.rl.below hb7, fun ad e => ⟨Nat.zero_le _, Nat.lt_of_lt_of_le (hfa.q ad e).2 hb7.size⟩, fun ad e => ⟨Nat.zero_le _, Nat.lt_of_lt_of_le (hfa.v ad e).2 hb7.size⟩⟩ (fun b e => ?_) XPR.out 47
              rcases e with ⟨ad, e, rfl⟩ | ⟨ad, e, rfl⟩
              · exact .inr (hfa.q ad e).1
              · exact .inr (hfa.v ad e).1
            have HFT2 : Hid (Calls Try.prog 44 #[.agg #[.slice (some ⟨b1, o1, none⟩) m.length mc, .slice ya y.length yc], .slice (some ⟨xb, 0, none⟩) xs.length xs.length, .func (.func wg) #[] wl] V2 fun e w' => ∃ qa qc va vc, e = .returned (.tuple #[.agg #[.slice qa xs.length qc, .slice va vs.length vc], .bool true]) ∧ Below V2.heap.size V2 w' ∧ FitAt w' V2.heap.size qa xs va vs) := HFT.out.mono fun e w' ⟨h1, h2⟩ => by
              rcases h2 with ⟨h3, _⟩ | ⟨vs', qa, qc, va, vc, h3, h4, h5⟩
              · cases h3
              · obtain rfl := Option.some.inj h3
                exact ⟨qa, qc, va, vc, h4, h1, h5⟩
            clear HFT q1 q2 q3 q4
            gi_wp2_with (refine ⟨trivial, ?_⟩; gi_at_call 44; refine (callsIn_wide.2 HFT2.out).mono ?_; rintro e W5 ⟨qa, qc, va, vc, rfl, hb5, hfa⟩; obtain ⟨fn, tmps, assign, body, hy1, hR⟩ := HYP.out qa qc va vc W5 hb5 hfa; have HFA := Lib.hid hfa; have HB5 := Lib.hid hb5; have hcY5 := (hb5.cell (p := ⟨W.heap.size, 0, none⟩) (cell_lt hcY2)).trans hcY2; have hcY6 := (alloc_old W5 (.cells #[.slice qa xs.length qc, .slice va vs.length vc] 41) _ _ (cell_lt hcY5)).trans hcY5; clear hb5 hfa)
            have HB6 : Hid (Below V2.heap.size V2 (W5.alloc (.cells #[.slice qa xs.length qc, .slice va vs.length vc] 41))) := HB5.out.alloc HB5.out.size _
            have HBH : Hid (∀ b, ownF ⟨qa, qc, xs, va, vc, vs⟩ b → V2.heap.size ≤ b) := fun b e => by
              rcases e with ⟨ad, e, rfl⟩ | ⟨ad, e, rfl⟩
              · exact (HFA.out.q ad e).1
              · exact (HFA.out.v ad e).1
            refine hR.mono ?_
            rintro e W6 (⟨rfl, hw⟩ | ⟨rfl, hw⟩)
            · obtain ⟨C', r1, r2, r3⟩ := fin_next hJ XI.out Q1.out Q2.out Q3.out Q4.out HB6.out HBH.out hw
              have R1 := Lib.hid r1; have R2 := Lib.hid r2; have R3 := Lib.hid r3
              clear r1 r2 r3 hw hR hy1 hcY5 hcY6 hcY2 cq0 cq1 ck0 cw0
              gi_wp2
              refine ⟨C', fun b => T3 b ∧ b < V2.heap.size, ⟨_, ?_, R1.out⟩, fun b hb hl _ => ⟨hb, hl⟩, fun b hb => (R2.out b hb).elim .inl (fun q => .inr (.inr q)), R3.out.mono fun b _ e => .inl e⟩
              rw [List.map_append, XP.out, List.map_append, List.filterMap_append]
              simp [HFO.out]
            · obtain ⟨C', r1, r2, r3⟩ := fin_next hJ XI.out Q1.out Q2.out Q3.out Q4.out HB6.out HBH.out hw
              have R1 := Lib.hid r1; have R2 := Lib.hid r2; have R3 := Lib.hid r3
              clear r1 r2 r3 hw hR hy1 hcY5 hcY6 hcY2 cq0 cq1 ck0 cw0
              gi_wp2
              exact ⟨C', fun b => T3 b ∧ b < V2.heap.size, ⟨_, rfl, R1.out⟩, fun b hb hl _ => ⟨hb, hl⟩, fun b hb => (R2.out b hb).elim .inl (fun q => .inr (.inr q)), R3.out.mono fun b _ e => .inl e⟩
      · obtain ⟨T2, q1, q2, q3, q4⟩ := hI.cl
        obtain rfl : k = mn + 1 := by omega
        have X1 := Lib.hid q1; have X4 := Lib.hid q4
        have XM := Lib.hid hI.dm
        clear q1 q2 q3 q4 hI
        gi_wp2
        refine fit_leaves (ms := ms) rfl hJ X1.out X4.out HND.out XM.out (fun C T W h => .inl ⟨_, _, _, ?_, h⟩)
        exact HPRE.out
end Go.Proofs.Ytfnomiingelfaaa
/- Slices of fits of the call's own: appended to, in a plain walk and in a fenced one. -/
namespace Go.Proofs.Ytfnomiingelfaaa
open Go.RowKit

theorem Try.infoFit : (Try.prog.info? 41).map (fun i => (i.zero, i.size, i.bytes)) = some (some (.agg #[.slice none 0 0, .slice none 0 0]), 2, 48) := by kernel_rfl
def flatF : List FitV → List Value
  | [] => []
  | x :: xs => .slice x.qa x.px.length x.qc :: .slice x.va x.vs.length x.vc :: flatF xs
theorem flatF_at : ∀ (xs : List FitV) {j : Nat} {x : FitV}, xs[j]? = some x → (flatF xs)[j * 2]? = some (.slice x.qa x.px.length x.qc) ∧ (flatF xs)[j * 2 + 1]? = some (.slice x.va x.vs.length x.vc)
  | [], j, p, h => by simp at h
  | q :: ps, 0, p, h => by simp at h; subst h; exact ⟨rfl, rfl⟩
  | q :: ps, j + 1, p, h => by
    have h := flatF_at ps (j := j) (x := p) (by simpa using h)
    rw [show (j + 1) * 2 = j * 2 + 1 + 1 by omega]
    exact ⟨by simp only [flatF, List.getElem?_cons_succ]; exact h.1, by simp only [flatF, List.getElem?_cons_succ]; exact h.2⟩
theorem flatF_snoc : ∀ (xs : List FitV) (x : FitV), flatF (xs ++ [x]) = flatF xs ++ [.slice x.qa x.px.length x.qc, .slice x.va x.vs.length x.vc]
  | [], x => rfl
  | p :: ps, x => by simp only [List.cons_append, flatF, flatF_snoc ps x]
def OwnF (w : World) (base : Nat) (v : Value) (xs : List FitV) : Prop := w.ownsRow base 41 2 v xs.length (flatF xs)
theorem OwnF.nil (w : World) (base : Nat) : OwnF w base (.slice none 0 0) [] := World.ownsRow_nil _ _ _ _
theorem OwnF.below {w w' : World} {base : Nat} {v : Value} {xs : List FitV} (h : OwnF w base v xs) (hb : Below w.heap.size w w') : OwnF w' base v xs := row_below h hb
theorem OwnF.same {w w' : World} {base : Nat} {v : Value} {xs : List FitV} (h : OwnF w base v xs) (hb : ∀ b, v.ownBlock = some b → w'.heap[b]? = w.heap[b]?) : OwnF w' base v xs := row_same h hb
theorem OwnF.form {w : World} {base : Nat} {v : Value} {xs : List FitV} (h : OwnF w base v xs) : (v = .slice none 0 0 ∧ xs = []) ∨ ∃ g cap, v = .slice (some ⟨g, 0, none⟩) xs.length cap := by
  obtain ⟨h0, ⟨e, hn⟩ | ⟨g, cap, cur, e, _⟩⟩ := h
  · exact .inl ⟨e, List.length_eq_zero_iff.1 hn⟩
  · exact .inr ⟨g, cap, e⟩
theorem OwnF.cell {w : World} {base g n cap : Nat} {xs : List FitV} (h : OwnF w base (.slice (some ⟨g, 0, none⟩) n cap) xs) {j : Nat} {x : FitV} (hj : xs[j]? = some x) :
    w.cell? ⟨g, j * 2, none⟩ = some (.slice x.qa x.px.length x.qc) ∧ w.cell? ⟨g, j * 2 + 1, none⟩ = some (.slice x.va x.vs.length x.vc) := by
  have hl := (List.getElem?_eq_some_iff.1 hj).1
  obtain ⟨h1, h2⟩ := flatF_at xs hj
  obtain rfl : n = xs.length := by
    rcases h.form with ⟨e, _⟩ | ⟨g', cap', e⟩
    · cases e
    · simpa using congrArg (fun v => match v with | .slice _ n _ => n | _ => 0) e
  have h : w.ownsRow base 41 2 (.slice (some ⟨g, 0, none⟩) xs.length cap) xs.length (flatF xs) := h
  exact ⟨(World.ownsRow.cellAt h (j * 2) (by omega)).trans h1, (World.ownsRow.cellAt h (j * 2 + 1) (by omega)).trans h2⟩
theorem OwnF.block {w : World} {base b : Nat} {v : Value} {xs : List FitV} (h : OwnF w base v xs) (hb : v.ownBlock = some b) : b < w.heap.size := (World.ownsRow.lt h b hb).2
theorem ownF_news (V : World) (u v : Value) (t : TypeId) : ∀ j x, [u, v][j]? = some x → (V.alloc (.cells #[u, v] t)).cell? ((⟨V.heap.size, 0, none⟩ : Addr).add j) = some x := fun j x hj => by
  match j, hj with
  | 0, hj => simp at hj; subst hj; rw [addr_add]; exact alloc_cell _ _ _ _ _ rfl
  | 1, hj => simp at hj; subst hj; rw [addr_add]; exact alloc_cell _ _ _ _ _ rfl
  | j + 2, hj => simp at hj
theorem wpListIn_append_lies {F : Fence} {r : Nat} {P : Program} {w : World} {ops : Array Oper} {rest : List Oper} {o : Oper} {a : Act} {Q : Exit → Act → World → Prop} (hgd : o.guard = none) (s x : Operand) (t : TypeId)
    (ho : o.op = .call { callee := .builtin .append, args := #[s, x], argTypes := #[t, t] })
    (base : Nat) (e : TypeId) (i : TypeInfo) (z : Value) (size bytes : Nat) (ht : P.underlying t = some (.slice e)) (hi : P.info? e = some i) (hz : i.zero = some z)
    (hsize : i.size = size) (hby : i.bytes = bytes) (hzs : z.cells.size = size) (hsz : 0 < size)
    (v : Value) (n : Nat) (xs : List Value) (hs : a.eval s = v) (hown : w.ownsRow base e size v n xs)
    (ad : Addr) (m c : Nat) (news : List Value) (hx : a.eval x = .slice (some ad) m c) (hl : news.length = m * size) (hnews : ∀ j u, news[j]? = some u → w.cell? (ad.add j) = some u) (h1 : ∀ u ∈ news, u.oneCell' = true)
    (hm : 0 < m) (h63 : n + m ≤ maxLen) (hbytes : (n + m) * bytes ≤ 140737488355328) (hbase : base ≤ w.heap.size) (H : Nat) (hH : w.heap.size = H)
    (h : ∀ g cap w', w'.ownsRow base e size (.slice (some ⟨g, 0, none⟩) (n + m) cap) (n + m) (xs ++ news) → w.grownBy w' v.ownBlock → (v.ownBlock = some g ∨ g = H) → g < w'.heap.size → wpListIn F r P ops Q rest (a.put o.dst (.slice (some ⟨g, 0, none⟩) (n + m) cap)) w') : wpListIn F r P ops Q (o :: rest) a w := by
  refine wpListIn_plain hgd fun K hK' => ?_
  obtain ⟨g, cap, w', hr, h2, h3, h4, h5⟩ := run_append_lies (P := P) w t o.type base e i z size bytes ht hi hz hsize hby hzs hsz v n xs hown ad m c news hl hnews h1 hm h63 hbytes hbase H hH
  unfold Oper.wpIn
  refine ⟨?_, ?_⟩
  · simp [Oper.about, ho, resolve, Target.leads, Sem.run_pure]
  · rw [Oper.semAt_plain F _ _ (by rw [ho]; intro c hc'; cases hc')]
    simp [execOp, ho, resolve, invoke, builtin, hs, hx, hr, Result.andThen]
    exact hK' _ _ (h g cap w' h2 h3 h4 h5)
def PushedF (V : World) (base : Nat) (v : Value) (xs : List FitV) (x : FitV) (g cap : Nat) (w' : World) : Prop :=
  OwnF w' base (.slice (some ⟨g, 0, none⟩) (xs.length + 1) cap) (xs ++ [x]) ∧ Turned (fun b => v.ownBlock = some b) V w' ∧ (v.ownBlock = some g ∨ V.heap.size ≤ g)
theorem pushedF {V w' : World} {base : Nat} {v : Value} {xs : List FitV} {x : FitV} {g cap : Nat} {t : TypeId} (h1 : w'.ownsRow base 41 2 (.slice (some ⟨g, 0, none⟩) (xs.length + 1) cap) (xs.length + 1) (flatF xs ++ [.slice x.qa x.px.length x.qc, .slice x.va x.vs.length x.vc]))
    (h2 : (V.alloc (.cells #[.slice x.qa x.px.length x.qc, .slice x.va x.vs.length x.vc] t)).grownBy w' v.ownBlock) (h3 : v.ownBlock = some g ∨ g = (V.alloc (.cells #[.slice x.qa x.px.length x.qc, .slice x.va x.vs.length x.vc] t)).heap.size) : PushedF V base v xs x g cap w' := by
  refine ⟨?_, ?_, h3.imp_right fun e => by rw [e, World.size_alloc]; omega⟩
  · show World.ownsRow _ _ _ _ _ _ _
    rw [flatF_snoc, List.length_append]; exact h1
  · exact (turned_alloc _ V _).trans (turned_grown (T := fun b => v.ownBlock = some b) h2 fun r e => e) fun b e => .inl e
theorem wpListIn_pushF {F : Fence} {r : Nat} {ops : Array Oper} {rest : List Oper} {o : Oper} {act : Act} {Q : Exit → Act → World → Prop} (hgd : o.guard = none) (s x : Operand)
    (ho : o.op = .call { callee := .builtin .append, args := #[s, x], argTypes := #[57, 57] }) (base : Nat) (v : Value) (xs : List FitV) (y : FitV) (V : World) (B : Nat) (t : TypeId)
    (hs : act.eval s = v) (hx : act.eval x = .slice (some ⟨B, 0, none⟩) 1 1) (hB : B = V.heap.size) (hown : OwnF V base v xs) (hl : xs.length ≤ 100000) (hbase : base ≤ V.heap.size)
    (h : ∀ g cap w', PushedF V base v xs y g cap w' → wpListIn F r Try.prog ops Q rest (act.put o.dst (.slice (some ⟨g, 0, none⟩) (xs.length + 1) cap)) w') : wpListIn F r Try.prog ops Q (o :: rest) act (V.alloc (.cells #[.slice y.qa y.px.length y.qc, .slice y.va y.vs.length y.vc] t)) := by
  obtain ⟨i0, hi, hz0, hz1, hz2⟩ := info_parts Try.infoFit
  subst hB
  have hb1 : Below V.heap.size V (V.alloc (.cells #[.slice y.qa y.px.length y.qc, .slice y.va y.vs.length y.vc] t)) := (Below.refl _ _).alloc (Nat.le_refl _) _
  refine wpListIn_append_lies hgd s x 57 ho base 41 i0 (.agg #[.slice none 0 0, .slice none 0 0]) 2 48 Try.underlying57 hi hz0 hz1 hz2 rfl (by decide) v xs.length (flatF xs) hs (hown.below hb1) ⟨V.heap.size, 0, none⟩ 1 1 [.slice y.qa y.px.length y.qc, .slice y.va y.vs.length y.vc] hx rfl (ownF_news _ _ _ _) (fun u hu => by simp at hu; rcases hu with rfl | rfl <;> rfl) (by decide) (by unfold maxLen; omega) (by omega) (by rw [World.size_alloc]; omega) _ rfl ?_
  intro g cap w' h1 h2 h3 _
  exact h g cap w' (pushedF h1 h2 h3)
theorem memF_turned {x : FitV} {T : Blk} {W W' : World} (h : MemF x W) (ht : Turned T W W') (hn : ∀ b, ownF x b → ¬ T b) : MemF x W' := by
  refine ⟨fun k hk => ?_, fun j p hj => ?_, fun ad e => ⟨Nat.zero_le _, Nat.lt_of_lt_of_le (h.q ad e).2 ht.size⟩, fun ad e => ⟨Nat.zero_le _, Nat.lt_of_lt_of_le (h.v ad e).2 ht.size⟩⟩
  · obtain ⟨b, o, e, hc⟩ := h.sl k hk
    exact ⟨b, o, e, ht.cell hc (hn _ (.inl ⟨_, e, rfl⟩))⟩
  · obtain ⟨b, e, c1, c2⟩ := h.rl j p hj
    exact ⟨b, e, ht.cell c1 (hn _ (.inr ⟨_, e, rfl⟩)), ht.cell c2 (hn _ (.inr ⟨_, e, rfl⟩))⟩
theorem memF_lt {x : FitV} {W : World} (h : MemF x W) {b : Nat} (hb : ownF x b) : b < W.heap.size := by
  rcases hb with ⟨ad, e, rfl⟩ | ⟨ad, e, rfl⟩
  · exact (h.q ad e).2
  · exact (h.v ad e).2
def Fs (W : World) (a : Option Addr) (l : List (List Int × List (Int × Int))) : Prop := ∀ k p, l[k]? = some p → ∃ b qa qc va vc, a = some ⟨b, 0, none⟩ ∧ W.cell? ⟨b, k * 2, none⟩ = some (.slice qa p.1.length qc) ∧ W.cell? ⟨b, k * 2 + 1, none⟩ = some (.slice va p.2.length vc) ∧ Sl W qa p.1 ∧ Rl W va p.2
theorem Fs.below {W W' : World} {a : Option Addr} {l : List (List Int × List (Int × Int))} (h : Fs W a l) (hb : Below W.heap.size W W') : Fs W' a l := fun k p hk => by
  obtain ⟨b, qa, qc, va, vc, e, h1, h2, h3, h4⟩ := h k p hk
  exact ⟨b, qa, qc, va, vc, e, (hb.cell (p := ⟨b, k * 2, none⟩) (cell_lt h1)).trans h1, (hb.cell (p := ⟨b, k * 2 + 1, none⟩) (cell_lt h2)).trans h2, h3.below hb, h4.below hb⟩
theorem OwnF.fs {W : World} {base : Nat} {a : Option Addr} {n cap : Nat} {xs : List FitV} (h : OwnF W base (.slice a n cap) xs) (hm : ∀ x ∈ xs, MemF x W) : n = xs.length ∧ Fs W a (xs.map keyF) := by
  rcases h.form with ⟨e, rfl⟩ | ⟨g, cap', e⟩
  · have : n = 0 := by simpa using congrArg (fun v => match v with | .slice _ n _ => n | _ => 0) e
    exact ⟨this, fun k p hk => by simp at hk⟩
  · obtain ⟨rfl, rfl, rfl⟩ : a = some ⟨g, 0, none⟩ ∧ n = xs.length ∧ cap = cap' := by simpa using e
    refine ⟨rfl, fun k p hk => ?_⟩
    rw [List.getElem?_map] at hk
    obtain ⟨x, hx, rfl⟩ := Option.map_eq_some_iff.1 hk
    obtain ⟨c1, c2⟩ := h.cell hx
    have hmx := hm x (List.mem_of_getElem? hx)
    exact ⟨g, x.qa, x.qc, x.va, x.vc, rfl, c1, c2, hmx.sl, hmx.rl⟩
def FsPost (r : List (List Int × List (Int × Int)) × Int) (w : World) (e : Ending) (w' : World) : Prop := Below w.heap.size w w' ∧ ∃ a cap, e = .returned (.tuple #[.slice a r.1.length cap, .int .i64 r.2]) ∧ Fs w' a r.1
def leastF (Z : List (List Int × List (Int × Int))) : List (List Int × List (Int × Int)) := match Z with | [] => [] | p :: _ => Z.filter fun q => q.1.length == p.1.length
def zB (p : Int × Int) : Bool := p.1 == 0
def allFits (m : List (List Int)) (y : List Int) : List (List Int × List (Int × Int)) := fitsTo zB m y (min 10 (rankM m) + 1)
def sparsestV (m : List (List Int)) (y : List Int) : List (List Int × List (Int × Int)) × Int := if readE m y = 0 then (if leastF (allFits m y) = [] then ([], 10) else (leastF (allFits m y), 0)) else ([], readE m y)
theorem fitsTo_mono (wr : Int × Int → Bool) (m : List (List Int)) (y : List Int) (k : Nat) : (fitsTo wr m y k).Pairwise fun a b => a.1.length ≤ b.1.length := by
  have hlen : ∀ s (a : List Int × List (Int × Int)), a ∈ ((compl (colsM m) s 0).filterMap fun px => (fitO wr m y px).map fun vs => (px, vs)) → a.1.length = s := fun s a ha => by
    obtain ⟨px, hpx, e⟩ := List.mem_filterMap.1 ha
    obtain ⟨vs, _, rfl⟩ := Option.map_eq_some_iff.1 e
    exact (compl_mem hpx).1
  unfold fitsTo
  rw [List.pairwise_flatMap]
  constructor
  · intro s _
    rw [List.pairwise_iff_getElem]
    intro i j hi hj _
    rw [hlen s _ (List.getElem_mem hi), hlen s _ (List.getElem_mem hj)]; exact Nat.le_refl _
  · refine List.pairwise_lt_range.imp fun hlt a ha b hb => ?_
    rw [hlen _ a ha, hlen _ b hb]; omega
theorem least_break {Z pre rest : List (List Int × List (Int × Int))} {x a : List Int × List (Int × Int)} (hp : Z.Pairwise fun a b => a.1.length ≤ b.1.length) (hZ : Z = (a :: pre) ++ x :: rest) (hs : ∀ b ∈ a :: pre, b.1.length = a.1.length) (hgt : a.1.length < x.1.length) : leastF Z = a :: pre := by
  have h1 : (a :: pre).filter (fun q => q.1.length == a.1.length) = a :: pre := List.filter_eq_self.2 fun b hb => by simpa using hs b hb
  have h2 : (x :: rest).filter (fun q => q.1.length == a.1.length) = [] := List.filter_eq_nil_iff.2 fun b hb => by
    rw [hZ, List.pairwise_append] at hp
    have hx : x.1.length ≤ b.1.length := by
      rcases List.mem_cons.1 hb with rfl | hb
      · exact Nat.le_refl _
      · exact (List.pairwise_cons.1 hp.2.1).1 b hb
    simp; omega
  have e : leastF Z = Z.filter fun q => q.1.length == a.1.length := by rw [hZ]; rfl
  rw [e, hZ, List.filter_append, h1, h2, List.append_nil]
theorem least_all {Z : List (List Int × List (Int × Int))} (hs : ∀ a ∈ Z, ∀ b ∈ Z, a.1.length = b.1.length) : leastF Z = Z := by
  cases Z with
  | nil => rfl
  | cons a Z =>
    have e : leastF (a :: Z) = (a :: Z).filter fun q => q.1.length == a.1.length := rfl
    rw [e]
    exact List.filter_eq_self.2 fun b hb => by simpa using hs b hb a List.mem_cons_self
theorem allFits_len {m : List (List Int)} (hv : validM m = true) (y : List Int) : ∀ wr k, k ≤ 11 → (fitsTo wr m y k).length ≤ 300 * k
  | wr, 0, _ => by simp [fitsTo]
  | wr, k + 1, h => by
    rw [fitsTo_succ, List.length_append]
    have h1 := allFits_len hv y wr k (by omega)
    have h2 := List.length_filterMap_le (fun px => (fitO wr m y px).map fun vs => (px, vs)) (compl (colsM m) k 0)
    have h3 := len_small (colsM m) (validM_of hv).2.2.2.1 k (by omega)
    omega
end Go.Proofs.Ytfnomiingelfaaa
/- Solve of the answers, and fractions compared: contracts. -/
namespace Go.Proofs.Ytfnomiingelfaaa
open Go.RowKit

end Go.Proofs.Ytfnomiingelfaaa
/- every and known of the answers: contracts. -/
namespace Go.Proofs.Ytfnomiingelfaaa
open Go.RowKit

end Go.Proofs.Ytfnomiingelfaaa
/- Read and Any of the answers: contracts. -/
namespace Go.Proofs.Ytfnomiingelfaaa
open Go.RowKit

def anyV (m : List (List Int)) (y : List Int) : List (Int × Int) × Int :=
  if readE m y = 0 then (if possB (redB m (upTo (colsM m)) (oneB y)).rows (redB m (upTo (colsM m)) (oneB y)).piv.length (upTo (colsM m)).length = true then (solL (upTo (colsM m)).length (redB m (upTo (colsM m)) (oneB y)).rows (redB m (upTo (colsM m)) (oneB y)).piv (redB m (upTo (colsM m)) (oneB y)).dv (redB m (upTo (colsM m)) (oneB y)).piv.length, 0) else ([], 10)) else ([], readE m y)
end Go.Proofs.Ytfnomiingelfaaa
/- Any of the program: a contract. -/
namespace Go.Proofs.Ytfnomiingelfaaa
open Go.RowKit

end Go.Proofs.Ytfnomiingelfaaa
/- Possible of the answers: a contract. -/
namespace Go.Proofs.Ytfnomiingelfaaa
open Go.RowKit

def possV (m : List (List Int)) (y : List Int) : Bool × Int := if (anyV m y).2 = 10 then (false, 0) else (decide ((anyV m y).2 = 0), (anyV m y).2)
end Go.Proofs.Ytfnomiingelfaaa
/- Possible of the program: a contract. -/
namespace Go.Proofs.Ytfnomiingelfaaa
open Go.RowKit

set_option maxRecDepth 1000000 in
set_option maxHeartbeats 3200000 in
theorem lpossible_any (ma : Option Addr) (m : List (List Int)) (mc : Nat) (ya : Option Addr) (y : List Int) (yc : Nat) (w : World) (hm : MOk m) (hly : y.length ≤ 9223372036854775807) (hs : Ms w ma m) (hy : Sl w ya y) :
    Calls Try.prog 60 #[.slice ma m.length mc, .slice ya y.length yc] w fun e w' => e = .returned (.tuple #[.bool (possV m y).1, .int .i64 (possV m y).2]) ∧ Below w.heap.size w w' := by
  obtain ⟨rv, hrv⟩ : ∃ rv, readE m y = rv := ⟨_, rfl⟩
  have HRE : Hid (Calls Try.prog 80 #[.slice ma m.length mc, .slice ya y.length yc] w fun e w' => e = .returned (.int .i64 rv) ∧ Below w.heap.size w w') := by rw [← hrv]; exact lread_any ma m mc ya y yc w hm hly hs hy
  by_cases hr0 : rv = 0
  · subst hr0
    obtain ⟨hv, hyl, hyb⟩ := readE_ok hrv
    obtain ⟨px, hpx⟩ : ∃ px, upTo (colsM m) = px := ⟨_, rfl⟩
    have h1 : ∀ j ∈ px, 0 ≤ j ∧ j < (colsM m : Int) := fun j hj => by rw [← hpx] at hj; exact upTo_in hj
    have h2 : px.length ≤ 10 := by rw [← hpx, upTo_len]; exact (validM_of hv).2.2.2.1
    obtain ⟨hm1, hm6, hc1, hc10, hrows⟩ := validM_of hv
    have h64 : Hid (All64 m) := fun q hq x hx => by
      obtain ⟨c, hc, rfl⟩ := mem_gt.1 hx
      have := gt_in (hrows q hq).2 hc
      unfold In64; omega
    have hy64 : ∀ x ∈ y, In64 x := fun x hx => by
      obtain ⟨c, hc, rfl⟩ := mem_gt.1 hx
      have := gt_in hyb hc
      unfold In64; omega
    have HF := Lib.hid (redB_fin hv h1 hyl hyb)
    have hco := redB_cols m px (oneB y)
    obtain ⟨rd, hrd⟩ : ∃ rd, redB m px (oneB y) = rd := ⟨_, rfl⟩
    have HRD : Hid (∀ W, Below w.heap.size w W → Calls Try.prog 61 #[.slice ma m.length mc, .func (.func 100) #[] #[.pointer (some ⟨W.heap.size, 0, none⟩)]] (W.alloc (.cells #[.slice ya y.length yc] 24)) (RdPost rd (W.alloc (.cells #[.slice ya y.length yc] 24)))) := fun W hb => by
      have hb2 : Below w.heap.size w (W.alloc (.cells #[.slice ya y.length yc] 24)) := hb.alloc hb.size _
      rw [← hrd, ← hpx]
      exact reduceAll_anyOne (Lib.hid (one_beh (Nat.le_of_eq hyl.symm) (by omega) (alloc_cell _ _ _ _ _ rfl) (hy.below hb2))) ⟨Nat.le_refl _, by decide⟩ (Lib.hid (oneB_ok hy64)) (Lib.hid hm6) (Lib.hid hm1) (Lib.hid ⟨hc1, hc10⟩) (Lib.hid fun r hr => (hrows r hr).1) h64 (Lib.hid (hs.below hb2))
    have HSV : Hid (possV m y = (possB rd.rows rd.piv.length px.length, 0)) := by
      show _ = _
      have e : anyV m y = if possB rd.rows rd.piv.length px.length = true then (solL px.length rd.rows rd.piv rd.dv rd.piv.length, 0) else ([], 10) := by unfold anyV; rw [if_pos hrv, hpx, hrd]
      unfold possV
      rw [e]
      cases possB rd.rows rd.piv.length px.length <;> rfl
    rw [HSV.out]
    rw [hrd] at HF hco
    obtain ⟨pl, hpl⟩ : ∃ pl, px.length = pl := ⟨_, rfl⟩
    rw [hpl] at HF hco h2 ⊢
    obtain ⟨cols, rows, piv, dv⟩ := rd
    dsimp only at hco ⊢
    subst hco
    have hlen := HF.out.len
    have hrow := HF.out.row
    have hplr := HF.out.pl
    dsimp only at hlen hrow hplr
    obtain ⟨z, hz⟩ : ∃ z, possB rows piv.length cols = z := ⟨_, rfl⟩
    have HPO : Hid (∀ (g cp : Nat) (ads : List (Nat × Nat)) (pa : Option Addr) (pc base : Nat) (W : World), SI W base g ads rows → Calls Try.prog 82 #[.agg #[.int .i64 (cols : Int), .slice (some ⟨g, 0, none⟩) rows.length cp, .slice pa piv.length pc, .int .i64 dv]] W fun e w' => e = .returned (.bool z) ∧ Below W.heap.size W w') := fun g cp ads pa pc base W h => by rw [← hz]; exact possible_any cols g cp (cols + 1) ads rows pa piv.length pc piv dv base W rfl (by omega) (by omega) hrow (by omega) (by omega) h
    rw [hz]
    clear hv hs hm h1 hrd hrows h64 hm1 hm6 hc1 hc10 hrv hyl hyb hy64 hy hpl hpx hlen hrow hplr hz HF HSV
    go_enter Try.func60, Try.ntmps60
    go_wp2_with (first | (go_at_call 80; refine HRE.out.mono ?_; rintro e w2 ⟨rfl, hb⟩; have HB2 := Lib.hid hb; clear hb) | (go_at_call 81; refine (oneOf_any ya y.length yc w2).mono ?_; rintro e w9 ⟨rfl, rfl⟩) | (go_at_call 61; refine (HRD.out w2 HB2.out).mono ?_; rintro e w3 ⟨hb3, g, cp, ads, pa2, pc2, rfl, hgg, si, pi⟩; unfold rdV; dsimp only at si pi ⊢; have HSI := Lib.hid si; have HB3 := Lib.hid hb3; clear si pi hgg hb3) | (go_at_call 82; refine (HPO.out _ _ _ _ _ _ _ HSI.out).mono ?_; rintro e w5 ⟨rfl, hb5⟩; have HB5 := Lib.hid hb5; clear hb5))
    go_ret2
    exact ⟨rfl, (HB2.out.alloc HB2.out.size _).trans ((HB3.out.mono (by rw [World.size_alloc]; have := HB2.out.size; omega)).trans (HB5.out.mono (by have h1 := HB3.out.size; rw [World.size_alloc] at h1; have := HB2.out.size; omega)))⟩
  · have y0 : (rv == 0) = false := by simpa using hr0
    have y1 : (rv != 0) = true := by simpa using hr0
    have hne : rv ≠ 10 := by
      rw [← hrv]; unfold readE fitsV; split
      · split
        · split <;> decide
        · decide
      · decide
    have HSV : Hid (possV m y = (false, rv)) := by
      show _ = _
      have e : anyV m y = ([], rv) := by unfold anyV; rw [hrv, if_neg hr0]
      unfold possV; rw [e]; dsimp only; rw [if_neg hne, decide_eq_false hr0]
    rw [HSV.out]
    clear hs hm hr0 hrv hy HSV
    go_enter Try.func60, Try.ntmps60
    go_wp2_with (go_at_call 80; refine HRE.out.mono ?_; rintro e w2 ⟨rfl, hb⟩; have HB2 := Lib.hid hb; clear hb)
    go_ret2
    exact ⟨rfl, HB2.out⟩
end Go.Proofs.Ytfnomiingelfaaa
/- ask and fits of layer 4: contracts. -/
namespace Go.Proofs.Ytfnomiingelfaaa
open Go.RowKit

theorem poss_e (m : List (List Int)) (y : List Int) : (possV m y).2 = readE m y := by
  have hr : readE m y ≠ 10 := by
    unfold readE
    split
    · unfold fitsV
      split
      · split <;> decide
      · decide
    · decide
  unfold possV anyV
  by_cases h : readE m y = 0
  · rw [if_pos h, h]
    obtain ⟨z, hz⟩ : ∃ z, possB (redB m (upTo (colsM m)) (oneB y)).rows (redB m (upTo (colsM m)) (oneB y)).piv.length (upTo (colsM m)).length = z := ⟨_, rfl⟩
    rw [hz]
    cases z
    · rfl
    · rfl
  · rw [if_neg h, if_neg (by show ¬ readE m y = 10; exact hr)]
set_option maxRecDepth 100000 in
set_option maxHeartbeats 800000 in
theorem ask_ok (ma : Option Addr) (m : List (List Int)) (mc : Nat) (ya : Option Addr) (y : List Int) (yc : Nat) (w : World) (hr : readE m y = 0) (hm : MOk m) (hly : y.length ≤ 9223372036854775807) (hs : Ms w ma m) (hy : Sl w ya y) :
    Calls Try.prog 40 #[.slice ma m.length mc, .slice ya y.length yc] w fun e w' => e = .returned (.tuple #[.agg #[.slice ma m.length mc, .slice ya y.length yc], .int .i64 0]) ∧ Below w.heap.size w w' := by
  obtain ⟨V, hV⟩ : ∃ V, w.alloc (.cells #[.slice none 0 0, .slice none 0 0] 49) = V := ⟨_, rfl⟩
  have HBV : Hid (Below w.heap.size w V) := by rw [← hV]; exact (Below.refl _ _).alloc (Nat.le_refl _) _
  have HVW := Lib.hid (box2 hV)
  obtain ⟨t0, t1, t2, t3⟩ := HVW.out V (Below.refl _ _)
  have HPO : Hid (Calls Try.prog 60 #[.slice ma m.length mc, .slice ya y.length yc] V fun e w' => ∃ b, e = .returned (.tuple #[.bool b, .int .i64 0]) ∧ Below V.heap.size V w') := by
    refine (lpossible_any ma m mc ya y yc V hm hly (hs.below HBV.out) (hy.below HBV.out)).mono ?_
    rintro e w' ⟨h1, h2⟩
    rw [poss_e, hr] at h1
    exact ⟨_, h1, h2⟩
  clear hr hm hs hy
  go_enter Try.func40, Try.ntmps40
  go_wp2_with (go_at_call 60; refine HPO.out.mono ?_; rintro e w2 ⟨b, rfl, hb⟩; obtain ⟨u0, u1, u2, u3⟩ := HVW.out w2 hb; have HBW2 : Hid (Below w.heap.size w w2) := HBV.out.trans (hb.mono HBV.out.size); clear hb)
  refine bodyPost_ret (v := .tuple #[.agg #[.slice ma m.length mc, .slice ya y.length yc], .int .i64 0]) ?_ rfl ⟨rfl, (HBW2.out.setCell (p := ⟨w.heap.size, 0, none⟩) (Nat.le_refl _) _).setCell (p := ⟨w.heap.size, 1, none⟩) (Nat.le_refl _) _⟩
  rw [results_cell_tmp rfl]; go_simp
set_option maxRecDepth 100000 in
set_option maxHeartbeats 800000 in
theorem ask_no (ma : Option Addr) (m : List (List Int)) (mc : Nat) (ya : Option Addr) (y : List Int) (yc : Nat) (w : World) (e0 : Int) (hr : readE m y = e0) (h0 : e0 ≠ 0) (hm : MOk m) (hly : y.length ≤ 9223372036854775807) (hs : Ms w ma m) (hy : Sl w ya y) :
    Calls Try.prog 40 #[.slice ma m.length mc, .slice ya y.length yc] w fun e w' => e = .returned (.tuple #[.agg #[.slice none 0 0, .slice none 0 0], .int .i64 e0]) ∧ Below w.heap.size w w' := by
  obtain ⟨V, hV⟩ : ∃ V, w.alloc (.cells #[.slice none 0 0, .slice none 0 0] 49) = V := ⟨_, rfl⟩
  have HBV : Hid (Below w.heap.size w V) := by rw [← hV]; exact (Below.refl _ _).alloc (Nat.le_refl _) _
  have HVW := Lib.hid (box2 hV)
  obtain ⟨t0, t1, t2, t3⟩ := HVW.out V (Below.refl _ _)
  have HPO : Hid (Calls Try.prog 60 #[.slice ma m.length mc, .slice ya y.length yc] V fun e w' => ∃ b, e = .returned (.tuple #[.bool b, .int .i64 e0]) ∧ Below V.heap.size V w') := by
    refine (lpossible_any ma m mc ya y yc V hm hly (hs.below HBV.out) (hy.below HBV.out)).mono ?_
    rintro e w' ⟨h1, h2⟩
    rw [poss_e, hr] at h1
    exact ⟨_, h1, h2⟩
  have y1 : (e0 == 0) = false := by simpa using h0
  have y2 : (e0 != 0) = true := by simpa using h0
  clear hr hm hs hy h0
  go_enter Try.func40, Try.ntmps40
  go_wp2_with (go_at_call 60; refine HPO.out.mono ?_; rintro e w2 ⟨b, rfl, hb⟩; obtain ⟨u0, u1, u2, u3⟩ := HVW.out w2 hb; have HBW2 : Hid (Below w.heap.size w w2) := HBV.out.trans (hb.mono HBV.out.size); clear hb)
  refine bodyPost_ret (v := .tuple #[.agg #[.slice none 0 0, .slice none 0 0], .int .i64 e0]) ?_ rfl ⟨rfl, (HBW2.out.setCell (p := ⟨w.heap.size, 0, none⟩) (Nat.le_refl _) _).setCell (p := ⟨w.heap.size, 1, none⟩) (Nat.le_refl _) _⟩
  rw [results_cell_tmp rfl]; go_simp
theorem sfits_any (u v : Value) (k : Int) (wg : Nat) (wl : Array Value) (w : World) (hu : ∃ a n c, u = .slice a n c) (hv : ∃ a n c, v = .slice a n c) : Calls Try.prog 21 #[.agg #[u, v], .int .i64 k, .func (.func wg) #[] wl] w fun e w' =>
    e = .returned (.func (.func 41) #[] #[.pointer (some ⟨w.heap.size, 0, none⟩), .pointer (some ⟨w.heap.size + 1, 0, none⟩), .pointer (some ⟨w.heap.size + 1 + 1, 0, none⟩)]) ∧ w' = ((w.alloc (.cells #[u, v] 49)).alloc (.cells #[.int .i64 k] 3)).alloc (.cells #[.func (.func wg) #[] wl] 55) := by
  obtain ⟨a, n, c, rfl⟩ := hu
  obtain ⟨a', n', c', rfl⟩ := hv
  go_enter Try.func21, Try.ntmps21
  go_wp2
  go_ret
  exact ⟨rfl, rfl⟩
end Go.Proofs.Ytfnomiingelfaaa
/- A range over a function whose variable lies in a box of each round. Speaks of no function. -/
namespace Go.Proofs.Ytfnomiingelfaaa
open Go.RowKit

section
variable {α β : Type}
theorem wpIn_rangeFunc_M2 {P : Program} {n : Nat} {g : Operand} {ps : Array Tmp} {assign body : Code} {Q : Exit → Act → World → Prop} {a : Act} {w : World}
    (h1 : 1 ≤ n) {gf : Nat} {lb : Array Value} (hg : a.eval g = .func (.func gf) #[] lb) (eg : ∀ args w, (callFunc gf args).run P w = .ok (.enter gf args) w)
    {encs : α → Array Value} {Mem : α → World → Prop} {own : α → Blk} {key : α → β} {Z : List β} {need : Blk} {w0 : World} (hseq : SeqM P gf lb encs Mem own key Z need w0) (hb0 : Below w0.heap.size w0 w) (hps : ∀ x, (encs x).size = ps.size)
    (hMem : ∀ x W l r r', Mem x W → W.heap[l]? = some (.loop r) → Mem x (W.putObj l (.loop r'))) (I : List α → Blk → Blk → World → Prop) (Ix : Code → List α → Blk → Blk → World → Prop) (hI : Client I) (hIx : ∀ c, Client (Ix c)) (C T : Blk) (hneed : ∀ b, need b → ¬ C b ∧ b < w.heap.size) (hT : ∀ b, T b → b < w.heap.size) (h0 : I [] C T w) (a₁ : α → World → Act) (W₁ : α → World → World) (hW₁ : ∀ x W, Below W.heap.size W (W₁ x W)) (hMemB : ∀ x W W', Mem x W → Below W.heap.size W W' → Mem x W')
    (hassign : ∀ (l : Nat) (x : α) (W : World) (K : Act → World → Prop), K (a₁ x W) (W₁ x W) →
      assign.wpIn (Fence.wide.inRound l) (n - 1 - 1) P (Exit.then K (fun _ _ _ => False)) { tmps := (ps.zip (encs x)).foldl (fun t (p, v) => t.setIfInBounds p v) a.tmps, defers := [] } W)
    (hbody : ∀ (l : Nat) (pre : List α) (x : α) (C T : Blk) (W0 W : World), I pre C T W → Mem x W → (∀ b, own x b → T b) → (∃ rest, Z = pre.map key ++ key x :: rest) → (∀ a v, (W₁ x W0).cell? a = some v → W.cell? a = some v) → body.wpIn (Fence.wide.inRound l) (n - 1 - 1) P (wentPost I Ix own pre x C T W) (a₁ x W0) W)
    (hdone : ∀ (D : Nat) (xs : List α) (C T : Blk) (W : World), w.heap.size ≤ D → xs.map key = Z → I xs C T W → T D → W.heap[D]? = some (.deferred (some [])) → Q .normal { a with defers := { target := .collected D, args := #[] } :: a.defers } W)
    (hstop : ∀ (D : Nat) (c : Code) (pre : List α) (C T : Blk) (W : World), w.heap.size ≤ D → Ix c pre C T W → T D → W.heap[D]? = some (.deferred (some [])) → c.wpIn Fence.wide n P Q { a with defers := { target := .collected D, args := #[] } :: a.defers } W) :
    (Code.rangeFunc g ps assign body).wpIn Fence.wide n P Q a w := by
  refine wpIn_rangeFunc fun fn _ => ?_
  obtain ⟨rec, hrec⟩ : ∃ rec : LoopState → Option Code → Loop, rec = fun st pe => { state := st, pending := pe, fn, tmps := a.tmps, params := ps, assign, body, defers := w.heap.size } := ⟨_, rfl⟩
  obtain ⟨D, hD⟩ : ∃ D, w.heap.size = D := ⟨_, rfl⟩
  obtain ⟨W1, hW1⟩ : ∃ W1, (w.alloc (.deferred (some []))).alloc (.loop (rec .ready none)) = W1 := ⟨_, rfl⟩
  have sz : W1.heap.size = D + 2 := by rw [← hW1]; simp; omega
  have hL1 : W1.heap[D + 1]? = some (.loop (rec .ready none)) := by
    rw [← hW1]; have := World.alloc_heap_new (w.alloc (.deferred (some []))) (.loop (rec .ready none)); rw [World.size_alloc, hD] at this; exact this
  have hK1 : W1.heap[D]? = some (.deferred (some [])) := by
    rw [← hW1, ← hD]; exact (Below.heap_alloc _ _ _ (by simp)).trans (World.alloc_heap_new w _)
  have hbw : Below w.heap.size w W1 := by
    rw [← hW1]; exact ((Below.refl _ w).alloc (Nat.le_refl _) _).alloc (by simp) _
  have hI1 : I [] C T W1 := hI.keep h0 (turned_below hbw) fun b hb => .inl hb
  have hC1 : ∀ b, C b → b < D := fun b hb => by have := (hI.lt h0 b hb).1; omega
  refine ⟨D + 1, [{ target := .collected D, args := #[] }], W1, { target := .fn (.func gf) lb, args := #[.func (.yield (D + 1)) #[] #[]] }, W1, gf, #[.func (.yield (D + 1)) #[] #[]] ++ lb, W1, ?_, ?_, ?_, ?_, fun _ => by omega, ?_⟩
  · rw [← hW1, hrec, ← hD]; exact run_enterLoop_outer _ _ _ _ _
  · simp only [resolve, hg]
    simp [go_sem]
  · intro _ _; trivial
  · simp [invoke, go_sem, eg]
  refine (callsIn_wide.2 (hseq (D + 1) (Ring I (D + 1) D (rec .ready none)) (fun pre C T W => ∃ c, Ring (Ix c) (D + 1) D (rec .done (some c)) pre C T W) (fun b => C b ∨ b = D + 1 ∨ b = D) T W1 (hb0.trans (hbw.mono hb0.size)) (hI.ring' _ _ _) ?_ ?_ ?_ ?_)).mono ?_
  · exact { lt := fun ⟨c, h⟩ => ((hIx c).ring' _ _ _).lt h, keep := fun ⟨c, h⟩ ht hT => ⟨c, ((hIx c).ring' _ _ _).keep h ht hT⟩ }
  · rintro b hb (e | e | e)
    · exact (hneed b hb).1 e
    · have := (hneed b hb).2; omega
    · have := (hneed b hb).2; omega
  · rintro pre x C T W ⟨C1, T1, hi, hC, hTT, q1, q2, tl, tD, hl, hk⟩ hmem hown hrest m
    have hlt := (Array.getElem?_eq_some_iff.1 hl).1
    have hlk := (Array.getElem?_eq_some_iff.1 hk).1
    have hy := run_yield (P := P) (args := encs x) hl (by rw [hrec]; exact hps x)
    rw [hrec] at hy
    have hbA : Below W.heap.size W (W₁ x W) := hW₁ x W
    have hlA : (W₁ x W).heap[D + 1]? = some (.loop (rec .ready none)) := (hbA.block _ hlt).trans hl
    refine ⟨fn, _, assign, body, hy, roundIn_n (n := n - 1 - 1) <| roundIn_of_wpIn trivial (hassign _ x W _ ⟨_, run_beginRound hlA (by rw [hrec]), ?_⟩)⟩
    clear hy
    have hmA : Mem x (W₁ x W) := hMemB x W _ hmem hbA
    obtain ⟨W2, hW2⟩ : ∃ W2, (W₁ x W).putObj (D + 1) (.loop { rec .ready none with state := .busy }) = W2 := ⟨_, rfl⟩
    rw [hW2]
    have hl2 : W2.heap[D + 1]? = some (.loop { rec .ready none with state := .busy }) := by rw [← hW2]; exact World.putObj_heap_same (Array.getElem?_eq_some_iff.1 hlA).1
    have ht2 : Turned (fun b => b = D + 1) W W2 := by rw [← hW2]; exact (turned_below hbA).trans (turned_put (T := fun b => b = D + 1) _ _ rfl) fun b e => .inl e
    have hcl : ∀ a v, (W₁ x W).cell? a = some v → W2.cell? a = some v := fun a v hc => by
      rw [← hW2]
      refine (World.cell?_of_block (World.putObj_heap_other fun e => ?_)).trans hc
      unfold World.cell? at hc
      rw [e, hlA] at hc
      cases hc
    have hk2 : W2.heap[D]? = some (.deferred (some [])) := (ht2.same D hlk (by show ¬ D = D + 1; omega)).trans hk
    have hi2 : I pre C1 T1 W2 := hI.keep hi (ht2.mono fun b _ e => by subst e; exact q1) fun b e => .inl e
    have hm2 : Mem x W2 := by rw [← hW2]; exact hMem x _ _ _ _ hmA hlA
    have fin : ∀ (K : List α → Blk → Blk → World → Prop) (jump : Option Code) (W3 : World), Client K → Went K own pre x C1 T1 W2 W3 →
        (Instr.endRound (D + 1) jump).run P W3 = .ok (.bool jump.isNone) (W3.putObj (D + 1) (.loop (rec (if jump.isNone then .ready else .done) jump))) ∧
        Went (Ring K (D + 1) D (rec (if jump.isNone then .ready else .done) jump)) own pre x C T W (W3.putObj (D + 1) (.loop (rec (if jump.isNone then .ready else .done) jump))) := by
      rintro K jump W3 hK ⟨C', T', hi3, hT3, hC3, ht3⟩
      have nl : ¬ (C1 (D + 1) ∨ own x (D + 1)) := fun e => e.elim (fun e => (hI.lt hi _ e).2 q1) fun e => tl (hown _ e)
      have nD : ¬ (C1 D ∨ own x D) := fun e => e.elim (fun e => (hI.lt hi _ e).2 q2) fun e => tD (hown _ e)
      have hl3 : W3.heap[D + 1]? = some (.loop { rec .ready none with state := .busy }) := (ht3.same _ (Array.getElem?_eq_some_iff.1 hl2).1 nl).trans hl2
      have hk3 : W3.heap[D]? = some (.deferred (some [])) := (ht3.same _ (Array.getElem?_eq_some_iff.1 hk2).1 nD).trans hk2
      have hr := run_endRound (P := P) jump hl3
      rw [hrec] at hr
      refine ⟨by rw [hrec]; exact hr, fun b => C' b ∨ b = D + 1 ∨ b = D, fun b => T' b ∧ b ≠ D + 1 ∧ b ≠ D, ⟨C', T', ?_, fun b => Iff.rfl, fun b e => e.1, hT3 _ q1 (Array.getElem?_eq_some_iff.1 hl2).1 (fun e => nl (.inr e)), hT3 _ q2 (Array.getElem?_eq_some_iff.1 hk2).1 (fun e => nD (.inr e)), fun e => e.2.1 rfl, fun e => e.2.2 rfl, World.putObj_heap_same (Array.getElem?_eq_some_iff.1 hl3).1, (World.putObj_heap_other (by omega)).trans hk3⟩, ?_, ?_, ?_⟩
      · exact hK.keep hi3 (turned_put W3 _ (hT3 _ q1 (Array.getElem?_eq_some_iff.1 hl2).1 fun e => nl (.inr e))) fun b e => .inl e
      · exact fun b hb hlt hn => ⟨hT3 b (hTT b hb) (Nat.lt_of_lt_of_le hlt ht2.size) hn, fun e => tl (e ▸ hb), fun e => tD (e ▸ hb)⟩
      · rintro b (e | e | e)
        · rcases hC3 b e with q | q | q
          · exact .inl ((hC b).2 (.inl q))
          · exact .inr (.inl q)
          · exact .inr (.inr (Nat.le_trans ht2.size q))
        · exact .inl ((hC b).2 (.inr (.inl e)))
        · exact .inl ((hC b).2 (.inr (.inr e)))
      · have a1 : Turned (fun b => C b ∨ own x b) W W2 := ht2.mono fun b _ e => .inl ((hC b).2 (.inr (.inl e)))
        have a2 : Turned (fun b => C b ∨ own x b) W2 W3 := ht3.mono fun b _ e => e.elim (fun e => .inl ((hC b).2 (.inl e))) .inr
        have a3 : Turned (fun b => C b ∨ own x b) W3 (W3.putObj (D + 1) (.loop (rec (if jump.isNone then .ready else .done) jump))) := turned_put W3 _ (.inl ((hC _).2 (.inr (.inl rfl))))
        exact (a1.trans a2 fun b e => .inl e).trans a3 fun b e => .inl e
    refine wpIn_mono (hbody _ pre x C1 T1 W W2 hi2 hm2 (fun b e => hTT b (hown b e)) hrest hcl) ?_
    rintro e a3 W3 hp
    cases e with
    | normal => obtain ⟨hr, hw⟩ := fin I none W3 hI hp; exact ⟨_, _, hr, .inl ⟨rfl, hw⟩⟩
    | ret => obtain ⟨hr, C', T', hw, q⟩ := fin _ (some .ret) W3 (hIx _) hp; exact ⟨_, _, hr, .inr ⟨rfl, C', T', ⟨_, hw⟩, q⟩⟩
    | exit id => obtain ⟨hr, C', T', hw, q⟩ := fin _ (some (.exit id)) W3 (hIx _) hp; exact ⟨_, _, hr, .inr ⟨rfl, C', T', ⟨_, hw⟩, q⟩⟩
    | goto t => obtain ⟨hr, C', T', hw, q⟩ := fin _ (some (.goto t)) W3 (hIx _) hp; exact ⟨_, _, hr, .inr ⟨rfl, C', T', ⟨_, hw⟩, q⟩⟩
    | panic ch => exact hp.elim
    | outgrown => exact hp.elim
  · refine ⟨C, fun b => T b ∨ w.heap.size ≤ b, hI.keep h0 (turned_below hbw) (fun b e => e), fun b => Iff.rfl, fun b e => .inl e, .inr (by omega), .inr (by omega), fun e => by have := hT _ e; omega, fun e => by have := hT _ e; omega, hL1, hK1⟩
  · rintro e W2 ⟨⟨v, rfl⟩, (⟨xs, C', T', hZ, C1, T1, hi, hC, hTT, q1, q2, tl, tD, hl, hk⟩ | ⟨pre, C', T', c, C1, T1, hi, hC, hTT, q1, q2, tl, tD, hl, hk⟩)⟩
    · refine ⟨none, _, by have := run_endLoop (P := P) hl (by rw [hrec]; simp); rw [hrec] at this; exact this, hdone D xs C1 T1 _ (by omega) hZ (hI.keep hi (turned_put W2 _ q1) fun b e => .inl e) q2 ((World.putObj_heap_other (by omega)).trans hk)⟩
    · refine ⟨some c, _, by have := run_endLoop (P := P) hl (by rw [hrec]; simp); rw [hrec] at this; exact this, hstop D c pre C1 T1 _ (by omega) ((hIx c).keep hi (turned_put W2 _ q1) fun b e => .inl e) q2 ((World.putObj_heap_other (by omega)).trans hk)⟩
end
end Go.Proofs.Ytfnomiingelfaaa
/- A region that draws its order and only reads, within a round of a range over a function. Speaks of no function. -/
namespace Go.Proofs.Ytfnomiingelfaaa
open Go.RowKit

theorem wpIn_region_quiet_round {P : Program} {id r m : Nat} {Q : Exit → Act → World → Prop} {a : Act} {w : World} {l : List Oper} (hm : P.follows .mixedOrders = true) (hB : Region.lexB .any l.toArray = true) (hd : noDefer l.toArray = true) (hq : ¬ LetsOut Q)
    (h : wpQuiet P l.toArray (fun w' => ∃ n, w' = w.drewN n) (fun a' => ∀ w', (∃ n, w' = w.drewN n) → Q .normal a' w') l a) : (Code.region id l.toArray true).wpIn (Fence.wide.inRound r) m P Q a w := by
  simp only [Region.lexB, Bool.and_eq_true] at hB
  refine wpIn_region_any hm (wpAnyIn_of_wpAny hd hq _ _ _ _ (wpAny_of_quiet (C := fun w' => ∃ n, w' = w.drewN n) (Q := fun a' => ∀ w', (∃ n, w' = w.drewN n) → Q .normal a' w') (fun _ w' hw' h => h w' hw') _ _ _ _ ⟨1, rfl⟩ ?_))
  have := wpAnyQ_lex (C := fun w' => ∃ n, w' = w.drewN n) (md := .any) hB.1 l 0 (Array.replicate l.toArray.size false) a (by simp) (by simpa using hB.2) h
  simpa using this
end Go.Proofs.Ytfnomiingelfaaa
/- sparsest of layer 4: a contract. -/
namespace Go.Proofs.Ytfnomiingelfaaa
open Go.RowKit Go.Shelf
attribute [local go_sem] Oper.semAt_some

structure SpI (w : World) (FB : Nat) (v : Value) (pre : List FitV) (C T : Blk) (W : World) : Prop where
  lo : w.heap.size ≤ FB
  r : W.cell? ⟨FB, 0, none⟩ = some v
  fr : W.frozen? ⟨FB, 0, none⟩ = false
  own : OwnF W (FB + 1) v pre
  bw : Below w.heap.size w W
  nt : ∀ b, b ≤ FB → ¬ T b
  nv : ∀ b, v.ownBlock = some b → ¬ T b
  cc : ∀ b, C b ↔ b = FB ∨ v.ownBlock = some b ∨ ∃ x ∈ pre, ownF x b
  ap : ∀ x ∈ pre, ∀ b, ownF x b → b ≠ FB ∧ v.ownBlock ≠ some b
  mem : ∀ x ∈ pre, MemF x W ∧ ∀ b, ownF x b → ¬ T b
theorem SpI.keep {w : World} {FB : Nat} {v : Value} {pre : List FitV} {C T T' : Blk} {W W' : World} (h : SpI w FB v pre C T W) (ht : Turned T W W') (hT : ∀ b, T' b → T b ∨ W.heap.size ≤ b) : SpI w FB v pre C T' W' := by
  have l0 := cell_lt h.r
  dsimp only at l0
  refine ⟨h.lo, ht.cell h.r (h.nt _ (Nat.le_refl _)), (ht.frozen l0 (h.nt _ (Nat.le_refl _))).trans h.fr, h.own.same fun b e => ht.same b (h.own.block e) (h.nv b e), h.bw.trans (ht.below h.bw.size fun b hb => h.nt b (by have := h.lo; omega)), fun b hb e => (hT b e).elim (h.nt b hb) (by omega), fun b hb e => (hT b e).elim (h.nv b hb) (by have := h.own.block hb; omega), h.cc, h.ap, fun x hx => ?_⟩
  obtain ⟨m1, m2⟩ := h.mem x hx
  exact ⟨memF_turned m1 ht m2, fun b hb e => (hT b e).elim (m2 b hb) (by have := memF_lt m1 hb; omega)⟩
theorem SpI.client {w : World} {FB : Nat} {p : List FitV → Value → Prop} {q : List FitV → List FitV} : Client fun pre C T W => ∃ v, p pre v ∧ SpI w FB v (q pre) C T W where
  lt := by
    rintro pre C T W ⟨v, _, h⟩ b hb
    rcases (h.cc b).1 hb with rfl | e | ⟨x, hx, e⟩
    · exact ⟨cell_lt h.r, h.nt _ (Nat.le_refl _)⟩
    · exact ⟨h.own.block e, h.nv b e⟩
    · exact ⟨memF_lt (h.mem x hx).1 e, (h.mem x hx).2 b e⟩
  keep := fun ⟨v, hp, h⟩ ht hT => ⟨v, hp, h.keep ht hT⟩
def SameF (pre : List FitV) : Prop := ∀ a ∈ pre, ∀ b ∈ pre, a.px.length = b.px.length
theorem SpI.push {w : World} {FB : Nat} {v : Value} {pre : List FitV} {C T : Blk} {W W2 w' : World} {x : FitV} {g cap : Nat} (h : SpI w FB v pre C T W) (hx : MemF x W) (hown : ∀ b, ownF x b → T b) (hb : Below W.heap.size W W2) (hp : PushedF W2 (FB + 1) v pre x g cap w') :
    SpI w FB (.slice (some ⟨g, 0, none⟩) (pre.length + 1) cap) (pre ++ [x]) (fun b => b = FB ∨ b = g ∨ ∃ z ∈ pre ++ [x], ownF z b) (fun b => T b ∧ ¬ ownF x b ∧ b < W.heap.size) (w'.setCell ⟨FB, 0, none⟩ (.slice (some ⟨g, 0, none⟩) (pre.length + 1) cap)) ∧ (g = g ∧ (v.ownBlock = some g ∨ W.heap.size ≤ g)) ∧ Turned (fun b => b = FB ∨ v.ownBlock = some b) W (w'.setCell ⟨FB, 0, none⟩ (.slice (some ⟨g, 0, none⟩) (pre.length + 1) cap)) := by
  obtain ⟨h1, h2, h3⟩ := hp
  have s1 := hb.size
  have hg : v.ownBlock = some g ∨ W.heap.size ≤ g := h3.imp_right fun e => by omega
  have ht : Turned (fun b => v.ownBlock = some b) W w' := (turned_below hb).trans h2 fun b e => .inl e
  have htF : Turned (fun b => b = FB ∨ v.ownBlock = some b) W (w'.setCell ⟨FB, 0, none⟩ (.slice (some ⟨g, 0, none⟩) (pre.length + 1) cap)) := (ht.mono fun b _ e => .inr e).trans (turned_set (T := fun b => b = FB) _ _ rfl) fun b e => .inl (.inl e)
  have l0 := cell_lt h.r
  dsimp only at l0
  have hlo := h.lo
  have nF : v.ownBlock ≠ some FB := fun e => by have := World.ownsRow.lt h.own FB e; omega
  have hgF : g ≠ FB := fun e => by
    subst e
    rcases hg with e | e
    · exact nF e
    · omega
  have hxb : ∀ z ∈ pre ++ [x], MemF z W ∧ ∀ b, ownF z b → b ≠ FB ∧ v.ownBlock ≠ some b := fun z hz => by
    rcases List.mem_append.1 hz with hz | hz
    · exact ⟨(h.mem z hz).1, h.ap z hz⟩
    · obtain rfl := List.mem_singleton.1 hz
      exact ⟨hx, fun b hzb => ⟨fun e => h.nt b (by omega) (hown b hzb), fun e => h.nv b e (hown b hzb)⟩⟩
  have hob : ∀ b, (Value.slice (some ⟨g, 0, none⟩) (pre.length + 1) cap).ownBlock = some b ↔ b = g := fun b => by
    show some g = some b ↔ b = g
    exact ⟨fun e => (Option.some.inj e).symm, fun e => by rw [e]⟩
  refine ⟨⟨hlo, World.cell?_setCell_same _ _ _ (ht.cell h.r nF), ?_, h1.same fun b e => Below.heap_setCell _ _ _ b (by rw [(hob b).1 e]; exact hgF), h.bw.trans (htF.below h.bw.size fun b hb e => ?_), fun b hb e => h.nt b hb e.1, fun b hb e => ?_, fun b => ?_, fun z hz b hzb => ⟨((hxb z hz).2 b hzb).1, fun e => ?_⟩, fun z hz => ⟨memF_turned (hxb z hz).1 htF fun b hzb e => ?_, fun b hzb e => ?_⟩⟩, ⟨rfl, hg⟩, htF⟩
  · have := (ht.frozen l0 nF).trans h.fr
    simpa using this
  · rcases e with rfl | e
    · omega
    · have := World.ownsRow.lt h.own b e; omega
  · rw [hob] at hb
    subst hb
    rcases hg with q | q
    · exact h.nv _ q e.1
    · omega
  · rw [hob]
  · rw [hob] at e
    subst e
    rcases hg with q | q
    · exact ((hxb z hz).2 _ hzb).2 q
    · have := memF_lt (hxb z hz).1 hzb; omega
  · rcases e with rfl | e
    · exact ((hxb z hz).2 _ hzb).1 rfl
    · exact ((hxb z hz).2 _ hzb).2 e
  · rcases List.mem_append.1 hz with hz | hz
    · exact (h.mem z hz).2 b hzb e.1
    · obtain rfl := List.mem_singleton.1 hz
      exact e.2.1 hzb

theorem sameF_snoc {p x : FitV} {pre : List FitV} (h : SameF (p :: pre)) (e : x.px.length = p.px.length) : SameF ((p :: pre) ++ [x]) := by
  have key : ∀ a ∈ (p :: pre) ++ [x], a.px.length = p.px.length := fun a ha => by
    rcases List.mem_append.1 ha with ha | ha
    · exact h a ha p List.mem_cons_self
    · obtain rfl := List.mem_singleton.1 ha
      exact e
  intro a ha b hb
  rw [key a ha, key b hb]
theorem SpI.pcell {w : World} {FB : Nat} {v : Value} {pre : List FitV} {C T : Blk} {W W2 w' : World} {x : FitV} {g cap : Nat} (h : SpI w FB v pre C T W) (hb : Below W.heap.size W W2) (hp : PushedF W2 (FB + 1) v pre x g cap w') : w'.cell? ⟨FB, 0, none⟩ = some v ∧ w'.frozen? ⟨FB, 0, none⟩ = false := by
  have l0 := cell_lt h.r
  dsimp only at l0
  have nF : v.ownBlock ≠ some FB := fun e => by have := World.ownsRow.lt h.own FB e; omega
  have ht : Turned (fun b => v.ownBlock = some b) W w' := (turned_below hb).trans hp.2.1 fun b e => .inl e
  exact ⟨ht.cell h.r nF, (ht.frozen l0 nF).trans h.fr⟩
theorem SpI.went {w : World} {FB : Nat} {v : Value} {pre : List FitV} {C T : Blk} {W W2 w' : World} {x : FitV} {g cap : Nat} (h : SpI w FB v pre C T W) (hs : SameF (pre ++ [x])) (hx : MemF x W) (hown : ∀ b, ownF x b → T b) (hb : Below W.heap.size W W2) (hp : PushedF W2 (FB + 1) v pre x g cap w') :
    Went (fun pre C T W => ∃ v, SameF pre ∧ SpI w FB v pre C T W) ownF pre x C T W (w'.setCell ⟨FB, 0, none⟩ (.slice (some ⟨g, 0, none⟩) (pre.length + 1) cap)) := by
  obtain ⟨h1, ⟨_, h2⟩, h3⟩ := h.push hx hown hb hp
  refine ⟨_, _, ⟨_, hs, h1⟩, fun b hb hl hn => ⟨hb, hn, hl⟩, fun b hb => ?_, h3.mono fun b _ e => .inl ((h.cc b).2 (e.elim .inl fun e => .inr (.inl e)))⟩
  rcases hb with rfl | rfl | ⟨z, hz, e⟩
  · exact .inl ((h.cc _).2 (.inl rfl))
  · rcases h2 with e | e
    · exact .inl ((h.cc _).2 (.inr (.inl e)))
    · exact .inr (.inr e)
  · rcases List.mem_append.1 hz with hz | hz
    · exact .inl ((h.cc _).2 (.inr (.inr ⟨z, hz, e⟩)))
    · obtain rfl := List.mem_singleton.1 hz
      exact .inr (.inl e)
theorem SpI.stop {w : World} {FB : Nat} {v : Value} {pre : List FitV} {C T : Blk} {W : World} {x : FitV} {Z : List (List Int × List (Int × Int))} (h : SpI w FB v pre C T W) (_hown : ∀ b, ownF x b → T b) (hne : pre ≠ []) (hl : leastF Z = pre.map keyF) (n : Nat) :
    Went (fun pre C T W => ∃ v, ((Code.exit 0 : Code) = .exit 0 ∧ pre.dropLast ≠ [] ∧ leastF Z = pre.dropLast.map keyF) ∧ SpI w FB v pre.dropLast C T W) ownF pre x C T W (W.drewN n) := by
  have hd : (pre ++ [x]).dropLast = pre := by simp
  refine ⟨C, fun b => T b ∧ ¬ ownF x b, ⟨v, ⟨rfl, by rw [hd]; exact hne, by rw [hd]; exact hl⟩, ?_⟩, fun b hb _ hn => ⟨hb, hn⟩, fun b hb => .inl hb, turned_below (below_drewN (Below.refl _ _) n)⟩
  rw [hd]
  exact h.keep (turned_below (below_drewN (Below.refl _ _) n)) fun b e => .inl e.1
theorem boxes5 (w1 : World) (u v : Value) (k : Int) (f : Value) (t1 t2 t3 t4 t5 : TypeId) : let V := ((((w1.alloc (.cells #[u, v] t1)).alloc (.cells #[.slice none 0 0] t2)).alloc (.cells #[u, v] t3)).alloc (.cells #[.int .i64 k] t4)).alloc (.cells #[f] t5)
    V.heap.size = w1.heap.size + 5 ∧ Below w1.heap.size w1 V ∧ V.cell? ⟨w1.heap.size + 1, 0, none⟩ = some (.slice none 0 0) ∧ V.frozen? ⟨w1.heap.size + 1, 0, none⟩ = false ∧ V.cell? ⟨w1.heap.size + 1 + 1, 0, none⟩ = some u ∧ V.cell? ⟨w1.heap.size + 1 + 1, 1, none⟩ = some v ∧ V.cell? ⟨w1.heap.size + 1 + 1 + 1, 0, none⟩ = some (.int .i64 k) ∧ V.cell? ⟨w1.heap.size + 1 + 1 + 1 + 1, 0, none⟩ = some f := by
  obtain ⟨A, hA⟩ : ∃ A, w1.alloc (.cells #[u, v] t1) = A := ⟨_, rfl⟩
  obtain ⟨B, hB⟩ : ∃ B, A.alloc (.cells #[.slice none 0 0] t2) = B := ⟨_, rfl⟩
  obtain ⟨C, hC⟩ : ∃ C, B.alloc (.cells #[u, v] t3) = C := ⟨_, rfl⟩
  obtain ⟨D, hD⟩ : ∃ D, C.alloc (.cells #[.int .i64 k] t4) = D := ⟨_, rfl⟩
  obtain ⟨E, hE⟩ : ∃ E, D.alloc (.cells #[f] t5) = E := ⟨_, rfl⟩
  intro V
  have hV : V = E := by show ((((w1.alloc (.cells #[u, v] t1)).alloc _).alloc _).alloc _).alloc _ = E; rw [hA, hB, hC, hD, hE]
  have sA : A.heap.size = w1.heap.size + 1 := by rw [← hA]; exact World.size_alloc _ _
  have sB : B.heap.size = w1.heap.size + 1 + 1 := by rw [← hB, World.size_alloc, sA]
  have sC : C.heap.size = w1.heap.size + 1 + 1 + 1 := by rw [← hC, World.size_alloc, sB]
  have sD : D.heap.size = w1.heap.size + 1 + 1 + 1 + 1 := by rw [← hD, World.size_alloc, sC]
  have sE : E.heap.size = w1.heap.size + 5 := by rw [← hE, World.size_alloc, sD]
  have bA : Below w1.heap.size w1 A := by rw [← hA]; exact (Below.refl _ _).alloc (Nat.le_refl _) _
  have bB : Below A.heap.size A B := by rw [← hB]; exact (Below.refl _ _).alloc (Nat.le_refl _) _
  have bC : Below B.heap.size B C := by rw [← hC]; exact (Below.refl _ _).alloc (Nat.le_refl _) _
  have bD : Below C.heap.size C D := by rw [← hD]; exact (Below.refl _ _).alloc (Nat.le_refl _) _
  have bE : Below D.heap.size D E := by rw [← hE]; exact (Below.refl _ _).alloc (Nat.le_refl _) _
  have bBE : Below B.heap.size B E := bC.trans ((bD.trans (bE.mono bD.size)).mono bC.size)
  have bCE : Below C.heap.size C E := bD.trans (bE.mono bD.size)
  rw [hV]
  refine ⟨sE, bA.trans ((bB.trans (bBE.mono bB.size)).mono bA.size), ?_, ?_, ?_, ?_, ?_, ?_⟩
  · rw [← sA]; exact (bBE.cell (p := ⟨A.heap.size, 0, none⟩) (by show A.heap.size < B.heap.size; omega)).trans (by rw [← hB]; exact alloc_cell _ _ _ _ _ rfl)
  · rw [← sA]; exact (bBE.frozen (p := ⟨A.heap.size, 0, none⟩) (by show A.heap.size < B.heap.size; omega)).trans (by rw [← hB]; simp)
  · rw [← sB]; exact (bCE.cell (p := ⟨B.heap.size, 0, none⟩) (by show B.heap.size < C.heap.size; omega)).trans (by rw [← hC]; exact alloc_cell _ _ _ _ _ rfl)
  · rw [← sB]; exact (bCE.cell (p := ⟨B.heap.size, 1, none⟩) (by show B.heap.size < C.heap.size; omega)).trans (by rw [← hC]; exact alloc_cell _ _ _ _ _ rfl)
  · rw [← sC]; exact (bE.cell (p := ⟨C.heap.size, 0, none⟩) (by show C.heap.size < D.heap.size; omega)).trans (by rw [← hD]; exact alloc_cell _ _ _ _ _ rfl)
  · rw [← sD, ← hE]; exact alloc_cell _ _ _ _ _ rfl
theorem sp_leaves {fn : Func} {tmps : Array Value} {w : World} {FB : Nat} {v r : Value} {pre : List FitV} {C T : Blk} {ms : List Nat} {V : World} {R : Ending → World → Prop}
    (hres : ∀ W : World, (results fn tmps).run Try.prog W = .ok r W)
    (h : SpI w FB v pre C T V) (hT : ∀ D, D ∈ ms → T D) (hn : ms.Nodup) (hd : ∀ D, D ∈ ms → V.heap[D]? = some (.deferred (some []))) (hR : ∀ W, SpI w FB v pre C T W → R (.returned r) W) :
    LeavesInM Fence.wide 50 Try.prog fn tmps R (ms.map mark) .returning V := by
  refine leaves_marks2 (fun W => SpI w FB v pre C T W) ms ?_ ?_ ms V (fun _ h => h) hn hd h
  · exact fun W D hD hW => hW.keep (turned_put W _ (hT D hD)) fun b e => .inl e
  · exact fun W hW => ⟨_, hres W, hR W hW⟩
theorem zfunc_any (W : World) (a : Option Addr) (vs : List (Int × Int)) (cap : Nat) (h1 : vs.length ≤ 1000) (h2 : Rl W a vs) : Calls Try.prog 67 #[.slice a vs.length cap, .func (.func 46) #[] #[]] W fun e w' => e = .returned (.bool (vs.any zB)) ∧ Below W.heap.size W w' := containsZ_any a vs cap W h1 h2
set_option maxRecDepth 1000000 in
set_option maxHeartbeats 4000000 in
theorem sparsest_in (a : Option Addr) (m : List (List Int)) (cap : Nat) (ya : Option Addr) (y : List Int) (yc : Nat) (w : World) (hm : MOk m) (hly : y.length ≤ 1000) (hs : Ms w a m) (hy : Sl w ya y) :
    CallsIn Fence.wide 50 Try.prog 38 #[.slice a m.length cap, .slice ya y.length yc] w (FsPost (sparsestV m y) w) := by
  have HM := Lib.hid hm
  have HS := Lib.hid hs
  have HYY := Lib.hid hy
  have HLY := Lib.hid hly
  obtain ⟨e0, he0⟩ : ∃ e0, readE m y = e0 := ⟨_, rfl⟩
  by_cases h0 : e0 = 0
  case neg =>
    have HV : Hid (sparsestV m y = ([], e0)) := by show _ = _; unfold sparsestV; rw [he0, if_neg h0]
    have HAS := Lib.hid (ask_no a m cap ya y yc w e0 he0 h0 hm (by omega) hs hy)
    have y1 : (e0 == 0) = false := by simpa using h0
    have y2 : (e0 != 0) = true := by simpa using h0
    clear hm hs hy h0 he0
    rw [HV.out]
    refine callsIn_wide.2 ?_
    go_enter Try.func38, Try.ntmps38
    go_wp2_with (go_at_call 40; refine HAS.out.mono ?_; rintro e w1 ⟨rfl, hb1⟩; have HB1 := Lib.hid hb1; clear hb1)
    go_ret2
    exact ⟨HB1.out.alloc HB1.out.size _, none, 0, rfl, fun k p hk => by simp at hk⟩
  case pos =>
    subst h0
    have HE0 := Lib.hid he0
    have HV := Lib.hid (readE_ok he0).1
    have HAS := Lib.hid (ask_ok a m cap ya y yc w he0 hm (by omega) hs hy)
    clear hm hs hy he0
    refine callsIn_of_wp_marks Try.func38 rfl trivial ?_ rfl
    simp only [Try.ntmps38, List.size_toArray, List.length_cons, List.length_nil, Nat.reduceAdd, Nat.reduceSub, Array.replicate_succ, Array.replicate_zero, List.push_toArray, List.append_toArray, List.nil_append, List.cons_append]
    gi_wp2_with (first
      | (refine ⟨trivial, ?_⟩; gi_at_call 40; refine (callsIn_wide.2 HAS.out).mono ?_; rintro e w1 ⟨rfl, hb1⟩; have HB1 := Lib.hid hb1; clear hb1)
      | (refine ⟨trivial, ?_⟩; gi_at_call 21; refine (callsIn_wide.2 (sfits_any _ _ 10 46 #[] _ ⟨_, _, _, rfl⟩ ⟨_, _, _, rfl⟩)).mono ?_; rintro e w3 ⟨rfl, rfl⟩))
    obtain ⟨k1, k2, k3, k4, k5, k6, k7, k8⟩ := boxes5 w1 (.slice a m.length cap) (.slice ya y.length yc) 10 (.func (.func 46) #[] #[]) 49 57 49 3 55
    obtain ⟨V0, hV0⟩ : ∃ V0, ((((w1.alloc (.cells #[.slice a m.length cap, .slice ya y.length yc] 49)).alloc (.cells #[.slice none 0 0] 57)).alloc (.cells #[.slice a m.length cap, .slice ya y.length yc] 49)).alloc (.cells #[.int .i64 10] 3)).alloc (.cells #[.func (.func 46) #[] #[]] 55) = V0 := ⟨_, rfl⟩
    rw [hV0] at k1 k2 k3 k4 k5 k6 k7 k8 ⊢
    clear hV0
    have hbw0 : Below w.heap.size w V0 := HB1.out.trans (k2.mono HB1.out.size)
    have s1 := HB1.out.size
    obtain ⟨FB, hFB⟩ : ∃ FB, w1.heap.size + 1 = FB := ⟨_, rfl⟩
    have k1 : V0.heap.size = FB + 4 := by omega
    rw [hFB] at k3 k4 k5 k6 k7 k8 ⊢
    have HI0 : Hid (SpI w FB (.slice none 0 0) [] (fun b => b = FB) (fun _ => False) V0) := ⟨by omega, k3, k4, OwnF.nil _ _, hbw0, fun _ _ e => e, fun b e => (by cases e), fun b => ⟨.inl, fun e => e.elim id fun e => e.elim (fun e => (by cases e)) fun ⟨x, hx, _⟩ => (by cases hx)⟩, fun x hx => (by cases hx), fun x hx => (by cases hx)⟩
    have hbs : ∀ p ∈ ([(⟨FB + 1, 0, none⟩, .slice a m.length cap), (⟨FB + 1, 1, none⟩, .slice ya y.length yc), (⟨FB + 1 + 1, 0, none⟩, .int .i64 ((10 : Nat) : Int)), (⟨FB + 1 + 1 + 1, 0, none⟩, .func (.func 46) #[] #[])] : List (Addr × Value)), V0.cell? p.1 = some p.2 := fun p hp => by
      simp only [List.mem_cons, List.not_mem_nil, or_false] at hp
      rcases hp with rfl | rfl | rfl | rfl
      · exact k5
      · exact k6
      · exact k7
      · exact k8
    obtain ⟨Z, hZ⟩ : ∃ Z, allFits m y = Z := ⟨_, rfl⟩
    have HZM : Hid (Z.Pairwise fun a b => a.1.length ≤ b.1.length) := by rw [← hZ]; exact fitsTo_mono _ _ _ _
    have HSV : Hid (sparsestV m y = if leastF Z = [] then ([], 10) else (leastF Z, 0)) := by show _ = _; unfold sparsestV; rw [if_pos HE0.out, hZ]
    have HZL : Hid (Z.length ≤ 3300) := by
      rw [← hZ]
      have := allFits_len HV.out y zB (min 10 (rankM m) + 1) (by omega)
      show (fitsTo _ _ _ _).length ≤ _
      omega
    have HSEQ := fits1_seq (wr := zB) (w0 := w) (w := V0) (kk := 10) (ma := a) (mc := cap) (ya := ya) (yc := yc) (Q := FB + 1) (KB := FB + 1 + 1) (WB := FB + 1 + 1 + 1) (wg := 46) (wl := #[]) HV.out HLY.out (by decide) HS.out HYY.out hbw0 hbs List.mem_cons_self (List.mem_cons_of_mem _ List.mem_cons_self) (List.mem_cons_of_mem _ (List.mem_cons_of_mem _ List.mem_cons_self)) (List.mem_cons_of_mem _ (List.mem_cons_of_mem _ (List.mem_cons_of_mem _ List.mem_cons_self))) (fun W a vs cap _ h1 h2 => zfunc_any W a vs cap h1 h2)
    have hZ2 : fitsTo zB m y (min 10 (rankM m) + 1) = Z := hZ
    rw [hZ2] at HSEQ
    have HFW : Hid (w.heap.size ≤ FB) := by show _ ≤ _; omega
    clear hFB
    refine wpIn_rangeFunc_M2 (by omega) (gf := 41) (lb := #[.pointer (some ⟨FB + 1, 0, none⟩), .pointer (some ⟨FB + 1 + 1, 0, none⟩), .pointer (some ⟨FB + 1 + 1 + 1, 0, none⟩)]) rfl (enters_of Try.func41 (by kernel_rfl) rfl)
      HSEQ (Below.refl _ _) (fun _ => rfl) memF_put
      (fun pre C T W => ∃ v, SameF pre ∧ SpI w FB v pre C T W)
      (fun c pre C T W => ∃ v, (c = .exit 0 ∧ pre.dropLast ≠ [] ∧ leastF Z = pre.dropLast.map keyF) ∧ SpI w FB v pre.dropLast C T W)
      (SpI.client (p := fun pre _ => SameF pre) (q := fun pre => pre)) (fun c => SpI.client (p := fun pre _ => c = .exit 0 ∧ pre.dropLast ≠ [] ∧ leastF Z = pre.dropLast.map keyF) (q := fun pre => pre.dropLast)) (fun b => b = FB) (fun _ => False) ?need (fun _ e => e.elim) ⟨_, fun a ha => (by cases ha), HI0.out⟩
      (fun x X => { tmps := #[.slice a m.length cap, .slice ya y.length yc, undef, undef, .slice none 0 0, .int .i64 0, .pointer (some ⟨w1.heap.size, 0, none⟩), .int .i64 0, .pointer (some ⟨FB, 0, none⟩), .pointer (some ⟨X.heap.size, 0, none⟩), .tuple #[.agg #[.slice a m.length cap, .slice ya y.length yc], .int .i64 0], .slice a m.length cap, .slice ya y.length yc, .tuple #[.agg #[.slice a m.length cap, .slice ya y.length yc], .int .i64 0], .agg #[.slice a m.length cap, .slice ya y.length yc], .int .i64 0, .int .i64 0, .bool false, undef, .agg #[.slice a m.length cap, .slice ya y.length yc], .func (.func 41) #[] #[.pointer (some ⟨FB + 1, 0, none⟩), .pointer (some ⟨FB + 1 + 1, 0, none⟩), .pointer (some ⟨FB + 1 + 1 + 1, 0, none⟩)], fitV x, undef, undef, undef, undef, undef, undef, undef, undef, undef, undef, undef, undef, undef, undef, undef, undef, undef, undef, undef, undef, undef, undef], defers := [] }) (fun x X => X.alloc (.cells #[.slice x.qa x.px.length x.qc, .slice x.va x.vs.length x.vc] 41)) (fun x W => (Below.refl _ _).alloc (Nat.le_refl _) _) (fun x W W' h hb => ⟨h.sl.below hb, h.rl.below hb, fun ad e => ⟨(h.q ad e).1, Nat.lt_of_lt_of_le (h.q ad e).2 hb.size⟩, fun ad e => ⟨(h.v ad e).1, Nat.lt_of_lt_of_le (h.v ad e).2 hb.size⟩⟩) ?assign ?body ?done ?stop
    case need =>
      rintro b (h | ⟨p, hp, rfl⟩)
      · exact ⟨by omega, by omega⟩
      · simp only [List.mem_cons, List.not_mem_nil, or_false] at hp
        rcases hp with rfl | rfl | rfl | rfl
        · exact ⟨by show ¬ FB + 1 = FB; omega, by show FB + 1 < _; omega⟩
        · exact ⟨by show ¬ FB + 1 = FB; omega, by show FB + 1 < _; omega⟩
        · exact ⟨by show ¬ FB + 1 + 1 = FB; omega, by show FB + 1 + 1 < _; omega⟩
        · exact ⟨by show ¬ FB + 1 + 1 + 1 = FB; omega, by show FB + 1 + 1 + 1 < _; omega⟩
    case assign =>
      rintro l2 ⟨qa, qc, px, va, vc, vs⟩ V K hK
      dsimp only
      gi_wp2
      exact hK
    case body =>
      rintro l2 pre x C T X W ⟨v, hsame, hI⟩ hmem hown ⟨rest, hrest⟩ hcl
      have hb0 := hcl _ _ (alloc_cell X #[.slice x.qa x.px.length x.qc, .slice x.va x.vs.length x.vc] 41 0 (.slice x.qa x.px.length x.qc) rfl)
      have hb1 := hcl _ _ (alloc_cell X #[.slice x.qa x.px.length x.qc, .slice x.va x.vs.length x.vc] 41 1 (.slice x.va x.vs.length x.vc) rfl)
      have HI := Lib.hid hI
      have HSM := Lib.hid hsame
      have HMX := Lib.hid hmem
      have HOWN := Lib.hid hown
      have HREST := Lib.hid hrest
      have hr := hI.r
      have hfr := hI.fr
      clear hI hsame hmem hown hrest hcl k2 k3 k4 k5 k6 k7 k8 hbs hbw0 HSEQ hZ2 hZ k1 s1
      dsimp only
      have HFW2 : Hid (FB + 1 ≤ W.heap.size) := by have := cell_lt hr; show _ ≤ _; dsimp only at this; omega
      cases pre with
      | nil =>
        have HO2 : Hid (OwnF W (FB + 1) v []) := HI.out.own
        have HSN : Hid (SameF ([] ++ [x])) := fun a ha b hb => by
          obtain rfl := List.mem_singleton.1 ha
          obtain rfl := List.mem_singleton.1 hb
          rfl
        rcases HI.out.own.form with ⟨hv, _⟩ | ⟨g0, c0, hv⟩
        all_goals
          have hv2 := hv
          subst hv2
          (try simp only [List.length_nil] at hr)
          clear hv
          gi_wp2
          refine wpIn_region_quiet_round (by kernel_rfl) (by kernel_rfl) (by kernel_rfl) ?hq ?_
          case hq => rintro ⟨_, _, h⟩; exact h
          repeat (go_big_quiet_step (fail))
          refine wpQuiet_nil ?_
          intro _ hw2
          obtain ⟨nq, hw3⟩ := hw2
          subst hw3
          gi_wp2_with (gi_at_builtin; go_must (refine wpListIn_pushF rfl (.tmp 36) (.tmp 38) rfl (FB + 1) _ [] x (W.drewN nq) _ _ rfl rfl rfl HO2.out (by simp) HFW2.out ?_); intro g gc w' hp; have HP := Lib.hid hp; obtain ⟨z1, z2⟩ := SpI.pcell HI.out (below_drewN (Below.refl _ _) nq) hp; clear hp)
          exact SpI.went HI.out HSN.out HMX.out HOWN.out (below_drewN (Below.refl _ _) nq) HP.out
      | cons p pre =>
        have HO2 : Hid (OwnF W (FB + 1) v (p :: pre)) := HI.out.own
        rcases HI.out.own.form with ⟨_, hv⟩ | ⟨g0, c0, hv⟩
        · cases hv
        · subst hv
          have hc0 := (OwnF.cell HO2.out (j := 0) (x := p) rfl).1
          simp only [Nat.zero_mul] at hc0
          have HPL : Hid ((p :: pre).length ≤ 3300) := by
            have h1 := congrArg List.length HREST.out
            have h2 := HZL.out
            rw [List.length_append, List.length_map] at h1
            show _ ≤ _
            omega
          have hle : p.px.length ≤ x.px.length := by
            have h1 := HZM.out
            rw [HREST.out, List.pairwise_append] at h1
            exact h1.2.2 (keyF p) (by simp) (keyF x) (by simp)
          obtain ⟨pn, hpn⟩ : ∃ pn, (p :: pre).length = pn := ⟨_, rfl⟩
          have HPN := Lib.hid hpn
          have hpn0 : 0 < pn := by rw [← hpn]; simp only [List.length_cons]; omega
          rw [hpn] at hr HO2 HI HPL
          clear hpn
          by_cases hgt : p.px.length < x.px.length
          · have hgtI : (p.px.length : Int) < (x.px.length : Int) := by omega
            have HLB : Hid (leastF Z = (p :: pre).map keyF) := least_break HZM.out HREST.out (fun b hb => by
              obtain ⟨z, hz, rfl⟩ := List.mem_map.1 (show b ∈ (p :: pre).map keyF from hb)
              exact HSM.out z hz p List.mem_cons_self) hgt
            clear hgt hle
            gi_wp2
            refine wpIn_region_quiet_round (by kernel_rfl) (by kernel_rfl) (by kernel_rfl) ?hq ?_
            case hq => rintro ⟨_, _, h⟩; exact h
            repeat (go_big_quiet_step (fail))
            refine wpQuiet_nil ?_
            intro _ hw2
            obtain ⟨nq, hw3⟩ := hw2
            subst hw3
            gi_wp2
            exact SpI.stop HI.out HOWN.out (by simp) HLB.out nq
          · have hgtI : ¬ ((p.px.length : Int) < (x.px.length : Int)) := by omega
            have HSN : Hid (SameF ((p :: pre) ++ [x])) := sameF_snoc HSM.out (by omega)
            clear hgt hle
            gi_wp2
            refine wpIn_region_quiet_round (by kernel_rfl) (by kernel_rfl) (by kernel_rfl) ?hq ?_
            case hq => rintro ⟨_, _, h⟩; exact h
            repeat (go_big_quiet_step (fail))
            refine wpQuiet_nil ?_
            intro _ hw2
            obtain ⟨nq, hw3⟩ := hw2
            subst hw3
            gi_wp2_with (gi_at_builtin; go_must (refine wpListIn_pushF rfl (.tmp 36) (.tmp 38) rfl (FB + 1) _ (p :: pre) x (W.drewN nq) _ _ rfl rfl rfl HO2.out (by rw [HPN.out]; have := HPL.out; omega) HFW2.out ?_); intro g gc w' hp; have HP := Lib.hid hp; obtain ⟨z1, z2⟩ := SpI.pcell HI.out (below_drewN (Below.refl _ _) nq) hp; clear hp)
            exact SpI.went HI.out HSN.out HMX.out HOWN.out (below_drewN (Below.refl _ _) nq) HP.out
    case done =>
      rintro D xs C T V hD hxs ⟨v, hsame, hI⟩ hTD hK
      have HI := Lib.hid hI
      have HTD := Lib.hid hTD
      have HK := Lib.hid hK
      have hr := hI.r
      have HLA : Hid (leastF Z = xs.map keyF) := by
        show _ = _
        rw [← hxs]
        exact least_all fun a ha b hb => by
          obtain ⟨z, hz, rfl⟩ := List.mem_map.1 ha
          obtain ⟨z2, hz2, rfl⟩ := List.mem_map.1 hb
          exact hsame z hz z2 hz2
      clear hI hTD hK hxs hsame hD k2 k3 k4 k5 k6 k7 k8 hbs hbw0 HSEQ hZ2 hZ k1 s1
      cases xs with
      | nil =>
        have HR : Hid (sparsestV m y = ([], 10)) := by show _ = _; rw [HSV.out, HLA.out]; rfl
        rcases HI.out.own.form with ⟨hv, _⟩ | ⟨g0, c0, hv⟩
        all_goals
          have hv2 := hv
          subst hv2
          (try simp only [List.length_nil] at hr)
          clear hv
          gi_wp2
          rw [HR.out]
          refine sp_leaves (ms := [D]) (r := .tuple #[.slice none 0 0, .int .i64 10]) (by intro W; simp [results, Try.results38, go_sem]) HI.out (fun E hE => ?_) (by simp) (fun E hE => ?_) (fun W h => ⟨h.bw, none, 0, rfl, fun k p hk => by simp at hk⟩)
          · obtain rfl : E = D := by simpa using hE
            exact HTD.out
          · obtain rfl : E = D := by simpa using hE
            exact HK.out
      | cons p xs =>
        rcases HI.out.own.form with ⟨_, hv⟩ | ⟨g0, c0, hv⟩
        · cases hv
        · subst hv
          have HR : Hid (sparsestV m y = ((p :: xs).map keyF, 0)) := by show _ = _; rw [HSV.out, HLA.out]; rfl
          obtain ⟨pn, hpn⟩ : ∃ pn, (p :: xs).length = pn := ⟨_, rfl⟩
          have HPN := Lib.hid hpn
          have hpn0 : ((pn : Int) == 0) = false := by rw [← hpn]; simp only [List.length_cons]; simp; omega
          rw [hpn] at hr HI
          clear hpn
          gi_wp2
          rw [HR.out]
          refine sp_leaves (ms := [D]) (r := .tuple #[.slice (some ⟨g0, 0, none⟩) pn c0, .int .i64 0]) (by intro W; simp [results, Try.results38, go_sem]) HI.out (fun E hE => ?_) (by simp) (fun E hE => ?_) (fun W h => ⟨h.bw, some ⟨g0, 0, none⟩, c0, by rw [List.length_map, HPN.out], (OwnF.fs h.own fun z hz => (h.mem z hz).1).2⟩)
          · obtain rfl : E = D := by simpa using hE
            exact HTD.out
          · obtain rfl : E = D := by simpa using hE
            exact HK.out
    case stop =>
      rintro D c pre0 C T V hD ⟨v, ⟨rfl, hne, hl⟩, hI⟩ hTD hK
      have HI := Lib.hid hI
      have HTD := Lib.hid hTD
      have HK := Lib.hid hK
      have hr := hI.r
      obtain ⟨pre, hpre⟩ : ∃ pre, pre0.dropLast = pre := ⟨_, rfl⟩
      rw [hpre] at HI hne hl
      have HL := Lib.hid hl
      have HR : Hid (sparsestV m y = (pre.map keyF, 0)) := by
        show _ = _
        rw [HSV.out, hl, if_neg fun e => hne (List.map_eq_nil_iff.1 e)]
      clear hI hTD hK hD hl hpre k2 k3 k4 k5 k6 k7 k8 hbs hbw0 HSEQ hZ2 hZ k1 s1
      rcases HI.out.own.form with ⟨_, hv⟩ | ⟨g0, c0, hv⟩
      · exact absurd hv hne
      · subst hv
        obtain ⟨pn, hpn⟩ : ∃ pn, pre.length = pn := ⟨_, rfl⟩
        have HPN := Lib.hid hpn
        have hpn0 : ((pn : Int) == 0) = false := by
          have := List.length_pos_iff.2 hne
          simp; omega
        rw [hpn] at hr HI
        clear hpn hne
        gi_wp2
        rw [HR.out]
        refine sp_leaves (ms := [D]) (r := .tuple #[.slice (some ⟨g0, 0, none⟩) pn c0, .int .i64 0]) (by intro W; simp [results, Try.results38, go_sem]) HI.out (fun E hE => ?_) (by simp) (fun E hE => ?_) (fun W h => ⟨h.bw, some ⟨g0, 0, none⟩, c0, by rw [List.length_map, HPN.out], (OwnF.fs h.own fun z hz => (h.mem z hz).1).2⟩)
        · obtain rfl : E = D := by simpa using hE
          exact HTD.out
        · obtain rfl : E = D := by simpa using hE
          exact HK.out
theorem sparsest_any (a : Option Addr) (m : List (List Int)) (cap : Nat) (ya : Option Addr) (y : List Int) (yc : Nat) (w : World) (hm : MOk m) (hly : y.length ≤ 1000) (hs : Ms w a m) (hy : Sl w ya y) : Calls Try.prog 38 #[.slice a m.length cap, .slice ya y.length yc] w (FsPost (sparsestV m y) w) := callsIn_wide.1 (sparsest_in a m cap ya y yc w hm hly hs hy)
end Go.Proofs.Ytfnomiingelfaaa
/- Sparsest, Only, Size, Count of layer 4 and of its reference: contracts, given one of sparsest. -/
namespace Go.Proofs.Ytfnomiingelfaaa
open Go.RowKit Go.Shelf
attribute [local go_sem] Oper.semAt_some

theorem sl_set_slice {W : World} {a : Option Addr} {xs : List Int} {p : Addr} {b : Option Addr} {n c : Nat} (h : Sl W a xs) (hc : W.cell? p = some (.slice b n c)) (u : Value) : Sl (W.setCell p u) a xs := fun k hk => by
  obtain ⟨g, off, e, h1⟩ := h k hk
  refine ⟨g, off, e, (World.cell?_setCell_other _ _ _ _ ?_).trans h1⟩
  intro q
  first
    | (rw [q] at h1; rw [h1] at hc; cases hc)
    | (rw [← q] at h1; rw [h1] at hc; cases hc)
theorem rl_set_slice {W : World} {a : Option Addr} {xs : List (Int × Int)} {p : Addr} {b : Option Addr} {n c : Nat} (h : Rl W a xs) (hc : W.cell? p = some (.slice b n c)) (u : Value) : Rl (W.setCell p u) a xs := fun j x hj => by
  obtain ⟨g, e, h1, h2⟩ := h j x hj
  refine ⟨g, e, (World.cell?_setCell_other _ _ _ _ ?_).trans h1, (World.cell?_setCell_other _ _ _ _ ?_).trans h2⟩
  · intro q
    first
      | (rw [q] at h1; rw [h1] at hc; cases hc)
      | (rw [← q] at h1; rw [h1] at hc; cases hc)
  · intro q
    first
      | (rw [q] at h2; rw [h2] at hc; cases hc)
      | (rw [← q] at h2; rw [h2] at hc; cases hc)
def TopPost (t : List Int × List (Int × Int)) (n : Int) (w : World) (e : Ending) (w' : World) : Prop := Below w.heap.size w w' ∧ ∃ qa qc va vc, e = .returned (.tuple #[.agg #[.slice qa t.1.length qc, .slice va t.2.length vc], .int .i64 n]) ∧ Sl w' qa t.1 ∧ Rl w' va t.2
def topV (r : List (List Int × List (Int × Int)) × Int) : List Int × List (Int × Int) := r.1.headD ([], [])
def RowE (r : List (List Int × List (Int × Int)) × Int) : Prop := (r.2 = 0 ∧ r.1 ≠ []) ∨ (r.2 ≠ 0 ∧ r.1 = [])
theorem topPost_put {W W2 : World} {t : List Int × List (Int × Int)} {n : Int} {w V : World} {qa va : Option Addr} {qc vc : Nat} {ty : TypeId} (hV : w.alloc (.cells #[.slice none 0 0, .slice none 0 0] ty) = V) (hW : Below V.heap.size V W) (hs : Sl W qa t.1) (hr : Rl W va t.2) (e2 : W2 = (W.setCell ⟨w.heap.size, 0, none⟩ (.slice qa t.1.length qc)).setCell ⟨w.heap.size, 1, none⟩ (.slice va t.2.length vc)) :
    TopPost t n w (.returned (.tuple #[.agg #[.slice qa t.1.length qc, .slice va t.2.length vc], .int .i64 n])) W2 := by
  subst e2
  obtain ⟨t0, t1, t2, t3⟩ := box2 hV W hW
  have hb0 : Below w.heap.size w V := by rw [← hV]; exact (Below.refl _ _).alloc (Nat.le_refl _) _
  have t1' : (W.setCell ⟨w.heap.size, 0, none⟩ (.slice qa t.1.length qc)).cell? ⟨w.heap.size, 1, none⟩ = some (.slice none 0 0) := (World.cell?_setCell_other _ _ _ _ (by simp)).trans t1
  have hb1 : Below w.heap.size w W := hb0.trans (hW.mono hb0.size)
  exact ⟨(hb1.setCell (p := ⟨w.heap.size, 0, none⟩) (Nat.le_refl _) _).setCell (p := ⟨w.heap.size, 1, none⟩) (Nat.le_refl _) _, qa, qc, va, vc, rfl, sl_set_slice (sl_set_slice hs t0 _) t1' _, rl_set_slice (rl_set_slice hr t0 _) t1' _⟩
set_option maxRecDepth 100000 in
set_option maxHeartbeats 800000 in
theorem sstop_any (r : List (List Int × List (Int × Int)) × Int) (hr : RowE r) (a : Option Addr) (n c : Nat) (ya : Option Addr) (yn yc : Nat) (w : World) (hsp : ∀ W, Below w.heap.size w W → Calls Try.prog 38 #[.slice a n c, .slice ya yn yc] W (FsPost r W)) :
    Calls Try.prog 17 #[.slice a n c, .slice ya yn yc] w (TopPost (topV r) r.2 w) := by
  obtain ⟨V, hV⟩ : ∃ V, w.alloc (.cells #[.slice none 0 0, .slice none 0 0] 41) = V := ⟨_, rfl⟩
  have HVV := Lib.hid hV
  have HVW := Lib.hid (box2 hV)
  have HBV : Hid (Below w.heap.size w V) := by rw [← hV]; exact (Below.refl _ _).alloc (Nat.le_refl _) _
  have HSP := Lib.hid (hsp V HBV.out)
  clear hsp
  obtain ⟨l, e0⟩ := r
  rcases hr with ⟨h0, h1⟩ | ⟨h0, h1⟩
  · simp only at h0 h1
    subst h0
    cases l with
    | nil => exact absurd rfl h1
    | cons p l =>
      clear h1
      go_enter Try.func17, Try.ntmps17
      go_wp2_with (go_at_call 38; refine HSP.out.mono ?_; rintro e w2 ⟨hb, la, lc, rfl, hf⟩; obtain ⟨g, qa, qc, va, vc, rfl, z1, z2, z3, z4⟩ := hf 0 p rfl; simp only [Nat.zero_mul, Nat.zero_add] at z1 z2; obtain ⟨u0, u1, u2, u3⟩ := HVW.out w2 hb; have HB := Lib.hid hb; have HS3 := Lib.hid z3; have HS4 := Lib.hid z4; clear hb hf z3 z4)
      refine bodyPost_ret (v := .tuple #[.agg #[.slice qa p.1.length qc, .slice va p.2.length vc], .int .i64 0]) ?_ rfl (topPost_put (t := p) HVV.out HB.out HS3.out HS4.out rfl)
      rw [results_cell_tmp rfl]; go_simp
  · simp only at h0 h1
    subst h1
    have y1 : (e0 == 0) = false := by simpa using h0
    have y2 : (e0 != 0) = true := by simpa using h0
    clear h0
    go_enter Try.func17, Try.ntmps17
    go_wp2_with (go_at_call 38; refine HSP.out.mono ?_; rintro e w2 ⟨hb, la, lc, rfl, hf⟩; obtain ⟨u0, u1, u2, u3⟩ := HVW.out w2 hb; have HB := Lib.hid hb; clear hb hf)
    refine bodyPost_ret (v := .tuple #[.agg #[.slice none 0 0, .slice none 0 0], .int .i64 e0]) ?_ rfl (topPost_put (t := ([], [])) HVV.out HB.out (fun k hk => by simp at hk) (fun k p hk => by simp at hk) rfl)
    rw [results_cell_tmp rfl]; go_simp
end Go.Proofs.Ytfnomiingelfaaa
/- fit of the reference of layer 4: a contract. -/
namespace Go.Proofs.Ytfnomiingelfaaa
open Go.RowKit Go.Shelf

def Zero (a : Option Addr) : Prop := a = none ∨ ∃ b, a = some ⟨b, 0, none⟩
theorem OwnI.zero {w : World} {base : Nat} {a : Option Addr} {n c : Nat} {xs : List Int} (h : OwnI w base (.slice a n c) xs) : Zero a := by
  obtain ⟨_, ⟨e, _⟩ | ⟨g, cap, cur, e, _⟩⟩ := h
  · exact .inl (by injection e)
  · exact .inr ⟨g, by injection e⟩
end Go.Proofs.Ytfnomiingelfaaa
/- All of the reference of layer 4: a contract. -/
namespace Go.Proofs.Ytfnomiingelfaaa
open Go.RowKit Go.Shelf

structure FitR (x : FitV) (W : World) : Prop where
  sl : Sl W x.qa x.px
  rl : Rl W x.va x.vs
  z : Zero x.qa
theorem FitR.below {x : FitV} {W W' : World} (h : FitR x W) (hb : Below W.heap.size W W') : FitR x W' := ⟨h.sl.below hb, h.rl.below hb, h.z⟩
theorem OwnF.no_int {W : World} {base b : Nat} {v : Value} {xs : List FitV} {k : Int} (h : OwnF W base v xs) (hx : v = .slice none 0 0 ∨ xs ≠ []) (hc : W.cell? ⟨b, 0, none⟩ = some (.int .i64 k)) : v.ownBlock ≠ some b := by
  intro e
  rcases hx with rfl | hx
  · cases e
  · rcases h.form with ⟨_, q⟩ | ⟨g, cap, rfl⟩
    · exact hx q
    · obtain rfl : g = b := by injection e
      cases xs with
      | nil => exact hx rfl
      | cons x xs =>
        have := (h.cell (j := 0) (x := x) rfl).1
        rw [Nat.zero_mul, hc] at this
        cases this
theorem FitR.turned {x : FitV} {W W' : World} {base : Nat} {v : Value} {xs : List FitV} (h : FitR x W) (ho : OwnF W base v xs) (hx : v = .slice none 0 0 ∨ xs ≠ []) (ht : Turned (fun b => v.ownBlock = some b) W W') : FitR x W' := by
  refine ⟨fun k hk => ?_, fun j p hj => ?_, h.z⟩
  · obtain ⟨b, off, e, hc⟩ := h.sl k hk
    refine ⟨b, off, e, ht.cell hc ?_⟩
    obtain ⟨b2, off2, e2, hc2⟩ := h.sl 0 (by omega)
    rw [e] at e2
    obtain ⟨rfl, rfl⟩ : b = b2 ∧ off = off2 := by simpa using e2
    have hoff : off = 0 := by
      rcases h.z with q | ⟨b3, q⟩
      · rw [e] at q; cases q
      · rw [e] at q; simpa using (by simpa using q : _ ∧ off = 0).2
    subst hoff
    exact ho.no_int hx hc2
  · obtain ⟨b, e, h1, h2⟩ := h.rl j p hj
    obtain ⟨p0, hp0⟩ : ∃ p0, x.vs[0]? = some p0 := ⟨x.vs[0]'(by have := (List.getElem?_eq_some_iff.1 hj).1; omega), by simp [show 0 < x.vs.length by have := (List.getElem?_eq_some_iff.1 hj).1; omega]⟩
    obtain ⟨b2, e2, h3, _⟩ := h.rl 0 p0 hp0
    rw [e] at e2
    obtain rfl : b = b2 := by simpa using e2
    rw [Nat.zero_mul] at h3
    exact ⟨b, e, ht.cell h1 (ho.no_int hx h3), ht.cell h2 (ho.no_int hx h3)⟩
structure RowI (base : Nat) (v : Value) (xs : List FitV) (W : World) : Prop where
  own : OwnF W base v xs
  mem : ∀ x ∈ xs, FitR x W
  sh : v = .slice none 0 0 ∨ xs ≠ []
theorem RowI.nil (base : Nat) (W : World) : RowI base (.slice none 0 0) [] W := ⟨OwnF.nil _ _, fun x hx => (by cases hx), .inl rfl⟩
theorem RowI.below {base : Nat} {v : Value} {xs : List FitV} {W W' : World} (h : RowI base v xs W) (hb : Below W.heap.size W W') : RowI base v xs W' := ⟨h.own.below hb, fun x hx => (h.mem x hx).below hb, h.sh⟩
theorem RowI.push {base : Nat} {v : Value} {xs : List FitV} {V w' : World} {x : FitV} {g cap : Nat} (h : RowI base v xs V) (hx : FitR x V) (hp : PushedF V base v xs x g cap w') : RowI base (.slice (some ⟨g, 0, none⟩) (xs.length + 1) cap) (xs ++ [x]) w' := by
  obtain ⟨h1, h2, _⟩ := hp
  refine ⟨h1, fun z hz => ?_, .inr (by simp)⟩
  rcases List.mem_append.1 hz with hz | hz
  · exact (h.mem z hz).turned h.own h.sh h2
  · obtain rfl := List.mem_singleton.1 hz
    exact hx.turned h.own h.sh h2
end Go.Proofs.Ytfnomiingelfaaa
/- known of a reduction: a contract. -/
namespace Go.Proofs.Ytfnomiingelfaaa
open Go.RowKit

end Go.Proofs.Ytfnomiingelfaaa
/- What is known: the two sides agree. Plain words. Speaks of no program. -/
namespace Go.Proofs.Ytfnomiingelfaaa
open Go.RowKit

end Go.Proofs.Ytfnomiingelfaaa
/- What is known does not hang on the numbers behind the rows; the row of a pivot as a sum of rows. Plain words. Speaks of no program. -/
namespace Go.Proofs.Ytfnomiingelfaaa
open Go.RowKit

variable {R N cols : Nat} {A0 : Nat → Nat → Int} {r : Rd}
end Go.Proofs.Ytfnomiingelfaaa
/- The fits of the reference are those of the program: more columns than the rank carry no fit. -/
namespace Go.Proofs.Ytfnomiingelfaaa
open Go.RowKit

end Go.Proofs.Ytfnomiingelfaaa
/- sparsest of the reference of layer 4: a contract. -/
namespace Go.Proofs.Ytfnomiingelfaaa
open Go.RowKit Go.Shelf

theorem RowI.at {base : Nat} {v : Value} {xs : List FitV} {W : World} (h : RowI base v xs W) : ∃ a cap, v = .slice a xs.length cap ∧ ∀ k x, xs[k]? = some x → ∃ g, a = some ⟨g, 0, none⟩ ∧ W.cell? ⟨g, k * 2, none⟩ = some (.slice x.qa x.px.length x.qc) ∧ W.cell? ⟨g, k * 2 + 1, none⟩ = some (.slice x.va x.vs.length x.vc) ∧ FitR x W := by
  rcases h.own.form with ⟨e, rfl⟩ | ⟨g, cap', rfl⟩
  · exact ⟨none, 0, e, fun k x hk => by simp at hk⟩
  · refine ⟨_, cap', rfl, fun k x hk => ?_⟩
    obtain ⟨c1, c2⟩ := h.own.cell hk
    exact ⟨g, rfl, c1, c2, h.mem x (List.mem_of_getElem? hk)⟩
end Go.Proofs.Ytfnomiingelfaaa
/- Fits of the reference of layer 4: a contract. -/
namespace Go.Proofs.Ytfnomiingelfaaa
open Go.RowKit Go.Shelf

theorem rwithin4_any (n lo hi : Int) (w : World) :
    Calls Try.prog 29 #[.int .i64 n, .int .i64 lo, .int .i64 hi] w fun e w' => e = .returned (.bool (rangeB n lo hi)) ∧ w = w' := by
  go_enter Try.func29, Try.ntmps29
  go_wp2
  all_goals go_ret
  all_goals exact ⟨ret_bool (by first | (simp [rangeB, *]; done) | (simp [rangeB]; omega)), rfl⟩
end Go.Proofs.Ytfnomiingelfaaa
