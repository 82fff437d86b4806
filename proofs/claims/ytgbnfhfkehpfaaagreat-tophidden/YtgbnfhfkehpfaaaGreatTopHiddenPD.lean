/- Parts of the proof of TopHidden: plain words, walks and contracts, each under its own heading. -/
import Derived.Test.YtgbnfhfkehpfaaaGreatTopHiddenPC
import Derived.Test.YtgbnfhfkehpfaaaGreatTopHiddenPB
import Derived.Sort.LoopGhostIn
import Derived.Test.YtgbnfhfkehpfaaaGreatTopHiddenPA
import Derived.BigQuiet
import Derived.Laws.AppendOwnNone
import Derived.Deep.AppendLies
import Derived.Test.YtgbnfhfkehpfaaaGreatProg
import Derived.IntWalk
import Derived.Deep.RegionHeld3
import Derived.Deep.RegionLaw
/- Sets of a size, one after the other: the next one by its last number that can grow. Plain words. Speaks of no program. -/
namespace Go.Proofs.YtgbnfhfkehpfaaaGreat
open Go.RowKit

def upFrom (a : Int) : Nat → List Int
  | 0 => []
  | k + 1 => a :: upFrom (a + 1) k
theorem upFrom_len (a : Int) : ∀ k, (upFrom a k).length = k
  | 0 => rfl
  | k + 1 => by show (upFrom (a + 1) k).length + 1 = k + 1; rw [upFrom_len]
theorem upFrom_gt : ∀ (k j : Nat) (a : Int), j < k → gt (upFrom a k) j = a + j
  | 0, j, a, h => by omega
  | k + 1, 0, a, h => by show a = a + (0 : Nat); omega
  | k + 1, j + 1, a, h => by
    show gt (upFrom (a + 1) k) j = a + (j + 1 : Nat)
    rw [upFrom_gt k j (a + 1) (by omega)]; omega
def nextS (n : Nat) : List Int → Option (List Int)
  | [] => none
  | x :: t => match nextS n t with
    | some t' => some (x :: t')
    | none => if x + 1 + t.length < n then some (upFrom (x + 1) (t.length + 1)) else none
theorem nextS_some {n : Nat} {x : Int} {t t' : List Int} (h : nextS n t = some t') : nextS n (x :: t) = some (x :: t') := by unfold nextS; rw [h]
theorem nextS_none {n : Nat} {x : Int} {t : List Int} (h : nextS n t = none) : nextS n (x :: t) = if x + 1 + t.length < n then some (upFrom (x + 1) (t.length + 1)) else none := by
  conv => lhs; unfold nextS
  rw [h]
def RunS (n : Nat) (L : List (List Int)) : Prop := (∀ i, i + 1 < L.length → nextS n (rowL L i) = some (rowL L (i + 1))) ∧ nextS n (rowL L (L.length - 1)) = none
theorem compl_head_is {n : Nat} : ∀ (r b : Nat), r + b ≤ n → (compl n r b).length ≠ 0 ∧ rowL (compl n r b) 0 = upFrom b r
  | 0, b, _ => by simp [compl, rowL, upFrom]
  | r + 1, b, h => by
    obtain ⟨k, hk⟩ : ∃ k, n - r - b = k + 1 := ⟨n - r - b - 1, by omega⟩
    obtain ⟨h1, h2⟩ := compl_head_is (n := n) r (b + 0 + 1) (by omega)
    have e : compl n (r + 1) b = ((compl n r (b + 0 + 1)).map fun s => ((b + 0 : Nat) : Int) :: s) ++ ((List.range k).flatMap fun d => (compl n r (b + (d + 1) + 1)).map fun s => ((b + (d + 1) : Nat) : Int) :: s) := by
      show ((List.range (n - r - b)).flatMap fun d => (compl n r (b + d + 1)).map fun s => ((b + d : Nat) : Int) :: s) = _
      rw [hk, List.range_succ_eq_map, List.flatMap_cons, flatMap_map']
    match hl : compl n r (b + 0 + 1) with
    | [] => rw [hl] at h1; exact absurd rfl h1
    | s :: L =>
      rw [hl] at e h2
      rw [e]
      have h2 : s = upFrom ((b + 0 + 1 : Nat) : Int) r := h2
      subst h2
      exact ⟨by simp, by show ((b + 0 : Nat) : Int) :: upFrom ((b + 0 + 1 : Nat) : Int) r = (b : Int) :: upFrom ((b : Int) + 1) r; simp⟩
theorem rowL_app1 {A B : List (List Int)} {i : Nat} (h : i < A.length) : rowL (A ++ B) i = rowL A i := by unfold rowL; rw [List.getElem?_append_left h]
theorem rowL_app2 {A B : List (List Int)} {i : Nat} (h : A.length ≤ i) : rowL (A ++ B) i = rowL B (i - A.length) := by unfold rowL; rw [List.getElem?_append_right h]
theorem rowL_mapS {A : List (List Int)} {f : List Int → List Int} {i : Nat} (h : i < A.length) : rowL (A.map f) i = f (rowL A i) := by unfold rowL; simp [h]
theorem RunS.join {n : Nat} {A B : List (List Int)} (hA : ∀ i, i + 1 < A.length → nextS n (rowL A i) = some (rowL A (i + 1))) (_ha : A.length ≠ 0) (hB : RunS n B) (hb : B.length ≠ 0) (hl : nextS n (rowL A (A.length - 1)) = some (rowL B 0)) : RunS n (A ++ B) := by
  constructor
  · intro i hi
    rw [List.length_append] at hi
    by_cases h1 : i + 1 < A.length
    · rw [rowL_app1 (by omega), rowL_app1 h1]; exact hA i h1
    · by_cases h2 : i < A.length
      · obtain rfl : i = A.length - 1 := by omega
        rw [rowL_app1 h2, rowL_app2 (by omega), hl, show A.length - 1 + 1 - A.length = 0 by omega]
      · rw [rowL_app2 (by omega), rowL_app2 (by omega), show i + 1 - A.length = (i - A.length) + 1 by omega]
        exact hB.1 _ (by omega)
  · rw [List.length_append, rowL_app2 (by omega), show A.length + B.length - 1 - A.length = B.length - 1 by omega]
    exact hB.2
theorem compl_run {n : Nat} : ∀ (r b : Nat), r + b ≤ n → RunS n (compl n r b)
  | 0, b, _ => ⟨fun i h => by simp [compl] at h, rfl⟩
  | r + 1, b, h => by
    have seg : ∀ d, r + (b + d + 1) ≤ n → (∀ i, i + 1 < ((compl n r (b + d + 1)).map fun s => ((b + d : Nat) : Int) :: s).length → nextS n (rowL ((compl n r (b + d + 1)).map fun s => ((b + d : Nat) : Int) :: s) i) = some (rowL ((compl n r (b + d + 1)).map fun s => ((b + d : Nat) : Int) :: s) (i + 1))) ∧ nextS n (rowL ((compl n r (b + d + 1)).map fun s => ((b + d : Nat) : Int) :: s) (((compl n r (b + d + 1)).map fun s => ((b + d : Nat) : Int) :: s).length - 1)) = if ((b + d : Nat) : Int) + 1 + r < n then some (upFrom (((b + d : Nat) : Int) + 1) (r + 1)) else none := fun d hd => by
      have ih := compl_run r (b + d + 1) hd
      have hne := (compl_head_is r (b + d + 1) hd).1
      constructor
      · intro i hi
        rw [List.length_map] at hi
        rw [rowL_mapS (by omega), rowL_mapS hi]
        exact nextS_some (ih.1 i hi)
      · rw [List.length_map, rowL_mapS (by omega), nextS_none ih.2]
        have hl : (rowL (compl n r (b + d + 1)) ((compl n r (b + d + 1)).length - 1)).length = r := (compl_mem (rowL_mem (show (compl n r (b + d + 1)).length - 1 < _ by omega))).1
        rw [hl]
    have key : ∀ k d, k + d = n - r - b → 1 ≤ k → RunS n ((List.range k).flatMap fun e => (compl n r (b + (d + e) + 1)).map fun s => ((b + (d + e) : Nat) : Int) :: s) ∧ rowL ((List.range k).flatMap fun e => (compl n r (b + (d + e) + 1)).map fun s => ((b + (d + e) : Nat) : Int) :: s) 0 = upFrom ((b + d : Nat) : Int) (r + 1) ∧ ((List.range k).flatMap fun e => (compl n r (b + (d + e) + 1)).map fun s => ((b + (d + e) : Nat) : Int) :: s).length ≠ 0 := by
      intro k
      induction k with
      | zero => intro d _ h1; omega
      | succ k ih =>
        intro d hd _
        obtain ⟨s1, s2⟩ := seg d (by omega)
        obtain ⟨h1, h2⟩ := compl_head_is (n := n) r (b + d + 1) (by omega)
        have e0 : ((List.range (k + 1)).flatMap fun e => (compl n r (b + (d + e) + 1)).map fun s => ((b + (d + e) : Nat) : Int) :: s) = ((compl n r (b + d + 1)).map fun s => ((b + d : Nat) : Int) :: s) ++ ((List.range k).flatMap fun e => (compl n r (b + (d + 1 + e) + 1)).map fun s => ((b + (d + 1 + e) : Nat) : Int) :: s) := by
          rw [List.range_succ_eq_map, List.flatMap_cons, flatMap_map', Nat.add_zero]
          congr 1
          exact flatMap_congr' fun e _ => by rw [show d + e.succ = d + 1 + e by omega]
        rw [e0]
        have hal : ((compl n r (b + d + 1)).map fun s => ((b + d : Nat) : Int) :: s).length ≠ 0 := by rw [List.length_map]; exact h1
        have hhead : rowL ((compl n r (b + d + 1)).map fun s => ((b + d : Nat) : Int) :: s) 0 = upFrom ((b + d : Nat) : Int) (r + 1) := by
          rw [rowL_mapS (by omega), h2]
          show ((b + d : Nat) : Int) :: upFrom ((b + d + 1 : Nat) : Int) r = ((b + d : Nat) : Int) :: upFrom (((b + d : Nat) : Int) + 1) r
          rw [show ((b + d + 1 : Nat) : Int) = ((b + d : Nat) : Int) + 1 by omega]
        by_cases hk : k = 0
        · subst hk
          rw [if_neg (by omega)] at s2
          rw [show (List.range 0).flatMap (fun e => (compl n r (b + (d + 1 + e) + 1)).map fun s => ((b + (d + 1 + e) : Nat) : Int) :: s) = [] from rfl, List.append_nil]
          exact ⟨⟨s1, s2⟩, hhead, hal⟩
        · obtain ⟨i1, i2, i3⟩ := ih (d + 1) (by omega) (by omega)
          rw [if_pos (by omega)] at s2
          refine ⟨RunS.join s1 hal i1 i3 ?_, ?_, by rw [List.length_append]; omega⟩
          · rw [s2, i2, show ((b + (d + 1) : Nat) : Int) = ((b + d : Nat) : Int) + 1 by omega]
          · rw [rowL_app1 (by omega)]; exact hhead
    have := (key (n - r - b) 0 (by omega) (by omega)).1
    have e : compl n (r + 1) b = (List.range (n - r - b)).flatMap fun e => (compl n r (b + (0 + e) + 1)).map fun s => ((b + (0 + e) : Nat) : Int) :: s := by
      show ((List.range (n - r - b)).flatMap fun d => (compl n r (b + d + 1)).map fun s => ((b + d : Nat) : Int) :: s) = _
      exact flatMap_congr' fun d _ => by rw [Nat.zero_add]
    rw [e]; exact this
theorem nextS_last {n : Nat} : ∀ (s : List Int), (∀ j, j < s.length → gt s j = (n : Int) - s.length + j) → nextS n s = none
  | [], _ => rfl
  | x :: t, h => by
    have h0 := h 0 (by simp)
    have hx : x = (n : Int) - (t.length + 1 : Nat) := by
      have : gt (x :: t) 0 = x := rfl
      rw [this, List.length_cons] at h0; omega
    rw [nextS_none (nextS_last t fun j hj => ?_), if_neg (by omega)]
    have := h (j + 1) (by rw [List.length_cons]; omega)
    rw [List.length_cons] at this
    have e : gt (x :: t) (j + 1) = gt t j := rfl
    rw [e] at this
    omega
theorem nextS_at {n : Nat} : ∀ (s : List Int) (i : Nat), s.Pairwise (· < ·) → (∀ j ∈ s, 0 ≤ j ∧ j < (n : Int)) → i < s.length → gt s i ≠ (n : Int) - s.length + i → (∀ j, i < j → j < s.length → gt s j = (n : Int) - s.length + j) → nextS n s = some (s.take i ++ upFrom (gt s i + 1) (s.length - i))
  | [], i, _, _, h, _, _ => by simp at h
  | x :: t, 0, hp, hb, _, hne, hl => by
    have hx : gt (x :: t) 0 = x := rfl
    have hxb := hb x List.mem_cons_self
    rw [List.pairwise_cons] at hp
    have hpl := pw_len t (x.toNat + 1) n (by omega) hp.2 fun j hj => by
      have := hp.1 j hj
      have := hb j (List.mem_cons_of_mem _ hj)
      omega
    rw [nextS_none (nextS_last t fun j hj => ?_)]
    · rw [hx, List.length_cons] at hne
      rw [if_pos (by omega)]; rfl
    · have := hl (j + 1) (by omega) (by rw [List.length_cons]; omega)
      rw [List.length_cons] at this
      have e : gt (x :: t) (j + 1) = gt t j := rfl
      rw [e] at this
      omega
  | x :: t, i + 1, hp, hb, hi, hne, hl => by
    rw [List.pairwise_cons] at hp
    have e : ∀ j, gt (x :: t) (j + 1) = gt t j := fun j => rfl
    rw [List.length_cons] at hi
    have ih := nextS_at t i hp.2 (fun j hj => hb j (List.mem_cons_of_mem _ hj)) (by omega) (by
      rw [e, List.length_cons] at hne
      intro h2; apply hne; rw [h2]; omega) fun j h1 h2 => by
        have := hl (j + 1) (by omega) (by rw [List.length_cons]; omega)
        rw [e, List.length_cons] at this
        omega
    rw [nextS_some ih, e, List.length_cons, show t.length + 1 - (i + 1) = t.length - i by omega]
    rfl
end Go.Proofs.YtgbnfhfkehpfaaaGreat
/- sets and advance of layer 4: contracts. -/
namespace Go.Proofs.YtgbnfhfkehpfaaaGreat
open Go.RowKit Go.Shelf

def stepS (s : List Int) (i : Nat) (x : Int) (q : Nat) : List Int := (List.range s.length).map fun j => if i ≤ j ∧ j < q then x + ((j : Int) - i) else gt s j
theorem stepS_len (s : List Int) (i : Nat) (x : Int) (q : Nat) : (stepS s i x q).length = s.length := by simp [stepS]
theorem stepS_start (s : List Int) (i : Nat) (x : Int) : stepS s i x i = s := by
  refine list_ext_gt (stepS_len _ _ _ _) fun k hk => ?_
  rw [stepS_len] at hk
  unfold stepS
  rw [gt_map_range _ hk, if_neg (by omega)]
theorem stepS_succ {s : List Int} {i : Nat} {x : Int} {q : Nat} (hi : i ≤ q) (hq : q < s.length) : (stepS s i x q).set q (x + q - i) = stepS s i x (q + 1) := by
  refine list_ext_gt (by rw [List.length_set, stepS_len, stepS_len]) fun k hk => ?_
  rw [List.length_set, stepS_len] at hk
  rw [gt_set (by rw [stepS_len]; exact hq)]
  unfold stepS
  rw [gt_map_range _ hk, gt_map_range _ hk]
  by_cases e : k = q
  · subst e; rw [if_pos rfl, if_pos (by omega)]; omega
  · rw [if_neg e]
    by_cases h : i ≤ k ∧ k < q
    · rw [if_pos h, if_pos (by omega)]
    · rw [if_neg h, if_neg (by omega)]
theorem stepS_end {s : List Int} {i : Nat} {x : Int} (hi : i < s.length) : stepS s i x s.length = s.take i ++ upFrom x (s.length - i) := by
  refine list_ext_gt (by rw [stepS_len, List.length_append, List.length_take, upFrom_len]; omega) fun k hk => ?_
  rw [stepS_len] at hk
  unfold stepS
  rw [gt_map_range _ hk]
  by_cases h : k < i
  · rw [if_neg (by omega)]
    unfold gt
    rw [List.getElem?_append_left (by rw [List.length_take]; omega), List.getElem?_take, if_pos h]
  · have e : gt (s.take i ++ upFrom x (s.length - i)) k = gt (upFrom x (s.length - i)) (k - i) := by
      unfold gt
      rw [List.getElem?_append_right (by rw [List.length_take]; omega), List.length_take, show min i s.length = i by omega]
    rw [if_pos (by omega), e, upFrom_gt _ _ _ (by omega)]; omega
set_option maxRecDepth 1000000 in
set_option maxHeartbeats 2000000 in
theorem advance_any (SB r n : Nat) (s : List Int) (hn : n ≤ 100) (hr : r ≤ 100) (hp : s.Pairwise (· < ·)) (hb : ∀ j ∈ s, 0 ≤ j ∧ j < (n : Int)) (hl : s.length = r) (w : World) (ho : OwnI w 0 (.slice (some ⟨SB, 0, none⟩) r r) s) :
    Calls Tryz.prog 136 #[.slice (some ⟨SB, 0, none⟩) r r, .int .i64 n] w fun e w' => (nextS n s = none ∧ e = .returned (.bool false) ∧ w' = w) ∨ (∃ s', nextS n s = some s' ∧ e = .returned (.bool true) ∧ OwnI w' 0 (.slice (some ⟨SB, 0, none⟩) r r) s' ∧ Turned (fun b => b = SB) w w') := by
  have HO := Lib.hid ho
  have HL := Lib.hid hl
  have HLAST : Hid ((∀ j, j < r → gt s j = (n : Int) - r + j) → nextS n s = none) := fun h => nextS_last s fun j hj => by rw [hl]; exact h j (by omega)
  have HAT : Hid (∀ i, i < r → gt s i ≠ (n : Int) - r + i → (∀ j, i < j → j < r → gt s j = (n : Int) - r + j) → nextS n s = some (stepS s i (gt s i + 1) r)) := fun i hi h1 h2 => by
    have k := nextS_at s i hp hb (by omega) (by rw [hl]; exact h1) fun j h3 h4 => by rw [hl]; exact h2 j h3 (by omega)
    rw [k, ← stepS_end (by omega), hl]
  have HBD : Hid (∀ i, i < r → 0 ≤ gt s i ∧ gt s i < n) := fun i hi => hb _ (mem_gt.2 ⟨i, by omega, rfl⟩)
  clear ho hl hp hb
  go_enter Tryz.func136, Tryz.ntmps136
  go_wp2
  go_loopw [5] (fun iv wr => ∃ k : Nat, k ≤ r ∧ iv = .int .i64 ((k : Int) - 1) ∧ wr = w ∧ ∀ j, k ≤ j → j < r → gt s j = (n : Int) - r + j) (fun iv _ => (intOf iv + 1).toNat)
  case atStart => exact ⟨r, Nat.le_refl _, rfl, rfl, fun j h1 h2 => by omega⟩
  case round =>
    obtain ⟨k, hk, rfl, rfl, hmax⟩ := hrel
    have HMX := Lib.hid hmax; clear hmax
    cases k with
    | zero =>
      have HNO := Lib.hid (HLAST.out fun j hj => HMX.out j (Nat.zero_le _) hj)
      go_wp2
      go_ret
      exact .inl ⟨HNO.out, rfl, rfl⟩
    | succ t =>
      have e1 : ((t + 1 : Nat) : Int) - 1 = (t : Int) := by omega
      rw [e1]
      have htr : t < r := by omega
      have ht0 : (t : Int) < (r : Int) := by omega
      obtain ⟨cz0, fz⟩ := HO.out.cell (j := t) (by rw [HL.out]; exact htr)
      have cz : wr.cell? ⟨SB, t, none⟩ = some (.int .i64 (gt s t)) := cz0
      have hbd := HBD.out t htr
      obtain ⟨x, hx⟩ : ∃ x, gt s t = x := ⟨_, rfl⟩
      have HX := Lib.hid hx
      rw [hx] at cz hbd
      clear hx e1 fz cz0
      by_cases hm : x = (n : Int) - r + t
      · have HM := Lib.hid hm
        clear hm
        have y1 : (x == (n : Int) - r + t) = true := by rw [HM.out]; simp
        have y2 : decide (x = (n : Int) - r + t) = true := by rw [HM.out]; simp
        go_wp2
        go_roundw
        case rel => exact ⟨t, by omega, by first | rfl | go_num, by first | trivial | rfl, fun j h1 h2 => by
          by_cases e : j = t
          · subst e; rw [HX.out]; exact HM.out
          · exact HMX.out j (by omega) h2⟩
        case measure => simp [intOf]
      · have y1 : (x == (n : Int) - r + t) = false := by simpa using hm
        have y2 : decide (x = (n : Int) - r + t) = false := by simpa using hm
        have HNX : Hid (nextS n s = some (stepS s t (x + 1) r)) := by
          have k := HAT.out t htr (by rw [HX.out]; exact hm) fun j h1 h2 => HMX.out j (by omega) h2
          rw [HX.out] at k; exact k
        clear hm
        go_wp2
        clear cz
        obtain ⟨wk, hwk⟩ : ∃ wk, wk = wr := ⟨_, rfl⟩
        subst hwk
        go_loopw [7] (fun kv wr2 => ∃ q : Nat, t ≤ q ∧ q ≤ r ∧ kv = .int .i64 q ∧ OwnI wr2 0 (.slice (some ⟨SB, 0, none⟩) r r) (stepS s t (x + 1) q) ∧ Turned (fun b => b = SB) wk wr2) (fun kv _ => r - (intOf kv).toNat)
        case atStart => exact ⟨t, Nat.le_refl _, by omega, rfl, by rw [stepS_start]; exact HO.out, Turned.refl _ _⟩
        case round =>
          obtain ⟨q, h1, h2, rfl, hO2, hT2⟩ := hrel
          have HO2 := Lib.hid hO2; clear hO2
          have HT2 := Lib.hid hT2; clear hT2
          by_cases hlt : q < r
          · obtain ⟨cz, fz⟩ := HO2.out.cell (j := q) (by rw [stepS_len, HL.out]; exact hlt)
            have hq0 : (q : Int) < (r : Int) := by omega
            have HST : Hid (OwnI (wr.setCell ⟨SB, q, none⟩ (.int .i64 (x + 1 + q - t))) 0 (.slice (some ⟨SB, 0, none⟩) r r) (stepS s t (x + 1) (q + 1))) := by
              have h := HO2.out.stored q (x + 1 + q - t)
              rw [stepS_succ h1 (by rw [HL.out]; exact hlt)] at h
              exact h
            have HT3 : Hid (Turned (fun b => b = SB) wk (wr.setCell ⟨SB, q, none⟩ (.int .i64 (x + 1 + q - t)))) := HT2.out.trans (turned_set (T := fun b => b = SB) _ _ rfl) fun b e => .inl e
            go_wp2
            go_roundw
            case rel => exact ⟨q + 1, by omega, by omega, by go_num, HST.out, HT3.out⟩
            case measure => simp [intOf]; omega
          · obtain rfl : q = r := by omega
            go_wp2
            go_ret
            exact .inr ⟨_, HNX.out, rfl, HO2.out, HT2.out⟩
theorem ssets_any (n size : Int) (w : World) : Calls Tryz.prog 116 #[.int .i64 n, .int .i64 size] w fun e w' =>
    e = .returned (.func (.func 135) #[] #[.pointer (some ⟨w.heap.size + 1, 0, none⟩), .pointer (some ⟨w.heap.size, 0, none⟩)]) ∧ w' = (w.alloc (.cells #[.int .i64 n] 3)).alloc (.cells #[.int .i64 size] 3) := by
  go_enter Tryz.func116, Tryz.ntmps116
  go_wp2
  go_ret
  exact ⟨rfl, rfl⟩
theorem wpListIn_make_full {F : Fence} {n : Nat} {P : Program} (w : World) {ops : Array Oper} {rest : List Oper} {o : Oper} {a : Act} {Q : Exit → Act → World → Prop}
    (hg : o.guard = none) (l c : Operand) (t : TypeId) (hop : o.op = Op.makeSlice t l c)
    (base : Nat) (e : TypeId) (i : TypeInfo) (z : Value) (size : Nat) (h1 : P.underlying t = some (.slice e)) (h2 : P.info? e = some i) (h3 : i.zero = some z) (h4 : i.size = size)
    (kl kc : IntKind) (L C : Int) (m : Nat) (hl : a.eval l = .int kl L) (hc : a.eval c = .int kc C) (hL : L = (m : Int)) (hC : C = (m : Int)) (b2 : i.bytes * m ≤ 281474976710656) (b3 : m ≤ maxLen) (b4 : base ≤ w.heap.size)
    (hK : ∀ w', w'.ownsRow base e size (.slice (some ⟨w.heap.size, 0, none⟩) m m) m (madeCells z.cells (m * size)).toList → w.grownBy w' none → wpListIn F n P ops Q rest (a.put o.dst (.slice (some ⟨w.heap.size, 0, none⟩) m m)) w') :
    wpListIn F n P ops Q (o :: rest) a w := by
  refine wpListIn_plain hg fun K hK' => ?_
  obtain ⟨w', hrun, r1, r2⟩ := run_make_full (P := P) w base t e i z size h1 h2 h3 h4 kl kc m b2 b3 b4
  subst hL
  subst hC
  unfold Oper.wpIn
  refine ⟨?_, ?_⟩
  · simp [Oper.about, hop]
  · rw [Oper.semAt_plain F _ _ (by rw [hop]; intro c hc'; cases hc')]
    simp [execOp, hop, hl, hc, hrun, Result.andThen]
    exact hK' _ _ (hK w' r1 r2)
end Go.Proofs.YtgbnfhfkehpfaaaGreat
/- sets of layer 4: the contract of what it hands back. -/
namespace Go.Proofs.YtgbnfhfkehpfaaaGreat
open Go.RowKit Go.Shelf
attribute [local go_sem] Oper.semAt_some

theorem stepS_all (s : List Int) (x : Int) : stepS s 0 x s.length = upFrom x s.length := by
  cases s with
  | nil => rfl
  | cons a t => rw [stepS_end (by simp)]; simp
theorem rows_split {Z : List (List Int)} {i : Nat} (h : i < Z.length) : Z = Z.take i ++ rowL Z i :: Z.drop (i + 1) := by
  conv => lhs; rw [← List.take_append_drop i Z, List.drop_eq_getElem_cons h]
  have : rowL Z i = Z[i] := by unfold rowL; simp [h]
  rw [this]
theorem take_row {Z : List (List Int)} {i : Nat} (h : i < Z.length) : Z.take (i + 1) = Z.take i ++ [rowL Z i] := by
  rw [List.take_succ_eq_append_getElem h]
  have : rowL Z i = Z[i] := by unfold rowL; simp [h]
  rw [this]
set_option maxRecDepth 1000000 in
set_option maxHeartbeats 4000000 in
theorem ssets1_seq (n size S N : Nat) (hn : n ≤ 100) (hs : size ≤ n) (w : World) (hS : w.cell? ⟨S, 0, none⟩ = some (.int .i64 size)) (hN : w.cell? ⟨N, 0, none⟩ = some (.int .i64 n)) :
    SeqM Tryz.prog 135 #[.pointer (some ⟨S, 0, none⟩), .pointer (some ⟨N, 0, none⟩)] encS MemS (fun _ _ => False) Prod.snd (compl n size 0) (fun b => b = S ∨ b = N) w := by
  intro l J Jx C T W hW hJ hJx hneed hY h0
  obtain ⟨i0, hi, hz0, hz1, hz2⟩ := info_parts Tryz.infoInt
  have cS : W.cell? ⟨S, 0, none⟩ = some (.int .i64 size) := (hW.cell (p := ⟨S, 0, none⟩) (cell_lt hS)).trans hS
  have cN : W.cell? ⟨N, 0, none⟩ = some (.int .i64 n) := (hW.cell (p := ⟨N, 0, none⟩) (cell_lt hN)).trans hN
  have LN : Hid (N < W.heap.size) := cell_lt cN
  have HY := Lib.hid hY
  have H0 := Lib.hid h0
  have HNEED : Hid (¬ C N) := hneed N (.inr rfl)
  have HN := Lib.hid cN
  obtain ⟨Z, hZ⟩ : ∃ Z, compl n size 0 = Z := ⟨_, rfl⟩
  have hrun := compl_run (n := n) size 0 (by omega)
  have hhead := compl_head_is (n := n) size 0 (by omega)
  have HROW : Hid (∀ i, i < Z.length → (rowL Z i).length = size ∧ (rowL Z i).Pairwise (· < ·) ∧ ∀ j ∈ rowL Z i, 0 ≤ j ∧ j < (n : Int)) := fun i hi => by
    have hm : rowL Z i ∈ compl n size 0 := by rw [hZ]; exact rowL_mem hi
    have h1 := compl_mem hm
    exact ⟨h1.1, compl_asc hm, fun j hj => by have := h1.2 j hj; omega⟩
  rw [hZ] at hrun hhead HY ⊢
  have HRUN := Lib.hid hrun
  have HHEAD := Lib.hid hhead
  clear hY h0 hneed hS hN hW cN hrun hhead hZ
  show Calls _ _ (#[.func (.yield l) #[] #[], .pointer (some ⟨S, 0, none⟩), .pointer (some ⟨N, 0, none⟩)]) _ _
  refine (callsIn_wide (n := 50)).1 ?_
  refine callsIn_of_wp Tryz.func135 rfl trivial ?_ rfl
  simp only [Tryz.ntmps135, List.size_toArray, List.length_cons, List.length_nil, Nat.reduceAdd, Nat.reduceSub, Array.replicate_succ, Array.replicate_zero, List.push_toArray, List.append_toArray, List.nil_append, List.cons_append]
  gi_wp2_with (gi_at_make; with_reducible refine wpListIn_make_full _ rfl (.tmp 6) (.tmp 6) 22 rfl W.heap.size 3 i0 (.int .i64 0) 1 Tryz.underlying22 hi hz0 hz1 .i64 .i64 (size : Int) (size : Int) size rfl rfl rfl rfl (by rw [hz2]; omega) (by unfold maxLen; omega) (Nat.le_refl _) ?_)
  rotate_left
  intro w5 hown hgrow
  have hb5 : Below W.heap.size W w5 := (Below.refl _ _).grown hgrow (Nat.le_refl _) (fun k e => by cases e)
  have hown2 : OwnI w5 W.heap.size (.slice (some ⟨W.heap.size, 0, none⟩) size size) (List.replicate size 0) := by
    have z := zeros_are size
    rw [Nat.mul_one] at z
    show w5.ownsRow _ _ _ _ _ _
    rw [List.length_replicate, ← z]; exact hown
  have HO5 : Hid (OwnI w5 0 (.slice (some ⟨W.heap.size, 0, none⟩) size size) (List.replicate size 0)) := hown2.mono (Nat.zero_le _)
  have HB5 := Lib.hid hb5
  obtain ⟨SB, hSB⟩ : ∃ SB, W.heap.size = SB := ⟨_, rfl⟩
  rw [hSB] at HO5 HB5 ⊢
  have HSB := Lib.hid hSB
  clear hown hown2 hgrow hb5 cS hSB
  gi_wp2
  gi_loopw [10] (fun i wr => ∃ k : Nat, k ≤ size ∧ i = .int .i64 (k : Int) ∧ OwnI wr 0 (.slice (some ⟨SB, 0, none⟩) size size) (stepS (List.replicate size 0) 0 0 k) ∧ Below SB W wr) (fun i _ => size - (intOf i).toNat)
  case atStart => exact ⟨0, Nat.zero_le _, rfl, by rw [stepS_start]; exact HO5.out, HB5.out⟩
  case round =>
    obtain ⟨k, hk, rfl, hO, hB⟩ := hrel
    have HO := Lib.hid hO; clear hO
    have HB := Lib.hid hB; clear hB
    by_cases hlt : k < size
    · obtain ⟨cz, fz⟩ := HO.out.cell (j := k) (by rw [stepS_len, List.length_replicate]; exact hlt)
      have hk0 : (k : Int) < (size : Int) := by omega
      have HST : Hid (OwnI (wr.setCell ⟨SB, k, none⟩ (.int .i64 (k : Int))) 0 (.slice (some ⟨SB, 0, none⟩) size size) (stepS (List.replicate size 0) 0 0 (k + 1))) := by
        have h := HO.out.stored k (k : Int)
        have e := stepS_succ (s := List.replicate size 0) (i := 0) (x := 0) (q := k) (Nat.zero_le _) (by rw [List.length_replicate]; exact hlt)
        rw [show (0 : Int) + (k : Int) - ((0 : Nat) : Int) = (k : Int) by omega] at e
        rw [e] at h
        exact h
      have HB2 : Hid (Below SB W (wr.setCell ⟨SB, k, none⟩ (.int .i64 (k : Int)))) := HB.out.setCell (p := ⟨SB, k, none⟩) (Nat.le_refl _) _
      gi_wp2
      go_roundw
      case rel => exact ⟨k + 1, by omega, by go_num, HST.out, HB2.out⟩
      case measure => simp [intOf]; omega
    · obtain rfl : k = size := by omega
      have HO6 : Hid (OwnI wr 0 (.slice (some ⟨SB, 0, none⟩) k k) (rowL Z 0)) := by
        have h := HO.out
        have e := stepS_all (List.replicate k 0) 0
        rw [List.length_replicate] at e
        rw [e] at h
        rw [HHEAD.out.2]; exact h
      have HLTN : Hid (N < SB) := by rw [← HSB.out]; exact LN.out
      have HJ6 : Hid (∃ pre C2 T2, pre.map Prod.snd = Z.take 0 ∧ J pre C2 T2 wr ∧ T2 SB ∧ ¬ C2 N) := ⟨[], C, fun b => T b ∨ W.heap.size ≤ b, rfl, hJ.keep H0.out (turned_below (by rw [HSB.out]; exact HB.out)) (fun b e => e), .inr (by rw [HSB.out]; exact Nat.le_refl _), HNEED.out⟩
      have hcN : wr.cell? ⟨N, 0, none⟩ = some (.int .i64 n) := (HB.out.cell (p := ⟨N, 0, none⟩) HLTN.out).trans HN.out
      have HCN := Lib.hid hcN
      have hZ0 : 0 < Z.length := Nat.pos_of_ne_zero HHEAD.out.1
      clear HO HB hcN
      gi_wp2
      gi_loopg [] Z.length (fun g wr => ∃ (i : Nat) (pre : List SetV) (C2 T2 : Blk), i < Z.length ∧ g = Z.length - i ∧ pre.map Prod.snd = Z.take i ∧ J pre C2 T2 wr ∧ T2 SB ∧ ¬ C2 N ∧ OwnI wr 0 (.slice (some ⟨SB, 0, none⟩) k k) (rowL Z i) ∧ wr.cell? ⟨N, 0, none⟩ = some (.int .i64 n))
      case atStart =>
        obtain ⟨pre, C2, T2, h1, h2, h3, h4⟩ := HJ6.out
        exact ⟨0, pre, C2, T2, hZ0, rfl, h1, h2, h3, h4, HO6.out, HCN.out⟩
      case round =>
        clear HO6 HJ6 HCN HHEAD H0 hZ0
        obtain ⟨i, pre, C2, T2, hi2, rfl, hpre, hj, hTS, hCN, hO, hcN⟩ := hrel
        obtain ⟨r1, r2, r3⟩ := HROW.out i hi2
        have HSPL := Lib.hid (rows_split hi2)
        have HTK := Lib.hid (take_row hi2)
        have HLAST : Hid (¬ i + 1 < Z.length → nextS n (rowL Z i) = none) := fun h => by
          have := HRUN.out.2
          rwa [show Z.length - 1 = i by omega] at this
        have HNEXT : Hid (i + 1 < Z.length → nextS n (rowL Z i) = some (rowL Z (i + 1))) := fun h => HRUN.out.1 i h
        obtain ⟨s, hs2⟩ : ∃ s, rowL Z i = s := ⟨_, rfl⟩
        rw [hs2] at r1 r2 r3 HSPL HTK HLAST HNEXT hO
        have HP : Hid (MemS (SB, s) wr) := by show OwnI _ _ _ _; dsimp only; rw [r1]; exact hO
        have hy := HY.out pre (SB, s) C2 T2 wr hj HP.out (fun _ h => h.elim) ⟨Z.drop (i + 1), by rw [hpre]; exact HSPL.out⟩ 49
        obtain ⟨fn, tmps, assign, body, hy1, hR⟩ := hy
        dsimp only [encS] at hy1
        rw [r1] at hy1
        have HR1 := Lib.hid r1; have HR2 := Lib.hid r2; have HR3 := Lib.hid r3
        have HJ2 := Lib.hid hj; have HTS := Lib.hid hTS; have HCN2 := Lib.hid hCN; have HO2 := Lib.hid hO; have HC2 := Lib.hid hcN; have HPRE := Lib.hid hpre
        have HI2 := Lib.hid hi2
        clear r1 r2 r3 hj hTS hCN hO hcN hpre hi2 hs2
        gi_wp2
        refine hR.mono ?_
        rintro e W3 (⟨rfl, hw⟩ | ⟨rfl, hw⟩)
        · obtain ⟨C3, T3, hj3, hT3, hC3, ht3⟩ := hw
          have hlt2 := (OwnI.lt HO2.out).1
          have hnS : ¬ C2 SB := fun e => (hJ.lt HJ2.out _ e).2 HTS.out
          have HO3 : Hid (OwnI W3 0 (.slice (some ⟨SB, 0, none⟩) k k) s) := HO2.out.sameBlock (ht3.same _ hlt2 fun e => e.elim hnS id)
          have HT3 : Hid (T3 SB) := hT3 SB HTS.out hlt2 id
          have hcN3 : W3.cell? ⟨N, 0, none⟩ = some (.int .i64 n) := ht3.cell HC2.out fun e => e.elim HCN2.out id
          have hNlt := cell_lt HC2.out
          have HNC3 : Hid (¬ C3 N) := fun e => (hC3 N e).elim HCN2.out fun e => e.elim id fun e => by dsimp only at hNlt; omega
          have HJ3 := Lib.hid hj3
          have HC3 := Lib.hid hcN3
          have HAD : Hid (Calls Tryz.prog 136 #[.slice (some ⟨SB, 0, none⟩) k k, .int .i64 n] W3 fun e w' => (nextS n s = none ∧ e = .returned (.bool false) ∧ w' = W3) ∨ (∃ s', nextS n s = some s' ∧ e = .returned (.bool true) ∧ OwnI w' 0 (.slice (some ⟨SB, 0, none⟩) k k) s' ∧ Turned (fun b => b = SB) W3 w')) := advance_any SB k n s hn (by omega) HR2.out HR3.out HR1.out W3 HO3.out
          clear hj3 hT3 hC3 ht3 hlt2 hnS hNlt hy1 hR
          by_cases hlast : i + 1 < Z.length
          · have hnx := HNEXT.out hlast
            have HAD2 : Hid (Calls Tryz.prog 136 #[.slice (some ⟨SB, 0, none⟩) k k, .int .i64 n] W3 fun e w' => e = .returned (.bool true) ∧ Hid (OwnI w' 0 (.slice (some ⟨SB, 0, none⟩) k k) (rowL Z (i + 1))) ∧ Hid (Turned (fun b => b = SB) W3 w')) := HAD.out.mono fun e w' h => by
              rcases h with ⟨h1, _⟩ | ⟨s', h1, h2, h3, h4⟩
              · rw [hnx] at h1; cases h1
              · rw [hnx] at h1
                obtain rfl := Option.some.inj h1
                exact ⟨h2, h3, h4⟩
            clear HAD hnx
            gi_wp2_with (refine ⟨trivial, ?_⟩; gi_at_call 136; refine (callsIn_wide.2 HAD2.out).mono ?_; rintro e w7 ⟨rfl, HO7, HT7⟩)
            gi_roundg (Z.length - (i + 1))
            case rel => exact ⟨i + 1, pre ++ [(SB, s)], C3, T3, hlast, rfl, by rw [List.map_append, HPRE.out, HTK.out]; rfl, hJ.keep HJ3.out (HT7.out.mono fun b _ e => by rw [e]; exact HT3.out) (fun b e => .inl e), HT3.out, HNC3.out, HO7.out, HT7.out.cell HC3.out (fun e => by have e : N = SB := e; have := HLTN.out; omega)⟩
            case measure => omega
          · have hnx := HLAST.out hlast
            have HAD2 : Hid (Calls Tryz.prog 136 #[.slice (some ⟨SB, 0, none⟩) k k, .int .i64 n] W3 fun e w' => e = .returned (.bool false) ∧ w' = W3) := HAD.out.mono fun e w' h => by
              rcases h with ⟨h1, h2, h3⟩ | ⟨s', h1, _⟩
              · exact ⟨h2, h3⟩
              · rw [hnx] at h1; cases h1
            have HEND : Hid ((pre ++ [(SB, s)]).map Prod.snd = Z) := by
              show _ = _
              rw [List.map_append, HPRE.out]
              have h1 := HTK.out
              rw [List.take_of_length_le (by omega)] at h1
              exact h1.symm
            clear HAD hnx
            gi_wp2_with (refine ⟨trivial, ?_⟩; gi_at_call 136; refine (callsIn_wide.2 HAD2.out).mono ?_; rintro e w7 ⟨rfl, rfl⟩)
            go_end0
            exact ⟨⟨_, rfl⟩, .inl ⟨_, _, _, HEND.out, HJ3.out⟩⟩
        · obtain ⟨C3, T3, hj3, _⟩ := hw
          have HJ3 := Lib.hid hj3
          clear hj3 hy1 hR
          gi_wp2
          refine ⟨trivial, ?_⟩
          gi_wp2
          go_end0
          exact ⟨⟨_, rfl⟩, .inr ⟨_, _, _, HJ3.out⟩⟩
end Go.Proofs.YtgbnfhfkehpfaaaGreat
/- (question).fits of layer 4: the contract of what it hands back. -/
namespace Go.Proofs.YtgbnfhfkehpfaaaGreat
open Go.RowKit Go.Shelf
attribute [local go_sem] Oper.semAt_some

structure FitV where
  qa : Option Addr
  qc : Nat
  px : List Int
  va : Option Addr
  vc : Nat
  vs : List (Int × Int)
abbrev fitV (x : FitV) : Value := .agg #[.slice x.qa x.px.length x.qc, .slice x.va x.vs.length x.vc]
abbrev encF (x : FitV) : Array Value := #[fitV x]
abbrev keyF (x : FitV) : List Int × List (Int × Int) := (x.px, x.vs)
def MemF (x : FitV) (W : World) : Prop := FitAt W 0 x.qa x.px x.va x.vs
def ownF (x : FitV) : Blk := fun b => (∃ ad, x.qa = some ad ∧ b = ad.block) ∨ (∃ ad, x.va = some ad ∧ b = ad.block)
def fitsTo (wr : Int × Int → Bool) (m : List (List Int)) (y : List Int) (j : Nat) : List (List Int × List (Int × Int)) := (List.range j).flatMap fun s => (compl (colsM m) s 0).filterMap fun px => (fitO wr m y px).map fun vs => (px, vs)
theorem fitsTo_succ (wr : Int × Int → Bool) (m : List (List Int)) (y : List Int) (j : Nat) : fitsTo wr m y (j + 1) = fitsTo wr m y j ++ (compl (colsM m) j 0).filterMap fun px => (fitO wr m y px).map fun vs => (px, vs) := by
  unfold fitsTo; rw [List.range_succ, List.flatMap_append]; simp
theorem fitsTo_split (wr : Int × Int → Bool) (m : List (List Int)) (y : List Int) (k n : Nat) (h : k ≤ n) : ∃ post, fitsTo wr m y n = fitsTo wr m y k ++ post := by
  obtain ⟨d, rfl⟩ : ∃ d, n = k + d := ⟨n - k, by omega⟩
  unfold fitsTo
  rw [List.range_add, List.flatMap_append]
  exact ⟨_, rfl⟩
theorem memF_put (x : FitV) (W : World) (l : Nat) (r r' : Loop) (h : MemF x W) (hl : W.heap[l]? = some (.loop r)) : MemF x (W.putObj l (.loop r')) := by
  have key : ∀ {a : Addr} {v : Value}, W.cell? a = some v → (W.putObj l (.loop r')).cell? a = some v := fun {a v} hc => by
    refine (World.cell?_of_block (World.putObj_heap_other fun e => ?_)).trans hc
    unfold World.cell? at hc
    rw [e, hl] at hc
    cases hc
  have hsz : W.heap.size ≤ (W.putObj l (.loop r')).heap.size := (turned_put (T := fun b => b = l) W (.loop r') rfl).size
  refine ⟨fun k hk => ?_, fun j p hj => ?_, fun ad e => ⟨(h.q ad e).1, Nat.lt_of_lt_of_le (h.q ad e).2 hsz⟩, fun ad e => ⟨(h.v ad e).1, Nat.lt_of_lt_of_le (h.v ad e).2 hsz⟩⟩
  · obtain ⟨b, o, e, hc⟩ := h.sl k hk
    exact ⟨b, o, e, key hc⟩
  · obtain ⟨b, e, c1, c2⟩ := h.rl j p hj
    exact ⟨b, e, key c1, key c2⟩
structure FIn {α : Type} (w0 : World) (bs : List (Addr × Value)) (Y l : Nat) (ms : List Nat) (K : List α → Blk → Blk → World → Prop) (pre : List α) (C T : Blk) (W : World) : Prop where
  cl : ∃ T2, K pre C T2 W ∧ (∀ b, T b → T2 b) ∧ T2 Y ∧ ∀ D, D ∈ ms → T2 D
  nc : ∀ b, (b < w0.heap.size ∨ ∃ p ∈ bs, b = p.1.block) → ¬ C b
  nt : ∀ b, (b < w0.heap.size ∨ ∃ p ∈ bs, b = p.1.block) ∨ b = Y ∨ b ∈ ms → ¬ T b
  cB : ∀ p ∈ bs, W.cell? p.1 = some p.2
  bw : Below w0.heap.size w0 W
  cY : W.cell? ⟨Y, 0, none⟩ = some (.func (.yield l) #[] #[])
  dm : ∀ D, D ∈ ms → W.heap[D]? = some (.deferred (some []))
theorem FIn.client {α β : Type} {w0 : World} {bs : List (Addr × Value)} {Y l : Nat} {ms : List Nat} {K : List α → Blk → Blk → World → Prop} {q : List β → List α → Prop} (hK : Client K) : Client fun (s : List β) C T W => ∃ pre, q s pre ∧ FIn w0 bs Y l ms K pre C T W where
  lt := by
    rintro s C T W ⟨pre, _, h⟩ b hb
    obtain ⟨T2, hk, h1, _⟩ := h.cl
    exact ⟨(hK.lt hk b hb).1, fun e => (hK.lt hk b hb).2 (h1 b e)⟩
  keep := by
    rintro s C T T' W W' ⟨pre, hq, h⟩ ht hT
    obtain ⟨T2, hk, h1, h2, h3⟩ := h.cl
    have lY := cell_lt h.cY
    have lD : ∀ D, D ∈ ms → D < W.heap.size := fun D hD => (Array.getElem?_eq_some_iff.1 (h.dm D hD)).1
    have hnt : ∀ b, (b < w0.heap.size ∨ ∃ p ∈ bs, b = p.1.block) ∨ b = Y ∨ b ∈ ms → ¬ T' b := by
      intro b hb e
      rcases hT b e with q | q
      · exact h.nt b hb q
      · have := h.bw.size
        rcases hb with (hb | ⟨p, hp, rfl⟩) | rfl | hb
        · omega
        · have := cell_lt (h.cB p hp); omega
        · dsimp only at lY; omega
        · have := lD b hb; omega
    refine ⟨pre, hq, ⟨fun b => T2 b ∨ W.heap.size ≤ b, hK.keep hk (ht.mono fun b _ e => h1 b e) (fun b e => e), fun b e => (hT b e).elim (fun e => .inl (h1 b e)) .inr, .inl h2, fun D hD => .inl (h3 D hD)⟩, h.nc, hnt, fun p hp => ht.cell (h.cB p hp) (h.nt _ (.inl (.inr ⟨p, hp, rfl⟩))), h.bw.trans (ht.below h.bw.size fun b hb => h.nt b (.inl (.inl hb))), ht.cell h.cY (h.nt _ (by simp)), fun D hD => (ht.same D (lD D hD) (h.nt D (by simp [hD]))).trans (h.dm D hD)⟩
theorem fin_next {α : Type} {own : α → Blk} {x : α} {w0 V2 W5 W6 : World} {bs : List (Addr × Value)} {Y l : Nat} {ms : List Nat} {J K : List α → Blk → Blk → World → Prop} {pre' : List α} {C3 T3 T2 : Blk} (hJ : Client J) (hI : FIn w0 bs Y l ms J pre' C3 T3 V2)
    (hk : J pre' C3 T2 V2) (h1 : ∀ b, T3 b → T2 b) (h2 : T2 Y) (h3 : ∀ D, D ∈ ms → T2 D) (hb5 : Below V2.heap.size V2 W5) (hbh : ∀ b, own x b → V2.heap.size ≤ b) (hw : Went K own pre' x C3 (fun b => T2 b ∨ V2.heap.size ≤ b) W5 W6) :
    ∃ C', FIn w0 bs Y l ms K (pre' ++ [x]) C' (fun b => T3 b ∧ b < V2.heap.size) W6 ∧ (∀ b, C' b → C3 b ∨ V2.heap.size ≤ b) ∧ Turned C3 V2 W6 := by
  obtain ⟨C', T', hj6, hT', hC', ht'⟩ := hw
  have s5 := hb5.size
  have lY := cell_lt hI.cY
  dsimp only at lY
  have lD : ∀ D, D ∈ ms → D < V2.heap.size := fun D hD => (Array.getElem?_eq_some_iff.1 (hI.dm D hD)).1
  have lw := hI.bw.size
  have nC : ∀ b, T2 b → ¬ C3 b := fun b hb hc => (hJ.lt hk b hc).2 hb
  have no : ∀ b, b < V2.heap.size → ¬ C3 b → ¬ (C3 b ∨ own x b) := fun b hb hn e => e.elim hn fun e => by have := hbh b e; omega
  have t5 : Turned C3 V2 W5 := turned_below hb5
  have hc5 : ∀ {a : Addr} {v : Value}, a.block < V2.heap.size → V2.cell? a = some v → ¬ C3 a.block → W6.cell? a = some v := fun hl hc hn => ht'.cell ((hb5.cell hl).trans hc) (no _ hl hn)
  refine ⟨C', ⟨⟨T', hj6, fun b hb => hT' b (.inl (h1 b hb.1)) (by omega) (fun e => by have := hbh b e; omega), hT' Y (.inl h2) (by omega) (fun e => by have := hbh _ e; omega), fun D hD => hT' D (.inl (h3 D hD)) (by have := lD D hD; omega) (fun e => by have := hbh _ e; have := lD D hD; omega)⟩, ?_, fun b hb e => hI.nt b hb e.1, fun p hp => hc5 (cell_lt (hI.cB p hp)) (hI.cB p hp) (hI.nc _ (.inr ⟨p, hp, rfl⟩)), ?_, hc5 lY hI.cY (nC Y h2), ?_⟩, ?_, ?_⟩
  · intro b hb e
    rcases hC' b e with q | q | q
    · exact hI.nc b hb q
    · have := hbh b q
      rcases hb with hb | ⟨p, hp, rfl⟩
      · omega
      · have := cell_lt (hI.cB p hp); omega
    · rcases hb with hb | ⟨p, hp, rfl⟩
      · omega
      · have := cell_lt (hI.cB p hp); omega
  · exact hI.bw.trans ((hb5.mono lw).trans (ht'.below (by omega) fun b hb => no b (by omega) (hI.nc b (.inl hb))))
  · intro D hD
    have := lD D hD
    exact (ht'.same D (by omega) (no D this (nC D (h3 D hD)))).trans ((hb5.block D this).trans (hI.dm D hD))
  · intro b hb
    rcases hC' b hb with q | q | q
    · exact .inl q
    · exact .inr (hbh b q)
    · exact .inr (by omega)
  · exact t5.trans ht' fun b e => e.elim .inl fun e => .inr (hbh b e)
theorem fit_leaves {α β : Type} {key : α → β} {fn : Func} {tmps : Array Value} {K J Jx : List α → Blk → Blk → World → Prop} {Z : List β} {pre : List α} {C T2 : Blk} {ms : List Nat} {V : World} (hf : fn.results = #[]) (hK : Client K) (hk : K pre C T2 V) (hT : ∀ D, D ∈ ms → T2 D) (hn : ms.Nodup) (hd : ∀ D, D ∈ ms → V.heap[D]? = some (.deferred (some [])))
    (hR : ∀ C T W, K pre C T W → (∃ xs C T, xs.map key = Z ∧ J xs C T W) ∨ (∃ pre C T, Jx pre C T W)) :
    LeavesInM Fence.wide 50 Tryz.prog fn tmps (fun e W' => (∃ v, e = .returned v) ∧ ((∃ xs C T, xs.map key = Z ∧ J xs C T W') ∨ (∃ pre C T, Jx pre C T W'))) (ms.map mark) .returning V := by
  refine leaves_marks2 (fun W => ∃ C T, K pre C T W ∧ ∀ D, D ∈ ms → T D) ms ?_ ?_ ms V (fun _ h => h) hn hd ⟨C, T2, hk, hT⟩
  · rintro W D hD ⟨C', T', h1, h2⟩
    exact ⟨C', T', hK.keep h1 (turned_put W _ (h2 D hD)) (fun b e => .inl e), h2⟩
  · rintro W ⟨C', T', h1, _⟩
    exact ⟨_, results_none hf _ _ _, ⟨_, rfl⟩, hR _ _ _ h1⟩
set_option maxRecDepth 1000000 in
set_option maxHeartbeats 4000000 in
theorem fits1_seq {wg : Nat} {wl : Array Value} {wr : Int × Int → Bool} {ma : Option Addr} {m : List (List Int)} {mc : Nat} {ya : Option Addr} {y : List Int} {yc Q KB WB kk : Nat} {w0 w : World} {bs : List (Addr × Value)} (hv : validM m = true) (hly : y.length ≤ 1000) (hkk : kk ≤ 100) (hms : Ms w0 ma m) (hys : Sl w0 ya y) (hbw : Below w0.heap.size w0 w) (hbs : ∀ p ∈ bs, w.cell? p.1 = some p.2)
    (hQ0 : ((⟨Q, 0, none⟩ : Addr), Value.slice ma m.length mc) ∈ bs) (hQ1 : ((⟨Q, 1, none⟩ : Addr), Value.slice ya y.length yc) ∈ bs) (hKB : ((⟨KB, 0, none⟩ : Addr), Value.int .i64 kk) ∈ bs) (hWB : ((⟨WB, 0, none⟩ : Addr), .func (.func wg) #[] wl) ∈ bs)
    (hcf : ∀ W a vs cap, (∀ p ∈ bs, W.cell? p.1 = some p.2) → vs.length ≤ 1000 → Rl W a vs → Calls Tryz.prog 138 #[.slice a vs.length cap, .func (.func wg) #[] wl] W fun e w' => e = .returned (.bool (vs.any wr)) ∧ Below W.heap.size W w') :
    SeqM Tryz.prog 114 #[.pointer (some ⟨Q, 0, none⟩), .pointer (some ⟨KB, 0, none⟩), .pointer (some ⟨WB, 0, none⟩)] encF MemF ownF keyF (fitsTo wr m y (min kk (rankM m) + 1)) (fun b => b < w0.heap.size ∨ ∃ p ∈ bs, b = p.1.block) w := by
  intro l J Jx C T W hW hJ hJx hneed hY h0
  obtain ⟨mn, hmn0⟩ : ∃ mn, min kk (rankM m) = mn := ⟨_, rfl⟩
  rw [hmn0] at hY ⊢
  obtain ⟨hm1, hm6, hc1, hc10, hrows⟩ := validM_of hv
  have HRL : Hid (∀ r ∈ m, r.length = colsM m) := fun r hr => (hrows r hr).1
  have HM1 := Lib.hid hm1
  have HC : Hid (1 ≤ colsM m ∧ colsM m ≤ 10) := ⟨hc1, hc10⟩
  have HMS := Lib.hid hms
  have HYS := Lib.hid hys
  have HV := Lib.hid hv
  have HY := Lib.hid hY
  have H0 := Lib.hid h0
  have HNEED := Lib.hid hneed
  have HCF := Lib.hid hcf
  have HLY := Lib.hid hly
  have HW0 : Hid (Below w0.heap.size w0 W) := hbw.trans (hW.mono hbw.size)
  have HWW := Lib.hid hW
  have HBS := Lib.hid hbs
  have HKK := Lib.hid hkk
  have HCELL : Hid (∀ V : World, (∀ p ∈ bs, V.cell? p.1 = some p.2) → V.cell? ⟨Q, 0, none⟩ = some (.slice ma m.length mc) ∧ V.cell? ⟨Q, 1, none⟩ = some (.slice ya y.length yc) ∧ V.cell? ⟨KB, 0, none⟩ = some (.int .i64 kk) ∧ V.cell? ⟨WB, 0, none⟩ = some (.func (.func wg) #[] wl)) := fun V hb => ⟨hb _ hQ0, hb _ hQ1, hb _ hKB, hb _ hWB⟩
  obtain ⟨b1, o1, ai, rr, ci, rfl, hcell, hsl, HR⟩ := hms.at (show 0 < m.length from hm1)
  have HROW : Hid (∀ V, Below w0.heap.size w0 V → V.cell? ⟨b1, o1, none⟩ = some (.slice ai (colsM m) ci)) := fun V hb => by
    rw [← (hrows rr (List.mem_of_getElem? HR.out)).1]
    exact (hb.cell (p := ⟨b1, o1, none⟩) (cell_lt hcell)).trans hcell
  clear hms hys hv hY h0 hneed hcf hly hkk hW hrows hc1 hc10 hm6 hQ0 hQ1 hKB hWB hcell hsl HR hbs hbw
  obtain ⟨V, hV⟩ : ∃ V, W.alloc (.cells #[.func (.yield l) #[] #[]] 133) = V := ⟨_, rfl⟩
  have HB0 : Hid (Below W.heap.size W V) := by rw [← hV]; exact (Below.refl _ _).alloc (Nat.le_refl _) _
  have HVS : Hid (V.heap.size = W.heap.size + 1) := by rw [← hV]; exact World.size_alloc _ _
  have HCY : Hid (V.cell? ⟨W.heap.size, 0, none⟩ = some (.func (.yield l) #[] #[])) := by rw [← hV]; exact alloc_cell _ _ _ _ _ rfl
  have HBW : Hid (Below w0.heap.size w0 V) := HW0.out.trans (HB0.out.mono HW0.out.size)
  have HBV : Hid (∀ p ∈ bs, V.cell? p.1 = some p.2) := fun p hp => by
    have h1 := (HWW.out.cell (p := p.1) (cell_lt (HBS.out p hp))).trans (HBS.out p hp)
    exact (HB0.out.cell (p := p.1) (cell_lt h1)).trans h1
  obtain ⟨cq0, cq1, ck0, cw0⟩ := HCELL.out V HBV.out
  show Calls _ _ (#[.func (.yield l) #[] #[], .pointer (some ⟨Q, 0, none⟩), .pointer (some ⟨KB, 0, none⟩), .pointer (some ⟨WB, 0, none⟩)]) _ _
  refine (callsIn_wide (n := 50)).1 ?_
  refine callsIn_of_wp_marks Tryz.func114 rfl trivial ?_ rfl
  simp only [Tryz.ntmps114, List.size_toArray, List.length_cons, List.length_nil, Nat.reduceAdd, Nat.reduceSub, Array.replicate_succ, Array.replicate_zero, List.push_toArray, List.append_toArray, List.nil_append, List.cons_append]
  obtain ⟨rk, hrk⟩ : ∃ rk, rankM m = rk := ⟨_, rfl⟩
  have hrkc : rk ≤ colsM m := by
    have h := (basis_fin HV.out).count
    unfold rankM at hrk
    omega
  have HRV : Hid (rankV m = ((rk : Int), 0)) := by
    show _ = _
    unfold rankV
    rw [if_pos HV.out]
    unfold rankM at hrk
    rw [hrk]
  have HRA : Hid (∀ V', Below w0.heap.size w0 V' → Calls Tryz.prog 115 #[.slice (some ⟨b1, o1, none⟩) m.length mc] V' fun e w' => e = .returned (.tuple #[.int .i64 (rk : Int), .int .i64 0]) ∧ Below V'.heap.size V' w') := fun V' hb => by
    have h := lrank_any (some ⟨b1, o1, none⟩) m mc V' (mok_of HV.out) (HMS.out.below hb)
    rw [HRV.out] at h
    exact h
  have hmn : min kk rk = mn := by rw [← hrk]; exact hmn0
  have HMNC : Hid (mn ≤ colsM m) := by show _ ≤ _; omega
  have hrk10 : rk ≤ 10 := by have := HC.out.2; omega
  clear hrk hrkc hmn0
  have hcases : kk < rk ∧ mn = kk ∨ kk = rk ∧ mn = kk ∨ rk < kk ∧ mn = rk := by omega
  rcases hcases with ⟨h, rfl⟩ | ⟨rfl, rfl⟩ | ⟨h, rfl⟩
  all_goals
   (try have hI : (mn : Int) < (rk : Int) := by omega)
   (try have hI : (mn : Int) < (kk : Int) := by omega)
  all_goals gi_wp2_with (refine ⟨trivial, ?_⟩; gi_at_call 115; refine (callsIn_wide.2 (HRA.out V HBW.out)).mono ?_; rintro e w3 ⟨rfl, hb3⟩; have HB3 := Lib.hid hb3; have HBW3 : Hid (Below w0.heap.size w0 w3) := HBW.out.trans (hb3.mono HBW.out.size); have HBV3 : Hid (∀ p ∈ bs, w3.cell? p.1 = some p.2) := fun p hp => (hb3.cell (p := p.1) (cell_lt (HBV.out p hp))).trans (HBV.out p hp); obtain ⟨dq0, dq1, dk0, dw0⟩ := HCELL.out w3 HBV3.out; clear hb3)
  all_goals
    clear hrk10 hmn HRA HRV
    have HW3 : Hid (Below W.heap.size W w3) := HB0.out.trans (HB3.out.mono (by have := HVS.out; omega))
    have HI0 : Hid (∃ pre C, FIn w0 bs W.heap.size l [] J pre C (fun _ => False) w3 ∧ pre.map keyF = fitsTo wr m y 0) := by
      refine ⟨[], C, ⟨⟨fun b => T b ∨ W.heap.size ≤ b, hJ.keep H0.out (turned_below HW3.out) (fun b e => e), fun b e => e.elim, .inr (Nat.le_refl _), fun D hD => by cases hD⟩, HNEED.out, fun b _ e => e, HBV3.out, HBW3.out, ?_, fun D hD => by cases hD⟩, rfl⟩
      exact (HB3.out.cell (p := ⟨W.heap.size, 0, none⟩) (by have := HVS.out; show W.heap.size < _; omega)).trans HCY.out
    clear hV cq0 cq1 ck0 cw0 dq0 dq1 dk0 dw0
    refine wpIn_loop (fun a' X => ∃ (k : Nat) (ms : List Nat) (u5 u6 u7 u8 u9 u10 u11 u12 u13 u14 u15 u16 u17 u18 u19 u22 u23 u24 u25 u26 u27 u28 u29 u30 u31 u32 u33 u34 u35 u36 u37 u38 u39 u40 u41 u42 u43 u44 u45 u46 : Value), a' = { tmps := #[.func (.yield l) #[] #[], .pointer (some ⟨Q, 0, none⟩), .pointer (some ⟨KB, 0, none⟩), .pointer (some ⟨WB, 0, none⟩), .pointer (some ⟨W.heap.size, 0, none⟩), u5, u6, u7, u8, u9, u10, u11, u12, u13, u14, u15, u16, u17, u18, u19, .int .i64 ((mn : Int) + 1), .int .i64 (k : Int), u22, u23, u24, u25, u26, u27, u28, u29, u30, u31, u32, u33, u34, u35, u36, u37, u38, u39, u40, u41, u42, u43, u44, u45, u46], defers := ms.map mark } ∧ k ≤ mn + 1 ∧ ms.Nodup ∧ ∃ pre C, FIn w0 bs W.heap.size l ms J pre C (fun _ => False) X ∧ pre.map keyF = fitsTo wr m y k)
      (fun a' _ => 12 - (intOf (a'.tmps.getD 21 undef)).toNat) ?start ?round
    case start =>
      exact ⟨0, [], _, _, _, _, _, _, _, _, _, _, _, _, _, _, _, _, _, _, _, _, _, _, _, _, _, _, _, _, _, _, _, _, _, _, _, _, _, _, _, _, rfl, Nat.zero_le _, List.nodup_nil, HI0.out⟩
    case round =>
      rintro a' X ⟨k, ms, u5, u6, u7, u8, u9, u10, u11, u12, u13, u14, u15, u16, u17, u18, u19, u22, u23, u24, u25, u26, u27, u28, u29, u30, u31, u32, u33, u34, u35, u36, u37, u38, u39, u40, u41, u42, u43, u44, u45, u46, rfl, hk, hnd, pre, C1, hI, hpre⟩
      have HI := Lib.hid hI
      have HPRE := Lib.hid hpre
      have HND := Lib.hid hnd
      clear HI0 hpre hnd
      by_cases hlt : k < mn + 1
      · obtain ⟨n, hn⟩ : ∃ n, colsM m = n := ⟨_, rfl⟩
        have HN := Lib.hid hn
        have hn1 : 1 ≤ n := by rw [← hn]; exact HC.out.1
        have hn10 : n ≤ 10 := by rw [← hn]; exact HC.out.2
        have hkn : k ≤ n := by have := HMNC.out; omega
        have hcX := HROW.out X hI.bw
        rw [hn] at hcX
        obtain ⟨cq0, cq1, ck0, cw0⟩ := HCELL.out X hI.cB
        clear hn hI
        gi_wp2_with (refine ⟨trivial, ?_⟩; gi_at_call 116; refine (callsIn_wide.2 (ssets_any (n : Int) (k : Int) X)).mono ?_; rintro e w4 ⟨rfl, rfl⟩)
        obtain ⟨V1, hV1⟩ : ∃ V1, (X.alloc (.cells #[.int .i64 (n : Int)] 3)).alloc (.cells #[.int .i64 (k : Int)] 3) = V1 := ⟨_, rfl⟩
        have hv1 : V1.heap.size = X.heap.size + 2 := by rw [← hV1, World.size_alloc, World.size_alloc]
        have hcN : V1.cell? ⟨X.heap.size, 0, none⟩ = some (.int .i64 n) := by rw [← hV1]; exact (alloc_old _ _ _ _ (alloc_lt' rfl)).trans (alloc_cell _ _ _ _ _ rfl)
        have hcS : V1.cell? ⟨X.heap.size + 1, 0, none⟩ = some (.int .i64 (k : Int)) := by rw [← hV1]; exact (two_last _ _ _ _).1
        have hbX : Below X.heap.size X V1 := by rw [← hV1]; exact ((Below.refl _ _).alloc (Nat.le_refl _) _).alloc (by rw [World.size_alloc]; omega) _
        rw [hV1]
        have hC1 : ∀ b, C1 b → b < X.heap.size := by
          obtain ⟨T2, hk2, _⟩ := HI.out.cl
          exact fun b hb => (hJ.lt hk2 b hb).1
        have hI1 : ∃ pre', (pre'.map keyF = fitsTo wr m y k ++ (([] : List SetV).map Prod.snd).filterMap fun px => (fitO wr m y px).map fun vs => (px, vs)) ∧ FIn w0 bs W.heap.size l ms J pre' C1 (fun _ => False) V1 :=
          (FIn.client hJ (q := fun (s : List SetV) pre' => pre'.map keyF = fitsTo wr m y k ++ (s.map Prod.snd).filterMap fun px => (fitO wr m y px).map fun vs => (px, vs))).keep ⟨pre, by rw [HPRE.out]; simp, HI.out⟩ (turned_below hbX) (fun b e => e.elim)
        have HI1 := Lib.hid hI1
        have HXV := Lib.hid hbX
        have HV1 := Lib.hid hv1
        have HC1 := Lib.hid hC1
        have HK := Lib.hid hlt
        clear hI1 hbX hV1 hcX hC1 cq0 cq1 ck0 cw0
        refine wpIn_rangeFunc_M (by omega) (gf := 135) (lb := #[.pointer (some ⟨X.heap.size + 1, 0, none⟩), .pointer (some ⟨X.heap.size, 0, none⟩)]) rfl (enters_of Tryz.func135 (by kernel_rfl) rfl)
          (ssets1_seq n k (X.heap.size + 1) X.heap.size (by omega) hkn V1 hcS hcN) (Below.refl _ _) (fun _ => rfl) memS_put
          (fun s C T W' => ∃ pre', (pre'.map keyF = fitsTo wr m y k ++ (s.map Prod.snd).filterMap fun px => (fitO wr m y px).map fun vs => (px, vs)) ∧ FIn w0 bs W.heap.size l ms J pre' C T W')
          (fun c s C T W' => ∃ pre' : List FitV, c = .ret ∧ FIn w0 bs W.heap.size l ms Jx pre' C T W')
          (FIn.client hJ) (fun c => FIn.client hJx (q := fun _ _ => c = .ret)) C1 (fun _ => False) ?need (fun _ e => e.elim) HI1.out
          (fun x => { tmps := #[.func (.yield l) #[] #[], .pointer (some ⟨Q, 0, none⟩), .pointer (some ⟨KB, 0, none⟩), .pointer (some ⟨WB, 0, none⟩), .pointer (some ⟨W.heap.size, 0, none⟩), u5, u6, .int .i64 (k : Int), .slice (some ⟨x.1, 0, none⟩) x.2.length x.2.length, u9, u10, u11, u12, u13, u14, u15, u16, u17, u18, u19, .int .i64 ((mn : Int) + 1), .int .i64 (k : Int), .bool true, .int .i64 (k : Int), .pointer (some ⟨Q, 0, none⟩), .slice (some ⟨b1, o1, none⟩) m.length mc, .pointer (some ⟨b1, o1, none⟩), .slice ai n ci, .int .i64 (n : Int), .int .i64 (k : Int), .func (.func 135) #[] #[.pointer (some ⟨X.heap.size + 1, 0, none⟩), .pointer (some ⟨X.heap.size, 0, none⟩)], .slice (some ⟨x.1, 0, none⟩) x.2.length x.2.length, u32, u33, u34, u35, u36, u37, u38, u39, u40, u41, u42, u43, u44, u45, u46], defers := [] }) ?assign ?body ?done ?stop
        case need =>
          have h1 := HV1.out
          rintro b (rfl | rfl)
          · exact ⟨fun e => by have := HC1.out _ e; omega, by omega⟩
          · exact ⟨fun e => by have := HC1.out _ e; omega, by omega⟩
        case assign =>
          intro l2 x V K hK
          gi_wp2
          exact hK
        case stop =>
          rintro D c pre2 C3 T3 V2 hD ⟨pre', rfl, hI'⟩ hTD hK2
          obtain ⟨T2, q1, q2, q3, q4⟩ := hI'.cl
          have X1 := Lib.hid q1; have X4 := Lib.hid q4
          have XT := Lib.hid (q2 D hTD)
          have XD := Lib.hid hK2
          have XM := Lib.hid hI'.dm
          have hlD : ∀ E, E ∈ ms → E < X.heap.size := fun E hE => (Array.getElem?_eq_some_iff.1 (HI.out.dm E hE)).1
          have XN : Hid ((D :: ms).Nodup) := List.nodup_cons.2 ⟨fun hm => by have := hlD D hm; have := HV1.out; omega, HND.out⟩
          clear q1 q2 q3 q4 hI' hK2 hTD hD hcS hcN hv1 hlD
          gi_wp2
          refine fit_leaves (ms := D :: ms) rfl hJx X1.out ?_ XN.out ?_ (fun C T W h => .inr ⟨_, _, _, h⟩)
          · intro E hE
            rcases List.mem_cons.1 hE with rfl | hE
            · exact XT.out
            · exact X4.out E hE
          · intro E hE
            rcases List.mem_cons.1 hE with rfl | hE
            · exact XD.out
            · exact XM.out E hE
        case done =>
          rintro D ys C3 T3 V2 hD hys ⟨pre', hpre', hI'⟩ hTD hK2
          have hlD : ∀ E, E ∈ ms → E < X.heap.size := fun E hE => (Array.getElem?_eq_some_iff.1 (HI.out.dm E hE)).1
          have XN : Hid ((D :: ms).Nodup) := List.nodup_cons.2 ⟨fun hm => by have := hlD D hm; have := HV1.out; omega, HND.out⟩
          have XP : Hid (pre'.map keyF = fitsTo wr m y (k + 1)) := by show _ = _; rw [hpre', hys, fitsTo_succ, HN.out]
          have XI : Hid (FIn w0 bs W.heap.size l (D :: ms) J pre' C3 (fun _ => False) V2) := by
            obtain ⟨T2, q1, q2, q3, q4⟩ := hI'.cl
            refine ⟨⟨T2, q1, fun b e => e.elim, q3, fun E hE => ?_⟩, hI'.nc, fun b _ e => e, hI'.cB, hI'.bw, hI'.cY, fun E hE => ?_⟩
            · rcases List.mem_cons.1 hE with rfl | hE
              · exact q2 _ hTD
              · exact q4 E hE
            · rcases List.mem_cons.1 hE with rfl | hE
              · exact hK2
              · exact hI'.dm E hE
          clear hys hpre' hI' hTD hK2 hcS hcN hv1 hlD hD
          gi_wp2
          refine ⟨?_, ?_⟩
          · refine ⟨k + 1, D :: ms, ?_⟩
            (repeat apply Exists.intro)
            refine ⟨?_, by have := HK.out; omega, XN.out, pre', C3, XI.out, XP.out⟩
            simp only [List.map_cons, mark]
            congr 1
          · have := HK.out; simp [intOf]; omega
        case body =>
          rintro l2 pre2 ⟨xb, xs⟩ C3 T3 V2 ⟨pre', hpre', hI'⟩ hmem hown ⟨rest, hrest⟩
          dsimp only at hmem hrest
          have hin : xs ∈ compl n k 0 := by rw [hrest]; simp
          obtain ⟨hxl, hxr⟩ := compl_mem hin
          have hxl2 : xs.length ≤ 1000 := by omega
          have XSL := Lib.hid (OwnI.sl hmem)
          have XI := Lib.hid hI'
          have XP := Lib.hid hpre'
          have XR := Lib.hid hrest
          obtain ⟨cq0, cq1, ck0, cw0⟩ := HCELL.out V2 hI'.cB
          obtain ⟨r, hr⟩ : ∃ r, fitO wr m y xs = r := ⟨_, rfl⟩
          have HFO := Lib.hid hr
          have HFT : Hid (Calls Tryz.prog 117 #[.agg #[.slice (some ⟨b1, o1, none⟩) m.length mc, .slice ya y.length yc], .slice (some ⟨xb, 0, none⟩) xs.length xs.length, .func (.func wg) #[] wl] V2 (FitPost r xs V2)) := by
            rw [← hr]
            exact sfit_any (.func (.func wg) #[] wl) wr _ m mc ya y yc ⟨xb, 0, none⟩ xs xs.length V2 (mok_of HV.out) hxl2 HLY.out (HMS.out.below hI'.bw) XSL.out (HYS.out.below hI'.bw) fun W a vs cap hb h1 h2 => HCF.out W a vs cap (fun p hp => (hb.cell (p := p.1) (cell_lt (hI'.cB p hp))).trans (hI'.cB p hp)) h1 h2
          have hcY2 := hI'.cY
          clear hmem hrest hin hxl hxr hI' hpre' hown hcS hcN hv1 hr
          dsimp only
          cases r with
          | none =>
            have HFT2 : Hid (Calls Tryz.prog 117 #[.agg #[.slice (some ⟨b1, o1, none⟩) m.length mc, .slice ya y.length yc], .slice (some ⟨xb, 0, none⟩) xs.length xs.length, .func (.func wg) #[] wl] V2 fun e w' => Hid (Below V2.heap.size V2 w') ∧ e = .returned (.tuple #[.agg #[.slice none 0 0, .slice none 0 0], .bool false])) := HFT.out.mono fun e w' ⟨h1, h2⟩ => ⟨h1, by
              rcases h2 with ⟨_, h2⟩ | ⟨vs, _, _, _, _, h3, _⟩
              · exact h2
              · cases h3⟩
            clear HFT
            gi_wp2_with (refine ⟨trivial, ?_⟩; gi_at_call 117; refine (callsIn_wide.2 HFT2.out).mono ?_; rintro e W5 ⟨HB5, rfl⟩)
            have HB6 : Hid (Below V2.heap.size V2 (W5.alloc (.cells #[.slice none 0 0, .slice none 0 0] 106))) := HB5.out.alloc HB5.out.size _
            obtain ⟨q1, q2, q3⟩ := (FIn.client hJ (q := fun (s : List SetV) pre' => pre'.map keyF = fitsTo wr m y k ++ (s.map Prod.snd).filterMap fun px => (fitO wr m y px).map fun vs => (px, vs))).keep (pre := pre2) ⟨pre', XP.out, XI.out⟩ (turned_below HB6.out) (fun b e => .inl e)
            have Q1 := Lib.hid q2; have Q3 := Lib.hid q3
            clear q2 q3
            refine ⟨fun _ h => (by cases h), ?_⟩
            gi_wp2
            refine ⟨C3, T3, ⟨q1, ?_, Q3.out⟩, fun b hb _ _ => hb, fun b hb => .inl hb, turned_below HB6.out⟩
            rw [Q1.out, List.map_append, List.filterMap_append]
            simp [HFO.out]
          | some vs =>
            obtain ⟨T2, q1, q2, q3, q4⟩ := XI.out.cl
            have XPR : Hid (∃ rest2, fitsTo wr m y (mn + 1) = pre'.map keyF ++ (xs, vs) :: rest2) := by
              obtain ⟨post, hpost⟩ := fitsTo_split wr m y (k + 1) (mn + 1) (by have := HK.out; omega)
              refine ⟨rest.filterMap (fun px => (fitO wr m y px).map fun vs => (px, vs)) ++ post, ?_⟩
              rw [hpost, fitsTo_succ, HN.out, XR.out, XP.out, List.filterMap_append, List.filterMap_cons, HFO.out]
              simp
            have Q1 := Lib.hid q1; have Q2 := Lib.hid q2; have Q3 := Lib.hid q3; have Q4 := Lib.hid q4
            have HYP : Hid (∀ qa qc va vc W5, Below V2.heap.size V2 W5 → FitAt W5 V2.heap.size qa xs va vs → YieldAt Fence.wide 47 Tryz.prog l (encF ⟨qa, qc, xs, va, vc, vs⟩) (W5.alloc (.cells #[.slice qa xs.length qc, .slice va vs.length vc] 106)) fun e W' =>
                (e = .returned (.bool true) ∧ Went J ownF pre' ⟨qa, qc, xs, va, vc, vs⟩ C3 (fun b => T2 b ∨ V2.heap.size ≤ b) (W5.alloc (.cells #[.slice qa xs.length qc, .slice va vs.length vc] 106)) W') ∨ (e = .returned (.bool false) ∧ Went Jx ownF pre' ⟨qa, qc, xs, va, vc, vs⟩ C3 (fun b => T2 b ∨ V2.heap.size ≤ b) (W5.alloc (.cells #[.slice qa xs.length qc, .slice va vs.length vc] 106)) W')) := by
              intro qa qc va vc W5 hb5 hfa
              have hb6 : Below V2.heap.size V2 (W5.alloc (.cells #[.slice qa xs.length qc, .slice va vs.length vc] 106)) := hb5.alloc hb5.size _
              have hb7 : Below W5.heap.size W5 (W5.alloc (.cells #[.slice qa xs.length qc, .slice va vs.length vc] 106)) := (Below.refl _ _).alloc (Nat.le_refl _) _
              refine HY.out pre' ⟨qa, qc, xs, va, vc, vs⟩ C3 (fun b => T2 b ∨ V2.heap.size ≤ b) _ (hJ.keep Q1.out (turned_below hb6) (fun b e => e)) ⟨hfa.sl.below hb7, hfa.rl.below hb7, fun ad e => ⟨Nat.zero_le _, Nat.lt_of_lt_of_le (hfa.q ad e).2 hb7.size⟩, fun ad e => ⟨Nat.zero_le _, Nat.lt_of_lt_of_le (hfa.v ad e).2 hb7.size⟩⟩ (fun b e => ?_) XPR.out 47
              rcases e with ⟨ad, e, rfl⟩ | ⟨ad, e, rfl⟩
              · exact .inr (hfa.q ad e).1
              · exact .inr (hfa.v ad e).1
            have HFT2 : Hid (Calls Tryz.prog 117 #[.agg #[.slice (some ⟨b1, o1, none⟩) m.length mc, .slice ya y.length yc], .slice (some ⟨xb, 0, none⟩) xs.length xs.length, .func (.func wg) #[] wl] V2 fun e w' => ∃ qa qc va vc, e = .returned (.tuple #[.agg #[.slice qa xs.length qc, .slice va vs.length vc], .bool true]) ∧ Below V2.heap.size V2 w' ∧ FitAt w' V2.heap.size qa xs va vs) := HFT.out.mono fun e w' ⟨h1, h2⟩ => by
              rcases h2 with ⟨h3, _⟩ | ⟨vs', qa, qc, va, vc, h3, h4, h5⟩
              · cases h3
              · obtain rfl := Option.some.inj h3
                exact ⟨qa, qc, va, vc, h4, h1, h5⟩
            clear HFT q1 q2 q3 q4
            gi_wp2_with (refine ⟨trivial, ?_⟩; gi_at_call 117; refine (callsIn_wide.2 HFT2.out).mono ?_; rintro e W5 ⟨qa, qc, va, vc, rfl, hb5, hfa⟩; obtain ⟨fn, tmps, assign, body, hy1, hR⟩ := HYP.out qa qc va vc W5 hb5 hfa; have HFA := Lib.hid hfa; have HB5 := Lib.hid hb5; have hcY5 := (hb5.cell (p := ⟨W.heap.size, 0, none⟩) (cell_lt hcY2)).trans hcY2; have hcY6 := (alloc_old W5 (.cells #[.slice qa xs.length qc, .slice va vs.length vc] 106) _ _ (cell_lt hcY5)).trans hcY5; clear hb5 hfa)
            have HB6 : Hid (Below V2.heap.size V2 (W5.alloc (.cells #[.slice qa xs.length qc, .slice va vs.length vc] 106))) := HB5.out.alloc HB5.out.size _
            have HBH : Hid (∀ b, ownF ⟨qa, qc, xs, va, vc, vs⟩ b → V2.heap.size ≤ b) := fun b e => by
              rcases e with ⟨ad, e, rfl⟩ | ⟨ad, e, rfl⟩
              · exact (HFA.out.q ad e).1
              · exact (HFA.out.v ad e).1
            refine hR.mono ?_
            rintro e W6 (⟨rfl, hw⟩ | ⟨rfl, hw⟩)
            · obtain ⟨C', r1, r2, r3⟩ := fin_next hJ XI.out Q1.out Q2.out Q3.out Q4.out HB6.out HBH.out hw
              have R1 := Lib.hid r1; have R2 := Lib.hid r2; have R3 := Lib.hid r3
              clear r1 r2 r3 hw hR hy1 hcY5 hcY6 hcY2 cq0 cq1 ck0 cw0
              gi_wp2
              refine ⟨C', fun b => T3 b ∧ b < V2.heap.size, ⟨_, ?_, R1.out⟩, fun b hb hl _ => ⟨hb, hl⟩, fun b hb => (R2.out b hb).elim .inl (fun q => .inr (.inr q)), R3.out.mono fun b _ e => .inl e⟩
              rw [List.map_append, XP.out, List.map_append, List.filterMap_append]
              simp [HFO.out]
            · obtain ⟨C', r1, r2, r3⟩ := fin_next hJ XI.out Q1.out Q2.out Q3.out Q4.out HB6.out HBH.out hw
              have R1 := Lib.hid r1; have R2 := Lib.hid r2; have R3 := Lib.hid r3
              clear r1 r2 r3 hw hR hy1 hcY5 hcY6 hcY2 cq0 cq1 ck0 cw0
              gi_wp2
              exact ⟨C', fun b => T3 b ∧ b < V2.heap.size, ⟨_, rfl, R1.out⟩, fun b hb hl _ => ⟨hb, hl⟩, fun b hb => (R2.out b hb).elim .inl (fun q => .inr (.inr q)), R3.out.mono fun b _ e => .inl e⟩
      · obtain ⟨T2, q1, q2, q3, q4⟩ := hI.cl
        obtain rfl : k = mn + 1 := by omega
        have X1 := Lib.hid q1; have X4 := Lib.hid q4
        have XM := Lib.hid hI.dm
        clear q1 q2 q3 q4 hI
        gi_wp2
        refine fit_leaves (ms := ms) rfl hJ X1.out X4.out HND.out XM.out (fun C T W h => .inl ⟨_, _, _, ?_, h⟩)
        exact HPRE.out
end Go.Proofs.YtgbnfhfkehpfaaaGreat
/- Slices of fits of the call's own: appended to, in a plain walk and in a fenced one. -/
namespace Go.Proofs.YtgbnfhfkehpfaaaGreat
open Go.RowKit

theorem Tryz.infoFit : (Tryz.prog.info? 106).map (fun i => (i.zero, i.size, i.bytes)) = some (some (.agg #[.slice none 0 0, .slice none 0 0]), 2, 48) := by kernel_rfl
def flatF : List FitV → List Value
  | [] => []
  | x :: xs => .slice x.qa x.px.length x.qc :: .slice x.va x.vs.length x.vc :: flatF xs
theorem flatF_at : ∀ (xs : List FitV) {j : Nat} {x : FitV}, xs[j]? = some x → (flatF xs)[j * 2]? = some (.slice x.qa x.px.length x.qc) ∧ (flatF xs)[j * 2 + 1]? = some (.slice x.va x.vs.length x.vc)
  | [], j, p, h => by simp at h
  | q :: ps, 0, p, h => by simp at h; subst h; exact ⟨rfl, rfl⟩
  | q :: ps, j + 1, p, h => by
    have h := flatF_at ps (j := j) (x := p) (by simpa using h)
    rw [show (j + 1) * 2 = j * 2 + 1 + 1 by omega]
    exact ⟨by simp only [flatF, List.getElem?_cons_succ]; exact h.1, by simp only [flatF, List.getElem?_cons_succ]; exact h.2⟩
theorem flatF_snoc : ∀ (xs : List FitV) (x : FitV), flatF (xs ++ [x]) = flatF xs ++ [.slice x.qa x.px.length x.qc, .slice x.va x.vs.length x.vc]
  | [], x => rfl
  | p :: ps, x => by simp only [List.cons_append, flatF, flatF_snoc ps x]
def OwnF (w : World) (base : Nat) (v : Value) (xs : List FitV) : Prop := w.ownsRow base 106 2 v xs.length (flatF xs)
theorem OwnF.nil (w : World) (base : Nat) : OwnF w base (.slice none 0 0) [] := World.ownsRow_nil _ _ _ _
theorem OwnF.below {w w' : World} {base : Nat} {v : Value} {xs : List FitV} (h : OwnF w base v xs) (hb : Below w.heap.size w w') : OwnF w' base v xs := row_below h hb
theorem OwnF.same {w w' : World} {base : Nat} {v : Value} {xs : List FitV} (h : OwnF w base v xs) (hb : ∀ b, v.ownBlock = some b → w'.heap[b]? = w.heap[b]?) : OwnF w' base v xs := row_same h hb
theorem OwnF.form {w : World} {base : Nat} {v : Value} {xs : List FitV} (h : OwnF w base v xs) : (v = .slice none 0 0 ∧ xs = []) ∨ ∃ g cap, v = .slice (some ⟨g, 0, none⟩) xs.length cap := by
  obtain ⟨h0, ⟨e, hn⟩ | ⟨g, cap, cur, e, _⟩⟩ := h
  · exact .inl ⟨e, List.length_eq_zero_iff.1 hn⟩
  · exact .inr ⟨g, cap, e⟩
theorem OwnF.cell {w : World} {base g n cap : Nat} {xs : List FitV} (h : OwnF w base (.slice (some ⟨g, 0, none⟩) n cap) xs) {j : Nat} {x : FitV} (hj : xs[j]? = some x) :
    w.cell? ⟨g, j * 2, none⟩ = some (.slice x.qa x.px.length x.qc) ∧ w.cell? ⟨g, j * 2 + 1, none⟩ = some (.slice x.va x.vs.length x.vc) := by
  have hl := (List.getElem?_eq_some_iff.1 hj).1
  obtain ⟨h1, h2⟩ := flatF_at xs hj
  obtain rfl : n = xs.length := by
    rcases h.form with ⟨e, _⟩ | ⟨g', cap', e⟩
    · cases e
    · simpa using congrArg (fun v => match v with | .slice _ n _ => n | _ => 0) e
  have h : w.ownsRow base 106 2 (.slice (some ⟨g, 0, none⟩) xs.length cap) xs.length (flatF xs) := h
  exact ⟨(World.ownsRow.cellAt h (j * 2) (by omega)).trans h1, (World.ownsRow.cellAt h (j * 2 + 1) (by omega)).trans h2⟩
theorem OwnF.block {w : World} {base b : Nat} {v : Value} {xs : List FitV} (h : OwnF w base v xs) (hb : v.ownBlock = some b) : b < w.heap.size := (World.ownsRow.lt h b hb).2
theorem ownF_news (V : World) (u v : Value) (t : TypeId) : ∀ j x, [u, v][j]? = some x → (V.alloc (.cells #[u, v] t)).cell? ((⟨V.heap.size, 0, none⟩ : Addr).add j) = some x := fun j x hj => by
  match j, hj with
  | 0, hj => simp at hj; subst hj; rw [addr_add]; exact alloc_cell _ _ _ _ _ rfl
  | 1, hj => simp at hj; subst hj; rw [addr_add]; exact alloc_cell _ _ _ _ _ rfl
  | j + 2, hj => simp at hj
theorem wpListIn_append_lies {F : Fence} {r : Nat} {P : Program} {w : World} {ops : Array Oper} {rest : List Oper} {o : Oper} {a : Act} {Q : Exit → Act → World → Prop} (hgd : o.guard = none) (s x : Operand) (t : TypeId)
    (ho : o.op = .call { callee := .builtin .append, args := #[s, x], argTypes := #[t, t] })
    (base : Nat) (e : TypeId) (i : TypeInfo) (z : Value) (size bytes : Nat) (ht : P.underlying t = some (.slice e)) (hi : P.info? e = some i) (hz : i.zero = some z)
    (hsize : i.size = size) (hby : i.bytes = bytes) (hzs : z.cells.size = size) (hsz : 0 < size)
    (v : Value) (n : Nat) (xs : List Value) (hs : a.eval s = v) (hown : w.ownsRow base e size v n xs)
    (ad : Addr) (m c : Nat) (news : List Value) (hx : a.eval x = .slice (some ad) m c) (hl : news.length = m * size) (hnews : ∀ j u, news[j]? = some u → w.cell? (ad.add j) = some u) (h1 : ∀ u ∈ news, u.oneCell' = true)
    (hm : 0 < m) (h63 : n + m ≤ maxLen) (hbytes : (n + m) * bytes ≤ 140737488355328) (hbase : base ≤ w.heap.size) (H : Nat) (hH : w.heap.size = H)
    (h : ∀ g cap w', w'.ownsRow base e size (.slice (some ⟨g, 0, none⟩) (n + m) cap) (n + m) (xs ++ news) → w.grownBy w' v.ownBlock → (v.ownBlock = some g ∨ g = H) → g < w'.heap.size → wpListIn F r P ops Q rest (a.put o.dst (.slice (some ⟨g, 0, none⟩) (n + m) cap)) w') : wpListIn F r P ops Q (o :: rest) a w := by
  refine wpListIn_plain hgd fun K hK' => ?_
  obtain ⟨g, cap, w', hr, h2, h3, h4, h5⟩ := run_append_lies (P := P) w t o.type base e i z size bytes ht hi hz hsize hby hzs hsz v n xs hown ad m c news hl hnews h1 hm h63 hbytes hbase H hH
  unfold Oper.wpIn
  refine ⟨?_, ?_⟩
  · simp [Oper.about, ho, resolve, Target.leads, Sem.run_pure]
  · rw [Oper.semAt_plain F _ _ (by rw [ho]; intro c hc'; cases hc')]
    simp [execOp, ho, resolve, invoke, builtin, hs, hx, hr, Result.andThen]
    exact hK' _ _ (h g cap w' h2 h3 h4 h5)
def PushedF (V : World) (base : Nat) (v : Value) (xs : List FitV) (x : FitV) (g cap : Nat) (w' : World) : Prop :=
  OwnF w' base (.slice (some ⟨g, 0, none⟩) (xs.length + 1) cap) (xs ++ [x]) ∧ Turned (fun b => v.ownBlock = some b) V w' ∧ (v.ownBlock = some g ∨ V.heap.size ≤ g)
theorem pushedF {V w' : World} {base : Nat} {v : Value} {xs : List FitV} {x : FitV} {g cap : Nat} {t : TypeId} (h1 : w'.ownsRow base 106 2 (.slice (some ⟨g, 0, none⟩) (xs.length + 1) cap) (xs.length + 1) (flatF xs ++ [.slice x.qa x.px.length x.qc, .slice x.va x.vs.length x.vc]))
    (h2 : (V.alloc (.cells #[.slice x.qa x.px.length x.qc, .slice x.va x.vs.length x.vc] t)).grownBy w' v.ownBlock) (h3 : v.ownBlock = some g ∨ g = (V.alloc (.cells #[.slice x.qa x.px.length x.qc, .slice x.va x.vs.length x.vc] t)).heap.size) : PushedF V base v xs x g cap w' := by
  refine ⟨?_, ?_, h3.imp_right fun e => by rw [e, World.size_alloc]; omega⟩
  · show World.ownsRow _ _ _ _ _ _ _
    rw [flatF_snoc, List.length_append]; exact h1
  · exact (turned_alloc _ V _).trans (turned_grown (T := fun b => v.ownBlock = some b) h2 fun r e => e) fun b e => .inl e
theorem wpListIn_pushF {F : Fence} {r : Nat} {ops : Array Oper} {rest : List Oper} {o : Oper} {act : Act} {Q : Exit → Act → World → Prop} (hgd : o.guard = none) (s x : Operand)
    (ho : o.op = .call { callee := .builtin .append, args := #[s, x], argTypes := #[78, 78] }) (base : Nat) (v : Value) (xs : List FitV) (y : FitV) (V : World) (B : Nat) (t : TypeId)
    (hs : act.eval s = v) (hx : act.eval x = .slice (some ⟨B, 0, none⟩) 1 1) (hB : B = V.heap.size) (hown : OwnF V base v xs) (hl : xs.length ≤ 100000) (hbase : base ≤ V.heap.size)
    (h : ∀ g cap w', PushedF V base v xs y g cap w' → wpListIn F r Tryz.prog ops Q rest (act.put o.dst (.slice (some ⟨g, 0, none⟩) (xs.length + 1) cap)) w') : wpListIn F r Tryz.prog ops Q (o :: rest) act (V.alloc (.cells #[.slice y.qa y.px.length y.qc, .slice y.va y.vs.length y.vc] t)) := by
  obtain ⟨i0, hi, hz0, hz1, hz2⟩ := info_parts Tryz.infoFit
  subst hB
  have hb1 : Below V.heap.size V (V.alloc (.cells #[.slice y.qa y.px.length y.qc, .slice y.va y.vs.length y.vc] t)) := (Below.refl _ _).alloc (Nat.le_refl _) _
  refine wpListIn_append_lies hgd s x 78 ho base 106 i0 (.agg #[.slice none 0 0, .slice none 0 0]) 2 48 Tryz.underlying78 hi hz0 hz1 hz2 rfl (by decide) v xs.length (flatF xs) hs (hown.below hb1) ⟨V.heap.size, 0, none⟩ 1 1 [.slice y.qa y.px.length y.qc, .slice y.va y.vs.length y.vc] hx rfl (ownF_news _ _ _ _) (fun u hu => by simp at hu; rcases hu with rfl | rfl <;> rfl) (by decide) (by unfold maxLen; omega) (by omega) (by rw [World.size_alloc]; omega) _ rfl ?_
  intro g cap w' h1 h2 h3 _
  exact h g cap w' (pushedF h1 h2 h3)
theorem memF_turned {x : FitV} {T : Blk} {W W' : World} (h : MemF x W) (ht : Turned T W W') (hn : ∀ b, ownF x b → ¬ T b) : MemF x W' := by
  refine ⟨fun k hk => ?_, fun j p hj => ?_, fun ad e => ⟨Nat.zero_le _, Nat.lt_of_lt_of_le (h.q ad e).2 ht.size⟩, fun ad e => ⟨Nat.zero_le _, Nat.lt_of_lt_of_le (h.v ad e).2 ht.size⟩⟩
  · obtain ⟨b, o, e, hc⟩ := h.sl k hk
    exact ⟨b, o, e, ht.cell hc (hn _ (.inl ⟨_, e, rfl⟩))⟩
  · obtain ⟨b, e, c1, c2⟩ := h.rl j p hj
    exact ⟨b, e, ht.cell c1 (hn _ (.inr ⟨_, e, rfl⟩)), ht.cell c2 (hn _ (.inr ⟨_, e, rfl⟩))⟩
theorem memF_lt {x : FitV} {W : World} (h : MemF x W) {b : Nat} (hb : ownF x b) : b < W.heap.size := by
  rcases hb with ⟨ad, e, rfl⟩ | ⟨ad, e, rfl⟩
  · exact (h.q ad e).2
  · exact (h.v ad e).2
def Fs (W : World) (a : Option Addr) (l : List (List Int × List (Int × Int))) : Prop := ∀ k p, l[k]? = some p → ∃ b qa qc va vc, a = some ⟨b, 0, none⟩ ∧ W.cell? ⟨b, k * 2, none⟩ = some (.slice qa p.1.length qc) ∧ W.cell? ⟨b, k * 2 + 1, none⟩ = some (.slice va p.2.length vc) ∧ Sl W qa p.1 ∧ Rl W va p.2
theorem Fs.below {W W' : World} {a : Option Addr} {l : List (List Int × List (Int × Int))} (h : Fs W a l) (hb : Below W.heap.size W W') : Fs W' a l := fun k p hk => by
  obtain ⟨b, qa, qc, va, vc, e, h1, h2, h3, h4⟩ := h k p hk
  exact ⟨b, qa, qc, va, vc, e, (hb.cell (p := ⟨b, k * 2, none⟩) (cell_lt h1)).trans h1, (hb.cell (p := ⟨b, k * 2 + 1, none⟩) (cell_lt h2)).trans h2, h3.below hb, h4.below hb⟩
theorem OwnF.fs {W : World} {base : Nat} {a : Option Addr} {n cap : Nat} {xs : List FitV} (h : OwnF W base (.slice a n cap) xs) (hm : ∀ x ∈ xs, MemF x W) : n = xs.length ∧ Fs W a (xs.map keyF) := by
  rcases h.form with ⟨e, rfl⟩ | ⟨g, cap', e⟩
  · have : n = 0 := by simpa using congrArg (fun v => match v with | .slice _ n _ => n | _ => 0) e
    exact ⟨this, fun k p hk => by simp at hk⟩
  · obtain ⟨rfl, rfl, rfl⟩ : a = some ⟨g, 0, none⟩ ∧ n = xs.length ∧ cap = cap' := by simpa using e
    refine ⟨rfl, fun k p hk => ?_⟩
    rw [List.getElem?_map] at hk
    obtain ⟨x, hx, rfl⟩ := Option.map_eq_some_iff.1 hk
    obtain ⟨c1, c2⟩ := h.cell hx
    have hmx := hm x (List.mem_of_getElem? hx)
    exact ⟨g, x.qa, x.qc, x.va, x.vc, rfl, c1, c2, hmx.sl, hmx.rl⟩
def leastF (Z : List (List Int × List (Int × Int))) : List (List Int × List (Int × Int)) := match Z with | [] => [] | p :: _ => Z.filter fun q => q.1.length == p.1.length
def zB (p : Int × Int) : Bool := p.1 == 0
def allFits (m : List (List Int)) (y : List Int) : List (List Int × List (Int × Int)) := fitsTo zB m y (min 10 (rankM m) + 1)
theorem allFits_len {m : List (List Int)} (hv : validM m = true) (y : List Int) : ∀ wr k, k ≤ 11 → (fitsTo wr m y k).length ≤ 300 * k
  | wr, 0, _ => by simp [fitsTo]
  | wr, k + 1, h => by
    rw [fitsTo_succ, List.length_append]
    have h1 := allFits_len hv y wr k (by omega)
    have h2 := List.length_filterMap_le (fun px => (fitO wr m y px).map fun vs => (px, vs)) (compl (colsM m) k 0)
    have h3 := len_small (colsM m) (validM_of hv).2.2.2.1 k (by omega)
    omega
end Go.Proofs.YtgbnfhfkehpfaaaGreat
/- Solve of the answers, and fractions compared: contracts. -/
namespace Go.Proofs.YtgbnfhfkehpfaaaGreat
open Go.RowKit

end Go.Proofs.YtgbnfhfkehpfaaaGreat
/- every and known of the answers: contracts. -/
namespace Go.Proofs.YtgbnfhfkehpfaaaGreat
open Go.RowKit

def rknownB (m : List (List Int)) (j : Nat) : Bool := (basisM m).all fun h => gt h j == 0
end Go.Proofs.YtgbnfhfkehpfaaaGreat
/- Read and Any of the answers: contracts. -/
namespace Go.Proofs.YtgbnfhfkehpfaaaGreat
open Go.RowKit

def anyV (m : List (List Int)) (y : List Int) : List (Int × Int) × Int :=
  if readE m y = 0 then (if possB (redB m (upTo (colsM m)) (oneB y)).rows (redB m (upTo (colsM m)) (oneB y)).piv.length (upTo (colsM m)).length = true then (solL (upTo (colsM m)).length (redB m (upTo (colsM m)) (oneB y)).rows (redB m (upTo (colsM m)) (oneB y)).piv (redB m (upTo (colsM m)) (oneB y)).dv (redB m (upTo (colsM m)) (oneB y)).piv.length, 0) else ([], 10)) else ([], readE m y)
end Go.Proofs.YtgbnfhfkehpfaaaGreat
/- Any of the program: a contract. -/
namespace Go.Proofs.YtgbnfhfkehpfaaaGreat
open Go.RowKit

end Go.Proofs.YtgbnfhfkehpfaaaGreat
/- Possible of the answers: a contract. -/
namespace Go.Proofs.YtgbnfhfkehpfaaaGreat
open Go.RowKit

def possV (m : List (List Int)) (y : List Int) : Bool × Int := if (anyV m y).2 = 10 then (false, 0) else (decide ((anyV m y).2 = 0), (anyV m y).2)
end Go.Proofs.YtgbnfhfkehpfaaaGreat
/- Possible of the program: a contract. -/
namespace Go.Proofs.YtgbnfhfkehpfaaaGreat
open Go.RowKit

set_option maxRecDepth 1000000 in
set_option maxHeartbeats 3200000 in
theorem lpossible_any (ma : Option Addr) (m : List (List Int)) (mc : Nat) (ya : Option Addr) (y : List Int) (yc : Nat) (w : World) (hm : MOk m) (hly : y.length ≤ 9223372036854775807) (hs : Ms w ma m) (hy : Sl w ya y) :
    Calls Tryz.prog 14 #[.slice ma m.length mc, .slice ya y.length yc] w fun e w' => e = .returned (.tuple #[.bool (possV m y).1, .int .i64 (possV m y).2]) ∧ Below w.heap.size w w' := by
  obtain ⟨rv, hrv⟩ : ∃ rv, readE m y = rv := ⟨_, rfl⟩
  have HRE : Hid (Calls Tryz.prog 38 #[.slice ma m.length mc, .slice ya y.length yc] w fun e w' => e = .returned (.int .i64 rv) ∧ Below w.heap.size w w') := by rw [← hrv]; exact lread_any ma m mc ya y yc w hm hly hs hy
  by_cases hr0 : rv = 0
  · subst hr0
    obtain ⟨hv, hyl, hyb⟩ := readE_ok hrv
    obtain ⟨px, hpx⟩ : ∃ px, upTo (colsM m) = px := ⟨_, rfl⟩
    have h1 : ∀ j ∈ px, 0 ≤ j ∧ j < (colsM m : Int) := fun j hj => by rw [← hpx] at hj; exact upTo_in hj
    have h2 : px.length ≤ 10 := by rw [← hpx, upTo_len]; exact (validM_of hv).2.2.2.1
    obtain ⟨hm1, hm6, hc1, hc10, hrows⟩ := validM_of hv
    have h64 : Hid (All64 m) := fun q hq x hx => by
      obtain ⟨c, hc, rfl⟩ := mem_gt.1 hx
      have := gt_in (hrows q hq).2 hc
      unfold In64; omega
    have hy64 : ∀ x ∈ y, In64 x := fun x hx => by
      obtain ⟨c, hc, rfl⟩ := mem_gt.1 hx
      have := gt_in hyb hc
      unfold In64; omega
    have HF := Lib.hid (redB_fin hv h1 hyl hyb)
    have hco := redB_cols m px (oneB y)
    obtain ⟨rd, hrd⟩ : ∃ rd, redB m px (oneB y) = rd := ⟨_, rfl⟩
    have HRD : Hid (∀ W, Below w.heap.size w W → Calls Tryz.prog 39 #[.slice ma m.length mc, .func (.func 73) #[] #[.pointer (some ⟨W.heap.size, 0, none⟩)]] (W.alloc (.cells #[.slice ya y.length yc] 22)) (RdPost rd (W.alloc (.cells #[.slice ya y.length yc] 22)))) := fun W hb => by
      have hb2 : Below w.heap.size w (W.alloc (.cells #[.slice ya y.length yc] 22)) := hb.alloc hb.size _
      rw [← hrd, ← hpx]
      exact reduceAll_anyOne (Lib.hid (one_beh (Nat.le_of_eq hyl.symm) (by omega) (alloc_cell _ _ _ _ _ rfl) (hy.below hb2))) ⟨Nat.le_refl _, by decide⟩ (Lib.hid (oneB_ok hy64)) (Lib.hid hm6) (Lib.hid hm1) (Lib.hid ⟨hc1, hc10⟩) (Lib.hid fun r hr => (hrows r hr).1) h64 (Lib.hid (hs.below hb2))
    have HSV : Hid (possV m y = (possB rd.rows rd.piv.length px.length, 0)) := by
      show _ = _
      have e : anyV m y = if possB rd.rows rd.piv.length px.length = true then (solL px.length rd.rows rd.piv rd.dv rd.piv.length, 0) else ([], 10) := by unfold anyV; rw [if_pos hrv, hpx, hrd]
      unfold possV
      rw [e]
      cases possB rd.rows rd.piv.length px.length <;> rfl
    rw [HSV.out]
    rw [hrd] at HF hco
    obtain ⟨pl, hpl⟩ : ∃ pl, px.length = pl := ⟨_, rfl⟩
    rw [hpl] at HF hco h2 ⊢
    obtain ⟨cols, rows, piv, dv⟩ := rd
    dsimp only at hco ⊢
    subst hco
    have hlen := HF.out.len
    have hrow := HF.out.row
    have hplr := HF.out.pl
    dsimp only at hlen hrow hplr
    obtain ⟨z, hz⟩ : ∃ z, possB rows piv.length cols = z := ⟨_, rfl⟩
    have HPO : Hid (∀ (g cp : Nat) (ads : List (Nat × Nat)) (pa : Option Addr) (pc base : Nat) (W : World), SI W base g ads rows → Calls Tryz.prog 41 #[.agg #[.int .i64 (cols : Int), .slice (some ⟨g, 0, none⟩) rows.length cp, .slice pa piv.length pc, .int .i64 dv]] W fun e w' => e = .returned (.bool z) ∧ Below W.heap.size W w') := fun g cp ads pa pc base W h => by rw [← hz]; exact possible_any cols g cp (cols + 1) ads rows pa piv.length pc piv dv base W rfl (by omega) (by omega) hrow (by omega) (by omega) h
    rw [hz]
    clear hv hs hm h1 hrd hrows h64 hm1 hm6 hc1 hc10 hrv hyl hyb hy64 hy hpl hpx hlen hrow hplr hz HF HSV
    go_enter Tryz.func14, Tryz.ntmps14
    go_wp2_with (first | (go_at_call 38; refine HRE.out.mono ?_; rintro e w2 ⟨rfl, hb⟩; have HB2 := Lib.hid hb; clear hb) | (go_at_call 40; refine (oneOf_any ya y.length yc w2).mono ?_; rintro e w9 ⟨rfl, rfl⟩) | (go_at_call 39; refine (HRD.out w2 HB2.out).mono ?_; rintro e w3 ⟨hb3, g, cp, ads, pa2, pc2, rfl, hgg, si, pi⟩; unfold rdV; dsimp only at si pi ⊢; have HSI := Lib.hid si; have HB3 := Lib.hid hb3; clear si pi hgg hb3) | (go_at_call 41; refine (HPO.out _ _ _ _ _ _ _ HSI.out).mono ?_; rintro e w5 ⟨rfl, hb5⟩; have HB5 := Lib.hid hb5; clear hb5))
    go_ret2
    exact ⟨rfl, (HB2.out.alloc HB2.out.size _).trans ((HB3.out.mono (by rw [World.size_alloc]; have := HB2.out.size; omega)).trans (HB5.out.mono (by have h1 := HB3.out.size; rw [World.size_alloc] at h1; have := HB2.out.size; omega)))⟩
  · have y0 : (rv == 0) = false := by simpa using hr0
    have y1 : (rv != 0) = true := by simpa using hr0
    have hne : rv ≠ 10 := by
      rw [← hrv]; unfold readE fitsV; split
      · split
        · split <;> decide
        · decide
      · decide
    have HSV : Hid (possV m y = (false, rv)) := by
      show _ = _
      have e : anyV m y = ([], rv) := by unfold anyV; rw [hrv, if_neg hr0]
      unfold possV; rw [e]; dsimp only; rw [if_neg hne, decide_eq_false hr0]
    rw [HSV.out]
    clear hs hm hr0 hrv hy HSV
    go_enter Tryz.func14, Tryz.ntmps14
    go_wp2_with (go_at_call 38; refine HRE.out.mono ?_; rintro e w2 ⟨rfl, hb⟩; have HB2 := Lib.hid hb; clear hb)
    go_ret2
    exact ⟨rfl, HB2.out⟩
end Go.Proofs.YtgbnfhfkehpfaaaGreat
/- ask and fits of layer 4: contracts. -/
namespace Go.Proofs.YtgbnfhfkehpfaaaGreat
open Go.RowKit

theorem poss_e (m : List (List Int)) (y : List Int) : (possV m y).2 = readE m y := by
  have hr : readE m y ≠ 10 := by
    unfold readE
    split
    · unfold fitsV
      split
      · split <;> decide
      · decide
    · decide
  unfold possV anyV
  by_cases h : readE m y = 0
  · rw [if_pos h, h]
    obtain ⟨z, hz⟩ : ∃ z, possB (redB m (upTo (colsM m)) (oneB y)).rows (redB m (upTo (colsM m)) (oneB y)).piv.length (upTo (colsM m)).length = z := ⟨_, rfl⟩
    rw [hz]
    cases z
    · rfl
    · rfl
  · rw [if_neg h, if_neg (by show ¬ readE m y = 10; exact hr)]
set_option maxRecDepth 100000 in
set_option maxHeartbeats 800000 in
theorem ask_ok (ma : Option Addr) (m : List (List Int)) (mc : Nat) (ya : Option Addr) (y : List Int) (yc : Nat) (w : World) (hr : readE m y = 0) (hm : MOk m) (hly : y.length ≤ 9223372036854775807) (hs : Ms w ma m) (hy : Sl w ya y) :
    Calls Tryz.prog 112 #[.slice ma m.length mc, .slice ya y.length yc] w fun e w' => e = .returned (.tuple #[.agg #[.slice ma m.length mc, .slice ya y.length yc], .int .i64 0]) ∧ Below w.heap.size w w' := by
  obtain ⟨V, hV⟩ : ∃ V, w.alloc (.cells #[.slice none 0 0, .slice none 0 0] 115) = V := ⟨_, rfl⟩
  have HBV : Hid (Below w.heap.size w V) := by rw [← hV]; exact (Below.refl _ _).alloc (Nat.le_refl _) _
  have HVW := Lib.hid (box2 hV)
  obtain ⟨t0, t1, t2, t3⟩ := HVW.out V (Below.refl _ _)
  have HPO : Hid (Calls Tryz.prog 14 #[.slice ma m.length mc, .slice ya y.length yc] V fun e w' => ∃ b, e = .returned (.tuple #[.bool b, .int .i64 0]) ∧ Below V.heap.size V w') := by
    refine (lpossible_any ma m mc ya y yc V hm hly (hs.below HBV.out) (hy.below HBV.out)).mono ?_
    rintro e w' ⟨h1, h2⟩
    rw [poss_e, hr] at h1
    exact ⟨_, h1, h2⟩
  clear hr hm hs hy
  go_enter Tryz.func112, Tryz.ntmps112
  go_wp2_with (go_at_call 14; refine HPO.out.mono ?_; rintro e w2 ⟨b, rfl, hb⟩; obtain ⟨u0, u1, u2, u3⟩ := HVW.out w2 hb; have HBW2 : Hid (Below w.heap.size w w2) := HBV.out.trans (hb.mono HBV.out.size); clear hb)
  refine bodyPost_ret (v := .tuple #[.agg #[.slice ma m.length mc, .slice ya y.length yc], .int .i64 0]) ?_ rfl ⟨rfl, (HBW2.out.setCell (p := ⟨w.heap.size, 0, none⟩) (Nat.le_refl _) _).setCell (p := ⟨w.heap.size, 1, none⟩) (Nat.le_refl _) _⟩
  rw [results_cell_tmp rfl]; go_simp
set_option maxRecDepth 100000 in
set_option maxHeartbeats 800000 in
theorem ask_no (ma : Option Addr) (m : List (List Int)) (mc : Nat) (ya : Option Addr) (y : List Int) (yc : Nat) (w : World) (e0 : Int) (hr : readE m y = e0) (h0 : e0 ≠ 0) (hm : MOk m) (hly : y.length ≤ 9223372036854775807) (hs : Ms w ma m) (hy : Sl w ya y) :
    Calls Tryz.prog 112 #[.slice ma m.length mc, .slice ya y.length yc] w fun e w' => e = .returned (.tuple #[.agg #[.slice none 0 0, .slice none 0 0], .int .i64 e0]) ∧ Below w.heap.size w w' := by
  obtain ⟨V, hV⟩ : ∃ V, w.alloc (.cells #[.slice none 0 0, .slice none 0 0] 115) = V := ⟨_, rfl⟩
  have HBV : Hid (Below w.heap.size w V) := by rw [← hV]; exact (Below.refl _ _).alloc (Nat.le_refl _) _
  have HVW := Lib.hid (box2 hV)
  obtain ⟨t0, t1, t2, t3⟩ := HVW.out V (Below.refl _ _)
  have HPO : Hid (Calls Tryz.prog 14 #[.slice ma m.length mc, .slice ya y.length yc] V fun e w' => ∃ b, e = .returned (.tuple #[.bool b, .int .i64 e0]) ∧ Below V.heap.size V w') := by
    refine (lpossible_any ma m mc ya y yc V hm hly (hs.below HBV.out) (hy.below HBV.out)).mono ?_
    rintro e w' ⟨h1, h2⟩
    rw [poss_e, hr] at h1
    exact ⟨_, h1, h2⟩
  have y1 : (e0 == 0) = false := by simpa using h0
  have y2 : (e0 != 0) = true := by simpa using h0
  clear hr hm hs hy h0
  go_enter Tryz.func112, Tryz.ntmps112
  go_wp2_with (go_at_call 14; refine HPO.out.mono ?_; rintro e w2 ⟨b, rfl, hb⟩; obtain ⟨u0, u1, u2, u3⟩ := HVW.out w2 hb; have HBW2 : Hid (Below w.heap.size w w2) := HBV.out.trans (hb.mono HBV.out.size); clear hb)
  refine bodyPost_ret (v := .tuple #[.agg #[.slice none 0 0, .slice none 0 0], .int .i64 e0]) ?_ rfl ⟨rfl, (HBW2.out.setCell (p := ⟨w.heap.size, 0, none⟩) (Nat.le_refl _) _).setCell (p := ⟨w.heap.size, 1, none⟩) (Nat.le_refl _) _⟩
  rw [results_cell_tmp rfl]; go_simp
theorem sfits_any (u v : Value) (k : Int) (wg : Nat) (wl : Array Value) (w : World) (hu : ∃ a n c, u = .slice a n c) (hv : ∃ a n c, v = .slice a n c) : Calls Tryz.prog 102 #[.agg #[u, v], .int .i64 k, .func (.func wg) #[] wl] w fun e w' =>
    e = .returned (.func (.func 114) #[] #[.pointer (some ⟨w.heap.size, 0, none⟩), .pointer (some ⟨w.heap.size + 1, 0, none⟩), .pointer (some ⟨w.heap.size + 1 + 1, 0, none⟩)]) ∧ w' = ((w.alloc (.cells #[u, v] 115)).alloc (.cells #[.int .i64 k] 3)).alloc (.cells #[.func (.func wg) #[] wl] 122) := by
  obtain ⟨a, n, c, rfl⟩ := hu
  obtain ⟨a', n', c', rfl⟩ := hv
  go_enter Tryz.func102, Tryz.ntmps102
  go_wp2
  go_ret
  exact ⟨rfl, rfl⟩
end Go.Proofs.YtgbnfhfkehpfaaaGreat
/- A range over a function whose variable lies in a box of each round. Speaks of no function. -/
namespace Go.Proofs.YtgbnfhfkehpfaaaGreat
open Go.RowKit

section
variable {α β : Type}
theorem wpIn_rangeFunc_M2 {P : Program} {n : Nat} {g : Operand} {ps : Array Tmp} {assign body : Code} {Q : Exit → Act → World → Prop} {a : Act} {w : World}
    (h1 : 1 ≤ n) {gf : Nat} {lb : Array Value} (hg : a.eval g = .func (.func gf) #[] lb) (eg : ∀ args w, (callFunc gf args).run P w = .ok (.enter gf args) w)
    {encs : α → Array Value} {Mem : α → World → Prop} {own : α → Blk} {key : α → β} {Z : List β} {need : Blk} {w0 : World} (hseq : SeqM P gf lb encs Mem own key Z need w0) (hb0 : Below w0.heap.size w0 w) (hps : ∀ x, (encs x).size = ps.size)
    (hMem : ∀ x W l r r', Mem x W → W.heap[l]? = some (.loop r) → Mem x (W.putObj l (.loop r'))) (I : List α → Blk → Blk → World → Prop) (Ix : Code → List α → Blk → Blk → World → Prop) (hI : Client I) (hIx : ∀ c, Client (Ix c)) (C T : Blk) (hneed : ∀ b, need b → ¬ C b ∧ b < w.heap.size) (hT : ∀ b, T b → b < w.heap.size) (h0 : I [] C T w) (a₁ : α → World → Act) (W₁ : α → World → World) (hW₁ : ∀ x W, Below W.heap.size W (W₁ x W)) (hMemB : ∀ x W W', Mem x W → Below W.heap.size W W' → Mem x W')
    (hassign : ∀ (l : Nat) (x : α) (W : World) (K : Act → World → Prop), K (a₁ x W) (W₁ x W) →
      assign.wpIn (Fence.wide.inRound l) (n - 1 - 1) P (Exit.then K (fun _ _ _ => False)) { tmps := (ps.zip (encs x)).foldl (fun t (p, v) => t.setIfInBounds p v) a.tmps, defers := [] } W)
    (hbody : ∀ (l : Nat) (pre : List α) (x : α) (C T : Blk) (W0 W : World), I pre C T W → Mem x W → (∀ b, own x b → T b) → (∃ rest, Z = pre.map key ++ key x :: rest) → (∀ a v, (W₁ x W0).cell? a = some v → W.cell? a = some v) → body.wpIn (Fence.wide.inRound l) (n - 1 - 1) P (wentPost I Ix own pre x C T W) (a₁ x W0) W)
    (hdone : ∀ (D : Nat) (xs : List α) (C T : Blk) (W : World), w.heap.size ≤ D → xs.map key = Z → I xs C T W → T D → W.heap[D]? = some (.deferred (some [])) → Q .normal { a with defers := { target := .collected D, args := #[] } :: a.defers } W)
    (hstop : ∀ (D : Nat) (c : Code) (pre : List α) (C T : Blk) (W : World), w.heap.size ≤ D → Ix c pre C T W → T D → W.heap[D]? = some (.deferred (some [])) → c.wpIn Fence.wide n P Q { a with defers := { target := .collected D, args := #[] } :: a.defers } W) :
    (Code.rangeFunc g ps assign body).wpIn Fence.wide n P Q a w := by
  refine wpIn_rangeFunc fun fn _ => ?_
  obtain ⟨rec, hrec⟩ : ∃ rec : LoopState → Option Code → Loop, rec = fun st pe => { state := st, pending := pe, fn, tmps := a.tmps, params := ps, assign, body, defers := w.heap.size } := ⟨_, rfl⟩
  obtain ⟨D, hD⟩ : ∃ D, w.heap.size = D := ⟨_, rfl⟩
  obtain ⟨W1, hW1⟩ : ∃ W1, (w.alloc (.deferred (some []))).alloc (.loop (rec .ready none)) = W1 := ⟨_, rfl⟩
  have sz : W1.heap.size = D + 2 := by rw [← hW1]; simp; omega
  have hL1 : W1.heap[D + 1]? = some (.loop (rec .ready none)) := by
    rw [← hW1]; have := World.alloc_heap_new (w.alloc (.deferred (some []))) (.loop (rec .ready none)); rw [World.size_alloc, hD] at this; exact this
  have hK1 : W1.heap[D]? = some (.deferred (some [])) := by
    rw [← hW1, ← hD]; exact (Below.heap_alloc _ _ _ (by simp)).trans (World.alloc_heap_new w _)
  have hbw : Below w.heap.size w W1 := by
    rw [← hW1]; exact ((Below.refl _ w).alloc (Nat.le_refl _) _).alloc (by simp) _
  have hI1 : I [] C T W1 := hI.keep h0 (turned_below hbw) fun b hb => .inl hb
  have hC1 : ∀ b, C b → b < D := fun b hb => by have := (hI.lt h0 b hb).1; omega
  refine ⟨D + 1, [{ target := .collected D, args := #[] }], W1, { target := .fn (.func gf) lb, args := #[.func (.yield (D + 1)) #[] #[]] }, W1, gf, #[.func (.yield (D + 1)) #[] #[]] ++ lb, W1, ?_, ?_, ?_, ?_, fun _ => by omega, ?_⟩
  · rw [← hW1, hrec, ← hD]; exact run_enterLoop_outer _ _ _ _ _
  · simp only [resolve, hg]
    simp [go_sem]
  · intro _ _; trivial
  · simp [invoke, go_sem, eg]
  refine (callsIn_wide.2 (hseq (D + 1) (Ring I (D + 1) D (rec .ready none)) (fun pre C T W => ∃ c, Ring (Ix c) (D + 1) D (rec .done (some c)) pre C T W) (fun b => C b ∨ b = D + 1 ∨ b = D) T W1 (hb0.trans (hbw.mono hb0.size)) (hI.ring' _ _ _) ?_ ?_ ?_ ?_)).mono ?_
  · exact { lt := fun ⟨c, h⟩ => ((hIx c).ring' _ _ _).lt h, keep := fun ⟨c, h⟩ ht hT => ⟨c, ((hIx c).ring' _ _ _).keep h ht hT⟩ }
  · rintro b hb (e | e | e)
    · exact (hneed b hb).1 e
    · have := (hneed b hb).2; omega
    · have := (hneed b hb).2; omega
  · rintro pre x C T W ⟨C1, T1, hi, hC, hTT, q1, q2, tl, tD, hl, hk⟩ hmem hown hrest m
    have hlt := (Array.getElem?_eq_some_iff.1 hl).1
    have hlk := (Array.getElem?_eq_some_iff.1 hk).1
    have hy := run_yield (P := P) (args := encs x) hl (by rw [hrec]; exact hps x)
    rw [hrec] at hy
    have hbA : Below W.heap.size W (W₁ x W) := hW₁ x W
    have hlA : (W₁ x W).heap[D + 1]? = some (.loop (rec .ready none)) := (hbA.block _ hlt).trans hl
    refine ⟨fn, _, assign, body, hy, roundIn_n (n := n - 1 - 1) <| roundIn_of_wpIn trivial (hassign _ x W _ ⟨_, run_beginRound hlA (by rw [hrec]), ?_⟩)⟩
    clear hy
    have hmA : Mem x (W₁ x W) := hMemB x W _ hmem hbA
    obtain ⟨W2, hW2⟩ : ∃ W2, (W₁ x W).putObj (D + 1) (.loop { rec .ready none with state := .busy }) = W2 := ⟨_, rfl⟩
    rw [hW2]
    have hl2 : W2.heap[D + 1]? = some (.loop { rec .ready none with state := .busy }) := by rw [← hW2]; exact World.putObj_heap_same (Array.getElem?_eq_some_iff.1 hlA).1
    have ht2 : Turned (fun b => b = D + 1) W W2 := by rw [← hW2]; exact (turned_below hbA).trans (turned_put (T := fun b => b = D + 1) _ _ rfl) fun b e => .inl e
    have hcl : ∀ a v, (W₁ x W).cell? a = some v → W2.cell? a = some v := fun a v hc => by
      rw [← hW2]
      refine (World.cell?_of_block (World.putObj_heap_other fun e => ?_)).trans hc
      unfold World.cell? at hc
      rw [e, hlA] at hc
      cases hc
    have hk2 : W2.heap[D]? = some (.deferred (some [])) := (ht2.same D hlk (by show ¬ D = D + 1; omega)).trans hk
    have hi2 : I pre C1 T1 W2 := hI.keep hi (ht2.mono fun b _ e => by subst e; exact q1) fun b e => .inl e
    have hm2 : Mem x W2 := by rw [← hW2]; exact hMem x _ _ _ _ hmA hlA
    have fin : ∀ (K : List α → Blk → Blk → World → Prop) (jump : Option Code) (W3 : World), Client K → Went K own pre x C1 T1 W2 W3 →
        (Instr.endRound (D + 1) jump).run P W3 = .ok (.bool jump.isNone) (W3.putObj (D + 1) (.loop (rec (if jump.isNone then .ready else .done) jump))) ∧
        Went (Ring K (D + 1) D (rec (if jump.isNone then .ready else .done) jump)) own pre x C T W (W3.putObj (D + 1) (.loop (rec (if jump.isNone then .ready else .done) jump))) := by
      rintro K jump W3 hK ⟨C', T', hi3, hT3, hC3, ht3⟩
      have nl : ¬ (C1 (D + 1) ∨ own x (D + 1)) := fun e => e.elim (fun e => (hI.lt hi _ e).2 q1) fun e => tl (hown _ e)
      have nD : ¬ (C1 D ∨ own x D) := fun e => e.elim (fun e => (hI.lt hi _ e).2 q2) fun e => tD (hown _ e)
      have hl3 : W3.heap[D + 1]? = some (.loop { rec .ready none with state := .busy }) := (ht3.same _ (Array.getElem?_eq_some_iff.1 hl2).1 nl).trans hl2
      have hk3 : W3.heap[D]? = some (.deferred (some [])) := (ht3.same _ (Array.getElem?_eq_some_iff.1 hk2).1 nD).trans hk2
      have hr := run_endRound (P := P) jump hl3
      rw [hrec] at hr
      refine ⟨by rw [hrec]; exact hr, fun b => C' b ∨ b = D + 1 ∨ b = D, fun b => T' b ∧ b ≠ D + 1 ∧ b ≠ D, ⟨C', T', ?_, fun b => Iff.rfl, fun b e => e.1, hT3 _ q1 (Array.getElem?_eq_some_iff.1 hl2).1 (fun e => nl (.inr e)), hT3 _ q2 (Array.getElem?_eq_some_iff.1 hk2).1 (fun e => nD (.inr e)), fun e => e.2.1 rfl, fun e => e.2.2 rfl, World.putObj_heap_same (Array.getElem?_eq_some_iff.1 hl3).1, (World.putObj_heap_other (by omega)).trans hk3⟩, ?_, ?_, ?_⟩
      · exact hK.keep hi3 (turned_put W3 _ (hT3 _ q1 (Array.getElem?_eq_some_iff.1 hl2).1 fun e => nl (.inr e))) fun b e => .inl e
      · exact fun b hb hlt hn => ⟨hT3 b (hTT b hb) (Nat.lt_of_lt_of_le hlt ht2.size) hn, fun e => tl (e ▸ hb), fun e => tD (e ▸ hb)⟩
      · rintro b (e | e | e)
        · rcases hC3 b e with q | q | q
          · exact .inl ((hC b).2 (.inl q))
          · exact .inr (.inl q)
          · exact .inr (.inr (Nat.le_trans ht2.size q))
        · exact .inl ((hC b).2 (.inr (.inl e)))
        · exact .inl ((hC b).2 (.inr (.inr e)))
      · have a1 : Turned (fun b => C b ∨ own x b) W W2 := ht2.mono fun b _ e => .inl ((hC b).2 (.inr (.inl e)))
        have a2 : Turned (fun b => C b ∨ own x b) W2 W3 := ht3.mono fun b _ e => e.elim (fun e => .inl ((hC b).2 (.inl e))) .inr
        have a3 : Turned (fun b => C b ∨ own x b) W3 (W3.putObj (D + 1) (.loop (rec (if jump.isNone then .ready else .done) jump))) := turned_put W3 _ (.inl ((hC _).2 (.inr (.inl rfl))))
        exact (a1.trans a2 fun b e => .inl e).trans a3 fun b e => .inl e
    refine wpIn_mono (hbody _ pre x C1 T1 W W2 hi2 hm2 (fun b e => hTT b (hown b e)) hrest hcl) ?_
    rintro e a3 W3 hp
    cases e with
    | normal => obtain ⟨hr, hw⟩ := fin I none W3 hI hp; exact ⟨_, _, hr, .inl ⟨rfl, hw⟩⟩
    | ret => obtain ⟨hr, C', T', hw, q⟩ := fin _ (some .ret) W3 (hIx _) hp; exact ⟨_, _, hr, .inr ⟨rfl, C', T', ⟨_, hw⟩, q⟩⟩
    | exit id => obtain ⟨hr, C', T', hw, q⟩ := fin _ (some (.exit id)) W3 (hIx _) hp; exact ⟨_, _, hr, .inr ⟨rfl, C', T', ⟨_, hw⟩, q⟩⟩
    | goto t => obtain ⟨hr, C', T', hw, q⟩ := fin _ (some (.goto t)) W3 (hIx _) hp; exact ⟨_, _, hr, .inr ⟨rfl, C', T', ⟨_, hw⟩, q⟩⟩
    | panic ch => exact hp.elim
    | outgrown => exact hp.elim
  · refine ⟨C, fun b => T b ∨ w.heap.size ≤ b, hI.keep h0 (turned_below hbw) (fun b e => e), fun b => Iff.rfl, fun b e => .inl e, .inr (by omega), .inr (by omega), fun e => by have := hT _ e; omega, fun e => by have := hT _ e; omega, hL1, hK1⟩
  · rintro e W2 ⟨⟨v, rfl⟩, (⟨xs, C', T', hZ, C1, T1, hi, hC, hTT, q1, q2, tl, tD, hl, hk⟩ | ⟨pre, C', T', c, C1, T1, hi, hC, hTT, q1, q2, tl, tD, hl, hk⟩)⟩
    · refine ⟨none, _, by have := run_endLoop (P := P) hl (by rw [hrec]; simp); rw [hrec] at this; exact this, hdone D xs C1 T1 _ (by omega) hZ (hI.keep hi (turned_put W2 _ q1) fun b e => .inl e) q2 ((World.putObj_heap_other (by omega)).trans hk)⟩
    · refine ⟨some c, _, by have := run_endLoop (P := P) hl (by rw [hrec]; simp); rw [hrec] at this; exact this, hstop D c pre C1 T1 _ (by omega) ((hIx c).keep hi (turned_put W2 _ q1) fun b e => .inl e) q2 ((World.putObj_heap_other (by omega)).trans hk)⟩
end
end Go.Proofs.YtgbnfhfkehpfaaaGreat
/- A region that draws its order and only reads, within a round of a range over a function. Speaks of no function. -/
namespace Go.Proofs.YtgbnfhfkehpfaaaGreat
open Go.RowKit

end Go.Proofs.YtgbnfhfkehpfaaaGreat
/- sparsest of layer 4: a contract. -/
namespace Go.Proofs.YtgbnfhfkehpfaaaGreat
open Go.RowKit Go.Shelf
attribute [local go_sem] Oper.semAt_some

structure SpI (w : World) (FB : Nat) (v : Value) (pre : List FitV) (C T : Blk) (W : World) : Prop where
  lo : w.heap.size ≤ FB
  r : W.cell? ⟨FB, 0, none⟩ = some v
  fr : W.frozen? ⟨FB, 0, none⟩ = false
  own : OwnF W (FB + 1) v pre
  bw : Below w.heap.size w W
  nt : ∀ b, b ≤ FB → ¬ T b
  nv : ∀ b, v.ownBlock = some b → ¬ T b
  cc : ∀ b, C b ↔ b = FB ∨ v.ownBlock = some b ∨ ∃ x ∈ pre, ownF x b
  ap : ∀ x ∈ pre, ∀ b, ownF x b → b ≠ FB ∧ v.ownBlock ≠ some b
  mem : ∀ x ∈ pre, MemF x W ∧ ∀ b, ownF x b → ¬ T b
theorem SpI.keep {w : World} {FB : Nat} {v : Value} {pre : List FitV} {C T T' : Blk} {W W' : World} (h : SpI w FB v pre C T W) (ht : Turned T W W') (hT : ∀ b, T' b → T b ∨ W.heap.size ≤ b) : SpI w FB v pre C T' W' := by
  have l0 := cell_lt h.r
  dsimp only at l0
  refine ⟨h.lo, ht.cell h.r (h.nt _ (Nat.le_refl _)), (ht.frozen l0 (h.nt _ (Nat.le_refl _))).trans h.fr, h.own.same fun b e => ht.same b (h.own.block e) (h.nv b e), h.bw.trans (ht.below h.bw.size fun b hb => h.nt b (by have := h.lo; omega)), fun b hb e => (hT b e).elim (h.nt b hb) (by omega), fun b hb e => (hT b e).elim (h.nv b hb) (by have := h.own.block hb; omega), h.cc, h.ap, fun x hx => ?_⟩
  obtain ⟨m1, m2⟩ := h.mem x hx
  exact ⟨memF_turned m1 ht m2, fun b hb e => (hT b e).elim (m2 b hb) (by have := memF_lt m1 hb; omega)⟩
theorem SpI.client {w : World} {FB : Nat} {p : List FitV → Value → Prop} {q : List FitV → List FitV} : Client fun pre C T W => ∃ v, p pre v ∧ SpI w FB v (q pre) C T W where
  lt := by
    rintro pre C T W ⟨v, _, h⟩ b hb
    rcases (h.cc b).1 hb with rfl | e | ⟨x, hx, e⟩
    · exact ⟨cell_lt h.r, h.nt _ (Nat.le_refl _)⟩
    · exact ⟨h.own.block e, h.nv b e⟩
    · exact ⟨memF_lt (h.mem x hx).1 e, (h.mem x hx).2 b e⟩
  keep := fun ⟨v, hp, h⟩ ht hT => ⟨v, hp, h.keep ht hT⟩
def SameF (pre : List FitV) : Prop := ∀ a ∈ pre, ∀ b ∈ pre, a.px.length = b.px.length
theorem SpI.push {w : World} {FB : Nat} {v : Value} {pre : List FitV} {C T : Blk} {W W2 w' : World} {x : FitV} {g cap : Nat} (h : SpI w FB v pre C T W) (hx : MemF x W) (hown : ∀ b, ownF x b → T b) (hb : Below W.heap.size W W2) (hp : PushedF W2 (FB + 1) v pre x g cap w') :
    SpI w FB (.slice (some ⟨g, 0, none⟩) (pre.length + 1) cap) (pre ++ [x]) (fun b => b = FB ∨ b = g ∨ ∃ z ∈ pre ++ [x], ownF z b) (fun b => T b ∧ ¬ ownF x b ∧ b < W.heap.size) (w'.setCell ⟨FB, 0, none⟩ (.slice (some ⟨g, 0, none⟩) (pre.length + 1) cap)) ∧ (g = g ∧ (v.ownBlock = some g ∨ W.heap.size ≤ g)) ∧ Turned (fun b => b = FB ∨ v.ownBlock = some b) W (w'.setCell ⟨FB, 0, none⟩ (.slice (some ⟨g, 0, none⟩) (pre.length + 1) cap)) := by
  obtain ⟨h1, h2, h3⟩ := hp
  have s1 := hb.size
  have hg : v.ownBlock = some g ∨ W.heap.size ≤ g := h3.imp_right fun e => by omega
  have ht : Turned (fun b => v.ownBlock = some b) W w' := (turned_below hb).trans h2 fun b e => .inl e
  have htF : Turned (fun b => b = FB ∨ v.ownBlock = some b) W (w'.setCell ⟨FB, 0, none⟩ (.slice (some ⟨g, 0, none⟩) (pre.length + 1) cap)) := (ht.mono fun b _ e => .inr e).trans (turned_set (T := fun b => b = FB) _ _ rfl) fun b e => .inl (.inl e)
  have l0 := cell_lt h.r
  dsimp only at l0
  have hlo := h.lo
  have nF : v.ownBlock ≠ some FB := fun e => by have := World.ownsRow.lt h.own FB e; omega
  have hgF : g ≠ FB := fun e => by
    subst e
    rcases hg with e | e
    · exact nF e
    · omega
  have hxb : ∀ z ∈ pre ++ [x], MemF z W ∧ ∀ b, ownF z b → b ≠ FB ∧ v.ownBlock ≠ some b := fun z hz => by
    rcases List.mem_append.1 hz with hz | hz
    · exact ⟨(h.mem z hz).1, h.ap z hz⟩
    · obtain rfl := List.mem_singleton.1 hz
      exact ⟨hx, fun b hzb => ⟨fun e => h.nt b (by omega) (hown b hzb), fun e => h.nv b e (hown b hzb)⟩⟩
  have hob : ∀ b, (Value.slice (some ⟨g, 0, none⟩) (pre.length + 1) cap).ownBlock = some b ↔ b = g := fun b => by
    show some g = some b ↔ b = g
    exact ⟨fun e => (Option.some.inj e).symm, fun e => by rw [e]⟩
  refine ⟨⟨hlo, World.cell?_setCell_same _ _ _ (ht.cell h.r nF), ?_, h1.same fun b e => Below.heap_setCell _ _ _ b (by rw [(hob b).1 e]; exact hgF), h.bw.trans (htF.below h.bw.size fun b hb e => ?_), fun b hb e => h.nt b hb e.1, fun b hb e => ?_, fun b => ?_, fun z hz b hzb => ⟨((hxb z hz).2 b hzb).1, fun e => ?_⟩, fun z hz => ⟨memF_turned (hxb z hz).1 htF fun b hzb e => ?_, fun b hzb e => ?_⟩⟩, ⟨rfl, hg⟩, htF⟩
  · have := (ht.frozen l0 nF).trans h.fr
    simpa using this
  · rcases e with rfl | e
    · omega
    · have := World.ownsRow.lt h.own b e; omega
  · rw [hob] at hb
    subst hb
    rcases hg with q | q
    · exact h.nv _ q e.1
    · omega
  · rw [hob]
  · rw [hob] at e
    subst e
    rcases hg with q | q
    · exact ((hxb z hz).2 _ hzb).2 q
    · have := memF_lt (hxb z hz).1 hzb; omega
  · rcases e with rfl | e
    · exact ((hxb z hz).2 _ hzb).1 rfl
    · exact ((hxb z hz).2 _ hzb).2 e
  · rcases List.mem_append.1 hz with hz | hz
    · exact (h.mem z hz).2 b hzb e.1
    · obtain rfl := List.mem_singleton.1 hz
      exact e.2.1 hzb

theorem SpI.pcell {w : World} {FB : Nat} {v : Value} {pre : List FitV} {C T : Blk} {W W2 w' : World} {x : FitV} {g cap : Nat} (h : SpI w FB v pre C T W) (hb : Below W.heap.size W W2) (hp : PushedF W2 (FB + 1) v pre x g cap w') : w'.cell? ⟨FB, 0, none⟩ = some v ∧ w'.frozen? ⟨FB, 0, none⟩ = false := by
  have l0 := cell_lt h.r
  dsimp only at l0
  have nF : v.ownBlock ≠ some FB := fun e => by have := World.ownsRow.lt h.own FB e; omega
  have ht : Turned (fun b => v.ownBlock = some b) W w' := (turned_below hb).trans hp.2.1 fun b e => .inl e
  exact ⟨ht.cell h.r nF, (ht.frozen l0 nF).trans h.fr⟩
theorem SpI.went {w : World} {FB : Nat} {v : Value} {pre : List FitV} {C T : Blk} {W W2 w' : World} {x : FitV} {g cap : Nat} (h : SpI w FB v pre C T W) (hs : SameF (pre ++ [x])) (hx : MemF x W) (hown : ∀ b, ownF x b → T b) (hb : Below W.heap.size W W2) (hp : PushedF W2 (FB + 1) v pre x g cap w') :
    Went (fun pre C T W => ∃ v, SameF pre ∧ SpI w FB v pre C T W) ownF pre x C T W (w'.setCell ⟨FB, 0, none⟩ (.slice (some ⟨g, 0, none⟩) (pre.length + 1) cap)) := by
  obtain ⟨h1, ⟨_, h2⟩, h3⟩ := h.push hx hown hb hp
  refine ⟨_, _, ⟨_, hs, h1⟩, fun b hb hl hn => ⟨hb, hn, hl⟩, fun b hb => ?_, h3.mono fun b _ e => .inl ((h.cc b).2 (e.elim .inl fun e => .inr (.inl e)))⟩
  rcases hb with rfl | rfl | ⟨z, hz, e⟩
  · exact .inl ((h.cc _).2 (.inl rfl))
  · rcases h2 with e | e
    · exact .inl ((h.cc _).2 (.inr (.inl e)))
    · exact .inr (.inr e)
  · rcases List.mem_append.1 hz with hz | hz
    · exact .inl ((h.cc _).2 (.inr (.inr ⟨z, hz, e⟩)))
    · obtain rfl := List.mem_singleton.1 hz
      exact .inr (.inl e)
theorem SpI.stop {w : World} {FB : Nat} {v : Value} {pre : List FitV} {C T : Blk} {W : World} {x : FitV} {Z : List (List Int × List (Int × Int))} (h : SpI w FB v pre C T W) (_hown : ∀ b, ownF x b → T b) (hne : pre ≠ []) (hl : leastF Z = pre.map keyF) (n : Nat) :
    Went (fun pre C T W => ∃ v, ((Code.exit 0 : Code) = .exit 0 ∧ pre.dropLast ≠ [] ∧ leastF Z = pre.dropLast.map keyF) ∧ SpI w FB v pre.dropLast C T W) ownF pre x C T W (W.drewN n) := by
  have hd : (pre ++ [x]).dropLast = pre := by simp
  refine ⟨C, fun b => T b ∧ ¬ ownF x b, ⟨v, ⟨rfl, by rw [hd]; exact hne, by rw [hd]; exact hl⟩, ?_⟩, fun b hb _ hn => ⟨hb, hn⟩, fun b hb => .inl hb, turned_below (below_drewN (Below.refl _ _) n)⟩
  rw [hd]
  exact h.keep (turned_below (below_drewN (Below.refl _ _) n)) fun b e => .inl e.1
theorem sp_leaves {fn : Func} {tmps : Array Value} {w : World} {FB : Nat} {v r : Value} {pre : List FitV} {C T : Blk} {ms : List Nat} {V : World} {R : Ending → World → Prop}
    (hres : ∀ W : World, (results fn tmps).run Tryz.prog W = .ok r W)
    (h : SpI w FB v pre C T V) (hT : ∀ D, D ∈ ms → T D) (hn : ms.Nodup) (hd : ∀ D, D ∈ ms → V.heap[D]? = some (.deferred (some []))) (hR : ∀ W, SpI w FB v pre C T W → R (.returned r) W) :
    LeavesInM Fence.wide 50 Tryz.prog fn tmps R (ms.map mark) .returning V := by
  refine leaves_marks2 (fun W => SpI w FB v pre C T W) ms ?_ ?_ ms V (fun _ h => h) hn hd h
  · exact fun W D hD hW => hW.keep (turned_put W _ (hT D hD)) fun b e => .inl e
  · exact fun W hW => ⟨_, hres W, hR W hW⟩
theorem zfunc_any (W : World) (a : Option Addr) (vs : List (Int × Int)) (cap : Nat) (h1 : vs.length ≤ 1000) (h2 : Rl W a vs) : Calls Tryz.prog 138 #[.slice a vs.length cap, .func (.func 103) #[] #[]] W fun e w' => e = .returned (.bool (vs.any zB)) ∧ Below W.heap.size W w' := containsZ_any a vs cap W h1 h2
end Go.Proofs.YtgbnfhfkehpfaaaGreat
/- askUpTo: a contract. -/
namespace Go.Proofs.YtgbnfhfkehpfaaaGreat
open Go.RowKit Go.Shelf

theorem up_not {k : Int} (h : 10 < k) : decide (k < 0) = false := by simp; omega
def upE (m : List (List Int)) (y : List Int) (k : Int) : Int := if readE m y = 0 then (if rangeB k 0 10 = true then 0 else 7) else readE m y
set_option maxRecDepth 100000 in
set_option maxHeartbeats 800000 in
theorem askUp_any (ma : Option Addr) (m : List (List Int)) (mc : Nat) (ya : Option Addr) (y : List Int) (yc : Nat) (k : Int) (w : World) (hm : MOk m) (hly : y.length ≤ 9223372036854775807) (hs : Ms w ma m) (hy : Sl w ya y) :
    Calls Tryz.prog 100 #[.slice ma m.length mc, .slice ya y.length yc, .int .i64 k] w fun e w' => e = .returned (.tuple #[if upE m y k = 0 then .agg #[.slice ma m.length mc, .slice ya y.length yc] else .agg #[.slice none 0 0, .slice none 0 0], .int .i64 (upE m y k)]) ∧ Below w.heap.size w w' := by
  obtain ⟨V, hV⟩ : ∃ V, w.alloc (.cells #[.slice none 0 0, .slice none 0 0] 115) = V := ⟨_, rfl⟩
  have hbv : Below w.heap.size w V := by rw [← hV]; exact (Below.refl _ _).alloc (Nat.le_refl _) _
  have HBV := Lib.hid hbv
  have HVW := Lib.hid (box2 hV)
  obtain ⟨e0, he0⟩ : ∃ e0, readE m y = e0 := ⟨_, rfl⟩
  by_cases h0 : e0 = 0
  · subst h0
    have HAS := Lib.hid (ask_ok ma m mc ya y yc V he0 hm hly (hs.below hbv) (hy.below hbv))
    obtain ⟨rb, hrb⟩ : ∃ rb, rangeB k 0 10 = rb := ⟨_, rfl⟩
    have HRB := Lib.hid hrb
    have HUE : Hid (upE m y k = if rb = true then 0 else 7) := by show _ = _; unfold upE; rw [if_pos he0, hrb]
    clear hm hs hy hbv he0 hrb
    cases rb with
    | true =>
      have HE : Hid (upE m y k = 0) := HUE.out
      have hk0 : 0 ≤ k ∧ k ≤ 10 := by have := HRB.out; simpa [rangeB] using this
      have y1 : ¬ k < 0 := by omega
      have y2 : ¬ 10 < k := by omega
      rw [HE.out]
      clear hk0
      go_enter Tryz.func100, Tryz.ntmps100
      go_wp2_with (go_at_call 112; refine HAS.out.mono ?_; rintro e w2 ⟨rfl, hb2⟩
                   obtain ⟨x2, hx2⟩ : ∃ x2, w2.alloc (.cells #[.slice ma m.length mc, .slice ya y.length yc] 115) = x2 := ⟨_, rfl⟩
                   have hbx : Below w2.heap.size w2 x2 := by rw [← hx2]; exact (Below.refl _ _).alloc (Nat.le_refl _) _
                   have hbV : Below V.heap.size V x2 := hb2.trans (hbx.mono hb2.size)
                   obtain ⟨u0, u1, u2, u3⟩ := HVW.out x2 hbV
                   obtain ⟨z0, z1, _, _⟩ := box2 hx2 x2 (Below.refl _ _)
                   have HBX : Hid (Below w.heap.size w x2) := HBV.out.trans (hbV.mono HBV.out.size); clear hb2 hbx hbV)
      refine bodyPost_ret (v := .tuple #[.agg #[.slice ma m.length mc, .slice ya y.length yc], .int .i64 0]) ?_ rfl ⟨rfl, (HBX.out.setCell (p := ⟨w.heap.size, 0, none⟩) (Nat.le_refl _) _).setCell (p := ⟨w.heap.size, 1, none⟩) (Nat.le_refl _) _⟩
      rw [results_cell_tmp rfl]; go_simp
    | false =>
      have HE : Hid (upE m y k = 7) := HUE.out
      have hk0 : k < 0 ∨ 10 < k := by
        have := HRB.out
        simp only [rangeB, Bool.and_eq_false_iff, decide_eq_false_iff_not] at this
        omega
      rw [HE.out]
      rcases hk0 with y1 | y1
      all_goals
        (try have y2 := up_not y1)
        go_enter Tryz.func100, Tryz.ntmps100
        go_wp2_with (go_at_call 112; refine HAS.out.mono ?_; rintro e w2 ⟨rfl, hb2⟩
                     obtain ⟨x2, hx2⟩ : ∃ x2, w2.alloc (.cells #[.slice ma m.length mc, .slice ya y.length yc] 115) = x2 := ⟨_, rfl⟩
                     have hbx : Below w2.heap.size w2 x2 := by rw [← hx2]; exact (Below.refl _ _).alloc (Nat.le_refl _) _
                     have hbV : Below V.heap.size V x2 := hb2.trans (hbx.mono hb2.size)
                     obtain ⟨u0, u1, u2, u3⟩ := HVW.out x2 hbV
                     have HBX : Hid (Below w.heap.size w x2) := HBV.out.trans (hbV.mono HBV.out.size); clear hb2 hbx hbV)
        all_goals
          refine bodyPost_ret (v := .tuple #[.agg #[.slice none 0 0, .slice none 0 0], .int .i64 7]) ?_ rfl ?_
          · rw [results_cell_tmp rfl]; go_simp
          · exact ⟨rfl, (HBX.out.setCell (p := ⟨w.heap.size, 0, none⟩) (Nat.le_refl _) _).setCell (p := ⟨w.heap.size, 1, none⟩) (Nat.le_refl _) _⟩
  · have HUE : Hid (upE m y k = e0) := by show _ = _; unfold upE; rw [he0, if_neg h0]
    have HAS := Lib.hid (ask_no ma m mc ya y yc V e0 he0 h0 hm hly (hs.below hbv) (hy.below hbv))
    have y1 : (e0 == 0) = false := by simpa using h0
    have y2 : (e0 != 0) = true := by simpa using h0
    rw [HUE.out, if_neg h0]
    clear hm hs hy hbv he0 h0
    go_enter Tryz.func100, Tryz.ntmps100
    go_wp2_with (go_at_call 112; refine HAS.out.mono ?_; rintro e w2 ⟨rfl, hb2⟩
                 have hbV : Below V.heap.size V (w2.alloc (.cells #[.slice none 0 0, .slice none 0 0] 115)) := hb2.alloc hb2.size _
                 obtain ⟨u0, u1, u2, u3⟩ := HVW.out _ hbV
                 have HBX : Hid (Below w.heap.size w (w2.alloc (.cells #[.slice none 0 0, .slice none 0 0] 115))) := HBV.out.trans (hbV.mono HBV.out.size); clear hb2 hbV)
    refine bodyPost_ret (v := .tuple #[.agg #[.slice none 0 0, .slice none 0 0], .int .i64 e0]) ?_ rfl ⟨rfl, (HBX.out.setCell (p := ⟨w.heap.size, 0, none⟩) (Nat.le_refl _) _).setCell (p := ⟨w.heap.size, 1, none⟩) (Nat.le_refl _) _⟩
    rw [results_cell_tmp rfl]; go_simp
end Go.Proofs.YtgbnfhfkehpfaaaGreat
/- Sparsest, Only, Size, Count of layer 4 and of its reference: contracts, given one of sparsest. -/
namespace Go.Proofs.YtgbnfhfkehpfaaaGreat
open Go.RowKit Go.Shelf
attribute [local go_sem] Oper.semAt_some

end Go.Proofs.YtgbnfhfkehpfaaaGreat
/- fit of the reference of layer 4: a contract. -/
namespace Go.Proofs.YtgbnfhfkehpfaaaGreat
open Go.RowKit Go.Shelf

def Zero (a : Option Addr) : Prop := a = none ∨ ∃ b, a = some ⟨b, 0, none⟩
theorem OwnI.zero {w : World} {base : Nat} {a : Option Addr} {n c : Nat} {xs : List Int} (h : OwnI w base (.slice a n c) xs) : Zero a := by
  obtain ⟨_, ⟨e, _⟩ | ⟨g, cap, cur, e, _⟩⟩ := h
  · exact .inl (by injection e)
  · exact .inr ⟨g, by injection e⟩
end Go.Proofs.YtgbnfhfkehpfaaaGreat
/- All of the reference of layer 4: a contract. -/
namespace Go.Proofs.YtgbnfhfkehpfaaaGreat
open Go.RowKit Go.Shelf

structure FitR (x : FitV) (W : World) : Prop where
  sl : Sl W x.qa x.px
  rl : Rl W x.va x.vs
  z : Zero x.qa
theorem FitR.below {x : FitV} {W W' : World} (h : FitR x W) (hb : Below W.heap.size W W') : FitR x W' := ⟨h.sl.below hb, h.rl.below hb, h.z⟩
theorem OwnF.no_int {W : World} {base b : Nat} {v : Value} {xs : List FitV} {k : Int} (h : OwnF W base v xs) (hx : v = .slice none 0 0 ∨ xs ≠ []) (hc : W.cell? ⟨b, 0, none⟩ = some (.int .i64 k)) : v.ownBlock ≠ some b := by
  intro e
  rcases hx with rfl | hx
  · cases e
  · rcases h.form with ⟨_, q⟩ | ⟨g, cap, rfl⟩
    · exact hx q
    · obtain rfl : g = b := by injection e
      cases xs with
      | nil => exact hx rfl
      | cons x xs =>
        have := (h.cell (j := 0) (x := x) rfl).1
        rw [Nat.zero_mul, hc] at this
        cases this
theorem FitR.turned {x : FitV} {W W' : World} {base : Nat} {v : Value} {xs : List FitV} (h : FitR x W) (ho : OwnF W base v xs) (hx : v = .slice none 0 0 ∨ xs ≠ []) (ht : Turned (fun b => v.ownBlock = some b) W W') : FitR x W' := by
  refine ⟨fun k hk => ?_, fun j p hj => ?_, h.z⟩
  · obtain ⟨b, off, e, hc⟩ := h.sl k hk
    refine ⟨b, off, e, ht.cell hc ?_⟩
    obtain ⟨b2, off2, e2, hc2⟩ := h.sl 0 (by omega)
    rw [e] at e2
    obtain ⟨rfl, rfl⟩ : b = b2 ∧ off = off2 := by simpa using e2
    have hoff : off = 0 := by
      rcases h.z with q | ⟨b3, q⟩
      · rw [e] at q; cases q
      · rw [e] at q; simpa using (by simpa using q : _ ∧ off = 0).2
    subst hoff
    exact ho.no_int hx hc2
  · obtain ⟨b, e, h1, h2⟩ := h.rl j p hj
    obtain ⟨p0, hp0⟩ : ∃ p0, x.vs[0]? = some p0 := ⟨x.vs[0]'(by have := (List.getElem?_eq_some_iff.1 hj).1; omega), by simp [show 0 < x.vs.length by have := (List.getElem?_eq_some_iff.1 hj).1; omega]⟩
    obtain ⟨b2, e2, h3, _⟩ := h.rl 0 p0 hp0
    rw [e] at e2
    obtain rfl : b = b2 := by simpa using e2
    rw [Nat.zero_mul] at h3
    exact ⟨b, e, ht.cell h1 (ho.no_int hx h3), ht.cell h2 (ho.no_int hx h3)⟩
structure RowI (base : Nat) (v : Value) (xs : List FitV) (W : World) : Prop where
  own : OwnF W base v xs
  mem : ∀ x ∈ xs, FitR x W
  sh : v = .slice none 0 0 ∨ xs ≠ []
theorem RowI.nil (base : Nat) (W : World) : RowI base (.slice none 0 0) [] W := ⟨OwnF.nil _ _, fun x hx => (by cases hx), .inl rfl⟩
theorem RowI.below {base : Nat} {v : Value} {xs : List FitV} {W W' : World} (h : RowI base v xs W) (hb : Below W.heap.size W W') : RowI base v xs W' := ⟨h.own.below hb, fun x hx => (h.mem x hx).below hb, h.sh⟩
theorem RowI.push {base : Nat} {v : Value} {xs : List FitV} {V w' : World} {x : FitV} {g cap : Nat} (h : RowI base v xs V) (hx : FitR x V) (hp : PushedF V base v xs x g cap w') : RowI base (.slice (some ⟨g, 0, none⟩) (xs.length + 1) cap) (xs ++ [x]) w' := by
  obtain ⟨h1, h2, _⟩ := hp
  refine ⟨h1, fun z hz => ?_, .inr (by simp)⟩
  rcases List.mem_append.1 hz with hz | hz
  · exact (h.mem z hz).turned h.own h.sh h2
  · obtain rfl := List.mem_singleton.1 hz
    exact hx.turned h.own h.sh h2
end Go.Proofs.YtgbnfhfkehpfaaaGreat
/- known of a reduction: a contract. -/
namespace Go.Proofs.YtgbnfhfkehpfaaaGreat
open Go.RowKit

def loneR (M : List (List Int)) (pz : List Int) (cols i : Nat) : Bool := (freeTo pz cols).all fun f => gt (rowL M i) f.toNat == 0
def knownV (M : List (List Int)) (pz : List Int) (cols : Nat) (v : Int) : Int := if indexV pz v < 0 then -1 else if loneR M pz cols (indexV pz v).toNat = true then indexV pz v else -1
theorem indexV_at (pz : List Int) (v : Int) : indexV pz v = -1 ∨ ∃ i : Nat, indexV pz v = (i : Int) ∧ i < pz.length ∧ gt pz i = v := by
  have hm := indexV_mem (xs := pz) (v := v)
  by_cases h : v ∈ pz
  · have hex : ∃ k, k < pz.length ∧ gt pz k = v ∧ ∀ j, j < k → gt pz j ≠ v := by
      obtain ⟨k, hk, e⟩ := mem_gt.1 h
      induction k using Nat.strongRecOn with
      | _ k ih =>
        by_cases hj : ∃ j, j < k ∧ gt pz j = v
        · obtain ⟨j, j1, j2⟩ := hj
          exact ih j j1 (by omega) j2
        · exact ⟨k, hk, e, fun j j1 j2 => hj ⟨j, j1, j2⟩⟩
    obtain ⟨k, k1, k2, k3⟩ := hex
    exact .inr ⟨k, indexV_hit k1 k3 k2, k1, k2⟩
  · exact .inl (indexV_miss fun j hj e => h (mem_gt.2 ⟨j, hj, e⟩))
set_option maxRecDepth 1000000 in
set_option maxHeartbeats 1600000 in
theorem known_any (cols g cap N : Nat) (ads : List (Nat × Nat)) (M : List (List Int)) (pa : Option Addr) (pz : List Int) (pc : Nat) (dv : Int) (v : Int) (base : Nat) (w : World) (hpM : pz.length ≤ M.length) (hM : M.length ≤ 100) (hN : ∀ q ∈ M, q.length = N) (hc : cols ≤ N) (hN1 : N ≤ 100) (hs : SI w base g ads M) (hps : Sl w pa pz) :
    Calls Tryz.prog 43 #[RdV cols g M.length cap (.slice pa pz.length pc) dv, .int .i64 v] w fun e w' => e = .returned (.int .i64 (knownV M pz cols v)) ∧ Below w.heap.size w w' := by
  have HS := Lib.hid hs; clear hs
  have HPS := Lib.hid hps; clear hps
  have HN := Lib.hid hN; clear hN
  obtain ⟨pn, hpn⟩ : ∃ pn, pz.length = pn := ⟨_, rfl⟩
  have HPN := Lib.hid hpn
  have HIX : Hid (∀ W, Below w.heap.size w W → Calls Tryz.prog 76 #[.slice pa pn pc, .int .i64 v] W fun e w' => e = .returned (.int .i64 (indexV pz v)) ∧ W = w') := fun W hb => by rw [← hpn]; exact index_any pa pz pc v W (by omega) (HPS.out.below hb)
  have HFR : Hid (∀ W, Below w.heap.size w W → Calls Tryz.prog 46 #[.agg #[.int .i64 (cols : Int), .slice (some ⟨g, 0, none⟩) M.length cap, .slice pa pn pc, .int .i64 dv]] W fun e w' => Below W.heap.size W w' ∧ ∃ a k, e = .returned (.slice a (freeTo pz cols).length k) ∧ Sl w' a (freeTo pz cols)) := fun W hb => by rw [← hpn]; exact free_any cols g M.length cap pa pz pc dv W (by omega) (by omega) (HPS.out.below hb)
  have HFM : Hid (∀ c, c ∈ freeTo pz cols ↔ ∃ j : Nat, j < cols ∧ c = (j : Int) ∧ (j : Int) ∉ pz) := freeTo_mem pz cols
  have hat := indexV_at pz v
  obtain ⟨n, hn⟩ : ∃ n, M.length = n := ⟨_, rfl⟩
  have HNL := Lib.hid hn
  rw [hpn] at hpM hat ⊢
  rw [hn] at hpM hM HFR ⊢
  clear hn hpn
  unfold RdV
  obtain ⟨V, hV⟩ : ∃ V, w.alloc (.cells #[.int .i64 (cols : Int), .slice (some ⟨g, 0, none⟩) n cap, .slice pa pn pc, .int .i64 dv] 61) = V := ⟨_, rfl⟩
  have HBV : Hid (Below w.heap.size w V) := by rw [← hV]; exact (Below.refl _ _).alloc (Nat.le_refl _) _
  have HCV : Hid (∀ W, Below V.heap.size V W → W.cell? ⟨w.heap.size, 0, none⟩ = some (.int .i64 (cols : Int)) ∧ W.cell? ⟨w.heap.size, 1, none⟩ = some (.slice (some ⟨g, 0, none⟩) n cap) ∧ W.cell? ⟨w.heap.size, 2, none⟩ = some (.slice pa pn pc) ∧ W.cell? ⟨w.heap.size, 3, none⟩ = some (.int .i64 dv)) := box_cells hV
  obtain ⟨c0, c1, c2, c3⟩ := HCV.out V (Below.refl _ _)
  rcases hat with hi | ⟨i, hi, hip, _⟩
  · have HK : Hid (knownV M pz cols v = -1) := by show _ = _; unfold knownV; rw [hi]; rfl
    rw [hi] at HIX
    go_enter Tryz.func43, Tryz.ntmps43
    go_wp2_with (go_at_call 76; refine (HIX.out V HBV.out).mono ?_; rintro e w1 ⟨rfl, rfl⟩)
    go_ret
    exact ⟨ret_i64 HK.out.symm, HBV.out⟩
  · have HK : Hid (knownV M pz cols v = if loneR M pz cols i = true then (i : Int) else -1) := by show _ = _; unfold knownV; rw [hi, if_neg (by omega), Int.toNat_natCast]
    rw [hi] at HIX
    have hin : i < n := by omega
    have hi0 : (i : Int) < (n : Int) := by omega
    have hi1 : ¬ (i : Int) < 0 := by omega
    have HIM : Hid (i < M.length) := by show _ < _; rw [HNL.out]; exact hin
    go_enter Tryz.func43, Tryz.ntmps43
    go_wp2_with (first | (go_at_call 76; refine (HIX.out V HBV.out).mono ?_; rintro e w1 ⟨rfl, rfl⟩) | (go_at_call 46; refine (HFR.out V HBV.out).mono ?_; rintro e w2 ⟨hb2, fa, fk, rfl, hf⟩; have HF := Lib.hid hf; have HB2 := Lib.hid hb2; clear hf hb2))
    clear c0 c1 c2 c3 hV
    obtain ⟨fz, hfz⟩ : ∃ fz, freeTo pz cols = fz := ⟨_, rfl⟩
    have HLO : Hid (loneR M pz cols i = fz.all fun f => gt (rowL M i) f.toNat == 0) := by show _ = _; unfold loneR; rw [hfz]
    have HFL : Hid (fz.length ≤ 100) := by show _ ≤ _; have := freeTo_len pz cols; rw [hfz] at this; omega
    have hfl : fz.length ≤ 100 := HFL.out
    rw [hfz] at HFM HF ⊢
    clear hfz
    go_loopw [17] (fun j wr => ∃ k : Nat, k ≤ fz.length ∧ j = .int .i64 k ∧ wr = w2 ∧ ∀ t, t < k → gt (rowL M i) (gt fz t).toNat = 0) (fun j _ => fz.length - (intOf j).toNat)
    case atStart => exact ⟨0, Nat.zero_le _, rfl, rfl, fun t h => by omega⟩
    case round =>
      obtain ⟨k, hk, rfl, rfl, hno⟩ := hrel
      have HNO := Lib.hid hno; clear hno
      have HBW : Hid (Below w.heap.size w wr) := HBV.out.trans (HB2.out.mono HBV.out.size)
      by_cases hlt : k < fz.length
      · obtain ⟨fb, fo, u, hfa, hfc, HU⟩ := HF.out.at hlt
        subst hfa
        obtain ⟨f, hf, rfl, _⟩ := (HFM.out u).1 (List.mem_of_getElem? HU.out)
        have HGU := Lib.hid (gt_some' HU.out)
        have e1 : ads[i]? = some (ads[i]'(by rw [HS.out.len]; exact HIM.out)) := List.getElem?_eq_getElem _
        have e2 : M[i]? = some (rowL M i) := by unfold rowL; have := HIM.out; simp [this]
        obtain ⟨hh, hro⟩ := (HS.out.below HBW.out).row i _ _ e1 e2
        obtain ⟨xb, hxb⟩ : ∃ xb, (ads[i]'(by rw [HS.out.len]; exact HIM.out)).1 = xb := ⟨_, rfl⟩
        obtain ⟨xc, hxc⟩ : ∃ xc, (ads[i]'(by rw [HS.out.len]; exact HIM.out)).2 = xc := ⟨_, rfl⟩
        rw [hxb, hxc] at hh hro
        have hrn := HN.out _ (rowL_mem HIM.out)
        have hcx : wr.cell? ⟨xb, f, none⟩ = some (.int .i64 (gt (rowL M i) f)) := (OwnI.cell hro (j := f) (by rw [hrn]; omega)).1
        rw [hrn] at hh
        obtain ⟨x, hx⟩ : ∃ x, gt (rowL M i) f = x := ⟨_, rfl⟩
        rw [hx] at hcx
        have HX := Lib.hid hx
        obtain ⟨c0, c1, c2, c3⟩ := HCV.out wr HB2.out
        have hf0 : (f : Int) < (N : Int) := by omega
        clear hro hrn hx e1 e2 hxb hxc HU
        by_cases hx0 : x = 0
        · have HX0 := Lib.hid hx0
          have y0 : (x == 0) = true := by simp [hx0]
          have y1 : (x != 0) = false := by simp [hx0]
          clear hx0
          go_wp2
          go_roundw
          case rel => exact ⟨k + 1, by omega, by go_num, by first | trivial | rfl, fun t ht => by
            by_cases e : t = k
            · rw [e, HGU.out, Int.toNat_natCast, HX.out]; exact HX0.out
            · exact HNO.out t (by omega)⟩
          case measure => simp [intOf]; omega
        · have y0 : (x == 0) = false := by simpa using hx0
          have y1 : (x != 0) = true := by simpa using hx0
          have HF2 : Hid (knownV M pz cols v = -1) := by
            show _ = _
            rw [HK.out, if_neg]
            rw [HLO.out, List.all_eq_true]
            intro h
            have := h _ (mem_gt.2 ⟨k, hlt, HGU.out⟩)
            rw [Int.toNat_natCast, HX.out] at this
            exact hx0 (by simpa using this)
          go_wp2
          go_ret
          exact ⟨ret_i64 HF2.out.symm, HBW.out⟩
      · obtain rfl : k = fz.length := by omega
        have HF2 : Hid (knownV M pz cols v = (i : Int)) := by
          show _ = _
          rw [HK.out, if_pos]
          rw [HLO.out, List.all_eq_true]
          intro f hf
          obtain ⟨t, ht, e⟩ := mem_gt.1 hf
          have := HNO.out t ht
          rw [e] at this
          rw [this]; rfl
        go_wp2
        go_ret
        exact ⟨ret_i64 HF2.out.symm, HBW.out⟩
end Go.Proofs.YtgbnfhfkehpfaaaGreat
/- What is known: the two sides agree. Plain words. Speaks of no program. -/
namespace Go.Proofs.YtgbnfhfkehpfaaaGreat
open Go.RowKit

theorem short_zero {v : List Int} {c : Nat} (hc : c < v.length) (hg : gcdL v ≠ 0) : gt (shortL v) c = 0 ↔ gt v c = 0 := by
  have e := gt_short hc
  constructor
  · intro h; rw [e, h]; simp
  · intro h
    rw [h] at e
    rcases Int.mul_eq_zero.mp e.symm with e2 | e2
    · omega
    · exact e2
theorem known_same {m : List (List Int)} (hv : validM m = true) {j : Nat} (hj : j < colsM m) :
    (decide (0 ≤ knownV (redN m (upTo (colsM m))).rows (redN m (upTo (colsM m))).piv (colsM m) (j : Int)) = rknownB m j) := by
  obtain ⟨_, hm6, _, _, _⟩ := validM_of hv
  have h := basis_fin hv
  unfold rknownB basisM
  obtain ⟨r, hr⟩ : ∃ r, redN m (upTo (colsM m)) = r := ⟨_, rfl⟩
  rw [hr] at h ⊢
  obtain ⟨N, hN⟩ : ∃ N, colsM m = N := ⟨_, rfl⟩
  rw [hN] at h hj ⊢
  rw [Bool.eq_iff_iff, decide_eq_true_eq, List.all_eq_true]
  have hz : ∀ f, f < N → (f : Int) ∉ r.piv → (gt (shortL (kvec r N f)) j = 0 ↔ gt (kvec r N f) j = 0) := fun f hf hn => short_zero (by rw [kvec_len]; exact hj) (h.kvec_gcd hm6 (Nat.le_refl _) hf hn)
  have all : (∀ x ∈ (freeTo r.piv N).map (fun c => shortL (kvec r N c.toNat)), (gt x j == 0) = true) ↔ ∀ f, f < N → (f : Int) ∉ r.piv → gt (kvec r N f) j = 0 := by
    constructor
    · intro ha f hf hn
      have := ha _ (List.mem_map.2 ⟨(f : Int), (freeTo_mem _ _ _).2 ⟨f, hf, rfl, hn⟩, rfl⟩)
      rw [Int.toNat_natCast] at this
      exact (hz f hf hn).1 (by simpa using this)
    · intro ha x hx
      obtain ⟨c, hc, rfl⟩ := List.mem_map.1 hx
      obtain ⟨f, hf, rfl, hn⟩ := (freeTo_mem _ _ _).1 hc
      rw [Int.toNat_natCast]
      simpa using (hz f hf hn).2 (ha f hf hn)
  rw [all]
  rcases indexV_at r.piv (j : Int) with e | ⟨i, e, hi, hp⟩
  · have hn : (j : Int) ∉ r.piv := by
      have hm := indexV_mem (xs := r.piv) (v := (j : Int))
      rw [e] at hm
      intro hin
      rw [decide_eq_true hin] at hm
      exact absurd hm (by decide)
    unfold knownV
    rw [e, if_pos (by decide)]
    constructor
    · intro hh; omega
    · intro ha
      have := ha j hj hn
      rw [h.kvec_free hm6 (Nat.le_refl _) hj hn] at this
      have := h.pos; omega
  · have hpj : pivN r i = j := by have := h.pivN_eq hi; omega
    unfold knownV
    rw [e, if_neg (by omega), Int.toNat_natCast]
    have hl : loneR r.rows r.piv N i = true ↔ ∀ f, f < N → (f : Int) ∉ r.piv → gt (rowL r.rows i) f = 0 := by
      unfold loneR
      rw [List.all_eq_true]
      constructor
      · intro ha f hf hn
        have := ha _ ((freeTo_mem _ _ _).2 ⟨f, hf, rfl, hn⟩)
        rw [Int.toNat_natCast] at this
        simpa using this
      · intro ha x hx
        obtain ⟨f, hf, rfl, hn⟩ := (freeTo_mem _ _ _).1 hx
        rw [Int.toNat_natCast]
        simpa using ha f hf hn
    have hk : (∀ f, f < N → (f : Int) ∉ r.piv → gt (kvec r N f) j = 0) ↔ ∀ f, f < N → (f : Int) ∉ r.piv → gt (rowL r.rows i) f = 0 := by
      constructor <;> intro ha f hf hn <;> have h1 := h.kvec_piv hm6 (Nat.le_refl _) hf hn hi <;> rw [hpj] at h1 <;> have h2 := ha f hf hn <;> omega
    rw [hk, ← hl]
    cases loneR r.rows r.piv N i
    · simp
    · simp
end Go.Proofs.YtgbnfhfkehpfaaaGreat
/- What is known does not hang on the numbers behind the rows; the row of a pivot as a sum of rows. Plain words. Speaks of no program. -/
namespace Go.Proofs.YtgbnfhfkehpfaaaGreat
open Go.RowKit

variable {R N cols : Nat} {A0 : Nat → Nat → Int} {r : Rd}
end Go.Proofs.YtgbnfhfkehpfaaaGreat
/- The fits of the reference are those of the program: more columns than the rank carry no fit. -/
namespace Go.Proofs.YtgbnfhfkehpfaaaGreat
open Go.RowKit

end Go.Proofs.YtgbnfhfkehpfaaaGreat
/- sparsest of the reference of layer 4: a contract. -/
namespace Go.Proofs.YtgbnfhfkehpfaaaGreat
open Go.RowKit Go.Shelf

theorem RowI.at {base : Nat} {v : Value} {xs : List FitV} {W : World} (h : RowI base v xs W) : ∃ a cap, v = .slice a xs.length cap ∧ ∀ k x, xs[k]? = some x → ∃ g, a = some ⟨g, 0, none⟩ ∧ W.cell? ⟨g, k * 2, none⟩ = some (.slice x.qa x.px.length x.qc) ∧ W.cell? ⟨g, k * 2 + 1, none⟩ = some (.slice x.va x.vs.length x.vc) ∧ FitR x W := by
  rcases h.own.form with ⟨e, rfl⟩ | ⟨g, cap', rfl⟩
  · exact ⟨none, 0, e, fun k x hk => by simp at hk⟩
  · refine ⟨_, cap', rfl, fun k x hk => ?_⟩
    obtain ⟨c1, c2⟩ := h.own.cell hk
    exact ⟨g, rfl, c1, c2, h.mem x (List.mem_of_getElem? hk)⟩
end Go.Proofs.YtgbnfhfkehpfaaaGreat
/- Fits of the reference of layer 4: a contract. -/
namespace Go.Proofs.YtgbnfhfkehpfaaaGreat
open Go.RowKit Go.Shelf

def shortF (k : Int) (Z : List (List Int × List (Int × Int))) : List (List Int × List (Int × Int)) := Z.filter fun q => decide ((q.1.length : Int) ≤ k)
def fitsKV (m : List (List Int)) (y : List Int) (k : Int) : List (List Int × List (Int × Int)) × Int := if readE m y = 0 then (if rangeB k 0 10 = true then (shortF k (allFits m y), 0) else ([], 7)) else ([], readE m y)
end Go.Proofs.YtgbnfhfkehpfaaaGreat
/- The values that are no whole numbers within a million: contracts of the closure and of ContainsFunc over it. -/
namespace Go.Proofs.YtgbnfhfkehpfaaaGreat
open Go.RowKit Go.Shelf

end Go.Proofs.YtgbnfhfkehpfaaaGreat
/- The whole fits of both sides are one list. -/
namespace Go.Proofs.YtgbnfhfkehpfaaaGreat
open Go.RowKit Go.Shelf

theorem shortF_row {m : List (List Int)} {y : List Int} (k j : Nat) : shortF k ((compl (colsM m) j 0).filterMap fun px => (fitO zB m y px).map fun vs => (px, vs)) = if j ≤ k then (compl (colsM m) j 0).filterMap fun px => (fitO zB m y px).map fun vs => (px, vs) else [] := by
  have hlen : ∀ q ∈ ((compl (colsM m) j 0).filterMap fun px => (fitO zB m y px).map fun vs => (px, vs)), q.1.length = j := fun q hq => by
    obtain ⟨px, hpx, e⟩ := List.mem_filterMap.1 hq
    obtain ⟨vs, _, rfl⟩ := Option.map_eq_some_iff.1 e
    exact (compl_mem hpx).1
  unfold shortF
  split
  · exact List.filter_eq_self.2 fun q hq => by have := hlen q hq; simp; omega
  · exact List.filter_eq_nil_iff.2 fun q hq => by have := hlen q hq; simp; omega
end Go.Proofs.YtgbnfhfkehpfaaaGreat
/- slices.Collect over fits; Fits of layer 4: contracts. -/
namespace Go.Proofs.YtgbnfhfkehpfaaaGreat
open Go.RowKit Go.Shelf
attribute [local go_sem] Oper.semAt_some

theorem SpI.went2 {w : World} {FB : Nat} {v : Value} {pre : List FitV} {C T : Blk} {W W2 w' : World} {x : FitV} {g cap : Nat} (h : SpI w FB v pre C T W) (hx : MemF x W) (hown : ∀ b, ownF x b → T b) (hb : Below W.heap.size W W2) (hp : PushedF W2 (FB + 1) v pre x g cap w') :
    Went (fun pre C T W => ∃ v, True ∧ SpI w FB v pre C T W) ownF pre x C T W (w'.setCell ⟨FB, 0, none⟩ (.slice (some ⟨g, 0, none⟩) (pre.length + 1) cap)) := by
  obtain ⟨h1, ⟨_, h2⟩, h3⟩ := h.push hx hown hb hp
  refine ⟨_, _, ⟨_, trivial, h1⟩, fun b hb hl hn => ⟨hb, hn, hl⟩, fun b hb => ?_, h3.mono fun b _ e => .inl ((h.cc b).2 (e.elim .inl fun e => .inr (.inl e)))⟩
  rcases hb with rfl | rfl | ⟨z, hz, e⟩
  · exact .inl ((h.cc _).2 (.inl rfl))
  · rcases h2 with e | e
    · exact .inl ((h.cc _).2 (.inr (.inl e)))
    · exact .inr (.inr e)
  · rcases List.mem_append.1 hz with hz | hz
    · exact .inl ((h.cc _).2 (.inr (.inr ⟨z, hz, e⟩)))
    · obtain rfl := List.mem_singleton.1 hz
      exact .inr (.inl e)
theorem SpI.start (w : World) : SpI w w.heap.size (.slice none 0 0) [] (fun b => b = w.heap.size) (fun _ => False) (w.alloc (.cells #[.slice none 0 0] 78)) :=
  ⟨Nat.le_refl _, alloc_cell _ _ _ _ _ rfl, by simp, OwnF.nil _ _, (Below.refl _ _).alloc (Nat.le_refl _) _, fun _ _ e => e, fun b e => (by cases e), fun b => ⟨.inl, fun e => e.elim id fun e => e.elim (fun e => (by cases e)) fun ⟨x, hx, _⟩ => (by cases hx)⟩, fun x hx => (by cases hx), fun x hx => (by cases hx)⟩
theorem boxes4 (w1 : World) (u v : Value) (k : Int) (f : Value) (t1 t3 t4 t5 : TypeId) : let V := (((w1.alloc (.cells #[u, v] t1)).alloc (.cells #[u, v] t3)).alloc (.cells #[.int .i64 k] t4)).alloc (.cells #[f] t5)
    V.heap.size = w1.heap.size + 1 + 3 ∧ Below w1.heap.size w1 V ∧ V.cell? ⟨w1.heap.size + 1, 0, none⟩ = some u ∧ V.cell? ⟨w1.heap.size + 1, 1, none⟩ = some v ∧ V.cell? ⟨w1.heap.size + 1 + 1, 0, none⟩ = some (.int .i64 k) ∧ V.cell? ⟨w1.heap.size + 1 + 1 + 1, 0, none⟩ = some f := by
  obtain ⟨A, hA⟩ : ∃ A, w1.alloc (.cells #[u, v] t1) = A := ⟨_, rfl⟩
  obtain ⟨C, hC⟩ : ∃ C, A.alloc (.cells #[u, v] t3) = C := ⟨_, rfl⟩
  obtain ⟨D, hD⟩ : ∃ D, C.alloc (.cells #[.int .i64 k] t4) = D := ⟨_, rfl⟩
  obtain ⟨E, hE⟩ : ∃ E, D.alloc (.cells #[f] t5) = E := ⟨_, rfl⟩
  intro V
  have hV : V = E := by show (((w1.alloc (.cells #[u, v] t1)).alloc _).alloc _).alloc _ = E; rw [hA, hC, hD, hE]
  have sA : A.heap.size = w1.heap.size + 1 := by rw [← hA]; exact World.size_alloc _ _
  have sC : C.heap.size = w1.heap.size + 1 + 1 := by rw [← hC, World.size_alloc, sA]
  have sD : D.heap.size = w1.heap.size + 1 + 1 + 1 := by rw [← hD, World.size_alloc, sC]
  have sE : E.heap.size = w1.heap.size + 1 + 3 := by rw [← hE, World.size_alloc, sD]
  have bA : Below w1.heap.size w1 A := by rw [← hA]; exact (Below.refl _ _).alloc (Nat.le_refl _) _
  have bC : Below A.heap.size A C := by rw [← hC]; exact (Below.refl _ _).alloc (Nat.le_refl _) _
  have bD : Below C.heap.size C D := by rw [← hD]; exact (Below.refl _ _).alloc (Nat.le_refl _) _
  have bE : Below D.heap.size D E := by rw [← hE]; exact (Below.refl _ _).alloc (Nat.le_refl _) _
  have bCE : Below C.heap.size C E := bD.trans (bE.mono bD.size)
  have bAE : Below A.heap.size A E := bC.trans (bCE.mono bC.size)
  rw [hV]
  refine ⟨sE, bA.trans (bAE.mono bA.size), ?_, ?_, ?_, ?_⟩
  · rw [← sA]; exact (bCE.cell (p := ⟨A.heap.size, 0, none⟩) (by show A.heap.size < C.heap.size; omega)).trans (by rw [← hC]; exact alloc_cell _ _ _ _ _ rfl)
  · rw [← sA]; exact (bCE.cell (p := ⟨A.heap.size, 1, none⟩) (by show A.heap.size < C.heap.size; omega)).trans (by rw [← hC]; exact alloc_cell _ _ _ _ _ rfl)
  · rw [← sC]; exact (bE.cell (p := ⟨C.heap.size, 0, none⟩) (by show C.heap.size < D.heap.size; omega)).trans (by rw [← hD]; exact alloc_cell _ _ _ _ _ rfl)
  · rw [← sD, ← hE]; exact alloc_cell _ _ _ _ _ rfl
theorem short_to {m : List (List Int)} {y : List Int} (k : Nat) : ∀ j, shortF k (fitsTo zB m y j) = fitsTo zB m y (min j (k + 1))
  | 0 => by simp [fitsTo, shortF]
  | j + 1 => by
    have e : shortF k (fitsTo zB m y (j + 1)) = shortF k (fitsTo zB m y j) ++ shortF k ((compl (colsM m) j 0).filterMap fun px => (fitO zB m y px).map fun vs => (px, vs)) := by
      rw [fitsTo_succ]; unfold shortF; rw [List.filter_append]
    rw [e, short_to k j, shortF_row]
    by_cases h : j ≤ k
    · rw [if_pos h, show min j (k + 1) = j by omega, show min (j + 1) (k + 1) = j + 1 by omega, fitsTo_succ]
    · rw [if_neg h, List.append_nil, show min j (k + 1) = k + 1 by omega, show min (j + 1) (k + 1) = k + 1 by omega]
theorem fits_ok {m : List (List Int)} {y : List Int} {kk : Nat} (hr : readE m y = 0) (hk : kk ≤ 10) : fitsKV m y kk = (fitsTo zB m y (min kk (rankM m) + 1), 0) := by
  have hb : rangeB (kk : Int) 0 10 = true := by simp [rangeB]; omega
  unfold fitsKV
  rw [if_pos hr, if_pos hb]
  unfold allFits
  rw [short_to, show min (min 10 (rankM m) + 1) (kk + 1) = min kk (rankM m) + 1 by omega]
theorem fits_no {m : List (List Int)} {y : List Int} {k : Int} (h : upE m y k ≠ 0) : fitsKV m y k = ([], upE m y k) := by
  unfold upE at h ⊢
  unfold fitsKV
  split
  · rename_i h1
    rw [if_pos h1] at h
    split
    · rename_i h2; rw [if_pos h2] at h; exact absurd rfl h
    · rfl
  · rfl
end Go.Proofs.YtgbnfhfkehpfaaaGreat
/- Fits of layer 4 once more, with where its memory lies: contracts. Written by mk_dfits.py. -/
namespace Go.Proofs.YtgbnfhfkehpfaaaGreat
open Go.RowKit Go.Shelf
attribute [local go_sem] Oper.semAt_some

def FsN (lo hi : Nat) (W : World) (a : Option Addr) (l : List (List Int × List (Int × Int))) : Prop := ∀ k p, l[k]? = some p → ∃ b x, a = some ⟨b, 0, none⟩ ∧ (lo ≤ b ∧ b < hi) ∧ W.cell? ⟨b, k * 2, none⟩ = some (.slice x.qa x.px.length x.qc) ∧ W.cell? ⟨b, k * 2 + 1, none⟩ = some (.slice x.va x.vs.length x.vc) ∧ MemF x W ∧ keyF x = p ∧ ∀ c, ownF x c → lo ≤ c ∧ c < hi
theorem OwnF.fsN {W : World} {base lo : Nat} {a : Option Addr} {n cap : Nat} {xs : List FitV} (h : OwnF W base (.slice a n cap) xs) (hlo : lo ≤ base) (hm : ∀ x ∈ xs, MemF x W) (hn : ∀ x ∈ xs, ∀ b, ownF x b → lo ≤ b) : n = xs.length ∧ FsN lo W.heap.size W a (xs.map keyF) := by
  rcases h.form with ⟨e, rfl⟩ | ⟨g, cap', e⟩
  · have : n = 0 := by simpa using congrArg (fun v => match v with | .slice _ n _ => n | _ => 0) e
    exact ⟨this, fun k p hk => by simp at hk⟩
  · obtain ⟨rfl, rfl, rfl⟩ : a = some ⟨g, 0, none⟩ ∧ n = xs.length ∧ cap = cap' := by simpa using e
    refine ⟨rfl, fun k p hk => ?_⟩
    rw [List.getElem?_map] at hk
    obtain ⟨x, hx, rfl⟩ := Option.map_eq_some_iff.1 hk
    obtain ⟨c1, c2⟩ := h.cell hx
    have hx2 := List.mem_of_getElem? hx
    have hg := World.ownsRow.lt h g rfl
    exact ⟨g, x, rfl, ⟨by omega, hg.2⟩, c1, c2, hm x hx2, rfl, fun c hc => ⟨hn x hx2 c hc, memF_lt (hm x hx2) hc⟩⟩
def SpJ (w : World) (FB : Nat) (pre : List FitV) (C T : Blk) (W : World) : Prop := (∃ v, True ∧ SpI w FB v pre C T W) ∧ ∀ x ∈ pre, ∀ b, ownF x b → FB ≤ b
theorem SpJ.client {w : World} {FB : Nat} : Client (SpJ w FB) where
  lt := fun h => (SpI.client (p := fun _ _ => True) (q := fun pre => pre)).lt h.1
  keep := fun h ht hT => ⟨(SpI.client (p := fun _ _ => True) (q := fun pre => pre)).keep h.1 ht hT, h.2⟩
theorem SpJ.went {w : World} {FB : Nat} {v : Value} {pre : List FitV} {C T : Blk} {W W2 w' : World} {x : FitV} {g cap : Nat} (h : SpI w FB v pre C T W) (h0 : ∀ x ∈ pre, ∀ b, ownF x b → FB ≤ b) (hx : MemF x W) (hown : ∀ b, ownF x b → T b) (hb : Below W.heap.size W W2) (hp : PushedF W2 (FB + 1) v pre x g cap w') :
    Went (SpJ w FB) ownF pre x C T W (w'.setCell ⟨FB, 0, none⟩ (.slice (some ⟨g, 0, none⟩) (pre.length + 1) cap)) := by
  obtain ⟨C', T', h1, h2, h3, h4⟩ := SpI.went2 h hx hown hb hp
  refine ⟨C', T', ⟨h1, fun z hz b hzb => ?_⟩, h2, h3, h4⟩
  rcases List.mem_append.1 hz with hz | hz
  · exact h0 z hz b hzb
  · obtain rfl := List.mem_singleton.1 hz
    by_cases hle : FB ≤ b
    · exact hle
    · exact absurd (hown b hzb) (h.nt b (by omega))
set_option maxRecDepth 1000000 in
set_option maxHeartbeats 4000000 in
theorem appendN_in {gf : Nat} {lb : Array Value} (eg : ∀ args w, (callFunc gf args).run Tryz.prog w = .ok (.enter gf args) w) {Z : List (List Int × List (Int × Int))} {need : Blk} {w wq : World} (hseq : SeqM Tryz.prog gf lb encF MemF ownF keyF Z need wq) (hb : Below wq.heap.size wq w) (hneed : ∀ b, need b → b < w.heap.size) (hZ : Z.length ≤ 10000) :
    CallsIn Fence.wide 50 Tryz.prog 113 #[.slice none 0 0, .func (.func gf) #[] lb] w fun e w' => ∃ ca cc, e = .returned (.slice ca Z.length cc) ∧ FsN w.heap.size w'.heap.size w' ca Z ∧ Below w.heap.size w w' := by
  have HI0 := Lib.hid (SpI.start w)
  obtain ⟨FB, hFB⟩ : ∃ FB, w.heap.size = FB := ⟨_, rfl⟩
  obtain ⟨V0, hV0⟩ : ∃ V0, w.alloc (.cells #[.slice none 0 0] 78) = V0 := ⟨_, rfl⟩
  have hVs : V0.heap.size = w.heap.size + 1 := by rw [← hV0]; exact World.size_alloc _ _
  rw [hV0] at HI0
  rw [hFB] at HI0 hVs hneed
  have HFB := Lib.hid hFB
  have HVS := Lib.hid hVs
  have HSEQ := Lib.hid hseq
  have HB := Lib.hid hb
  have HNEED := Lib.hid hneed
  have HZ := Lib.hid hZ
  clear hVs hseq hb hneed hZ
  refine callsIn_of_wp_marks Tryz.func113 rfl trivial ?_ rfl
  simp only [Tryz.ntmps113, List.size_toArray, List.length_cons, List.length_nil, Nat.reduceAdd, Nat.reduceSub, Array.replicate_succ, Array.replicate_zero, List.push_toArray, List.append_toArray, List.nil_append, List.cons_append]
  gi_wp2
  clear hV0 hFB
  refine wpIn_rangeFunc_M2 (by omega) (gf := gf) (lb := lb) rfl eg HSEQ.out (HB.out.trans (HI0.out.bw.mono HB.out.size)) (fun _ => rfl) memF_put
    (SpJ w FB) (fun _ _ _ _ _ => False) SpJ.client (fun _ => ⟨fun h => h.elim, fun h => h.elim⟩) (fun b => b = FB) (fun _ => False) ?need (fun _ e => e.elim) ⟨⟨_, trivial, HI0.out⟩, fun x hx => by cases hx⟩
    (fun x X => { tmps := #[.slice none 0 0, .func (.func gf) #[] lb, .pointer (some ⟨FB, 0, none⟩), undef, .slice none 0 0, .pointer (some ⟨X.heap.size, 0, none⟩), .func (.func gf) #[] lb, fitV x, undef, undef, undef, undef, undef], defers := [] }) (fun x X => X.alloc (.cells #[.slice x.qa x.px.length x.qc, .slice x.va x.vs.length x.vc] 106)) (fun x W => (Below.refl _ _).alloc (Nat.le_refl _) _) (fun x W W' h hb => ⟨h.sl.below hb, h.rl.below hb, fun ad e => ⟨(h.q ad e).1, Nat.lt_of_lt_of_le (h.q ad e).2 hb.size⟩, fun ad e => ⟨(h.v ad e).1, Nat.lt_of_lt_of_le (h.v ad e).2 hb.size⟩⟩) ?assign ?body ?done ?stop
  case need =>
    have h2 := HVS.out
    intro b hb
    have := HNEED.out b hb
    exact ⟨by omega, by omega⟩
  case assign =>
    rintro l2 ⟨qa, qc, px, va, vc, vs⟩ V K hK
    dsimp only
    gi_wp2
    exact hK
  case body =>
    rintro l2 pre x C T X W ⟨⟨v, _, hI⟩, hnw⟩ hmem hown ⟨rest, hrest⟩ hcl
    have hb0 := hcl _ _ (alloc_cell X #[.slice x.qa x.px.length x.qc, .slice x.va x.vs.length x.vc] 106 0 (.slice x.qa x.px.length x.qc) rfl)
    have hb1 := hcl _ _ (alloc_cell X #[.slice x.qa x.px.length x.qc, .slice x.va x.vs.length x.vc] 106 1 (.slice x.va x.vs.length x.vc) rfl)
    have HI := Lib.hid hI
    have HNW := Lib.hid hnw
    have HMX := Lib.hid hmem
    have HOWN := Lib.hid hown
    have HP : Hid (pre.length ≤ 100000) := by
      show _ ≤ _
      have e := congrArg List.length hrest
      have := HZ.out
      simp at e
      omega
    have hr := hI.r
    have hfr := hI.fr
    have HO2 : Hid (OwnF W (FB + 1) v pre) := hI.own
    have HFW2 : Hid (FB + 1 ≤ W.heap.size) := by have := cell_lt hr; show _ ≤ _; dsimp only at this; omega
    clear hI hnw hmem hown hrest hcl
    try dsimp only
    gi_wp2_with (gi_at_builtin; go_must (refine wpListIn_pushF rfl (.tmp 8) (.tmp 10) rfl (FB + 1) _ pre x W _ _ rfl rfl rfl HO2.out HP.out HFW2.out ?_); intro g gc w' hp; have HPU := Lib.hid hp; obtain ⟨z1, z2⟩ := SpI.pcell HI.out (Below.refl _ _) hp; clear hp)
    exact SpJ.went HI.out HNW.out HMX.out HOWN.out (Below.refl _ _) HPU.out
  case done =>
    rintro D xs C T V hD hxs ⟨⟨v, _, hI⟩, hnw⟩ hTD hK
    have HI := Lib.hid hI
    have HNW := Lib.hid hnw
    have HTD := Lib.hid hTD
    have HK := Lib.hid hK
    have HXS := Lib.hid hxs
    have hr := hI.r
    have hfm := hI.own.form
    clear hI hnw hTD hK hxs hD
    have hv : ∃ ca cc, v = .slice ca xs.length cc := by
      rcases hfm with ⟨e, e2⟩ | ⟨g, cap, e⟩
      · exact ⟨none, 0, by rw [e, e2]; rfl⟩
      · exact ⟨_, _, e⟩
    clear hfm
    obtain ⟨ca, cc, rfl⟩ := hv
    obtain ⟨xl, hxl⟩ : ∃ xl, xs.length = xl := ⟨_, rfl⟩
    have HXL := Lib.hid hxl
    rw [hxl] at hr HI
    clear hxl
    gi_wp2
    refine sp_leaves (ms := [D]) (r := .slice ca xl cc) (by intro W; simp [results, Tryz.results113, go_sem]) HI.out (fun E hE => ?_) (by simp) (fun E hE => ?_) (fun W h => ⟨ca, cc, by rw [← HXS.out, List.length_map, HXL.out], by rw [← HXS.out]; exact (OwnF.fsN h.own (Nat.le_succ_of_le h.lo) (fun z hz => (h.mem z hz).1) fun z hz b hb => Nat.le_trans h.lo (HNW.out z hz b hb)).2, h.bw⟩)
    · obtain rfl : E = D := by simpa using hE
      exact HTD.out
    · obtain rfl : E = D := by simpa using hE
      exact HK.out
  case stop =>
    rintro D c pre C T V hD h
    exact h.elim
set_option maxRecDepth 100000 in
set_option maxHeartbeats 800000 in
theorem collectN_any {gf : Nat} {lb : Array Value} (eg : ∀ args w, (callFunc gf args).run Tryz.prog w = .ok (.enter gf args) w) {Z : List (List Int × List (Int × Int))} {need : Blk} {w wq : World} (hseq : SeqM Tryz.prog gf lb encF MemF ownF keyF Z need wq) (hb : Below wq.heap.size wq w) (hneed : ∀ b, need b → b < w.heap.size) (hZ : Z.length ≤ 10000) :
    Calls Tryz.prog 101 #[.func (.func gf) #[] lb] w fun e w' => ∃ ca cc, e = .returned (.slice ca Z.length cc) ∧ FsN w.heap.size w'.heap.size w' ca Z ∧ Below w.heap.size w w' := by
  have HC := Lib.hid (callsIn_wide.1 (appendN_in eg hseq hb hneed hZ))
  clear hseq hb hneed hZ
  go_enter Tryz.func101, Tryz.ntmps101
  go_wp2_with (go_at_call 113; refine HC.out.mono ?_; rintro e w1 ⟨ca, cc, rfl, hms, hb⟩; have HM := Lib.hid hms; have HB := Lib.hid hb; clear hms hb)
  go_ret
  exact ⟨ca, cc, rfl, HM.out, HB.out⟩
set_option maxRecDepth 1000000 in
set_option maxHeartbeats 1600000 in
theorem sfitsN_any (a : Option Addr) (m : List (List Int)) (cap : Nat) (ya : Option Addr) (y : List Int) (yc : Nat) (k : Int) (w : World) (hm : MOk m) (hly : y.length ≤ 1000) (hs : Ms w a m) (hy : Sl w ya y) :
    Calls Tryz.prog 85 #[.slice a m.length cap, .slice ya y.length yc, .int .i64 k] w fun e w' => Below w.heap.size w w' ∧ ∃ a cap, e = .returned (.tuple #[.slice a (fitsKV m y k).1.length cap, .int .i64 (fitsKV m y k).2]) ∧ FsN w.heap.size w'.heap.size w' a (fitsKV m y k).1 := by
  have h := Lib.hid (askUp_any a m cap ya y yc k w hm (by omega) hs hy)
  by_cases hu : upE m y k = 0
  · have hr : readE m y = 0 := by
      unfold upE at hu
      split at hu
      · assumption
      · exact hu
    have hk : 0 ≤ k ∧ k ≤ 10 := by
      unfold upE at hu
      rw [if_pos hr] at hu
      split at hu
      · rename_i h; simpa [rangeB] using h
      · cases hu
    obtain ⟨kk, rfl⟩ := Int.eq_ofNat_of_zero_le hk.1
    rw [fits_ok hr (by omega)]
    have HUP : Hid (Calls Tryz.prog 100 #[.slice a m.length cap, .slice ya y.length yc, .int .i64 kk] w fun e w' => e = .returned (.tuple #[.agg #[.slice a m.length cap, .slice ya y.length yc], .int .i64 0]) ∧ Below w.heap.size w w') := by
      have h := h.out
      rw [if_pos hu, hu] at h
      exact h
    have HV := Lib.hid (readE_ok hr).1
    have HZL : Hid ((fitsTo zB m y (min kk (rankM m) + 1)).length ≤ 10000) := by
      have := allFits_len HV.out y zB (min kk (rankM m) + 1) (by omega)
      show _ ≤ _
      omega
    obtain ⟨Z, hZ⟩ : ∃ Z, fitsTo zB m y (min kk (rankM m) + 1) = Z := ⟨_, rfl⟩
    have HZZ := Lib.hid hZ
    rw [hZ] at HZL ⊢
    have HS := Lib.hid hs
    have HY := Lib.hid hy
    have HLY := Lib.hid hly
    have HKK : Hid (kk ≤ 10) := by show _ ≤ _; omega
    obtain ⟨ml, hml⟩ : ∃ ml, m.length = ml := ⟨_, rfl⟩
    obtain ⟨yl, hyl⟩ : ∃ yl, y.length = yl := ⟨_, rfl⟩
    have HML := Lib.hid hml
    have HYL := Lib.hid hyl
    rw [hml, hyl] at HUP
    rw [hml, hyl]
    clear h hu hr hk hm hs hy hly hZ hml hyl
    go_enter Tryz.func85, Tryz.ntmps85
    go_wp2_with (first
      | (go_at_call 100; refine HUP.out.mono ?_; rintro e w1 ⟨rfl, hb1⟩; have HB1 := Lib.hid hb1; clear hb1)
      | (go_at_call 102; refine (sfits_any _ _ kk 103 #[] _ ⟨_, _, _, rfl⟩ ⟨_, _, _, rfl⟩).mono ?_; rintro e w3 ⟨rfl, rfl⟩
         obtain ⟨k1, k2, k5, k6, k7, k8⟩ := boxes4 w1 (.slice a ml cap) (.slice ya yl yc) kk (.func (.func 103) #[] #[]) 115 115 3 122
         have HK1 := Lib.hid k1; have HK2 := Lib.hid k2; have HK5 := Lib.hid k5; have HK6 := Lib.hid k6; have HK7 := Lib.hid k7; have HK8 := Lib.hid k8; clear k1 k2 k5 k6 k7 k8
         have hcc : ∀ V0, V0 = ((((w1.alloc (.cells #[.slice a ml cap, .slice ya yl yc] 115)).alloc (.cells #[.slice a ml cap, .slice ya yl yc] 115)).alloc (.cells #[.int .i64 kk] 3)).alloc (.cells #[.func (.func 103) #[] #[]] 122)) → Calls Tryz.prog 101 #[.func (.func 114) #[] #[.pointer (some ⟨w1.heap.size + 1, 0, none⟩), .pointer (some ⟨w1.heap.size + 1 + 1, 0, none⟩), .pointer (some ⟨w1.heap.size + 1 + 1 + 1, 0, none⟩)]] V0 (fun e w' => ∃ ca cc, e = .returned (.slice ca Z.length cc) ∧ FsN V0.heap.size w'.heap.size w' ca Z ∧ Below V0.heap.size V0 w') := (by
           intro V0 hV0
           have k1 := HK1.out; have k2 := HK2.out; have k5 := HK5.out; have k6 := HK6.out; have k7 := HK7.out; have k8 := HK8.out
           rw [← hV0] at k1 k2 k5 k6 k7 k8
           have hbs : ∀ p ∈ ([(⟨w1.heap.size + 1, 0, none⟩, .slice a m.length cap), (⟨w1.heap.size + 1, 1, none⟩, .slice ya y.length yc), (⟨w1.heap.size + 1 + 1, 0, none⟩, .int .i64 (kk : Int)), (⟨w1.heap.size + 1 + 1 + 1, 0, none⟩, .func (.func 103) #[] #[])] : List (Addr × Value)), V0.cell? p.1 = some p.2 := fun p hp => by
             simp only [List.mem_cons, List.not_mem_nil, or_false] at hp
             rcases hp with rfl | rfl | rfl | rfl
             · rw [HML.out]; exact k5
             · rw [HYL.out]; exact k6
             · exact k7
             · exact k8
           have hsq := fits1_seq (wr := zB) (w0 := w) (w := V0) (kk := kk) (ma := a) (mc := cap) (ya := ya) (yc := yc) (Q := w1.heap.size + 1) (KB := w1.heap.size + 1 + 1) (WB := w1.heap.size + 1 + 1 + 1) (wg := 103) (wl := #[]) HV.out HLY.out (by have := HKK.out; omega) HS.out HY.out (HB1.out.trans (k2.mono HB1.out.size)) hbs List.mem_cons_self (List.mem_cons_of_mem _ List.mem_cons_self) (List.mem_cons_of_mem _ (List.mem_cons_of_mem _ List.mem_cons_self)) (List.mem_cons_of_mem _ (List.mem_cons_of_mem _ (List.mem_cons_of_mem _ List.mem_cons_self))) (fun W a vs cap _ h1 h2 => zfunc_any W a vs cap h1 h2)
           rw [HZZ.out] at hsq
           refine collectN_any (enters_of Tryz.func114 (by kernel_rfl) rfl) hsq (Below.refl _ _) ?_ HZL.out
           have s1 := HB1.out.size
           rintro b (h | ⟨p, hp, rfl⟩)
           · omega
           · simp only [List.mem_cons, List.not_mem_nil, or_false] at hp
             rcases hp with rfl | rfl | rfl | rfl <;> (dsimp only; omega))
         have HCC := Lib.hid hcc; clear hcc)
      | (go_at_call 101; refine (HCC.out _ rfl).mono ?_; rintro e w4 ⟨ca, cc, rfl, hfs, hb4⟩; have HFS := Lib.hid hfs; have HB4 := Lib.hid hb4; clear hfs hb4))
    go_ret2
    exact ⟨(HB1.out.trans (HK2.out.mono HB1.out.size)).trans (HB4.out.mono (by have := HK2.out.size; have := HB1.out.size; omega)), ca, cc, rfl, fun k p hk => by obtain ⟨b, x, e, ⟨h1, h2⟩, h3, h4, h5, h6, h7⟩ := HFS.out k p hk; have s1 := HB1.out.size; have s2 := HK2.out.size; exact ⟨b, x, e, ⟨by omega, h2⟩, h3, h4, h5, h6, fun c hc => ⟨by have := (h7 c hc).1; omega, (h7 c hc).2⟩⟩⟩
  · rw [fits_no hu]
    obtain ⟨e0, he0⟩ : ∃ e0, upE m y k = e0 := ⟨_, rfl⟩
    have HUP : Hid (Calls Tryz.prog 100 #[.slice a m.length cap, .slice ya y.length yc, .int .i64 k] w fun e w' => e = .returned (.tuple #[.agg #[.slice none 0 0, .slice none 0 0], .int .i64 e0]) ∧ Below w.heap.size w w') := by
      have h := h.out
      rw [if_neg hu, he0] at h
      exact h
    rw [he0] at hu ⊢
    have y1 : (e0 == 0) = false := by simpa using hu
    have y2 : (e0 != 0) = true := by simpa using hu
    clear h he0 hu hm hs hy
    go_enter Tryz.func85, Tryz.ntmps85
    go_wp2_with (go_at_call 100; refine HUP.out.mono ?_; rintro e w1 ⟨rfl, hb1⟩; have HB1 : Hid (Below w.heap.size w w1) := hb1; clear hb1)
    go_ret2
    exact ⟨HB1.out.alloc HB1.out.size _, none, 0, rfl, fun k p hk => by simp at hk⟩
end Go.Proofs.YtgbnfhfkehpfaaaGreat
/- consider of layer 5, out of what normOf answers: a contract. -/
namespace Go.Proofs.YtgbnfhfkehpfaaaGreat
open Go.RowKit Go.Shelf

structure Bx5 (W : World) (b : Nat) (u v : Value) (N D : Int) (c : Value) : Prop where
  lt : b < W.heap.size
  c0 : W.cell? ⟨b, 0, none⟩ = some u
  c1 : W.cell? ⟨b, 1, none⟩ = some v
  c2 : W.cell? ⟨b, 2, none⟩ = some (.int .i64 N)
  c3 : W.cell? ⟨b, 3, none⟩ = some (.int .i64 D)
  c4 : W.cell? ⟨b, 4, none⟩ = some c
  f2 : W.frozen? ⟨b, 2, none⟩ = false
  f3 : W.frozen? ⟨b, 3, none⟩ = false
  f4 : W.frozen? ⟨b, 4, none⟩ = false
theorem Bx5.next {W W' : World} {b : Nat} {u v : Value} {N D : Int} {c : Value} (h : Bx5 W b u v N D c) (hb : Below W.heap.size W W') : Bx5 W' b u v N D c :=
  ⟨Nat.lt_of_lt_of_le h.lt hb.size, (hb.cell (p := ⟨b, 0, none⟩) h.lt).trans h.c0, (hb.cell (p := ⟨b, 1, none⟩) h.lt).trans h.c1, (hb.cell (p := ⟨b, 2, none⟩) h.lt).trans h.c2, (hb.cell (p := ⟨b, 3, none⟩) h.lt).trans h.c3, (hb.cell (p := ⟨b, 4, none⟩) h.lt).trans h.c4, (hb.frozen (p := ⟨b, 2, none⟩) h.lt).trans h.f2, (hb.frozen (p := ⟨b, 3, none⟩) h.lt).trans h.f3, (hb.frozen (p := ⟨b, 4, none⟩) h.lt).trans h.f4⟩
theorem Bx5.same {W W' : World} {b : Nat} {u v : Value} {N D : Int} {c : Value} (h : Bx5 W b u v N D c) (hs : W.heap.size ≤ W'.heap.size) (hb : W'.heap[b]? = W.heap[b]?) : Bx5 W' b u v N D c :=
  ⟨Nat.lt_of_lt_of_le h.lt hs, (cell_of_block hb 0).trans h.c0, (cell_of_block hb 1).trans h.c1, (cell_of_block hb 2).trans h.c2, (cell_of_block hb 3).trans h.c3, (cell_of_block hb 4).trans h.c4, (frozen_of_block' hb 2).trans h.f2, (frozen_of_block' hb 3).trans h.f3, (frozen_of_block' hb 4).trans h.f4⟩
theorem Bx5.norm {W : World} {b : Nat} {u v : Value} {N D : Int} {c : Value} (h : Bx5 W b u v N D c) (N' D' : Int) (c' : Value) : Bx5 (((W.setCell ⟨b, 2, none⟩ (.int .i64 N')).setCell ⟨b, 3, none⟩ (.int .i64 D')).setCell ⟨b, 4, none⟩ c') b u v N' D' c' := by
  have o : ∀ (V : World) (i j : Nat) (z : Value), i ≠ j → (V.setCell ⟨b, i, none⟩ z).cell? ⟨b, j, none⟩ = V.cell? ⟨b, j, none⟩ := fun V i j z hne => World.cell?_setCell_other _ ⟨b, i, none⟩ ⟨b, j, none⟩ _ (by first | (simp; done) | (simp; omega))
  refine ⟨by rw [World.size_setCell, World.size_setCell, World.size_setCell]; exact h.lt, ?_, ?_, ?_, ?_, ?_, ?_, ?_, ?_⟩
  · rw [o _ _ _ _ (by decide), o _ _ _ _ (by decide), o _ _ _ _ (by decide)]; exact h.c0
  · rw [o _ _ _ _ (by decide), o _ _ _ _ (by decide), o _ _ _ _ (by decide)]; exact h.c1
  · rw [o _ _ _ _ (by decide), o _ _ _ _ (by decide)]; exact World.cell?_setCell_same _ _ _ h.c2
  · rw [o _ _ _ _ (by decide)]; exact World.cell?_setCell_same _ _ _ ((o _ _ _ _ (by decide)).trans h.c3)
  · exact World.cell?_setCell_same _ _ _ ((o _ _ _ _ (by decide)).trans ((o _ _ _ _ (by decide)).trans h.c4))
  · rw [World.frozen?_setCell, World.frozen?_setCell, World.frozen?_setCell]; exact h.f2
  · rw [World.frozen?_setCell, World.frozen?_setCell, World.frozen?_setCell]; exact h.f3
  · rw [World.frozen?_setCell, World.frozen?_setCell, World.frozen?_setCell]; exact h.f4
theorem Bx5.last {W : World} {b : Nat} {u v : Value} {N D : Int} {c : Value} (h : Bx5 W b u v N D c) (c' : Value) : Bx5 (W.setCell ⟨b, 4, none⟩ c') b u v N D c' := by
  have o : ∀ (j : Nat), 4 ≠ j → (W.setCell ⟨b, 4, none⟩ c').cell? ⟨b, j, none⟩ = W.cell? ⟨b, j, none⟩ := fun j hne => World.cell?_setCell_other _ ⟨b, 4, none⟩ ⟨b, j, none⟩ _ (by first | (simp; done) | (simp; omega))
  refine ⟨by rw [World.size_setCell]; exact h.lt, (o 0 (by decide)).trans h.c0, (o 1 (by decide)).trans h.c1, (o 2 (by decide)).trans h.c2, (o 3 (by decide)).trans h.c3, World.cell?_setCell_same _ _ _ h.c4, ?_, ?_, ?_⟩
  · rw [World.frozen?_setCell]; exact h.f2
  · rw [World.frozen?_setCell]; exact h.f3
  · rw [World.frozen?_setCell]; exact h.f4
theorem step_pushF {ops : Array Oper} {o : Oper} {a : Act} {K : Act → World → Prop} {Q : Exit → Act → World → Prop} {E : Prop} (hgd : o.guard = none) (s x : Operand)
    (ho : o.op = .call { callee := .builtin .append, args := #[s, x], argTypes := #[78, 78] }) (base : Nat) (v : Value) (xs : List FitV) (y : FitV) (W : World) (A : Nat)
    (hs : a.eval s = v) (hx : a.eval x = .slice (some ⟨A, 0, none⟩) 1 1) (h0 : W.cell? ⟨A, 0, none⟩ = some (.slice y.qa y.px.length y.qc)) (h1 : W.cell? ⟨A, 1, none⟩ = some (.slice y.va y.vs.length y.vc)) (hown : OwnF W base v xs) (hl : xs.length ≤ 100000) (hbase : base ≤ W.heap.size)
    (h : ∀ g cap w', OwnF w' base (.slice (some ⟨g, 0, none⟩) (xs.length + 1) cap) (xs ++ [y]) → W.grownBy w' v.ownBlock → (v.ownBlock = some g ∨ g = W.heap.size) → K (a.put o.dst (.slice (some ⟨g, 0, none⟩) (xs.length + 1) cap)) w') : if Region.wanted o (yielded ops a.tmps) = true then Oper.wp Tryz.prog o a W K Q else E := by
  obtain ⟨i0, hi, hz0, hz1, hz2⟩ := info_parts Tryz.infoFit
  refine step_append_lies W hgd s x 78 ho base 106 i0 (.agg #[.slice none 0 0, .slice none 0 0]) 2 48 Tryz.underlying78 hi hz0 hz1 hz2 rfl (by decide) v xs.length (flatF xs) hs hown ⟨A, 0, none⟩ 1 1 [.slice y.qa y.px.length y.qc, .slice y.va y.vs.length y.vc] hx rfl ?_ ?_ (by decide) (by unfold maxLen; omega) (by omega) hbase W.heap.size rfl ?_
  · intro j u hj
    match j, hj with
    | 0, hj => simp at hj; subst hj; rw [addr_add]; exact h0
    | 1, hj => simp at hj; subst hj; rw [addr_add]; exact h1
    | j + 2, hj => simp at hj
  · intro u hu; simp at hu; rcases hu with rfl | rfl <;> rfl
  · intro g cap w' h1 h2 h3 _
    refine h g cap w' ?_ h2 h3
    show w'.ownsRow _ _ _ _ _ _
    rw [flatF_snoc, List.length_append]; exact h1
def consX (a b N D : Int) (xs : List FitV) (x : FitV) : (Int × Int) × List FitV := if xs = [] ∨ cmpR a b N D < 0 then ((a, b), [x]) else if cmpR a b N D = 0 then ((N, D), xs ++ [x]) else ((N, D), xs)
def ConsP (lb base : Nat) (u v : Value) (r : (Int × Int) × List FitV) (w : World) (e : Ending) (w' : World) : Prop := e = .returned (.tuple #[]) ∧ Turned (fun b => b = lb ∨ base ≤ b) w w' ∧ ∃ c, Bx5 w' lb u v r.1.1 r.1.2 c ∧ OwnF w' base c r.2
theorem below_turned {lb base : Nat} {w w' : World} (h : Below w.heap.size w w') : Turned (fun b => b = lb ∨ base ≤ b) w w' := ⟨h.os, h.tape, h.output, h.size, fun b hb _ => h.block b hb⟩
theorem cons_done {lb base n G cp : Nat} {u v c : Value} {N D : Int} {xs : List FitV} {x : FitV} {w V5 w9 : World} {ob : Obj} (ht : Turned (fun b => b = lb ∨ base ≤ b) w V5) (hn : Bx5 V5 lb u v N D c) (hlb : lb < base) (_hbs : base ≤ V5.heap.size) (_hw : w.heap.size ≤ V5.heap.size) (_hbw : base ≤ w.heap.size) (hc : ∀ b, c.ownBlock = some b → base ≤ b)
    (ho : OwnF w9 base (.slice (some ⟨G, 0, none⟩) (n + 1) cp) (xs ++ [x])) (hg : (V5.alloc ob).drew.grownBy w9 c.ownBlock) : ConsP lb base u v ((N, D), xs ++ [x]) w (.returned (.tuple #[])) (w9.setCell ⟨lb, 4, none⟩ (.slice (some ⟨G, 0, none⟩) (n + 1) cp)) := by
  have t1 : Turned (fun b => b = lb ∨ base ≤ b) V5 (V5.alloc ob).drew := below_turned (((Below.refl _ _).alloc (Nat.le_refl _) ob).drew)
  have t2 : Turned (fun b => b = lb ∨ base ≤ b) (V5.alloc ob).drew w9 := turned_grown hg fun r e => .inr (hc r e)
  have t3 : Turned (fun b => b = lb ∨ base ≤ b) w9 (w9.setCell ⟨lb, 4, none⟩ (.slice (some ⟨G, 0, none⟩) (n + 1) cp)) := turned_set _ _ (.inl rfl)
  have t4 : Turned (fun b => b = lb ∨ base ≤ b) w (w9.setCell ⟨lb, 4, none⟩ (.slice (some ⟨G, 0, none⟩) (n + 1) cp)) := ((ht.trans t1 fun b h => .inl h).trans t2 fun b h => .inl h).trans t3 fun b h => .inl h
  have hlt := hn.lt
  have e1 : (V5.alloc ob).drew.heap[lb]? = V5.heap[lb]? := (((Below.refl V5.heap.size V5).alloc (Nat.le_refl _) ob).drew).block lb hlt
  have e2 : w9.heap[lb]? = (V5.alloc ob).drew.heap[lb]? := hg.block lb (by simp; omega) fun e => by have := hc lb e.symm; omega
  have s9 : V5.heap.size ≤ w9.heap.size := Nat.le_trans t1.size t2.size
  have hG := World.ownsRow.lt ho G rfl
  refine ⟨rfl, t4, _, (hn.same s9 (e2.trans e1)).last _, ho.same fun b e => ?_⟩
  obtain rfl : G = b := by simpa [Value.ownBlock] using e
  exact Below.heap_setCell _ _ _ _ (by simp; omega)
set_option maxRecDepth 1000000 in
set_option maxHeartbeats 6400000 in
theorem consider_any (lb base : Nat) (u v c : Value) (N D a b : Int) (q : Bool) (xs : List FitV) (x : FitV) (w : World) (hb5 : Bx5 w lb u v N D c) (hown : OwnF w base c xs) (hlb : lb < base) (hbase : base ≤ w.heap.size) (hl : xs.length ≤ 10000) (hN : I64' N) (hD : I64' D) (ha : I64' a) (hb : I64' b)
    (hno : ∀ V, Below w.heap.size w V → Calls Tryz.prog 104 #[.slice x.va x.vs.length x.vc] V fun e w' => e = .returned (.tuple #[.agg #[.int .i64 a, .int .i64 b], .bool q]) ∧ Below V.heap.size V w') :
    Calls Tryz.prog 86 #[.pointer (some ⟨lb, 0, none⟩), .agg #[.slice x.qa x.px.length x.qc, .slice x.va x.vs.length x.vc]] w (ConsP lb base u v (consX a b N D xs x) w) := by
  obtain ⟨c', hc'⟩ : ∃ r, cmpR a b N D = r := ⟨_, rfl⟩
  have HCM : Hid (∀ W, Calls Tryz.prog 105 #[.agg #[.int .i64 a, .int .i64 b], .agg #[.int .i64 N, .int .i64 D]] W fun e w' => e = .returned (.int .i64 c') ∧ Below W.heap.size W w') := fun W => by rw [← hc']; exact compare_any a b N D W ha hb hN hD
  have HCX : Hid (consX a b N D xs x = if xs = [] ∨ c' < 0 then ((a, b), [x]) else if c' = 0 then ((N, D), xs ++ [x]) else ((N, D), xs)) := by show _ = _; unfold consX; rw [hc']
  have HB5 := Lib.hid hb5
  have HOWN := Lib.hid hown
  have HNO := Lib.hid hno
  obtain ⟨V1, hV1⟩ : ∃ V1, w.alloc (.cells #[.slice x.qa x.px.length x.qc, .slice x.va x.vs.length x.vc] 106) = V1 := ⟨_, rfl⟩
  have hbv1 : Below w.heap.size w V1 := by rw [← hV1]; exact (Below.refl _ _).alloc (Nat.le_refl _) _
  have HV1 := Lib.hid hbv1
  have HX1 : Hid (Bx V1 w.heap.size (.slice x.qa x.px.length x.qc) (.slice x.va x.vs.length x.vc)) := by show Bx _ _ _ _; rw [← hV1]; exact Bx.new _ _ _ _
  obtain ⟨_, x0, x1, _, _⟩ := HX1.out
  have hcf : ∃ ca cc, c = .slice ca xs.length cc := by
    rcases hown.form with ⟨e, e2⟩ | ⟨g, cap, e⟩
    · exact ⟨none, 0, by rw [e, e2]; rfl⟩
    · exact ⟨_, _, e⟩
  obtain ⟨ca, cc, rfl⟩ := hcf
  obtain ⟨xl, hxl⟩ : ∃ xl, xs.length = xl := ⟨_, rfl⟩
  have HXL := Lib.hid hxl
  rw [hxl] at HB5 HOWN hl
  clear hb5 hown hno hc' hbv1 hN hD ha hb hxl
  go_enter Tryz.func86, Tryz.ntmps86
  go_wp2_with (go_at_call 104; refine (HNO.out _ HV1.out).mono ?_; rintro e w2 ⟨rfl, hb2⟩; have HB2 := Lib.hid hb2; clear hb2)
  obtain ⟨V3, hV3⟩ : ∃ V3, w2.alloc (.cells #[.int .i64 a, .int .i64 b] 38) = V3 := ⟨_, rfl⟩
  have hb3 : Below w2.heap.size w2 V3 := by rw [← hV3]; exact (Below.refl _ _).alloc (Nat.le_refl _) _
  have HX3 : Hid (Bx V3 w2.heap.size (.int .i64 a) (.int .i64 b)) := by show Bx _ _ _ _; rw [← hV3]; exact Bx.new _ _ _ _
  have HB3 : Hid (Below V1.heap.size V1 V3) := HB2.out.trans (hb3.mono HB2.out.size)
  have HBW3 : Hid (Below w.heap.size w V3) := HV1.out.trans (HB3.out.mono HV1.out.size)
  rw [hV3]
  clear x0 x1 hb3
  obtain ⟨_, x0, x1, _, _⟩ := HX3.out
  obtain ⟨_, k0, k1, k2, k3, k4, _, _, _⟩ := HB5.out.next HBW3.out
  have r0 := cell_regrown x0
  have r1 := cell_regrown x1
  have r2 := cell_regrown k2
  have r3 := cell_regrown k3
  have cC : ∀ W d os, Calls Tryz.prog 105 #[.agg #[.int .i64 a, .int .i64 b], .agg #[.int .i64 N, .int .i64 D]] (Sort.grow (redrawn W d) os) fun e w'' => e = .returned (.int .i64 c') ∧ ∃ p : Regrown, w'' = Sort.grow (redrawn W p.d) p.os := fun W d os => Calls.regrown_of (HCM.out _)
  clear k0 k1 k2 k3 k4 x0 x1
  refine wp_region_quiet_below (by kernel_rfl) (by kernel_rfl) ?_
  repeat (go_big_quiet_step (with_reducible exact cC _ _ _))
  refine wpQuiet_nil ?_
  intro w4 hw4
  have HB4 : Hid (Below V3.heap.size V3 w4) := by
    obtain ⟨⟨d6, o6⟩, rfl⟩ := hw4
    exact below_regrown _ _ _
  clear hw4 r0 r1 r2 r3
  have HBW4 : Hid (Below w.heap.size w w4) := HBW3.out.trans (HB4.out.mono HBW3.out.size)
  have hB4 := HB5.out.next HBW4.out
  obtain ⟨l4, _, _, k2, k3, k4, f2, f3, f4⟩ := hB4
  have x4 := HX3.out.next HB4.out
  obtain ⟨_, n0, n1, _, _⟩ := x4
  have HX4 := Lib.hid (HX1.out.next (HB3.out.trans (HB4.out.mono HB3.out.size)))
  have HSZ : Hid (w.heap.size < w4.heap.size ∧ lb ≠ w.heap.size) := by
    have h1 := HX4.out.lt
    exact ⟨h1, by omega⟩
  by_cases hA : xs = [] ∨ c' < 0
  · have HR : Hid (consX a b N D xs x = ((a, b), [x])) := by show _ = _; rw [HCX.out, if_pos hA]
    obtain ⟨V5, hV5⟩ : ∃ V5, ((w4.setCell ⟨lb, 2, none⟩ (.int .i64 a)).setCell ⟨lb, 3, none⟩ (.int .i64 b)).setCell ⟨lb, 4, none⟩ (.slice none 0 0) = V5 := ⟨_, rfl⟩
    have HN5 : Hid (Bx5 V5 lb u v a b (.slice none 0 0)) := by show Bx5 _ _ _ _ _ _ _; rw [← hV5]; exact (HB5.out.next HBW4.out).norm _ _ _
    have HS5 : Hid (V5.heap.size = w4.heap.size) := by show _ = _; rw [← hV5, World.size_setCell, World.size_setCell, World.size_setCell]
    have HX5 : Hid (Bx V5 w.heap.size (.slice x.qa x.px.length x.qc) (.slice x.va x.vs.length x.vc)) := by
      obtain ⟨a1, a2, a3, a4, a5⟩ := HX4.out
      have hne := HSZ.out.2
      show Bx _ _ _ _
      rw [← hV5]
      exact ⟨by rw [World.size_setCell, World.size_setCell, World.size_setCell]; exact a1, (cell_other _ _ _ _ (Ne.symm hne)).trans ((cell_other _ _ _ _ (Ne.symm hne)).trans ((cell_other _ _ _ _ (Ne.symm hne)).trans a2)), (cell_other _ _ _ _ (Ne.symm hne)).trans ((cell_other _ _ _ _ (Ne.symm hne)).trans ((cell_other _ _ _ _ (Ne.symm hne)).trans a3)), by rw [World.frozen?_setCell, World.frozen?_setCell, World.frozen?_setCell]; exact a4, by rw [World.frozen?_setCell, World.frozen?_setCell, World.frozen?_setCell]; exact a5⟩
    have HT5 : Hid (Turned (fun b => b = lb ∨ base ≤ b) w V5) := by
      show Turned _ _ _
      rw [← hV5]
      have t0 : Turned (fun b => b = lb ∨ base ≤ b) w w4 := below_turned HBW4.out
      exact ((t0.trans (turned_set _ _ (.inl rfl)) fun b h => .inl h).trans (turned_set _ _ (.inl rfl)) fun b h => .inl h).trans (turned_set _ _ (.inl rfl)) fun b h => .inl h
    have HO5 : Hid (OwnF V5 base (.slice none 0 0) []) := OwnF.nil _ _
    have HL6 : Hid (([] : List FitV).length ≤ 100000) := by show _ ≤ _; simp
    have HC6 : Hid (∀ b, (Value.slice none 0 0).ownBlock = some b → base ≤ b) := fun b e => by cases e
    clear HCX HB5 HOWN HBW4
    by_cases h0 : xl = 0
    · have y0 : ((xl : Int) == 0) = true := by simp; omega
      have y1 : (xl == 0) = true := by simp; omega
      clear hA h0
      go_wp2
      obtain ⟨l5, _, _, m2, m3, m4, g2, g3, g4⟩ := HN5.out
      obtain ⟨lx5, z0, z1, _, _⟩ := HX5.out
      have q4 : ∀ ob, (V5.alloc ob).cell? ⟨lb, 4, none⟩ = some (.slice none 0 0) := fun ob => (alloc_old _ _ _ _ l5).trans m4
      have q0 : ∀ ob, (V5.alloc ob).cell? ⟨w.heap.size, 0, none⟩ = some (.slice x.qa x.px.length x.qc) := fun ob => (alloc_old _ _ _ _ lx5).trans z0
      have q1 : ∀ ob, (V5.alloc ob).cell? ⟨w.heap.size, 1, none⟩ = some (.slice x.va x.vs.length x.vc) := fun ob => (alloc_old _ _ _ _ lx5).trans z1
      have p0 : (V5.alloc (.cells #[.slice x.qa x.px.length x.qc, .slice x.va x.vs.length x.vc] 106)).cell? ⟨V5.heap.size, 0, none⟩ = some (.slice x.qa x.px.length x.qc) := alloc_cell _ _ _ _ _ rfl
      have p1 : (V5.alloc (.cells #[.slice x.qa x.px.length x.qc, .slice x.va x.vs.length x.vc] 106)).cell? ⟨V5.heap.size, 1, none⟩ = some (.slice x.va x.vs.length x.vc) := alloc_cell _ _ _ _ _ rfl
      have hbs5 : base ≤ V5.heap.size := by have := HS5.out; have := HSZ.out.1; omega
      go_region_law (refine step_pushF rfl (.tmp 42) (.tmp 44) rfl base _ [] x _ V5.heap.size (by rfl) (by rfl) (by go_simp) (by go_simp) (HO5.out.below (((Below.refl V5.heap.size V5).alloc (Nat.le_refl _) _).drew)) HL6.out (by simp; omega) ?_; intro G cp w9 ho' hg' hat; have e2 := (hg'.block lb (by simp; omega) (fun e => by have := HC6.out lb e.symm; omega)).trans ((((Below.refl V5.heap.size V5).alloc (Nat.le_refl _) (.cells #[.slice x.qa x.px.length x.qc, .slice x.va x.vs.length x.vc] 106)).drew).block lb l5); have c49 := (cell_of_block e2 4).trans m4; have f49 := (frozen_of_block' e2 4).trans g4)
      all_goals
        rw [HR.out]
        go_end0
        exact cons_done HT5.out HN5.out hlb hbs5 (by have := HS5.out; have := HSZ.out.1; omega) hbase HC6.out ho' hg'
    · have y0 : ((xl : Int) == 0) = false := by simp; omega
      have y1 : (xl == 0) = false := by simp; omega
      have hc : c' < 0 := hA.elim (fun e => absurd (HXL.out.symm.trans (by rw [e]; rfl)) h0) id
      have y2 : decide (c' < 0) = true := by simp [hc]
      clear hA h0
      go_wp2
      obtain ⟨l5, _, _, m2, m3, m4, g2, g3, g4⟩ := HN5.out
      obtain ⟨lx5, z0, z1, _, _⟩ := HX5.out
      have q4 : ∀ ob, (V5.alloc ob).cell? ⟨lb, 4, none⟩ = some (.slice none 0 0) := fun ob => (alloc_old _ _ _ _ l5).trans m4
      have q0 : ∀ ob, (V5.alloc ob).cell? ⟨w.heap.size, 0, none⟩ = some (.slice x.qa x.px.length x.qc) := fun ob => (alloc_old _ _ _ _ lx5).trans z0
      have q1 : ∀ ob, (V5.alloc ob).cell? ⟨w.heap.size, 1, none⟩ = some (.slice x.va x.vs.length x.vc) := fun ob => (alloc_old _ _ _ _ lx5).trans z1
      have p0 : (V5.alloc (.cells #[.slice x.qa x.px.length x.qc, .slice x.va x.vs.length x.vc] 106)).cell? ⟨V5.heap.size, 0, none⟩ = some (.slice x.qa x.px.length x.qc) := alloc_cell _ _ _ _ _ rfl
      have p1 : (V5.alloc (.cells #[.slice x.qa x.px.length x.qc, .slice x.va x.vs.length x.vc] 106)).cell? ⟨V5.heap.size, 1, none⟩ = some (.slice x.va x.vs.length x.vc) := alloc_cell _ _ _ _ _ rfl
      have hbs5 : base ≤ V5.heap.size := by have := HS5.out; have := HSZ.out.1; omega
      go_region_law (refine step_pushF rfl (.tmp 42) (.tmp 44) rfl base _ [] x _ V5.heap.size (by rfl) (by rfl) (by go_simp) (by go_simp) (HO5.out.below (((Below.refl V5.heap.size V5).alloc (Nat.le_refl _) _).drew)) HL6.out (by simp; omega) ?_; intro G cp w9 ho' hg' hat; have e2 := (hg'.block lb (by simp; omega) (fun e => by have := HC6.out lb e.symm; omega)).trans ((((Below.refl V5.heap.size V5).alloc (Nat.le_refl _) (.cells #[.slice x.qa x.px.length x.qc, .slice x.va x.vs.length x.vc] 106)).drew).block lb l5); have c49 := (cell_of_block e2 4).trans m4; have f49 := (frozen_of_block' e2 4).trans g4)
      all_goals
        rw [HR.out]
        go_end0
        exact cons_done HT5.out HN5.out hlb hbs5 (by have := HS5.out; have := HSZ.out.1; omega) hbase HC6.out ho' hg'
  · have hne : xs ≠ [] := fun e => hA (.inl e)
    have hx0 : xl ≠ 0 := fun e => hne (List.length_eq_zero_iff.1 (HXL.out.trans e))
    have y0 : ((xl : Int) == 0) = false := by simp; omega
    have y1 : (xl == 0) = false := by simp; omega
    have hc0 : ¬ c' < 0 := fun e => hA (.inr e)
    have y2 : decide (c' < 0) = false := by simp; omega
    by_cases hc1 : c' = 0
    · have HR : Hid (consX a b N D xs x = ((N, D), xs ++ [x])) := by show _ = _; rw [HCX.out, if_neg hA, if_pos hc1]
      have y3 : (c' == 0) = true := by simp [hc1]
      have HN5 := Lib.hid (HB5.out.next HBW4.out)
      have HX5 := HX4
      have HT5 : Hid (Turned (fun b => b = lb ∨ base ≤ b) w w4) := below_turned HBW4.out
      have HO5 : Hid (OwnF w4 base (.slice ca xl cc) xs) := HOWN.out.below HBW4.out
      have HL6 : Hid (xs.length ≤ 100000) := by show _ ≤ _; rw [HXL.out]; omega
      have HC6 : Hid (∀ b, (Value.slice ca xl cc).ownBlock = some b → base ≤ b) := fun b e => (World.ownsRow.lt HO5.out b e).1
      clear HCX HB5 HOWN HBW4 hA hc0 hc1 hne hx0
      go_wp2
      obtain ⟨l5, _, _, m2, m3, m4, g2, g3, g4⟩ := HN5.out
      obtain ⟨lx5, z0, z1, _, _⟩ := HX5.out
      have q4 : ∀ ob, (w4.alloc ob).cell? ⟨lb, 4, none⟩ = some (.slice ca xl cc) := fun ob => (alloc_old _ _ _ _ l5).trans m4
      have q0 : ∀ ob, (w4.alloc ob).cell? ⟨w.heap.size, 0, none⟩ = some (.slice x.qa x.px.length x.qc) := fun ob => (alloc_old _ _ _ _ lx5).trans z0
      have q1 : ∀ ob, (w4.alloc ob).cell? ⟨w.heap.size, 1, none⟩ = some (.slice x.va x.vs.length x.vc) := fun ob => (alloc_old _ _ _ _ lx5).trans z1
      have p0 : (w4.alloc (.cells #[.slice x.qa x.px.length x.qc, .slice x.va x.vs.length x.vc] 106)).cell? ⟨w4.heap.size, 0, none⟩ = some (.slice x.qa x.px.length x.qc) := alloc_cell _ _ _ _ _ rfl
      have p1 : (w4.alloc (.cells #[.slice x.qa x.px.length x.qc, .slice x.va x.vs.length x.vc] 106)).cell? ⟨w4.heap.size, 1, none⟩ = some (.slice x.va x.vs.length x.vc) := alloc_cell _ _ _ _ _ rfl
      have hbs5 : base ≤ w4.heap.size := by have := HSZ.out.1; have := HSZ.out.1; omega
      go_region_law (refine step_pushF rfl (.tmp 42) (.tmp 44) rfl base _ xs x _ w4.heap.size (by rfl) (by rfl) (by go_simp) (by go_simp) (HO5.out.below (((Below.refl w4.heap.size w4).alloc (Nat.le_refl _) _).drew)) HL6.out (by simp; omega) ?_; intro G cp w9 ho' hg' hat; have e2 := (hg'.block lb (by simp; omega) (fun e => by have := HC6.out lb e.symm; omega)).trans ((((Below.refl w4.heap.size w4).alloc (Nat.le_refl _) (.cells #[.slice x.qa x.px.length x.qc, .slice x.va x.vs.length x.vc] 106)).drew).block lb l5); have c49 := (cell_of_block e2 4).trans m4; have f49 := (frozen_of_block' e2 4).trans g4)
      all_goals
        rw [HR.out]
        go_end0
        exact cons_done HT5.out HN5.out hlb hbs5 (by have := HSZ.out.1; omega) hbase HC6.out (by first | exact ho' | (rw [← HXL.out]; exact ho')) hg'
    · have HR : Hid (consX a b N D xs x = ((N, D), xs)) := by show _ = _; rw [HCX.out, if_neg hA, if_neg hc1]
      have y3 : (c' == 0) = false := by simp [hc1]
      clear HCX hA hc0 hc1 hne hx0
      go_wp2
      rw [HR.out]
      go_end0
      exact ⟨rfl, below_turned HBW4.out, _, HB5.out.next HBW4.out, HOWN.out.below HBW4.out⟩
end Go.Proofs.YtgbnfhfkehpfaaaGreat
/- slices.SortFunc of a single fit: a contract. -/
namespace Go.Proofs.YtgbnfhfkehpfaaaGreat
open Go.RowKit

set_option maxRecDepth 1000000 in
theorem len64_1 (w : World) : Calls Tryz.prog 133 #[.int .u64 1] w fun e w' => e = .returned (.int .i64 1) ∧ w = w' := by
  go_enter Tryz.func133, Tryz.ntmps133
  go_wp2
  go_ret
  refine ⟨ret_i64 ?_, rfl⟩
  decide +kernel
theorem len_1 (w : World) : Calls Tryz.prog 107 #[.int .u64 1] w fun e w' => e = .returned (.int .i64 1) ∧ w = w' := by
  go_enter Tryz.func107, Tryz.ntmps107
  go_wp2_with (go_at_call 133; refine (len64_1 _).mono ?_; rintro e w' ⟨rfl, rfl⟩)
  go_ret
  exact ⟨rfl, rfl⟩
set_option maxRecDepth 1000000 in
theorem insert1_any (a : Option Addr) (cap : Nat) (f : Value) (w : World) : Calls Tryz.prog 124 #[.slice a 1 cap, .int .i64 0, .int .i64 1, f] w fun e w' => e = .returned (.tuple #[]) ∧ w = w' := by
  go_enter Tryz.func124, Tryz.ntmps124
  go_wp2
  go_loopw [8] (fun i wr => i = .int .i64 1 ∧ wr = w) (fun _ _ => 1)
  case atStart => exact ⟨rfl, rfl⟩
  case round =>
    obtain ⟨rfl, hw⟩ := hrel
    obtain rfl := hw.symm
    clear hw
    go_wp2
    go_end0
    exact ⟨rfl, rfl⟩
set_option maxRecDepth 1000000 in
theorem pdq1_any (a : Option Addr) (cap : Nat) (l : Int) (f : Value) (w : World) : Calls Tryz.prog 106 #[.slice a 1 cap, .int .i64 0, .int .i64 1, .int .i64 l, f] w fun e w' => e = .returned (.tuple #[]) ∧ w = w' := by
  go_enter Tryz.func106, Tryz.ntmps106
  go_wp2
  go_loopw [1, 2] (fun i j wr => i = .int .i64 0 ∧ j = .int .i64 1 ∧ wr = w) (fun _ _ _ => 1)
  case atStart => exact ⟨rfl, rfl, rfl⟩
  case round =>
    obtain ⟨rfl, rfl, hw⟩ := hrel
    obtain rfl := hw.symm
    clear hw
    go_wp2_with (go_at_call 124; refine (insert1_any _ _ _ _).mono ?_; rintro e w' ⟨rfl, rfl⟩)
    refine bodyPost_ret (v := .tuple #[]) ?_ rfl ⟨rfl, rfl⟩
    simp [results, Tryz.results106, go_sem]
theorem sort1_any (a : Option Addr) (cap : Nat) (f : Value) (w : World) : Calls Tryz.prog 87 #[.slice a 1 cap, f] w fun e w' => e = .returned (.tuple #[]) ∧ w = w' := by
  go_enter Tryz.func87, Tryz.ntmps87
  go_wp2_with (first | (go_at_call 107; refine (len_1 _).mono ?_; rintro e w' ⟨rfl, rfl⟩) | (go_at_call 106; refine (pdq1_any _ _ _ _ _).mono ?_; rintro e w' ⟨rfl, rfl⟩))
  go_end0
  exact ⟨rfl, rfl⟩
end Go.Proofs.YtgbnfhfkehpfaaaGreat
/- ask of layer 5: contracts. -/
namespace Go.Proofs.YtgbnfhfkehpfaaaGreat
open Go.RowKit

theorem dask_ok (ma : Option Addr) (m : List (List Int)) (mc : Nat) (ya : Option Addr) (y : List Int) (yc : Nat) (w : World) (hr : readE m y = 0) (hm : MOk m) (hly : y.length ≤ 9223372036854775807) (hs : Ms w ma m) (hy : Sl w ya y) :
    Calls Tryz.prog 84 #[.slice ma m.length mc, .slice ya y.length yc] w fun e w' => e = .returned (.tuple #[.agg #[.slice ma m.length mc, .slice ya y.length yc], .int .i64 0]) ∧ Below w.heap.size w w' := by
  obtain ⟨V, hV⟩ : ∃ V, w.alloc (.cells #[.slice none 0 0, .slice none 0 0] 77) = V := ⟨_, rfl⟩
  have HBV : Hid (Below w.heap.size w V) := by rw [← hV]; exact (Below.refl _ _).alloc (Nat.le_refl _) _
  have HVW := Lib.hid (box2 hV)
  obtain ⟨t0, t1, t2, t3⟩ := HVW.out V (Below.refl _ _)
  have HPO : Hid (Calls Tryz.prog 14 #[.slice ma m.length mc, .slice ya y.length yc] V fun e w' => ∃ b, e = .returned (.tuple #[.bool b, .int .i64 0]) ∧ Below V.heap.size V w') := by
    refine (lpossible_any ma m mc ya y yc V hm hly (hs.below HBV.out) (hy.below HBV.out)).mono ?_
    rintro e w' ⟨h1, h2⟩
    rw [poss_e, hr] at h1
    exact ⟨_, h1, h2⟩
  clear hr hm hs hy
  go_enter Tryz.func84, Tryz.ntmps84
  go_wp2_with (go_at_call 14; refine HPO.out.mono ?_; rintro e w2 ⟨b, rfl, hb⟩; obtain ⟨u0, u1, u2, u3⟩ := HVW.out w2 hb; have HBW2 : Hid (Below w.heap.size w w2) := HBV.out.trans (hb.mono HBV.out.size); clear hb)
  refine bodyPost_ret (v := .tuple #[.agg #[.slice ma m.length mc, .slice ya y.length yc], .int .i64 0]) ?_ rfl ⟨rfl, (HBW2.out.setCell (p := ⟨w.heap.size, 0, none⟩) (Nat.le_refl _) _).setCell (p := ⟨w.heap.size, 1, none⟩) (Nat.le_refl _) _⟩
  rw [results_cell_tmp rfl]; go_simp
end Go.Proofs.YtgbnfhfkehpfaaaGreat
/- leastOf of layer 5, out of what normOf answers of the fits, where one corner is left: a contract. -/
namespace Go.Proofs.YtgbnfhfkehpfaaaGreat
open Go.RowKit Go.Shelf

def consK (nf : List (Int × Int) → Int × Int) (s : (Int × Int) × List (List Int × List (Int × Int))) (p : List Int × List (Int × Int)) : (Int × Int) × List (List Int × List (Int × Int)) :=
  if s.2 = [] ∨ cmpR (nf p.2).1 (nf p.2).2 s.1.1 s.1.2 < 0 then (nf p.2, [p]) else if cmpR (nf p.2).1 (nf p.2).2 s.1.1 s.1.2 = 0 then (s.1, s.2 ++ [p]) else s
def leastTo (nf : List (Int × Int) → Int × Int) (Z : List (List Int × List (Int × Int))) (k : Nat) : (Int × Int) × List (List Int × List (Int × Int)) := (Z.take k).foldl (consK nf) ((0, 0), [])
theorem leastTo_succ {nf : List (Int × Int) → Int × Int} {Z : List (List Int × List (Int × Int))} {k : Nat} {p : List Int × List (Int × Int)} (h : Z[k]? = some p) : leastTo nf Z (k + 1) = consK nf (leastTo nf Z k) p := by
  unfold leastTo
  rw [List.take_add_one, h, List.foldl_append]; rfl
theorem consX_key {nf : List (Int × Int) → Int × Int} {N D : Int} {xs : List FitV} {x : FitV} : ((consX (nf x.vs).1 (nf x.vs).2 N D xs x).1, (consX (nf x.vs).1 (nf x.vs).2 N D xs x).2.map keyF) = consK nf ((N, D), xs.map keyF) (keyF x) := by
  by_cases h1 : xs = [] ∨ cmpR (nf x.vs).1 (nf x.vs).2 N D < 0
  · have h1' : xs.map keyF = [] ∨ cmpR (nf x.vs).1 (nf x.vs).2 N D < 0 := by simpa using h1
    have e3 : consX (nf x.vs).1 (nf x.vs).2 N D xs x = (((nf x.vs).1, (nf x.vs).2), [x]) := by unfold consX; rw [if_pos h1]
    rw [e3]; unfold consK; dsimp only; exact (if_pos h1').symm
  · have h1' : ¬ (xs.map keyF = [] ∨ cmpR (nf x.vs).1 (nf x.vs).2 N D < 0) := by simpa using h1
    by_cases h2 : cmpR (nf x.vs).1 (nf x.vs).2 N D = 0
    · have e3 : consX (nf x.vs).1 (nf x.vs).2 N D xs x = ((N, D), xs ++ [x]) := by unfold consX; rw [if_neg h1, if_pos h2]
      rw [e3]; unfold consK; dsimp only; refine Eq.trans ?_ ((if_neg h1').trans (if_pos h2)).symm; simp
    · have e3 : consX (nf x.vs).1 (nf x.vs).2 N D xs x = ((N, D), xs) := by unfold consX; rw [if_neg h1, if_neg h2]
      rw [e3]; unfold consK; dsimp only; exact ((if_neg h1').trans (if_neg h2)).symm
theorem leastTo_len (nf : List (Int × Int) → Int × Int) (Z : List (List Int × List (Int × Int))) : ∀ k, k ≤ Z.length → (leastTo nf Z k).2.length ≤ k
  | 0, _ => by simp [leastTo]
  | k + 1, h => by
    have ih := leastTo_len nf Z k (by omega)
    rw [leastTo_succ (p := Z[k]) (by simp)]
    unfold consK
    split
    · simp
    · split
      · simp; omega
      · omega
theorem leastTo_norm {nf : List (Int × Int) → Int × Int} {Z : List (List Int × List (Int × Int))} (hz : ∀ p ∈ Z, I64' (nf p.2).1 ∧ I64' (nf p.2).2) : ∀ k, k ≤ Z.length → I64' (leastTo nf Z k).1.1 ∧ I64' (leastTo nf Z k).1.2
  | 0, _ => by simp [leastTo, I64']
  | k + 1, h => by
    have ih := leastTo_norm hz k (by omega)
    rw [leastTo_succ (p := Z[k]) (by simp)]
    unfold consK
    split
    · exact hz _ (List.getElem_mem _)
    · split
      · exact ih
      · exact ih
theorem Bx5.new (W : World) (u v : Value) (N D : Int) (c : Value) (t : TypeId) : Bx5 (W.alloc (.cells #[u, v, .int .i64 N, .int .i64 D, c] t)) W.heap.size u v N D c := ⟨by rw [World.size_alloc]; omega, alloc_cell _ _ _ _ _ rfl, alloc_cell _ _ _ _ _ rfl, alloc_cell _ _ _ _ _ rfl, alloc_cell _ _ _ _ _ rfl, alloc_cell _ _ _ _ _ rfl, by simp, by simp, by simp⟩
theorem FsN.turned {lo hi : Nat} {T : Blk} {W W' : World} {a : Option Addr} {l : List (List Int × List (Int × Int))} (h : FsN lo hi W a l) (ht : Turned T W W') (hT : ∀ b, lo ≤ b → b < hi → ¬ T b) : FsN lo hi W' a l := fun k p hk => by
  obtain ⟨b, x, e, h1, c1, c2, hm, hk2, ho⟩ := h k p hk
  have hb := hT b h1.1 h1.2
  exact ⟨b, x, e, h1, ht.cell c1 hb, ht.cell c2 hb, memF_turned hm ht fun c hc => hT c (ho c hc).1 (ho c hc).2, hk2, ho⟩
structure LI (lb base lo : Nat) (u v : Value) (nf : List (Int × Int) → Int × Int) (Z : List (List Int × List (Int × Int))) (fa : Option Addr) (w3 : World) (k : Nat) (W : World) : Prop where
  ex : ∃ c xs, Bx5 W lb u v (leastTo nf Z k).1.1 (leastTo nf Z k).1.2 c ∧ OwnF W base c xs ∧ xs.map keyF = (leastTo nf Z k).2 ∧ ∀ z ∈ xs, MemF z W ∧ ∀ b, ownF z b → lo ≤ b ∧ b < base
  fs : FsN lo base W fa Z
  tu : Turned (fun b => b = lb ∨ base ≤ b) w3 W
theorem LI.next {lb base lo : Nat} {u v : Value} {nf : List (Int × Int) → Int × Int} {Z : List (List Int × List (Int × Int))} {fa : Option Addr} {w3 : World} {k : Nat} {W W1 W' : World} {xs : List FitV} {x : FitV} {e : Ending}
    (hlo : lb < lo) (hfs : FsN lo base W fa Z) (htu : Turned (fun b => b = lb ∨ base ≤ b) w3 W) (hk : xs.map keyF = (leastTo nf Z k).2) (hm : ∀ z ∈ xs, MemF z W ∧ ∀ b, ownF z b → lo ≤ b ∧ b < base) (hxm : MemF x W) (hxo : ∀ b, ownF x b → lo ≤ b ∧ b < base) (hp : Z[k]? = some (keyF x))
    (hb : Below W.heap.size W W1) (hc : ConsP lb base u v (consX (nf x.vs).1 (nf x.vs).2 (leastTo nf Z k).1.1 (leastTo nf Z k).1.2 xs x) W1 e W') : LI lb base lo u v nf Z fa w3 (k + 1) W' := by
  obtain ⟨_, ht, c', h5, ho⟩ := hc
  have h0 := consX_key (nf := nf) (N := (leastTo nf Z k).1.1) (D := (leastTo nf Z k).1.2) (xs := xs) (x := x)
  rw [hk, show (((leastTo nf Z k).1.1, (leastTo nf Z k).1.2), (leastTo nf Z k).2) = leastTo nf Z k from rfl, ← leastTo_succ hp] at h0
  have t1 : Turned (fun b => b = lb ∨ base ≤ b) W W' := (below_turned (lb := lb) (base := base) hb).trans ht fun b h => .inl h
  have hT : ∀ b, lo ≤ b → b < base → ¬ (b = lb ∨ base ≤ b) := fun b h1 h2 h3 => by omega
  refine ⟨⟨c', _, ?_, ho, by rw [← h0], fun z hz => ?_⟩, hfs.turned t1 hT, htu.trans t1 fun b h => .inl h⟩
  · rw [← h0]; exact h5
  · have hz2 : z ∈ xs ∨ z = x := by
      unfold consX at hz
      split at hz
      · exact .inr (by simpa using hz)
      · split at hz
        · rcases List.mem_append.1 hz with h | h
          · exact .inl h
          · exact .inr (by simpa using h)
        · exact .inl hz
    have hz3 : MemF z W ∧ ∀ b, ownF z b → lo ≤ b ∧ b < base := hz2.elim (hm z) fun e => by rw [e]; exact ⟨hxm, hxo⟩
    exact ⟨memF_turned hz3.1 t1 fun b hb => hT b (hz3.2 b hb).1 (hz3.2 b hb).2, hz3.2⟩
set_option maxRecDepth 1000000 in
set_option maxHeartbeats 6400000 in
theorem leastOf1_any (nf : List (Int × Int) → Int × Int) (a : Option Addr) (m : List (List Int)) (mc : Nat) (ya : Option Addr) (y : List Int) (yc : Nat) (w : World) (hm : MOk m) (hly : y.length ≤ 1000) (hs : Ms w a m) (hy : Sl w ya y) (hr : readE m y = 0)
    (hzl : (fitsKV m y 10).1.length ≤ 10000) (hnf : ∀ p ∈ (fitsKV m y 10).1, I64' (nf p.2).1 ∧ I64' (nf p.2).2) (h1 : (leastTo nf (fitsKV m y 10).1 (fitsKV m y 10).1.length).2.length = 1)
    (hno : ∀ p ∈ (fitsKV m y 10).1, ∀ W va vc, Rl W va p.2 → Calls Tryz.prog 104 #[.slice va p.2.length vc] W fun e w' => e = .returned (.tuple #[.agg #[.int .i64 (nf p.2).1, .int .i64 (nf p.2).2], .bool true]) ∧ Below W.heap.size W w') :
    Calls Tryz.prog 55 #[.slice a m.length mc, .slice ya y.length yc] w fun e w' => Below w.heap.size w w' ∧ ∃ ca cc, e = .returned (.tuple #[.agg #[.slice a m.length mc, .slice ya y.length yc, .int .i64 (leastTo nf (fitsKV m y 10).1 (fitsKV m y 10).1.length).1.1, .int .i64 (leastTo nf (fitsKV m y 10).1 (fitsKV m y 10).1.length).1.2, .slice ca 1 cc], .int .i64 0]) := by
  have HAS : Hid (∀ W, Below w.heap.size w W → Calls Tryz.prog 84 #[.slice a m.length mc, .slice ya y.length yc] W fun e w' => e = .returned (.tuple #[.agg #[.slice a m.length mc, .slice ya y.length yc], .int .i64 0]) ∧ Below W.heap.size W w') := fun W hb => dask_ok a m mc ya y yc W hr hm (by omega) (hs.below hb) (hy.below hb)
  have HFI : Hid (∀ W, Below w.heap.size w W → Calls Tryz.prog 85 #[.slice a m.length mc, .slice ya y.length yc, .int .i64 10] W fun e w' => Below W.heap.size W w' ∧ ∃ ca cc, e = .returned (.tuple #[.slice ca (fitsKV m y 10).1.length cc, .int .i64 (fitsKV m y 10).2]) ∧ FsN W.heap.size w'.heap.size w' ca (fitsKV m y 10).1) := fun W hb => sfitsN_any a m mc ya y yc 10 W hm hly (hs.below hb) (hy.below hb)
  obtain ⟨⟨Z, ze⟩, hZ⟩ : ∃ r, fitsKV m y 10 = r := ⟨_, rfl⟩
  rw [hZ] at HFI hzl hnf h1 hno
  rw [hZ]
  dsimp only at HFI hzl hnf h1 hno ⊢
  have HNF := Lib.hid hnf
  have HNO := Lib.hid hno
  have H1 := Lib.hid h1
  obtain ⟨ml, hml⟩ : ∃ ml, m.length = ml := ⟨_, rfl⟩
  obtain ⟨yl, hyl⟩ : ∃ yl, y.length = yl := ⟨_, rfl⟩
  obtain ⟨zl, hzl2⟩ : ∃ zl, Z.length = zl := ⟨_, rfl⟩
  have HZL := Lib.hid hzl2
  rw [hml, hyl] at HAS HFI ⊢
  rw [hzl2] at HFI hzl H1 ⊢
  obtain ⟨NN, hNN⟩ : ∃ r, (leastTo nf Z zl).1.1 = r := ⟨_, rfl⟩
  obtain ⟨DD, hDD⟩ : ∃ r, (leastTo nf Z zl).1.2 = r := ⟨_, rfl⟩
  rw [hNN, hDD]
  have HNN := Lib.hid hNN
  have HDD := Lib.hid hDD
  clear hm hs hy hly hr hZ hnf hno h1 hml hyl hzl2 hNN hDD
  obtain ⟨V0, hV0⟩ : ∃ V0, w.alloc (.cells #[.slice none 0 0, .slice none 0 0, .int .i64 0, .int .i64 0, .slice none 0 0] 80) = V0 := ⟨_, rfl⟩
  have hb0 : Below w.heap.size w V0 := by rw [← hV0]; exact (Below.refl _ _).alloc (Nat.le_refl _) _
  have HB0 := Lib.hid hb0
  have H0 : Hid (Bx5 V0 w.heap.size (.slice none 0 0) (.slice none 0 0) 0 0 (.slice none 0 0)) := by show Bx5 _ _ _ _ _ _ _; rw [← hV0]; exact Bx5.new _ _ _ _ _ _ _
  have HF0 : Hid (V0.frozen? ⟨w.heap.size, 0, none⟩ = false ∧ V0.frozen? ⟨w.heap.size, 1, none⟩ = false) := by show _ ∧ _; rw [← hV0]; exact ⟨by simp, by simp⟩
  have HR0 : Hid (V0.heap.size = w.heap.size + 1) := by show _ = _; rw [← hV0]; exact World.size_alloc _ _
  go_enter Tryz.func55, Tryz.ntmps55
  go_wp2_with (first
    | (go_at_call 84; refine (HAS.out _ hb0).mono ?_; rintro e w1 ⟨rfl, hb1⟩; have HB1 := Lib.hid hb1; clear hb1)
    | (go_at_call 85
       have s1 : (w1.alloc (.cells #[.slice a ml mc, .slice ya yl yc] 77)).heap.size = w1.heap.size + 1 := World.size_alloc _ _
       obtain ⟨V2, hV2⟩ : ∃ V2, (w1.alloc (.cells #[.slice a ml mc, .slice ya yl yc] 77)).alloc (.cells #[.slice a ml mc, .slice ya yl yc, .int .i64 0, .int .i64 0, .slice none 0 0] 80) = V2 := ⟨_, rfl⟩
       have hb2 : Below w1.heap.size w1 V2 := by rw [← hV2]; exact ((Below.refl _ _).alloc (Nat.le_refl _) _).alloc (by omega) _
       have hs2 : V2.heap.size = w1.heap.size + 1 + 1 := by rw [← hV2, World.size_alloc, s1]
       have h5 : Bx5 V2 (w1.heap.size + 1) (.slice a ml mc) (.slice ya yl yc) 0 0 (.slice none 0 0) := by rw [← hV2, ← s1]; exact Bx5.new _ _ _ _ _ _ _
       have hbw2 : Below w.heap.size w V2 := (HB0.out.trans (HB1.out.mono HB0.out.size)).trans (hb2.mono (HB0.out.trans (HB1.out.mono HB0.out.size)).size)
       rw [hV2]
       refine (HFI.out V2 hbw2).mono ?_
       rintro e w3 ⟨hb3, fa, fc, rfl, hfs⟩
       have HB2 := Lib.hid hb2
       have HS2 := Lib.hid hs2
       have HFS := Lib.hid hfs
       have HB3 := Lib.hid hb3
       have HBW3 : Hid (Below w.heap.size w w3) := hbw2.trans (hb3.mono hbw2.size)
       have H5 := Lib.hid (h5.next hb3)
       have hb02 : Below V0.heap.size V0 V2 := HB1.out.trans (hb2.mono HB1.out.size)
       have HRES := Lib.hid ((H0.out.next hb02).next hb3)
       have HFR : Hid (w3.frozen? ⟨w.heap.size, 0, none⟩ = false ∧ w3.frozen? ⟨w.heap.size, 1, none⟩ = false) := by
         have hl := H0.out.lt
         have hb03 : Below V0.heap.size V0 w3 := hb02.trans (hb3.mono hb02.size)
         exact ⟨(hb03.frozen (p := ⟨w.heap.size, 0, none⟩) hl).trans HF0.out.1, (hb03.frozen (p := ⟨w.heap.size, 1, none⟩) hl).trans HF0.out.2⟩
       clear hb2 hs2 hfs hb3 hbw2 h5 s1 hV2 hb02))
  have HS0 : Hid (w.heap.size + 1 ≤ w1.heap.size) := by have := HR0.out; have := HB1.out.size; show _ ≤ _; omega
  generalize hlb : w1.heap.size + 1 = lb at *
  generalize hlo : V2.heap.size = lo at *
  generalize hbs : w3.heap.size = base at *
  have I0 : LI lb base lo (.slice a ml mc) (.slice ya yl yc) nf Z fa w3 0 w3 := ⟨⟨_, [], H5.out, OwnF.nil _ _, rfl, fun z hz => by cases hz⟩, HFS.out, ⟨rfl, rfl, rfl, Nat.le_refl _, fun _ _ _ => rfl⟩⟩
  have HI0 := Lib.hid I0
  have HLL : Hid (lb < lo ∧ w.heap.size + 1 < lb ∧ lo ≤ base) := by have := HS2.out; have := HS0.out; have := HB3.out.size; show _ ∧ _; omega
  clear I0
  go_loopw [33] (fun i wr => ∃ k : Nat, k ≤ zl ∧ i = .int .i64 k ∧ LI lb base lo (.slice a ml mc) (.slice ya yl yc) nf Z fa w3 k wr) (fun i _ => zl - (intOf i).toNat)
  case atStart => exact ⟨0, Nat.zero_le _, rfl, HI0.out⟩
  case round =>
    clear HI0
    obtain ⟨k, hk, rfl, hI⟩ := hrel
    have HI := Lib.hid hI; clear hI
    by_cases hlt : k < zl
    · obtain ⟨p, hp⟩ : ∃ p, Z[k]? = some p := ⟨Z[k]'(by rw [HZL.out]; exact hlt), by simp [HZL.out, hlt]⟩
      obtain ⟨⟨c, xs, h5, hox, hkx, hmx⟩, hfs, htu⟩ := HI.out
      obtain ⟨fb, x, rfl, hfb, x0, x1, hxm, hxk, hxo⟩ := hfs k p hp
      subst hxk
      obtain ⟨V6, hV6⟩ : ∃ V6, wr.alloc (.cells #[.slice x.qa x.px.length x.qc, .slice x.va x.vs.length x.vc] 106) = V6 := ⟨_, rfl⟩
      have hb6 : Below wr.heap.size wr V6 := by rw [← hV6]; exact (Below.refl _ _).alloc (Nat.le_refl _) _
      have y6 : Bx V6 wr.heap.size (.slice x.qa x.px.length x.qc) (.slice x.va x.vs.length x.vc) := by rw [← hV6]; exact Bx.new _ _ _ _
      have hpz : keyF x ∈ Z := List.mem_of_getElem? hp
      have hxl : xs.length ≤ 10000 := by
        have h1 := leastTo_len nf Z k (by rw [HZL.out]; omega)
        have h2 := congrArg List.length hkx
        rw [List.length_map] at h2
        omega
      have hbase : base ≤ V6.heap.size := by have h1 := htu.size; have h2 := hb6.size; omega
      have hnn := leastTo_norm HNF.out k (by rw [HZL.out]; omega)
      have HCO : Hid (Calls Tryz.prog 86 #[.pointer (some ⟨lb, 0, none⟩), .agg #[.slice x.qa x.px.length x.qc, .slice x.va x.vs.length x.vc]] V6 (ConsP lb base (.slice a ml mc) (.slice ya yl yc) (consX (nf x.vs).1 (nf x.vs).2 (leastTo nf Z k).1.1 (leastTo nf Z k).1.2 xs x) V6)) :=
        consider_any lb base _ _ c _ _ (nf x.vs).1 (nf x.vs).2 true xs x V6 (h5.next hb6) (hox.below hb6) (by have := HLL.out; omega) hbase hxl hnn.1 hnn.2 (HNF.out _ hpz).1 (HNF.out _ hpz).2 fun W hW => HNO.out _ hpz W x.va x.vc ((hxm.rl.below hb6).below hW)
      have HNX : Hid (∀ W' e, ConsP lb base (.slice a ml mc) (.slice ya yl yc) (consX (nf x.vs).1 (nf x.vs).2 (leastTo nf Z k).1.1 (leastTo nf Z k).1.2 xs x) V6 e W' → LI lb base lo (.slice a ml mc) (.slice ya yl yc) nf Z (some ⟨fb, 0, none⟩) w3 (k + 1) W') := fun W' e hc => LI.next HLL.out.1 hfs htu hkx hmx hxm hxo hp hb6 hc
      obtain ⟨_, z0, z1, _, _⟩ := y6
      have hk0 : (k : Int) < (zl : Int) := by omega
      clear h5 hox hkx hmx hfs htu hxm hxo hp hpz hxl hbase hnn hb6 hfb
      go_wp2_with (go_at_call 86; refine HCO.out.mono ?_; rintro e w7 hc7; have hn7 := HNX.out _ _ hc7; obtain ⟨rfl, _⟩ := hc7; have HN7 := Lib.hid hn7; clear hn7)
      go_roundw
      case rel => exact ⟨k + 1, by omega, by go_num, HN7.out⟩
      case measure => simp [intOf]; omega
    · obtain rfl : k = zl := by omega
      obtain ⟨⟨c, xs, h5, hox, hkx, hmx⟩, hfs, htu⟩ := HI.out
      have hx1 : xs.length = 1 := by
        have h2 := congrArg List.length hkx
        rw [List.length_map, H1.out] at h2
        exact h2
      have hcf : ∃ ca cc, c = .slice ca 1 cc := by
        rcases hox.form with ⟨e, e2⟩ | ⟨g, cap, e⟩
        · rw [e2] at hx1; cases hx1
        · exact ⟨_, _, by rw [e, hx1]⟩
      obtain ⟨ca, cc, rfl⟩ := hcf
      have hwr : Below w.heap.size w wr := HBW3.out.trans (htu.below HBW3.out.size fun b hb h => by have := HLL.out; have := HBW3.out.size; omega)
      have HWR := Lib.hid hwr
      have hres : Bx5 wr w.heap.size (.slice none 0 0) (.slice none 0 0) 0 0 (.slice none 0 0) := HRES.out.same htu.size (htu.same _ HRES.out.lt fun h => by have := HLL.out; omega)
      obtain ⟨_, k0, k1, k2, k3, k4, _, _, _⟩ := h5
      obtain ⟨g0, g1, g2, g3, g4⟩ : wr.frozen? ⟨w.heap.size, 0, none⟩ = false ∧ wr.frozen? ⟨w.heap.size, 1, none⟩ = false ∧ wr.frozen? ⟨w.heap.size, 2, none⟩ = false ∧ wr.frozen? ⟨w.heap.size, 3, none⟩ = false ∧ wr.frozen? ⟨w.heap.size, 4, none⟩ = false := by
        have hb := htu.same _ HRES.out.lt fun h => by have := HLL.out; omega
        exact ⟨(frozen_of_block' hb 0).trans HFR.out.1, (frozen_of_block' hb 1).trans HFR.out.2, hres.f2, hres.f3, hres.f4⟩
      obtain ⟨_, q0, q1, q2, q3, q4, _, _, _⟩ := hres
      rw [HNN.out] at k2
      rw [HDD.out] at k3
      clear hox hkx hmx hfs htu hx1 hwr HI
      go_wp2_with (go_at_call 87; refine (sort1_any _ _ _ _).mono ?_; rintro e w8 ⟨rfl, hw8⟩; obtain rfl := hw8.symm; clear hw8)
      refine bodyPost_ret (v := .tuple #[.agg #[.slice a ml mc, .slice ya yl yc, .int .i64 NN, .int .i64 DD, .slice ca 1 cc], .int .i64 0]) ?_ rfl ⟨((((HWR.out.setCell (p := ⟨w.heap.size, 0, none⟩) (Nat.le_refl _) _).setCell (p := ⟨w.heap.size, 1, none⟩) (Nat.le_refl _) _).setCell (p := ⟨w.heap.size, 2, none⟩) (Nat.le_refl _) _).setCell (p := ⟨w.heap.size, 3, none⟩) (Nat.le_refl _) _).setCell (p := ⟨w.heap.size, 4, none⟩) (Nat.le_refl _) _, _, _, rfl⟩
      rw [results_cell_tmp rfl]
      go_simp
end Go.Proofs.YtgbnfhfkehpfaaaGreat
/- Value of layer 5, out of what normOf answers of the fits, where one corner is left: a contract. -/
namespace Go.Proofs.YtgbnfhfkehpfaaaGreat
open Go.RowKit Go.Shelf

set_option maxRecDepth 1000000 in
set_option maxHeartbeats 3200000 in
theorem dvalue1_any (nf : List (Int × Int) → Int × Int) (a : Option Addr) (m : List (List Int)) (mc : Nat) (ya : Option Addr) (y : List Int) (yc : Nat) (w : World) (hm : MOk m) (hly : y.length ≤ 1000) (hs : Ms w a m) (hy : Sl w ya y) (hr : readE m y = 0)
    (hzl : (fitsKV m y 10).1.length ≤ 10000) (hnf : ∀ p ∈ (fitsKV m y 10).1, I64' (nf p.2).1 ∧ I64' (nf p.2).2) (h1 : (leastTo nf (fitsKV m y 10).1 (fitsKV m y 10).1.length).2.length = 1)
    (hno : ∀ p ∈ (fitsKV m y 10).1, ∀ W va vc, Rl W va p.2 → Calls Tryz.prog 104 #[.slice va p.2.length vc] W fun e w' => e = .returned (.tuple #[.agg #[.int .i64 (nf p.2).1, .int .i64 (nf p.2).2], .bool true]) ∧ Below W.heap.size W w') :
    Calls Tryz.prog 26 #[.slice a m.length mc, .slice ya y.length yc] w fun e w' => Below w.heap.size w w' ∧ e = .returned (.tuple #[.agg #[.int .i64 (leastTo nf (fitsKV m y 10).1 (fitsKV m y 10).1.length).1.1, .int .i64 (leastTo nf (fitsKV m y 10).1 (fitsKV m y 10).1.length).1.2], .int .i64 0]) := by
  obtain ⟨V, hV⟩ : ∃ V, w.alloc (.cells #[.int .i64 0, .int .i64 0] 38) = V := ⟨_, rfl⟩
  have hb0 : Below w.heap.size w V := by rw [← hV]; exact (Below.refl _ _).alloc (Nat.le_refl _) _
  have HR : Hid (Bx V w.heap.size (.int .i64 0) (.int .i64 0)) := by show Bx _ _ _ _; rw [← hV]; exact Bx.new _ _ _ _
  have HB0 := Lib.hid hb0
  have HL : Hid (Calls Tryz.prog 55 #[.slice a m.length mc, .slice ya y.length yc] V fun e w' => Below V.heap.size V w' ∧ ∃ ca cc, e = .returned (.tuple #[.agg #[.slice a m.length mc, .slice ya y.length yc, .int .i64 (leastTo nf (fitsKV m y 10).1 (fitsKV m y 10).1.length).1.1, .int .i64 (leastTo nf (fitsKV m y 10).1 (fitsKV m y 10).1.length).1.2, .slice ca 1 cc], .int .i64 0])) := leastOf1_any nf a m mc ya y yc V hm hly (hs.below hb0) (hy.below hb0) hr hzl hnf h1 hno
  obtain ⟨NN, hNN⟩ : ∃ r, (leastTo nf (fitsKV m y 10).1 (fitsKV m y 10).1.length).1.1 = r := ⟨_, rfl⟩
  obtain ⟨DD, hDD⟩ : ∃ r, (leastTo nf (fitsKV m y 10).1 (fitsKV m y 10).1.length).1.2 = r := ⟨_, rfl⟩
  rw [hNN, hDD] at HL ⊢
  obtain ⟨ml, hml⟩ : ∃ ml, m.length = ml := ⟨_, rfl⟩
  obtain ⟨yl, hyl⟩ : ∃ yl, y.length = yl := ⟨_, rfl⟩
  rw [hml, hyl] at HL ⊢
  clear hm hs hy hly hr hzl hnf h1 hno hNN hDD hml hyl hb0
  go_enter Tryz.func26, Tryz.ntmps26
  go_wp2_with (go_at_call 55; refine HL.out.mono ?_; rintro e w1 ⟨hb1, ca, cc, rfl⟩
               have hb2 : Below V.heap.size V (w1.alloc (.cells #[.slice a ml mc, .slice ya yl yc, .int .i64 NN, .int .i64 DD, .slice ca 1 cc] 80)) := hb1.alloc hb1.size _
               obtain ⟨_, g0, g1, g2, g3⟩ := HR.out.next hb2
               have HB2 := Lib.hid hb2
               clear hb1 hb2)
  refine bodyPost_ret (v := .tuple #[.agg #[.int .i64 NN, .int .i64 DD], .int .i64 0]) ?_ rfl ⟨((HB0.out.trans (HB2.out.mono HB0.out.size)).setCell (p := ⟨w.heap.size, 0, none⟩) (Nat.le_refl _) _).setCell (p := ⟨w.heap.size, 1, none⟩) (Nat.le_refl _) _, rfl⟩
  rw [results_cell_tmp rfl]
  go_simp
end Go.Proofs.YtgbnfhfkehpfaaaGreat
/- Known of the answers: a contract. -/
namespace Go.Proofs.YtgbnfhfkehpfaaaGreat
open Go.RowKit

def knTo (m : List (List Int)) : Nat → List Int
  | 0 => []
  | j + 1 => if rknownB m j = true then knTo m j ++ [(j : Int)] else knTo m j
theorem knTo_len (m : List (List Int)) : ∀ j, (knTo m j).length ≤ j
  | 0 => Nat.le_refl _
  | j + 1 => by
    have := knTo_len m j
    unfold knTo; split
    · rw [List.length_append, List.length_singleton]; omega
    · omega
def knownLV (m : List (List Int)) : List Int × Int := if validM m = true then (knTo m (colsM m), 0) else ([], 1)
end Go.Proofs.YtgbnfhfkehpfaaaGreat
/- Known of the program: a contract. -/
namespace Go.Proofs.YtgbnfhfkehpfaaaGreat
open Go.RowKit

set_option maxRecDepth 1000000 in
set_option maxHeartbeats 1600000 in
theorem lknowns_any (ma : Option Addr) (m : List (List Int)) (mc : Nat) (w : World) (hm : MOk m) (hs : Ms w ma m) :
    Calls Tryz.prog 17 #[.slice ma m.length mc] w (LPost (knownLV m) w) := by
  have HVA : Hid (Calls Tryz.prog 32 #[.slice ma m.length mc] w fun e w' => e = .returned (.bool (validM m)) ∧ Below w.heap.size w w') := mvalid_any ma m mc w hm hs
  cases hv : validM m
  case false =>
    rw [hv] at HVA
    have HK : Hid (knownLV m = ([], 1)) := by show _ = _; simp [knownLV, hv]
    clear hv hs hm
    rw [HK.out]
    go_enter Tryz.func17, Tryz.ntmps17
    go_wp2_with (go_at_call 32; refine HVA.out.mono ?_; rintro e w1 ⟨rfl, hb⟩; have HB := Lib.hid hb; clear hb)
    go_ret2
    exact LPost.err 1 rfl HB.out
  case true =>
    rw [hv] at HVA
    obtain ⟨hm1, hm6, hc1, hc10, hrows⟩ := validM_of hv
    have h64 : Hid (All64 m) := fun q hq x hx => by
      obtain ⟨c, hc, rfl⟩ := mem_gt.1 hx
      have := gt_in (hrows q hq).2 hc
      unfold In64; omega
    have HRA : Hid (∀ w1 : World, Below w.heap.size w w1 → Calls Tryz.prog 39 #[.slice ma m.length mc, .func (.func 45) #[] #[]] w1 (RdPost (redN m (upTo (colsM m))) w1)) := fun w1 hb => reduceAll_any (Lib.hid hm6) (Lib.hid hm1) (Lib.hid ⟨hc1, hc10⟩) (Lib.hid fun r hr => (hrows r hr).1) h64 (Lib.hid (hs.below hb))
    have HF := Lib.hid (basis_fin hv)
    have HKS : Hid (∀ j, j < colsM m → decide (0 ≤ knownV (redN m (upTo (colsM m))).rows (redN m (upTo (colsM m))).piv (colsM m) (j : Int)) = rknownB m j) := fun j hj => known_same hv hj
    have hco : (redN m (upTo (colsM m))).cols = colsM m := by rw [redN_cols, upTo_len]
    obtain ⟨rd, hrd⟩ : ∃ rd, redN m (upTo (colsM m)) = rd := ⟨_, rfl⟩
    rw [hrd] at HF HRA HKS hco
    obtain ⟨cols, rows, piv, dv⟩ := rd
    dsimp only at HKS hco
    subst hco
    have hlen := HF.out.len
    have hrow := HF.out.row
    have hplr := HF.out.pl
    dsimp only at hlen hrow hplr
    have HKV : Hid (∀ (g cp : Nat) (ads : List (Nat × Nat)) (pa : Option Addr) (pc base : Nat) (j : Nat) (W : World), SI W base g ads rows → Sl W pa piv → Calls Tryz.prog 43 #[.agg #[.int .i64 (colsM m : Int), .slice (some ⟨g, 0, none⟩) rows.length cp, .slice pa piv.length pc, .int .i64 dv], .int .i64 (j : Int)] W fun e w' => e = .returned (.int .i64 (knownV rows piv (colsM m) (j : Int))) ∧ Below W.heap.size W w') := fun g cp ads pa pc base j W h h2 => known_any (colsM m) g cp (colsM m) ads rows pa piv pc dv (j : Int) base W (by omega) (by omega) hrow (Nat.le_refl _) (by omega) h h2
    obtain ⟨bm, om, ai, ci, rfl, hcell, _⟩ := hs 0 hm1
    obtain ⟨c, hc⟩ : ∃ c, colsM m = c := ⟨_, rfl⟩
    have hl0 : (m[0]?.getD []).length = c := by rw [← hc]; rfl
    rw [hl0, Nat.add_zero] at hcell
    have HM0 : Hid (∀ W, Below w.heap.size w W → W.cell? ⟨bm, om, none⟩ = some (.slice ai c ci)) := fun W hW => (hW.cell (p := ⟨bm, om, none⟩) (cell_lt hcell)).trans hcell
    have HK : Hid (knownLV m = (knTo m c, 0)) := by show _ = _; simp [knownLV, hv, hc]
    rw [hc] at hc10 HKV HKS HRA
    rw [HK.out]
    obtain ⟨n, hn⟩ : ∃ n, m.length = n := ⟨_, rfl⟩
    rw [hn] at hm1 HVA HRA ⊢
    have hn0 : (0 : Int) < (n : Int) := by omega
    clear hs hl0 hrows hn hc hc1 hv hm HF hcell hlen hrow hplr hrd h64 hm6
    go_enter Tryz.func17, Tryz.ntmps17
    go_wp2_with (first | (go_at_call 32; refine HVA.out.mono ?_; rintro e w1 ⟨rfl, hb⟩; have HB := Lib.hid hb; clear hb) | (go_at_call 39; refine (HRA.out w1 HB.out).mono ?_; rintro e w3 ⟨hb3, g, cp, ads, pa2, pc2, rfl, hgg, si, pi⟩; unfold rdV; dsimp only at si pi ⊢; obtain ⟨W4, hW4⟩ : ∃ W4, w3.alloc (.cells #[.int .i64 (c : Int), .slice (some ⟨g, 0, none⟩) rows.length cp, .slice pa2 piv.length pc2, .int .i64 dv] 61) = W4 := ⟨_, rfl⟩; have HCW : Hid (∀ W, Below W4.heap.size W4 W → W.cell? ⟨w3.heap.size, 0, none⟩ = some (.int .i64 (c : Int)) ∧ W.cell? ⟨w3.heap.size, 1, none⟩ = some (.slice (some ⟨g, 0, none⟩) rows.length cp) ∧ W.cell? ⟨w3.heap.size, 2, none⟩ = some (.slice pa2 piv.length pc2) ∧ W.cell? ⟨w3.heap.size, 3, none⟩ = some (.int .i64 dv)) := box_cells hW4; have HB4 : Hid (Below w3.heap.size w3 W4) := hW4 ▸ (Below.refl _ _).alloc (Nat.le_refl _) _; have HSI4 := Lib.hid (si.below HB4.out); have HPI4 := Lib.hid ((OwnI.sl pi).below HB4.out); have HBW4 : Hid (Below w.heap.size w W4) := HB.out.trans ((hb3.mono HB.out.size).trans (HB4.out.mono (Nat.le_trans HB.out.size hb3.size))); have km := HM0.out W4 HBW4.out; clear si pi hgg hb3))
    clear hW4 km
    go_loopw [5, 16] (fun v i wr => ∃ j : Nat, j ≤ c ∧ i = .int .i64 j ∧ OwnI wr W4.heap.size v (knTo m j) ∧ Below W4.heap.size W4 wr) (fun _ i _ => c - (intOf i).toNat)
    case atStart => exact ⟨0, Nat.zero_le _, rfl, OwnI.nil _ _, Below.refl _ _⟩
    case round =>
      obtain ⟨j, hj, rfl, hO, hB⟩ := hrel
      have HO := Lib.hid hO; clear hO
      have HBB := Lib.hid hB; clear hB
      by_cases hlt : j < c
      · have HSU : Hid (knTo m (j + 1) = if rknownB m j = true then knTo m j ++ [(j : Int)] else knTo m j) := rfl
        have hks := HKS.out j hlt
        have HKJ := Lib.hid (HKV.out g cp ads pa2 pc2 _ j wr (HSI4.out.below HBB.out) (HPI4.out.below HBB.out))
        have hlk := knTo_len m j
        obtain ⟨k0, k1, k2, k3⟩ := HCW.out wr HBB.out
        obtain ⟨q, hq⟩ : ∃ q, rknownB m j = q := ⟨_, rfl⟩
        rw [hq] at HSU hks
        obtain ⟨T, hT⟩ : ∃ T, knTo m j = T := ⟨_, rfl⟩
        rw [hT] at HO HSU hlk
        obtain ⟨kv, hkv⟩ : ∃ kv, knownV rows piv c (j : Int) = kv := ⟨_, rfl⟩
        rw [hkv] at HKJ hks
        clear hT hq hkv
        cases q with
        | false =>
          have hkn : ¬ (0 : Int) ≤ kv := of_decide_eq_false hks
          go_wp2_with (go_at_call 43; refine HKJ.out.mono ?_; rintro e w5 ⟨rfl, hb5⟩)
          go_roundw
          case rel => exact ⟨j + 1, by omega, by go_num, by rw [HSU.out]; exact OwnI.below HO.out hb5, HBB.out.trans (hb5.mono HBB.out.size)⟩
          case measure => simp [intOf]; omega
        | true =>
          have hkn : (0 : Int) ≤ kv := of_decide_eq_true hks
          go_wp2_with (first | (go_at_call 43; refine HKJ.out.mono ?_; rintro e w5 ⟨rfl, hb5⟩; have HO5 := Lib.hid (OwnI.below HO.out hb5); have HB5 : Hid (Below W4.heap.size W4 w5) := HBB.out.trans (hb5.mono HBB.out.size); clear hb5) | (at_builtin; refine wpList_push rfl (.tmp 23) (.tmp 25) rfl W4.heap.size _ T _ _ _ _ rfl rfl rfl HO5.out (by omega) HB5.out.size ?_; intro v' w9 ho' hb'))
          go_roundw
          case rel => exact ⟨j + 1, by omega, by go_num, by rw [HSU.out]; exact ho', HB5.out.trans hb'⟩
          case measure => simp [intOf]; omega
      · obtain rfl : j = c := by omega
        obtain ⟨pa, pc, rfl, hps⟩ := HO.out.any
        have HPS := Lib.hid hps; clear hps
        go_wp2
        go_ret2
        exact ⟨HBW4.out.trans (HBB.out.mono HBW4.out.size), _, _, rfl, HPS.out⟩
end Go.Proofs.YtgbnfhfkehpfaaaGreat
/- Masks in new memory: slices of rows that the call made itself. -/
namespace Go.Proofs.YtgbnfhfkehpfaaaGreat
open Go.RowKit

abbrev RH := Option Addr × List Int × Nat
def hdv (h : RH) : Value := .slice h.1 h.2.1.length h.2.2
def rowsOf (hs : List RH) : List (List Int) := hs.map fun h => h.2.1
theorem rowsOf_length (hs : List RH) : (rowsOf hs).length = hs.length := by simp [rowsOf]
theorem rowsOf_get {hs : List RH} {i : Nat} {h : RH} (e : hs[i]? = some h) : (rowsOf hs)[i]? = some h.2.1 := by simp [rowsOf, e]
theorem Tryz.infoRow : (Tryz.prog.info? 22).map (fun i => (i.zero, i.size, i.bytes)) = some (some (.slice none 0 0), 1, 24) := by kernel_rfl
structure OwnM (w : World) (base : Nat) (v : Value) (hs : List RH) (sk : Nat) : Prop where
  own : w.ownsRow base 22 1 v hs.length (hs.map hdv)
  rows : ∀ i h, hs[i]? = some h → i ≠ sk → Sl w h.1 h.2.1
  apart : ∀ i h, hs[i]? = some h → i ≠ sk → ∀ ad, h.1 = some ad → ad.block < w.heap.size ∧ v.ownBlock ≠ some ad.block
def RowsLow (hs : List RH) (sk B : Nat) : Prop := ∀ i h, hs[i]? = some h → i ≠ sk → ∀ ad, h.1 = some ad → ad.block < B

theorem OwnM.nil (w : World) (base sk : Nat) : OwnM w base (.slice none 0 0) [] sk := ⟨World.ownsRow_nil _ _ _ _, fun i h e => by simp at e, fun i h e => by simp at e⟩
theorem rows_are (n : Nat) : (madeCells (Value.slice none 0 0).cells (n * 1)).toList = (List.replicate n ((none, [], 0) : RH)).map hdv := by
  rw [Nat.mul_one]
  show (madeCells #[Value.slice none 0 0] n).toList = _
  rw [toList_madeCells_one]; simp [hdv]
theorem OwnM.made {w : World} {base g n : Nat} (sk : Nat) (h : w.ownsRow base 22 1 (.slice (some ⟨g, 0, none⟩) n n) n (madeCells (Value.slice none 0 0).cells (n * 1)).toList) : OwnM w base (.slice (some ⟨g, 0, none⟩) n n) (List.replicate n (none, [], 0)) sk := by
  refine ⟨?_, fun i h' e _ => ?_, fun i h' e _ ad ha => ?_⟩
  · rw [rows_are] at h; rw [List.length_replicate]; exact h
  · obtain rfl := (List.mem_replicate.1 (List.mem_of_getElem? e)).2
    exact fun k hk => absurd hk (by simp)
  · obtain rfl := (List.mem_replicate.1 (List.mem_of_getElem? e)).2
    cases ha
theorem ownsRow_below' {w w' : World} {base : Nat} {e : TypeId} {size : Nat} {v : Value} {n : Nat} {xs : List Value} (h : w.ownsRow base e size v n xs) (hb : Below w.heap.size w w') : w'.ownsRow base e size v n xs := by
  obtain ⟨h0, h1 | ⟨g, cap, cur, e, hg, hh, rest⟩⟩ := h
  · exact ⟨h0, .inl h1⟩
  · exact ⟨h0, .inr ⟨g, cap, cur, e, hg, (hb.block g (Array.getElem?_eq_some_iff.1 hh).1).trans hh, rest⟩⟩
theorem OwnM.below {w w' : World} {base : Nat} {v : Value} {hs : List RH} {sk : Nat} (h : OwnM w base v hs sk) (hb : Below w.heap.size w w') : OwnM w' base v hs sk :=
  ⟨ownsRow_below' h.own hb, fun i x e n => (h.rows i x e n).below hb, fun i x e n ad ha => ⟨Nat.lt_of_lt_of_le (h.apart i x e n ad ha).1 hb.size, (h.apart i x e n ad ha).2⟩⟩
theorem OwnM.skip {w : World} {base : Nat} {v : Value} {hs : List RH} {sk : Nat} (h : OwnM w base v hs sk) (hk : hs.length ≤ sk) (sk' : Nat) : OwnM w base v hs sk' := by
  have hi : ∀ i x, hs[i]? = some x → i ≠ sk := fun i x e => by have := (List.getElem?_eq_some_iff.1 e).1; omega
  exact ⟨h.own, fun i x e _ => h.rows i x e (hi i x e), fun i x e _ => h.apart i x e (hi i x e)⟩
theorem OwnM.low {w : World} {base : Nat} {v : Value} {hs : List RH} {sk : Nat} (h : OwnM w base v hs sk) : RowsLow hs sk w.heap.size := fun i x e n ad ha => (h.apart i x e n ad ha).1
theorem RowsLow.set {hs : List RH} {sk B : Nat} (h : RowsLow hs sk B) (x : RH) : RowsLow (hs.set sk x) sk B := by
  intro i y e n ad ha
  rw [List.getElem?_set_ne (Ne.symm n)] at e
  exact h i y e n ad ha
theorem OwnM.sl_of {w : World} {base : Nat} {a : Option Addr} {n cap : Nat} {hs : List RH} {sk : Nat} (h : OwnM w base (.slice a n cap) hs sk) : n = hs.length := by
  obtain ⟨_, ⟨e, h0⟩ | ⟨g, c, cur, e, _⟩⟩ := h.own
  · have : n = 0 := by simpa using congrArg (fun v => match v with | .slice _ n _ => n | _ => 0) e
    omega
  · simpa using congrArg (fun v => match v with | .slice _ n _ => n | _ => 0) e
theorem OwnM.cell {w : World} {base g n cap : Nat} {hs : List RH} {sk : Nat} (h : OwnM w base (.slice (some ⟨g, 0, none⟩) n cap) hs sk) {i : Nat} {x : RH} (e : hs[i]? = some x) :
    w.cell? ⟨g, i, none⟩ = some (.slice x.1 x.2.1.length x.2.2) ∧ w.frozen? ⟨g, i, none⟩ = false := by
  obtain rfl := h.sl_of
  have hi := (List.getElem?_eq_some_iff.1 e).1
  refine ⟨?_, World.ownsRow.frozenAt h.own i⟩
  rw [World.ownsRow.cellAt h.own i (by omega)]
  simp [e, hdv]
theorem OwnM.lt {w : World} {base g n cap : Nat} {hs : List RH} {sk : Nat} (h : OwnM w base (.slice (some ⟨g, 0, none⟩) n cap) hs sk) : g < w.heap.size ∧ base ≤ g := by
  have := World.ownsRow.lt h.own g rfl
  omega
theorem OwnM.ms {w : World} {base : Nat} {a : Option Addr} {n cap : Nat} {hs : List RH} {sk : Nat} (h : OwnM w base (.slice a n cap) hs sk) (hk : hs.length ≤ sk) : Ms w a (rowsOf hs) := by
  have hn := h.sl_of
  intro i hi
  rw [rowsOf_length] at hi
  obtain ⟨x, e⟩ : ∃ x, hs[i]? = some x := ⟨hs[i], by simp [hi]⟩
  obtain ⟨_, ⟨_, h0⟩ | ⟨g, c, cur, ev, _⟩⟩ := h.own
  · omega
  · obtain ⟨rfl, _, _⟩ : a = some ⟨g, 0, none⟩ ∧ n = hs.length ∧ cap = c := by simpa using ev
    refine ⟨g, 0, x.1, x.2.2, rfl, ?_, ?_⟩
    · rw [Nat.zero_add, rowsOf_get e]; exact (h.cell e).1
    · rw [rowsOf_get e]; exact h.rows i x e (by omega)
theorem OwnM.grow {w w' : World} {base g n cap B : Nat} {hs : List RH} {sk : Nat} (h : OwnM w base (.slice (some ⟨g, 0, none⟩) n cap) hs sk) (hb : Below B w w') (hg : g < B) (hl : RowsLow hs sk B) : OwnM w' base (.slice (some ⟨g, 0, none⟩) n cap) hs sk := by
  refine ⟨?_, fun i x e hi k hk => ?_, fun i x e hi ad ha => ⟨Nat.lt_of_lt_of_le (h.apart i x e hi ad ha).1 hb.size, (h.apart i x e hi ad ha).2⟩⟩
  · obtain ⟨h0, ⟨e, _⟩ | ⟨g', cap', cur, e, hge, hh, rest⟩⟩ := h.own
    · cases e
    · obtain rfl : g = g' := by simpa using congrArg (fun v => match v with | .slice (some a) _ _ => a.block | _ => 0) e
      exact ⟨h0, .inr ⟨g, cap', cur, e, hge, (hb.block g hg).trans hh, rest⟩⟩
  · obtain ⟨b, off, ha, hc⟩ := h.rows i x e hi k hk
    exact ⟨b, off, ha, (hb.cell (p := ⟨b, off + k, none⟩) (show b < B from hl i x e hi ⟨b, off, none⟩ ha)).trans hc⟩
theorem OwnM.put {w : World} {base g n cap : Nat} {hs : List RH} {k : Nat} (h : OwnM w base (.slice (some ⟨g, 0, none⟩) n cap) hs k) (sk : Nat) {a : Option Addr} {r : List Int} (c : Nat) (hs' : Sl w a r) (ha : ∀ ad, a = some ad → ad.block < w.heap.size ∧ ad.block ≠ g) :
    OwnM (w.setCell ⟨g, k, none⟩ (.slice a r.length c)) base (.slice (some ⟨g, 0, none⟩) n cap) (hs.set k (a, r, c)) sk := by
  obtain rfl := h.sl_of
  have keep : ∀ b o, b ≠ g → (w.setCell ⟨g, k, none⟩ (.slice a r.length c)).cell? ⟨b, o, none⟩ = w.cell? ⟨b, o, none⟩ := fun b o hb => cell_other w ⟨g, k, none⟩ _ o hb
  have hsz : (w.setCell ⟨g, k, none⟩ (.slice a r.length c)).heap.size = w.heap.size := by simp
  refine ⟨?_, fun i x e _ j hj => ?_, fun i x e _ ad had => ?_⟩
  · rw [List.length_set, List.map_set]
    exact (World.ownsRow.stored h.own k _).1
  · by_cases hik : i = k
    · subst hik
      have hlt : i < hs.length := by have := (List.getElem?_eq_some_iff.1 e).1; simpa using this
      rw [List.getElem?_set_self hlt] at e
      obtain rfl : (a, r, c) = x := by simpa using e
      obtain ⟨b, off, hb, hc⟩ := hs' j hj
      exact ⟨b, off, hb, (keep b _ (ha _ hb).2).trans hc⟩
    · rw [List.getElem?_set_ne (Ne.symm hik)] at e
      obtain ⟨b, off, hb, hc⟩ := h.rows i x e hik j hj
      have hne : b ≠ g := fun he => (h.apart i x e hik _ hb).2 (by simp [Value.ownBlock, he])
      exact ⟨b, off, hb, (keep b _ hne).trans hc⟩
  · rw [hsz]
    by_cases hik : i = k
    · subst hik
      have hlt : i < hs.length := by have := (List.getElem?_eq_some_iff.1 e).1; simpa using this
      rw [List.getElem?_set_self hlt] at e
      obtain rfl : (a, r, c) = x := by simpa using e
      refine ⟨(ha ad had).1, ?_⟩
      have := (ha ad had).2
      simp only [Value.ownBlock, Option.some.injEq, ne_eq]
      exact fun he => this he.symm
    · rw [List.getElem?_set_ne (Ne.symm hik)] at e
      exact h.apart i x e hik ad had
theorem OwnI.row {w : World} {base : Nat} {v : Value} {xs : List Int} (h : OwnI w base v xs) : ∃ a c, v = .slice a xs.length c ∧ Sl w a xs ∧ ∀ ad, a = some ad → ad.block < w.heap.size ∧ base ≤ ad.block := by
  have h' := h
  obtain ⟨hx, ⟨rfl, h0⟩ | ⟨g, cap, cur, rfl, _⟩⟩ := h
  · have : xs = [] := List.eq_nil_of_length_eq_zero h0
    subst this
    exact ⟨none, 0, rfl, Sl.none _, fun ad e => by cases e⟩
  · refine ⟨some ⟨g, 0, none⟩, cap, rfl, h'.sl, fun ad e => ?_⟩
    cases e
    exact h'.lt
def MPost (r : List (List Int) × Int) (w : World) (e : Ending) (w' : World) : Prop := Below w.heap.size w w' ∧ ∃ a cap, r.1.length ≤ cap ∧ e = .returned (.tuple #[.slice a r.1.length cap, .int .i64 r.2]) ∧ Ms w' a r.1
theorem Ms.take {w : World} {a : Option Addr} {m : List (List Int)} (h : Ms w a m) (n : Nat) : Ms w a (m.take n) := by
  intro i hi
  have h1 : i < m.length := by rw [List.length_take] at hi; omega
  have h2 : i < n := by rw [List.length_take] at hi; omega
  obtain ⟨b, off, ai, ci, e1, e2, e3⟩ := h i h1
  have e : (m.take n)[i]? = m[i]? := by rw [List.getElem?_take]; simp [h2]
  rw [e]
  exact ⟨b, off, ai, ci, e1, e2, e3⟩
theorem Ms.none (w : World) : Ms w none [] := fun k h => absurd h (by simp)
theorem MPost.err {w w' : World} (n : Int) {r : List (List Int) × Int} (hr : r = ([], n)) (hb : Below w.heap.size w w') : MPost r w (.returned (.tuple #[.slice none 0 0, .int .i64 n])) w' := by
  subst hr; exact ⟨hb, none, 0, Nat.le_refl _, rfl, Ms.none _⟩
theorem MPost.own {w w' : World} {base : Nat} {v : Value} {hs : List RH} {sk : Nat} {r : List (List Int) × Int} (hr : r = (rowsOf hs, 0)) (hb : Below w.heap.size w w') (ho : OwnM w' base v hs sk) (hk : hs.length ≤ sk) : MPost r w (.returned (.tuple #[v, .int .i64 0])) w' := by
  subst hr
  have h' := ho.own
  obtain ⟨hx, ⟨rfl, h0⟩ | ⟨g, cap, cur, rfl, _, _, hcap, _⟩⟩ := h'
  · have : hs = [] := List.eq_nil_of_length_eq_zero h0
    subst this
    exact ⟨hb, none, 0, Nat.le_refl _, rfl, Ms.none _⟩
  · exact ⟨hb, _, cap, by rw [rowsOf_length]; exact hcap, by rw [rowsOf_length], ho.ms hk⟩
end Go.Proofs.YtgbnfhfkehpfaaaGreat
/- Slices of rows that are filled row by row: plain words. -/
namespace Go.Proofs.YtgbnfhfkehpfaaaGreat
open Go.RowKit

structure FillM (F : Nat → List Int) (n k : Nat) (hs : List RH) : Prop where
  len : hs.length = n
  done : ∀ i, i < k → ∃ h, hs[i]? = some h ∧ h.2.1 = F i
  todo : ∀ i, k ≤ i → i < n → hs[i]? = some (none, [], 0)
theorem FillM.start (F : Nat → List Int) (n : Nat) : FillM F n 0 (List.replicate n (none, [], 0)) :=
  ⟨by simp, fun i hi => absurd hi (by omega), fun i _ hi => by simp [hi]⟩
theorem FillM.next {F : Nat → List Int} {n k : Nat} {hs : List RH} (h : FillM F n k hs) (hk : k < n) {a : Option Addr} {r : List Int} {c : Nat} (hr : r = F k) : FillM F n (k + 1) (hs.set k (a, r, c)) := by
  have hl := h.len
  refine ⟨by rw [List.length_set]; exact hl, fun i hi => ?_, fun i hi hn => ?_⟩
  · by_cases e : i = k
    · subst e
      exact ⟨_, List.getElem?_set_self (by omega), hr⟩
    · rw [List.getElem?_set_ne (Ne.symm e)]
      exact h.done i (by omega)
  · rw [List.getElem?_set_ne (by omega)]
    exact h.todo i (by omega) hn
theorem FillM.all {F : Nat → List Int} {n : Nat} {hs : List RH} (h : FillM F n n hs) : rowsOf hs = (List.range n).map F := by
  refine List.ext_getElem (by rw [rowsOf_length, h.len]; simp) fun i h1 h2 => ?_
  rw [rowsOf_length, h.len] at h1
  obtain ⟨x, e, hx⟩ := h.done i h1
  have e2 := rowsOf_get e
  obtain ⟨hi, e3⟩ := List.getElem?_eq_some_iff.1 e2
  rw [e3, hx]; simp
theorem OwnM.fill {w : World} {base : Nat} {v : Value} {hs : List RH} {k : Nat} (h : OwnM w base v hs k) (sk : Nat) {x : RH} (e : hs[k]? = some x) (hs' : Sl w x.1 x.2.1) (ha : ∀ ad, x.1 = some ad → ad.block < w.heap.size ∧ v.ownBlock ≠ some ad.block) : OwnM w base v hs sk := by
  refine ⟨h.own, fun i y ey _ => ?_, fun i y ey _ => ?_⟩
  · by_cases hi : i = k
    · subst hi; rw [e] at ey; obtain rfl : x = y := by simpa using ey
      exact hs'
    · exact h.rows i y ey hi
  · by_cases hi : i = k
    · subst hi; rw [e] at ey; obtain rfl : x = y := by simpa using ey
      exact ha
    · exact h.apart i y ey hi
theorem take_range_succ' (f : Nat → Int) {n k : Nat} (hk : k < n) : ((List.range n).map f).take (k + 1) = ((List.range n).map f).take k ++ [f k] := by
  rw [List.take_succ_eq_append_getElem (by simpa using hk)]
  congr 2
  simp
end Go.Proofs.YtgbnfhfkehpfaaaGreat
/- Ones of a number, and the numbers that two have in common: contracts of the library, plain facts. -/
namespace Go.Proofs.YtgbnfhfkehpfaaaGreat
open Go.RowKit

theorem i64_and (a b : Nat) (ha : a < 4294967296) (hb : b < 4294967296) : bits .and .i64 (a : Int) (b : Int) = ((a &&& b : Nat) : Int) := by
  have hx : a &&& b < 2 ^ 32 := Nat.and_lt_two_pow _ (by omega)
  show IntKind.i64.wrap ((BitVec.ofInt 64 (a : Int) &&& BitVec.ofInt 64 (b : Int)).toNat : Int) = _
  rw [BitVec.toNat_and, ofInt_u64 a (by omega), ofInt_u64 b (by omega), IntWalk.i64_in _ (by omega)]
def popc (n : Nat) : Int := (((List.range 9).filter (fun k => n.testBit k)).length : Nat)
theorem ones64_any (n : Nat) (hn : n < 257) (w : World) : Calls Tryz.prog 60 #[.int .u64 n] w fun e w' => e = .returned (.int .i64 (popc n)) ∧ w = w' := by
  go_enter Tryz.func60, Tryz.ntmps60
  go_wp2
  go_ret
  refine ⟨ret_i64 ?_, rfl⟩
  revert n
  decide +kernel
theorem ones_any (n : Nat) (hn : n < 257) (w : World) : Calls Tryz.prog 29 #[.int .u64 n] w fun e w' => e = .returned (.int .i64 (popc n)) ∧ w = w' := by
  go_enter Tryz.func29, Tryz.ntmps29
  go_wp2_with (go_at_call 60; refine (ones64_any _ hn _).mono ?_; rintro e w' ⟨rfl, rfl⟩)
  go_ret
  exact ⟨rfl, rfl⟩

end Go.Proofs.YtgbnfhfkehpfaaaGreat
/- Walsh of layer 2 and of its answers: contracts. -/
namespace Go.Proofs.YtgbnfhfkehpfaaaGreat
open Go.RowKit

def longB (p : Int) : Bool := decide (p = 1) || (decide (p = 2) || (decide (p = 4) || decide (p = 8)))
def wsign (i j : Nat) : Int := 1 - 2 * (popc (i &&& j) % 2)
def walshRow (n i : Nat) : List Int := (List.range n).map (wsign i)
def walshM (n : Nat) (rows : List Int) : List (List Int) := (List.range rows.length).map fun k => walshRow n (gt rows k).toNat
def wrowsB (p : Int) (rows : List Int) : Bool := rangeB rows.length 1 6 && (allR 0 (p - 1) rows && ascB (-1) rows)
def walshV (p : Int) (rows : List Int) : List (List Int) × Int := if (longB p && wrowsB p rows) = true then (walshM p.toNat rows, 0) else ([], 7)
theorem walshV_no {p : Int} {rows : List Int} (h : (longB p && wrowsB p rows) = false) : walshV p rows = ([], 7) := by unfold walshV; rw [h]; rfl
theorem walshV_ok {p : Int} {rows : List Int} (h : (longB p && wrowsB p rows) = true) : walshV p rows = (walshM p.toNat rows, 0) := by unfold walshV; rw [h]; rfl
theorem longB_of {p : Int} (h : longB p = true) : p = 1 ∨ p = 2 ∨ p = 4 ∨ p = 8 := by
  simp [longB] at h; omega
theorem longB_no {p : Int} (h : longB p = false) : p ≠ 1 ∧ p ≠ 2 ∧ p ≠ 4 ∧ p ≠ 8 := by
  simp [longB] at h; omega
theorem allR_get {lo hi : Int} {xs : List Int} (h : allR lo hi xs = true) {k : Nat} (hk : k < xs.length) : lo ≤ gt xs k ∧ gt xs k ≤ hi := by
  unfold allR at h; rw [List.all_eq_true] at h
  have e : xs[k]? = some (xs[k]) := by simp
  have := h _ (List.mem_of_getElem? e)
  unfold gt; rw [e]
  simp [rangeB] at this; simpa using this
theorem popc_bd (n : Nat) : 0 ≤ popc n ∧ popc n ≤ 9 := by
  unfold popc
  have := List.length_filter_le (fun k => n.testBit k) (List.range 9)
  simp at this ⊢; omega
theorem wsign_some (i j : Nat) : ∃ c : Int, popc (i &&& j) = c ∧ 0 ≤ c ∧ c ≤ 9 ∧ wsign i j = 1 - 2 * (c % 2) := ⟨_, rfl, (popc_bd _).1, (popc_bd _).2, rfl⟩

theorem walshLong_any (p : Int) (w : World) : Calls Tryz.prog 27 #[.int .i64 p] w fun e w' => e = .returned (.bool (longB p)) ∧ w = w' := by
  cases h : longB p
  · obtain ⟨h1, h2, h4, h8⟩ := longB_no h
    have e1 : (p == 1) = false := by simpa using h1
    have e2 : (p == 2) = false := by simpa using h2
    have e4 : (p == 4) = false := by simpa using h4
    have e8 : (p == 8) = false := by simpa using h8
    clear h1 h2 h4 h8 h
    go_enter Tryz.func27, Tryz.ntmps27
    go_wp2
    go_ret
    exact ⟨rfl, rfl⟩
  · obtain rfl | rfl | rfl | rfl := longB_of h
    all_goals
      clear h
      go_enter Tryz.func27, Tryz.ntmps27
      go_wp2
      go_ret
      exact ⟨rfl, rfl⟩
theorem walshRows_any (p : Int) (hp : 1 ≤ p) (hp8 : p ≤ 8) (a : Option Addr) (xs : List Int) (cap : Nat) (w : World) (hl : xs.length ≤ 9223372036854775807) (hs : Sl w a xs) :
    Calls Tryz.prog 28 #[.int .i64 p, .slice a xs.length cap] w fun e w' => e = .returned (.bool (wrowsB p xs)) ∧ Below w.heap.size w w' := by
  have HS := Lib.hid hs; clear hs
  by_cases h1 : 1 ≤ xs.length
  · by_cases h6 : xs.length ≤ 6
    · have HX : Hid (wrowsB p xs = (allR 0 (p - 1) xs && ascB (-1) xs)) := by
        show wrowsB p xs = _
        have : rangeB xs.length 1 6 = true := by simp [rangeB]; omega
        unfold wrowsB; rw [this, Bool.true_and]
      go_enter Tryz.func28, Tryz.ntmps28
      go_wp2_with fail
      refine (between_any 0 (p - 1) _).mono ?_
      rintro e w1 ⟨rfl, c1, c2, hb⟩
      have HB := Lib.hid hb; clear hb
      go_wp2_with fail
      refine (allbtw_any 0 (p - 1) _ _ _ _ _ _ hl c1 c2 (HS.out.below HB.out)).mono ?_
      rintro e w2 ⟨rfl, rfl⟩
      clear c1 c2
      cases hA : allR 0 (p - 1) xs
      · rw [hA, Bool.false_and] at HX
        clear hA
        go_wp2
        go_ret
        exact ⟨ret_bool HX.out.symm, HB.out⟩
      · rw [hA, Bool.true_and] at HX
        clear hA
        go_wp2_with fail
        refine (asc_any _ _ _ _ hl (HS.out.below HB.out)).mono ?_
        rintro e w3 ⟨rfl, hb3⟩
        go_wp2
        go_ret
        exact ⟨ret_bool HX.out.symm, HB.out.trans (hb3.mono HB.out.size)⟩
    · have HX : Hid (wrowsB p xs = false) := by
        show wrowsB p xs = false
        have : rangeB xs.length 1 6 = false := by simp [rangeB]; omega
        unfold wrowsB; rw [this, Bool.false_and]
      have h6' : 6 < xs.length := by omega
      clear h6
      go_enter Tryz.func28, Tryz.ntmps28
      go_wp2
      go_ret
      exact ⟨ret_bool HX.out.symm, Below.refl _ _⟩
  · have HX : Hid (wrowsB p xs = false) := by
      show wrowsB p xs = false
      have : rangeB xs.length 1 6 = false := by simp [rangeB]; omega
      unfold wrowsB; rw [this, Bool.false_and]
    have h1' : xs.length < 1 := by omega
    clear h1
    go_enter Tryz.func28, Tryz.ntmps28
    go_wp2
    go_ret
    exact ⟨ret_bool HX.out.symm, Below.refl _ _⟩
end Go.Proofs.YtgbnfhfkehpfaaaGreat
