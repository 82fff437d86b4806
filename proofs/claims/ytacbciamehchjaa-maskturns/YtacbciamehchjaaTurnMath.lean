
/- Permuted and signed masks read permuted and signed pictures as the mask the picture, and have its coherence: plain facts. -/
import Derived.Test.YtacbciamehchjaaMCoh
import Derived.Test.YtacbciamehchjaaMPerm
import Derived.Test.YtacbciamehchjaaMSigned2
import Derived.Test.YtacbciamehchjaaMRead
namespace Go.Proofs.Ytacbciamehchjaa
open Go.RowKit Go.Maps

theorem tsumTo_zero : ∀ n, sumTo (fun _ => 0) n = 0
  | 0 => rfl
  | n + 1 => by simp only [sumTo, tsumTo_zero n]; rfl
theorem tsumTo_swap (f : Nat → Nat → Int) (n : Nat) : ∀ m, sumTo (fun i => sumTo (fun j => f i j) n) m = sumTo (fun j => sumTo (fun i => f i j) m) n
  | 0 => by simp only [sumTo]; exact (tsumTo_zero n).symm
  | m + 1 => by
    simp only [sumTo]
    rw [tsumTo_swap f n m, sumTo_add (fun j => sumTo (fun i => f i j) m) (fun j => f m j)]
/-! ### Lists without a number twice -/
theorem kinds_fold : ∀ (xs : List Int) (acc : List Lit), (∀ y ∈ acc, ∃ z, y = litI z) → ((xs.map litI).foldl addKey acc).length ≤ acc.length + xs.length ∧ (((xs.map litI).foldl addKey acc).length = acc.length + xs.length → xs.Nodup ∧ ∀ x ∈ xs, litI x ∉ acc)
  | [], acc, _ => ⟨Nat.le_refl _, fun _ => ⟨List.nodup_nil, fun _ h => by cases h⟩⟩
  | x :: xs, acc, hacc => by
    simp only [List.map_cons, List.foldl_cons, List.length_cons]
    by_cases h : acc.any (fun y => y.sameKey (litI x)) = true
    · have e : addKey acc (litI x) = acc := by unfold addKey; rw [if_pos h]
      rw [e]
      obtain ⟨h1, _⟩ := kinds_fold xs acc hacc
      exact ⟨by omega, fun h2 => by omega⟩
    · have e : addKey acc (litI x) = acc ++ [litI x] := by unfold addKey; rw [if_neg h]
      rw [e]
      obtain ⟨h1, h2⟩ := kinds_fold xs (acc ++ [litI x]) (fun y hy => by
        rcases List.mem_append.1 hy with hy | hy
        · exact hacc y hy
        · exact ⟨x, by simpa using hy⟩)
      rw [List.length_append, List.length_singleton] at h1 h2
      refine ⟨by omega, fun h3 => ?_⟩
      obtain ⟨n1, n2⟩ := h2 (by omega)
      have hx : litI x ∉ acc := fun hm => h (by rw [List.any_eq_true]; exact ⟨_, hm, by simp [litI, Lit.sameKey]⟩)
      refine ⟨List.nodup_cons.2 ⟨fun hm => n2 x hm (by simp), n1⟩, fun y hy => ?_⟩
      rcases List.mem_cons.1 hy with rfl | hy
      · exact hx
      · intro hm; exact n2 y hy (List.mem_append_left _ hm)
theorem kinds_nodup {xs : List Int} (h : kinds xs = xs.length) : xs.Nodup := ((kinds_fold xs [] (fun _ h => by cases h)).2 (by simpa [kinds] using h)).1
theorem nodup_get {xs : List Int} (h : xs.Nodup) {i j : Nat} (hi : i < xs.length) (hj : j < xs.length) (e : gt xs i = gt xs j) : i = j := by
  unfold gt at e
  simp only [List.getElem?_eq_getElem hi, List.getElem?_eq_getElem hj, Option.getD_some] at e
  rcases Nat.lt_trichotomy i j with g | g | g
  · exact absurd e (List.pairwise_iff_getElem.1 h i j hi hj g)
  · exact g
  · exact absurd e.symm (List.pairwise_iff_getElem.1 h j i hj hi g)
/-! ### Sums over permuted indices -/
def indP (p : Nat → Nat) (j k : Nat) : Int := if p k = j then 1 else 0
theorem ind_le (p : Nat → Nat) (j : Nat) : ∀ n, (∀ a b, a < n → b < n → p a = p b → a = b) → 0 ≤ sumTo (indP p j) n ∧ sumTo (indP p j) n ≤ 1 ∧ (sumTo (indP p j) n = 0 → ∀ k, k < n → p k ≠ j) ∧ (sumTo (indP p j) n ≠ 0 → ∃ k, k < n ∧ p k = j)
  | 0, _ => ⟨by simp [sumTo], by simp [sumTo], fun _ k hk => by omega, fun h => absurd rfl h⟩
  | n + 1, h => by
    obtain ⟨h1, h2, h3, h4⟩ := ind_le p j n (fun a b ha hb => h a b (by omega) (by omega))
    simp only [sumTo]
    by_cases e : p n = j
    · have : indP p j n = 1 := by unfold indP; rw [if_pos e]
      rw [this]
      have h0 : sumTo (indP p j) n = 0 := by
        apply Classical.byContradiction
        intro hne
        obtain ⟨k, hk, hk2⟩ := h4 hne
        have := h k n (by omega) (by omega) (by rw [hk2, e])
        omega
      rw [h0]
      exact ⟨by omega, by omega, fun h => by omega, fun _ => ⟨n, by omega, e⟩⟩
    · have : indP p j n = 0 := by unfold indP; rw [if_neg e]
      rw [this, Int.add_zero]
      refine ⟨h1, h2, fun h0 k hk => ?_, fun hne => ?_⟩
      · rcases Nat.lt_or_ge k n with g | g
        · exact h3 h0 k g
        · obtain rfl : k = n := by omega
          exact e
      · obtain ⟨k, hk, hk2⟩ := h4 hne
        exact ⟨k, by omega, hk2⟩
theorem ind_pick (f : Nat → Int) (x : Nat) : ∀ n, x < n → sumTo (fun j => (if x = j then 1 else 0) * f j) n = f x
  | 0, h => by omega
  | n + 1, h => by
    simp only [sumTo]
    by_cases e : x = n
    · subst e
      rw [if_pos rfl, Int.one_mul]
      rw [sumTo_congr x (g := fun _ => 0) (fun j hj => by rw [if_neg (by omega), Int.zero_mul]), tsumTo_zero, Int.zero_add]
    · rw [if_neg e, Int.zero_mul, Int.add_zero]
      exact ind_pick f x n (by omega)
theorem ind_full (p : Nat → Nat) (n : Nat) (hp : ∀ k, k < n → p k < n) (hi : ∀ a b, a < n → b < n → p a = p b → a = b) : ∀ j, j < n → sumTo (indP p j) n = 1 := by
  have tot : sumTo (fun j => sumTo (fun k => indP p j k) n) n = n := by
    rw [← tsumTo_swap (fun k j => indP p j k) n n]
    rw [sumTo_congr n (g := fun _ => 1) (fun k hk => by
      have := ind_pick (fun _ => 1) (p k) n (hp k hk)
      simpa [indP] using this)]
    clear hp hi
    induction n with
    | zero => rfl
    | succ n ih => simp only [sumTo, ih]; omega
  have hz : sumTo (fun j => 1 - sumTo (indP p j) n) n = 0 := by
    have h1 := sumTo_add (fun j => 1 - sumTo (indP p j) n) (fun j => sumTo (indP p j) n) n
    rw [sumTo_congr n (g := fun _ => 1) (fun j _ => by omega)] at h1
    have h2 : sumTo (fun _ => (1 : Int)) n = n := by
      clear hp hi tot h1
      induction n with
      | zero => rfl
      | succ n ih => simp only [sumTo, ih]; omega
    rw [h2] at h1
    have : sumTo (fun j => sumTo (indP p j) n) n = n := tot
    omega
  intro j hj
  have := sumTo_null n (fun i _ => by have := (ind_le p i n hi).2.1; omega) hz j hj
  omega
theorem sumTo_perm (p : Nat → Nat) (f : Nat → Int) (n : Nat) (hp : ∀ k, k < n → p k < n) (hi : ∀ a b, a < n → b < n → p a = p b → a = b) : sumTo (fun k => f (p k)) n = sumTo f n := by
  rw [sumTo_congr n (g := fun k => sumTo (fun j => indP p j k * f j) n) (fun k hk => (ind_pick f (p k) n (hp k hk)).symm)]
  rw [tsumTo_swap (fun k j => indP p j k * f j) n n]
  refine sumTo_congr n fun j hj => ?_
  rw [sumTo_congr n (g := fun k => f j * indP p j k) (fun k _ => Int.mul_comm _ _), sumTo_mul]
  have : sumTo (fun k => indP p j k) n = 1 := ind_full p n hp hi j hj
  rw [this, Int.mul_one]
theorem perm_onto (p : Nat → Nat) (n : Nat) (hp : ∀ k, k < n → p k < n) (hi : ∀ a b, a < n → b < n → p a = p b → a = b) (j : Nat) (hj : j < n) : ∃ k, k < n ∧ p k = j :=
  (ind_le p j n hi).2.2.2 (by rw [ind_full p n hp hi j hj]; decide)
/-! ### What a list of pixels that permutes is -/
theorem permV_of {m : List (List Int)} {ps : List Int} {M : List (List Int)} (h : permV m ps = (M, 0)) : validM m = true ∧ ps.length = colsM m ∧ allThereB m ps = true ∧ ps.Nodup ∧ M = pickM m ps := by
  unfold permV at h
  split at h
  · rename_i h1
    split at h
    · rename_i h2
      split at h
      · rename_i h3
        split at h
        · rename_i h4
          exact ⟨h1, h2, h3, kinds_nodup h4, by simpa using (congrArg Prod.fst h).symm⟩
        · cases h
      · cases h
    · cases h
  · cases h
theorem allThere_at {m : List (List Int)} {ps : List Int} (h : allThereB m ps = true) {k : Nat} (hk : k < ps.length) : 0 ≤ gt ps k ∧ gt ps k < colsM m := by
  unfold allThereB at h
  rw [List.all_eq_true] at h
  have := h ps[k] (List.getElem_mem hk)
  unfold gt
  rw [List.getElem?_eq_getElem hk, Option.getD_some]
  simpa [thereB] using this
theorem gt_pickR {ps r : List Int} {k : Nat} (hk : k < ps.length) : gt (pickR ps r) k = gt r (gt ps k).toNat := by
  unfold pickR gt; simp [hk]
theorem colsM_map {m : List (List Int)} {f : List Int → List Int} (h1 : 1 ≤ m.length) : colsM (m.map f) = (f (m[0]?.getD [])).length := by
  unfold colsM
  have : 0 < m.length := by omega
  simp [this]
theorem valid_map {m : List (List Int)} {f : List Int → List Int} {n : Nat} (hv : validM m = true) (hl : ∀ r ∈ m, (f r).length = n) (hn : 1 ≤ n ∧ n ≤ 10) (ha : ∀ r ∈ m, allB 1 (f r) = true) : validM (m.map f) = true ∧ colsM (m.map f) = n := by
  obtain ⟨h1, h6, _, _, _⟩ := validM_of hv
  have e0 : m[0]?.getD [] ∈ m := by
    have : 0 < m.length := by omega
    rw [List.getElem?_eq_getElem this, Option.getD_some]; exact List.getElem_mem _
  have hc : colsM (m.map f) = n := by rw [colsM_map h1]; exact hl _ e0
  refine ⟨?_, hc⟩
  unfold validM
  rw [hc, Bool.and_eq_true, List.all_eq_true]
  refine ⟨by simp [rangeB]; omega, fun r hr => ?_⟩
  obtain ⟨s, hs, rfl⟩ := List.mem_map.1 hr
  unfold rowB
  rw [hl s hs, ha s hs]
  simp [rangeB]; omega
theorem allB_of {l : List Int} {M : Int} (h : ∀ k, k < l.length → -M ≤ gt l k ∧ gt l k ≤ M) : allB M l = true := by
  unfold allB
  rw [List.all_eq_true]
  intro x hx
  obtain ⟨k, hk, rfl⟩ := List.mem_iff_getElem.1 hx
  have := h k hk
  unfold gt at this
  rw [List.getElem?_eq_getElem hk, Option.getD_some] at this
  simp [outB]; omega
theorem fits_ok {l : List Int} {n : Nat} {M : Int} (hl : l.length = n) (h : ∀ k, k < l.length → -M ≤ gt l k ∧ gt l k ≤ M) : fitsV l n M = 0 := by
  unfold fitsV; rw [if_pos (by rw [hl]), if_pos (allB_of h)]
theorem mok_of_valid {m : List (List Int)} (h : validM m = true) : MOk m := by
  obtain ⟨h1, h6, c1, c10, hr⟩ := validM_of h
  refine ⟨by omega, fun r hm => ⟨by have := (hr r hm).1; omega, fun x hx => ?_⟩⟩
  have := (hr r hm).2
  unfold allB at this
  rw [List.all_eq_true] at this
  have := this x hx
  simp [outB] at this
  unfold I64; omega
/-! ### Coherence -/
theorem coh_same {m M : List (List Int)} (hv : validM m = true) (hV : validM M = true) (hc : colsM M = colsM m) (h1 : ∀ x : PN (colsM M), ∃ y : PN (colsM m), likeP M x = likeP m y) (h2 : ∀ y : PN (colsM m), ∃ x : PN (colsM M), likeP M x = likeP m y) : cohV M = cohV m := by
  have hb : badP M (colsM M) = badP m (colsM m) := by
    rw [Bool.eq_iff_iff]
    unfold badP
    rw [List.any_eq_true, List.any_eq_true]
    constructor
    · rintro ⟨x, _, hx⟩
      obtain ⟨y, e⟩ := h1 x
      exact ⟨y, mem_upPN y, by rw [← e]; exact hx⟩
    · rintro ⟨y, _, hy⟩
      obtain ⟨x, e⟩ := h2 y
      exact ⟨x, mem_upPN x, by rw [e]; exact hy⟩
  unfold cohV
  rw [if_pos hv, if_pos hV]
  by_cases hlt : colsM m < 2
  · rw [if_pos hlt, if_pos (by omega)]
  · rw [if_neg hlt, if_neg (by omega)]
    by_cases hbad : badP m (colsM m) = true
    · rw [if_pos hbad, if_pos (by rw [hb]; exact hbad)]
    · rw [if_neg hbad, if_neg (by rw [hb]; exact hbad)]
      have key : bestL ((upPN (colsM M) (colsM M)).map fun x => (likeP M x).1) = bestL ((upPN (colsM m) (colsM m)).map fun x => (likeP m x).1) := by
        refine bestL_same (fun r hr => ?_) (fun r => ?_)
        · obtain ⟨x, _, rfl⟩ := List.mem_map.1 hr
          have h0 : (likeP M x).2 = 0 := by
            apply Classical.byContradiction
            intro hne
            apply hbad
            rw [← hb]
            unfold badP
            rw [List.any_eq_true]
            exact ⟨x, mem_upPN x, by simpa using hne⟩
          exact (likeP_in hV x h0).1
        · rw [List.mem_map, List.mem_map]
          constructor
          · rintro ⟨x, _, rfl⟩
            obtain ⟨y, e⟩ := h1 x
            exact ⟨y, mem_upPN y, by rw [e]⟩
          · rintro ⟨y, _, rfl⟩
            obtain ⟨x, e⟩ := h2 y
            exact ⟨x, mem_upPN x, by rw [e]⟩
      rw [key]
theorem dot_sym {a b : List Int} (hl : a.length = b.length) : dot a b = dot b a := by
  unfold dot; rw [hl]; exact sumTo_congr _ fun i _ => Int.mul_comm _ _
theorem likeC_eq {a b c d : List Int} (h1 : dot a b * dot a b = dot c d * dot c d) (h2 : dot a a * dot b b = dot c c * dot d d) : likeC a b = likeC c d := by
  unfold likeC; rw [h1, h2]
theorem likeC_sym {a b : List Int} (hl : a.length = b.length) : likeC a b = likeC b a := likeC_eq (by rw [dot_sym hl]) (Int.mul_comm _ _)
/-! ### Permuted -/
theorem pick_facts {m : List (List Int)} {ps : List Int} (hv : validM m = true) (hl : ps.length = colsM m) (ht : allThereB m ps = true) : validM (pickM m ps) = true ∧ colsM (pickM m ps) = colsM m := by
  obtain ⟨_, _, c1, c10, hr⟩ := validM_of hv
  refine valid_map hv (fun r _ => by rw [pickR_len, hl]) ⟨c1, c10⟩ (fun r hm => ?_)
  refine allB_of fun k hk => ?_
  rw [pickR_len] at hk
  rw [gt_pickR hk]
  obtain ⟨g1, g2⟩ := allThere_at ht hk
  have := hr r hm
  exact gt_in this.2 (by omega)
theorem pick_col {m : List (List Int)} {ps : List Int} {k : Nat} (hk : k < ps.length) : colM (pickM m ps) k = colM m (gt ps k).toNat := by
  unfold colM pickM
  rw [List.map_map]
  refine List.map_congr_left fun r _ => ?_
  exact gt_pickR hk
theorem coh_perm {m : List (List Int)} {ps : List Int} (hv : validM m = true) (hl : ps.length = colsM m) (ht : allThereB m ps = true) (hn : ps.Nodup) : cohV (pickM m ps) = cohV m := by
  obtain ⟨hV, hc⟩ := pick_facts hv hl ht
  have hp : ∀ k, k < colsM m → (gt ps k).toNat < colsM m := fun k hk => by have := allThere_at ht (k := k) (by omega); omega
  have hi : ∀ a b, a < colsM m → b < colsM m → (gt ps a).toNat = (gt ps b).toNat → a = b := fun a b ha hb e => by
    have g1 := allThere_at ht (k := a) (by omega)
    have g2 := allThere_at ht (k := b) (by omega)
    exact nodup_get hn (by omega) (by omega) (by omega)
  have sym : ∀ i j, likeC (colM m i) (colM m j) = likeC (colM m j) (colM m i) := fun i j => likeC_sym (by rw [colM_length, colM_length])
  refine coh_same hv hV hc (fun x => ?_) (fun y => ?_)
  · obtain ⟨⟨i, j⟩, hij, hj⟩ := x
    dsimp only at hij hj
    rw [hc] at hj
    have e : ∀ (h : i < j ∧ j < colsM (pickM m ps)), likeP (pickM m ps) (⟨(i, j), h⟩ : PN (colsM (pickM m ps))) = likeC (colM m (gt ps i).toNat) (colM m (gt ps j).toNat) := fun _ => by
      show likeC (colM _ i) (colM _ j) = _
      rw [pick_col (by omega), pick_col (by omega)]
    rw [e]
    rcases Nat.lt_trichotomy (gt ps i).toNat (gt ps j).toNat with g | g | g
    · exact ⟨⟨((gt ps i).toNat, (gt ps j).toNat), g, hp j hj⟩, rfl⟩
    · exact absurd (hi i j (by omega) hj g) (by omega)
    · exact ⟨⟨((gt ps j).toNat, (gt ps i).toNat), g, hp i (by omega)⟩, sym _ _⟩
  · obtain ⟨⟨i, j⟩, hij, hj⟩ := y
    dsimp only at hij hj
    obtain ⟨a, ha, ea⟩ := perm_onto (fun k => (gt ps k).toNat) (colsM m) hp hi i (by omega)
    obtain ⟨b, hb, eb⟩ := perm_onto (fun k => (gt ps k).toNat) (colsM m) hp hi j hj
    have e : ∀ (u v : Nat) (hu : u < ps.length) (hv : v < ps.length) (h : u < v ∧ v < colsM (pickM m ps)), likeP (pickM m ps) (⟨(u, v), h⟩ : PN (colsM (pickM m ps))) = likeC (colM m (gt ps u).toNat) (colM m (gt ps v).toNat) := fun u v hu hv _ => by
      show likeC (colM _ u) (colM _ v) = _
      rw [pick_col hu, pick_col hv]
    have e2 : likeP m (⟨(i, j), hij, hj⟩ : PN (colsM m)) = likeC (colM m i) (colM m j) := rfl
    rcases Nat.lt_trichotomy a b with g | g | g
    · refine ⟨⟨(a, b), g, by rw [hc]; exact hb⟩, ?_⟩
      rw [e a b (by omega) (by omega), e2, ea, eb]
    · exfalso; subst g; omega
    · refine ⟨⟨(b, a), g, by rw [hc]; exact ha⟩, ?_⟩
      rw [e b a (by omega) (by omega), e2, ea, eb, sym]
theorem read_perm {m : List (List Int)} {ps x : List Int} (hv : validM m = true) (hl : ps.length = colsM m) (ht : allThereB m ps = true) (hn : ps.Nodup) : readL (pickM m ps) (pickR ps x) = readL m x := by
  unfold readL pickM
  rw [List.map_map]
  refine List.map_congr_left fun r hr => ?_
  show dot (pickR ps r) (pickR ps x) = dot r x
  have hrl := ((validM_of hv).2.2.2.2 r hr).1
  unfold dot
  rw [pickR_len, hl, hrl]
  rw [sumTo_congr (colsM m) (g := fun k => (fun j => gt r j * gt x j) (gt ps k).toNat) (fun k hk => by rw [gt_pickR (by omega), gt_pickR (by omega)])]
  exact sumTo_perm (fun k => (gt ps k).toNat) (fun j => gt r j * gt x j) (colsM m) (fun k hk => by have := allThere_at ht (k := k) (by omega); omega) (fun a b ha hb e => by
    have g1 := allThere_at ht (k := a) (by omega)
    have g2 := allThere_at ht (k := b) (by omega)
    exact nodup_get hn (by omega) (by omega) (by omega))
theorem pick_fits {m : List (List Int)} {ps x : List Int} {M : Int} (hl : ps.length = colsM m) (hx : x.length = colsM m) (ht : allThereB m ps = true) (ha : allB M x = true) : fitsV (pickR ps x) (colsM (pickM m ps)) M = 0 ∨ colsM (pickM m ps) ≠ colsM m := by
  by_cases hc : colsM (pickM m ps) = colsM m
  · left
    rw [hc]
    refine fits_ok (by rw [pickR_len, hl]) fun k hk => ?_
    rw [pickR_len] at hk
    rw [gt_pickR hk]
    obtain ⟨g1, g2⟩ := allThere_at ht hk
    exact gt_in ha (by omega)
  · exact .inr hc
/-- All that the permuted mask asks for. -/
theorem perm_all {m : List (List Int)} {ps x : List Int} {M : List (List Int)} (h : permV m ps = (M, 0)) (hs : x.length = colsM m) (ha : allB 1000000 x = true) : (∀ k, k < ps.length → 0 ≤ gt ps k ∧ gt ps k < x.length) ∧ ps.length = x.length ∧ cohV M = cohV m ∧ readV M (pickR ps x) = (readL m x, 0) ∧ MOk M := by
  obtain ⟨hv, hl, ht, hn, rfl⟩ := permV_of h
  obtain ⟨hV, hc⟩ := pick_facts hv hl ht
  refine ⟨fun k hk => by rw [hs]; exact allThere_at ht hk, by omega, coh_perm hv hl ht hn, ?_, mok_of_valid hV⟩
  have hf : fitsV (pickR ps x) (colsM (pickM m ps)) 1000000 = 0 := by
    rcases pick_fits (M := 1000000) hl hs ht ha with h | h
    · exact h
    · exact absurd hc h
  rw [readV_ok hV hf, read_perm hv hl ht hn]
/-! ### Signed -/
theorem signR_len (ps r : List Int) : (signR ps r).length = r.length := by simp [signR]
theorem gt_signR {ps r : List Int} {k : Nat} (hk : k < r.length) : gt (signR ps r) k = signAt ps r k := gt_map_range _ hk
theorem sign_facts {m : List (List Int)} {ps : List Int} (hv : validM m = true) : validM (signM m ps) = true ∧ colsM (signM m ps) = colsM m := by
  obtain ⟨_, _, c1, c10, hr⟩ := validM_of hv
  refine valid_map hv (fun r hm => by rw [signR_len]; exact (hr r hm).1) ⟨c1, c10⟩ (fun r hm => ?_)
  refine allB_of fun k hk => ?_
  rw [signR_len] at hk
  rw [gt_signR hk]
  have := gt_in (hr r hm).2 hk
  unfold signAt; split <;> omega
theorem sign_like {m : List (List Int)} {ps : List Int} (hv : validM m = true) {i j : Nat} (hi : i < colsM m) (hj : j < colsM m) : likeC (colM (signM m ps) i) (colM (signM m ps) j) = likeC (colM m i) (colM m j) := by
  have e : ∀ k, k < colsM m → ∃ c : Int, (c = 1 ∨ c = -1) ∧ ∀ q, gt (colM (signM m ps) k) q = c * gt (colM m k) q := fun k hk => by
    refine ⟨if (k : Int) ∈ ps then -1 else 1, by split <;> simp, fun q => ?_⟩
    by_cases hq : q < m.length
    · have e1 : gt (colM (signM m ps) k) q = gt (signR ps m[q]) k := by
        unfold gt colM signM; simp [hq, gt]
      have e2 : gt (colM m k) q = gt m[q] k := by unfold gt colM; simp [hq, gt]
      have hr := ((validM_of hv).2.2.2.2 m[q] (List.getElem_mem hq)).1
      rw [e1, e2, gt_signR (by omega)]
      unfold signAt
      split <;> omega
    · have e1 : gt (colM (signM m ps) k) q = 0 := by unfold gt colM signM; simp [hq]
      have e2 : gt (colM m k) q = 0 := by unfold gt colM; simp [hq]
      rw [e1, e2, Int.mul_zero]
  obtain ⟨c, hc, hci⟩ := e i hi
  obtain ⟨d, hd, hdj⟩ := e j hj
  have key : ∀ (u v : Nat) (a b : Int), (∀ q, gt (colM (signM m ps) u) q = a * gt (colM m u) q) → (∀ q, gt (colM (signM m ps) v) q = b * gt (colM m v) q) → dot (colM (signM m ps) u) (colM (signM m ps) v) = a * b * dot (colM m u) (colM m v) := fun u v a b ha hb => by
    unfold dot
    rw [colM_length, colM_length, ← sumTo_mul]
    have : (signM m ps).length = m.length := by simp [signM]
    rw [this]
    refine sumTo_congr _ fun q _ => ?_
    rw [ha, hb, mul4]
  have c2 : c * c = 1 := by rcases hc with rfl | rfl <;> rfl
  have d2 : d * d = 1 := by rcases hd with rfl | rfl <;> rfl
  refine likeC_eq ?_ ?_
  · rw [key i j c d hci hdj, mul4 (c * d), mul4 c d c d, c2, d2]; simp
  · rw [key i i c c hci hci, key j j d d hdj hdj, c2, d2]; simp
theorem coh_sign {m : List (List Int)} {ps : List Int} (hv : validM m = true) : cohV (signM m ps) = cohV m := by
  obtain ⟨hV, hc⟩ := sign_facts (ps := ps) hv
  refine coh_same hv hV hc (fun x => ?_) (fun y => ?_)
  · obtain ⟨⟨i, j⟩, hij, hj⟩ := x
    dsimp only at hij hj
    rw [hc] at hj
    exact ⟨⟨(i, j), hij, hj⟩, sign_like hv (Nat.lt_trans hij hj) hj⟩
  · obtain ⟨⟨i, j⟩, hij, hj⟩ := y
    dsimp only at hij hj
    exact ⟨⟨(i, j), hij, by rw [hc]; exact hj⟩, sign_like hv (Nat.lt_trans hij hj) hj⟩
theorem read_sign {m : List (List Int)} {ps x : List Int} (hv : validM m = true) (hx : x.length = colsM m) : readL (signM m ps) (signR ps x) = readL m x := by
  unfold readL signM
  rw [List.map_map]
  refine List.map_congr_left fun r hr => ?_
  show dot (signR ps r) (signR ps x) = dot r x
  have hrl := ((validM_of hv).2.2.2.2 r hr).1
  unfold dot
  rw [signR_len]
  refine sumTo_congr _ fun k hk => ?_
  rw [gt_signR hk, gt_signR (by omega)]
  unfold signAt
  split
  · rw [Int.neg_mul_neg]
  · rfl
theorem prev_lt {p : Int} {l : List Int} (h : ascB p l = true) : ∀ j i, i < j → j < l.length → gt l i < gt l j
  | 0, i, hi, _ => by omega
  | j + 1, i, hi, hj => by
    have h1 := ascB_of h (j + 1) hj
    unfold prevOf at h1
    rw [if_neg (by omega)] at h1
    have e : j + 1 - 1 = j := by omega
    rw [e] at h1
    rcases Nat.lt_or_ge i j with g | g
    · have := prev_lt h j i g (by omega); omega
    · obtain rfl : i = j := by omega
      exact h1
theorem asc_fresh {p : Int} {l : List Int} (h : ascB p l = true) {k : Nat} (hk : k < l.length) : gt l k ∉ l.take k := by
  intro hm
  obtain ⟨i, hi, e⟩ := List.mem_iff_getElem.1 hm
  rw [List.length_take] at hi
  have h1 := prev_lt h k i (by omega) hk
  rw [List.getElem_take] at e
  unfold gt at h1
  rw [List.getElem?_eq_getElem (by omega), List.getElem?_eq_getElem hk] at h1
  simp only [Option.getD_some] at h1
  unfold gt at e
  rw [List.getElem?_eq_getElem hk, Option.getD_some] at e
  omega
/-- One sign more turned. -/
theorem signR_zero (x : List Int) : signR [] x = x := by
  refine list_ext_gt (by rw [signR_len]) fun k hk => ?_
  rw [signR_len] at hk
  rw [gt_signR hk]; unfold signAt; rw [if_neg (by simp)]
theorem signR_succ {ps x : List Int} {k j : Nat} (h : ascB (-1) ps = true) (hk : k < ps.length) (hj : gt ps k = j) (hx : j < x.length) : (signR (ps.take k) x).set j (-gt (signR (ps.take k) x) j) = signR (ps.take (k + 1)) x := by
  have ht : ps.take (k + 1) = ps.take k ++ [gt ps k] := by
    rw [List.take_add_one]; unfold gt; rw [List.getElem?_eq_getElem hk]; rfl
  have hfr := asc_fresh h hk
  refine list_ext_gt (by rw [List.length_set, signR_len, signR_len]) fun q hq => ?_
  rw [List.length_set, signR_len] at hq
  rw [gt_set (by rw [signR_len]; exact hx), gt_signR hq, ht]
  by_cases e : q = j
  · subst e
    rw [hj] at hfr ⊢
    have e1 : signAt (ps.take k) x q = gt x q := by unfold signAt; rw [if_neg hfr]
    have e2 : signAt (ps.take k ++ [(q : Int)]) x q = -gt x q := by unfold signAt; rw [if_pos (by simp)]
    rw [if_pos rfl, gt_signR hx, gt_signR hx, e1, e2]
  · rw [if_neg e, gt_signR hq]
    unfold signAt
    have : ((q : Int) ∈ ps.take k ++ [gt ps k]) ↔ ((q : Int) ∈ ps.take k) := by
      rw [List.mem_append, hj]
      constructor
      · rintro (h | h)
        · exact h
        · simp at h; omega
      · exact .inl
    by_cases g : (q : Int) ∈ ps.take k
    · rw [if_pos g, if_pos (this.2 g)]
    · rw [if_neg g, if_neg (fun h => g (this.1 h))]
/-- All that the signed mask asks for. -/
theorem sign_all {m : List (List Int)} {ps x : List Int} (h : listV m ps = 0) (hs : x.length = colsM m) (ha : allB 1000000 x = true) : (∀ k, k < ps.length → 0 ≤ gt ps k ∧ gt ps k < x.length) ∧ cohV (signM m ps) = cohV m ∧ readV (signM m ps) (signR ps x) = (readL m x, 0) ∧ MOk (signM m ps) ∧ ascB (-1) ps = true := by
  obtain ⟨hv, ht, has⟩ := listV_ok h
  obtain ⟨hV, hc⟩ := sign_facts (ps := ps) hv
  refine ⟨fun k hk => by rw [hs]; exact allThere_at ht hk, coh_sign hv, ?_, mok_of_valid hV, has⟩
  have hf : fitsV (signR ps x) (colsM (signM m ps)) 1000000 = 0 := by
    rw [hc]
    refine fits_ok (by rw [signR_len, hs]) fun k hk => ?_
    rw [signR_len] at hk
    rw [gt_signR hk]
    have := gt_in ha hk
    unfold signAt; split <;> omega
  rw [readV_ok hV hf, read_sign hv hs]
end Go.Proofs.Ytacbciamehchjaa
