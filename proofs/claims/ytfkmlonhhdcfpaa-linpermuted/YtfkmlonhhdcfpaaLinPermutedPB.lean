/- Parts of the proof of LinPermuted: plain words, walks and contracts, each under its own heading. -/
import Derived.Test.YtfkmlonhhdcfpaaLinPermutedPA
import Derived.Deep.RegionLaw
import Derived.Deep.AppendLies
import Derived.Laws.ResultCell
import Derived.Laws.NewBlocks
import Derived.BigQuiet
import Derived.Deep.QuietTactic
import Derived.Test.YtfkmlonhhdcfpaaProg
import Derived.IntWalk
import Derived.Deep.RegionHeldLaw
/- One column more: clear keeps a reduction one of determinants. Plain words. Speaks of no program. -/
namespace Go.Proofs.Ytfkmlonhhdcfpaa
open Go.RowKit

theorem bar_skip {R N D : Nat} {A0 A : Nat → Nat → Int} {r : Rd} (h : Bar R N D A0 A r) (hD : D < N) (hp : pivRow r.rows D (r.rows.length - r.piv.length) r.piv.length = none) : Bar R N (D + 1) A0 A r where
  len := h.len
  row := h.row
  pl := h.pl
  pz := fun t ht => ⟨(h.pz t ht).1, by have := (h.pz t ht).2; omega⟩
  asc := h.asc
  val := h.val
  dv := h.dv
  pos := h.pos
  uq := h.uq
  low := fun x h1 h2 c hc => by
    by_cases e : c = D
    · subst e
      rw [← h.val x h2 c hD]
      exact pivRow_none hp x h1 (by have := h.len; have := h.pl; omega)
    · exact h.low x h1 h2 c (by omega)
  ech := h.ech
  arr := h.arr
  ker := h.ker
theorem rowL_swapR_at {M : List (List Int)} {k i x : Nat} (hk : k < M.length) (hi : i < M.length) : rowL (swapR M k i) x = if x = k then rowL M i else if x = i then rowL M k else rowL M x := by
  by_cases e : x = k
  · subst e; rw [if_pos rfl]; exact rowL_swapR hk hi
  · rw [if_neg e]
    unfold swapR
    by_cases e2 : x = i
    · subst e2; rw [if_pos rfl]; apply rowL_some; rw [List.getElem?_set_self (by simpa using hi)]
    · rw [if_neg e2]; unfold rowL; rw [List.getElem?_set_ne (Ne.symm e2), List.getElem?_set_ne (Ne.symm e)]
theorem gt_ownR {q : List Int} {D c : Nat} (h : ∀ c, c < q.length → -720000000 ≤ gt q c ∧ gt q c ≤ 720000000) (hc : c < q.length) : gt (ownR q D) c = (if gt q D < 0 then -1 else 1) * gt q c := by
  unfold ownR
  split
  · have e : gt (negL q) c = IntKind.i64.wrap (-gt q c) := by unfold gt negL; simp [hc]
    have := h c hc
    rw [e, wrap_id (by omega) (by omega)]; omega
  · omega
theorem gt_combL {next times dv : Int} {own row : List Int} {c : Nat} (hc : c < row.length) : gt (combL next times dv own row) c = combI next times dv (gt row c) (gt own c) := by
  unfold combL combTo; rw [gt_map_range _ hc, if_pos hc]
theorem gt_snoc (xs : List Int) (v : Int) (t : Nat) : gt (xs ++ [v]) t = if t < xs.length then gt xs t else if t = xs.length then v else 0 := by
  unfold gt
  by_cases h : t < xs.length
  · rw [if_pos h, List.getElem?_append_left h]
  · rw [if_neg h, List.getElem?_append_right (by omega)]
    by_cases e : t = xs.length
    · subst e; simp
    · rw [if_neg e, List.getElem?_eq_none (by simp; omega)]; rfl
theorem bar_step {R N D cols : Nat} {A0 A : Nat → Nat → Int} {r : Rd} (h : Bar R N D A0 A r) (hR : R ≤ 6) (hD : D < cols) (hN : cols ≤ N) (hb1 : ∀ i, i < R → ∀ c, c < cols → -1 ≤ A0 i c ∧ A0 i c ≤ 1) (hb2 : ∀ i, i < R → ∀ c, c < N → -1000000 ≤ A0 i c ∧ A0 i c ≤ 1000000)
    {i : Nat} (hp : pivRow r.rows D (r.rows.length - r.piv.length) r.piv.length = some i) : ∃ A', Bar R N (D + 1) A0 A' (clearR D r) := by
  obtain ⟨h1, h2, h3⟩ := pivRow_some hp
  obtain ⟨rcols, rows, piv, rdv⟩ := r
  obtain ⟨len, row, pl, pz, asc, val, dv, pos, uq, low, ech, arr, ker⟩ := h
  dsimp only at len row pl pz asc val dv pos uq low ech arr ker h1 h2 h3 hp
  obtain ⟨k, hk⟩ : ∃ k, piv.length = k := ⟨_, rfl⟩
  obtain ⟨p, hpp⟩ : ∃ p, pivN { cols := rcols, rows := rows, piv := piv, dv := rdv } = p := ⟨_, rfl⟩
  rw [hpp] at asc val dv uq low ech
  rw [hk] at pl pz asc val dv uq low ech h1 h2
  have hiR : i < R := by omega
  have hkR : k < R := by omega
  have hpt : ∀ t, t < k → p t < D := by
    intro t ht
    rw [← hpp]
    have := pz t ht
    show (gt piv t).toNat < D
    omega
  -- the rows' numbers are small
  have hA1 : ∀ x, x < R → ∀ c, c < cols → -1 ≤ A x c ∧ A x c ≤ 1 := fun x hx c hc => arr_bd arr (fun i hi => hb1 i hi c hc) x hx
  have hA2 : ∀ x, x < R → ∀ c, c < N → -1000000 ≤ A x c ∧ A x c ≤ 1000000 := fun x hx c hc => arr_bd arr (fun i hi => hb2 i hi c hc) x hx
  have bigN : ∀ x, x < R → ∀ c, c < N → -720000000 ≤ mk A p k x c ∧ mk A p k x c ≤ 720000000 := fun x hx c hc => mk_bd6 (Y := 1000000) (by decide) pl hR hx (fun i hi t ht => hA1 i hi _ (by have := hpt t ht; omega)) (fun i hi => hA2 i hi c hc)
  have bigC : ∀ x, x < R → ∀ c, c < cols → -720 ≤ mk A p k x c ∧ mk A p k x c ≤ 720 := fun x hx c hc => mk_bd6 (Y := 1) (by decide) pl hR hx (fun i hi t ht => hA1 i hi _ (by have := hpt t ht; omega)) (fun i hi => hA1 i hi c hc)
  -- the new order
  obtain ⟨s, hs⟩ : ∃ s : Int, (if gt (rowL rows i) D < 0 then -1 else 1) = s := ⟨_, rfl⟩
  have hs1 : s = 1 ∨ s = -1 := by rw [← hs]; split <;> simp
  obtain ⟨A', hA'⟩ : ∃ A' : Nat → Nat → Int, (fun x c => if x = k then s * A i c else if x = i then A k c else A x c) = A' := ⟨_, rfl⟩
  have a'k : ∀ c, A' k c = s * A i c := fun c => by rw [← hA']; simp
  have a'i : i ≠ k → A' i = A k := fun e => by rw [← hA']; funext c; simp [e]
  have a'x : ∀ x, x ≠ k → x ≠ i → A' x = A x := fun x e1 e2 => by rw [← hA']; funext c; simp [e1, e2]
  have a'u : ∀ x, x < k → A' x = A x := fun x hx => a'x x (by omega) (by omega)
  have mu : ∀ t, t < k → ∀ c, mk A' p k t c = mk A p k t c := fun t ht c => mk_congr (fun _ _ => rfl) a'u (a'u t ht)
  have dte : dt A' p k = dt A p k := detC_congr k fun t _ x hx => by unfold colF; rw [a'u x hx]
  have mkk : ∀ c, mk A' p k k c = s * mk A p k i c := fun c => by
    rw [mk_scale (v := A i) (s := s) (Nat.le_refl k) a'k, mk_low (x := i) h1, dte]
    congr 2
    exact sumTo_congr k fun t ht => by rw [mu t ht]
  have mki : i ≠ k → ∀ c, mk A' p k i c = mk A p k k c := fun e c => by
    rw [mk_low h1, mk_low (x := k) (Nat.le_refl k), dte, a'i e]
    congr 1
    exact sumTo_congr k fun t ht => by rw [mu t ht]
  have mkx : ∀ x, x ≠ k → x ≠ i → ∀ c, mk A' p k x c = mk A p k x c := fun x e1 e2 c => mk_congr (fun _ _ => rfl) a'u (a'x x e1 e2)
  -- the rows behind the swap
  have rl : ∀ x, x < R → (rowL rows x).length = N := fun x hx => row _ (rowL_mem (by omega))
  have own_at : ∀ c, c < N → gt (ownR (rowL rows i) D) c = mk A' p k k c := fun c hc => by
    rw [gt_ownR (fun c hc => by rw [rl i hiR] at hc; rw [val i hiR c hc]; exact bigN i hiR c hc) (by rw [rl i hiR]; exact hc), hs, mkk, val i hiR c hc]
  have sw : ∀ x, rowL (swapR rows k i) x = if x = k then rowL rows i else if x = i then rowL rows k else rowL rows x := fun x => rowL_swapR_at (by omega) (by omega)
  have swl : (swapR rows k i).length = R := by rw [swapR_len]; exact len
  have sw_at : ∀ x, x < R → x ≠ k → ∀ c, c < N → gt (rowL (swapR rows k i) x) c = mk A' p k x c := by
    intro x hx e c hc
    rw [sw, if_neg e]
    by_cases e2 : x = i
    · subst e2; rw [if_pos rfl, val k hkR c hc, mki e]
    · rw [if_neg e2, val x hx c hc, mkx x e e2]
  have swll : ∀ x, x < R → (rowL (swapR rows k i) x).length = N := by
    intro x hx
    rw [sw]; split
    · exact rl i hiR
    · split
      · exact rl k hkR
      · exact rl x hx
  have arr' : ∀ x, x < R → ∃ j s, j < R ∧ (s = 1 ∨ s = -1) ∧ ∀ c, A' x c = s * A0 j c := by
    intro x hx
    by_cases e : x = k
    · subst e
      obtain ⟨j, s2, hj, hs2, e2⟩ := arr i hiR
      refine ⟨j, s * s2, hj, by rcases hs1 with rfl | rfl <;> rcases hs2 with rfl | rfl <;> simp, fun c => by rw [a'k, e2, Int.mul_assoc]⟩
    · by_cases e2 : x = i
      · subst e2; rw [a'i e]; exact arr k hkR
      · rw [a'x x e e2]; exact arr x hx
  have hB1 : ∀ x, x < R → ∀ c, c < cols → -1 ≤ A' x c ∧ A' x c ≤ 1 := fun x hx c hc => arr_bd arr' (fun i hi => hb1 i hi c hc) x hx
  have hB2 : ∀ x, x < R → ∀ c, c < N → -1000000 ≤ A' x c ∧ A' x c ≤ 1000000 := fun x hx c hc => arr_bd arr' (fun i hi => hb2 i hi c hc) x hx
  -- the new pivots
  obtain ⟨p', hp'⟩ : ∃ p', (fun t => (gt (piv ++ [(D : Int)]) t).toNat) = p' := ⟨_, rfl⟩
  have pu : ∀ t, t < k → p' t = p t := fun t ht => by rw [← hp', ← hpp]; show (gt (piv ++ [(D : Int)]) t).toNat = (gt piv t).toNat; rw [gt_snoc, if_pos (by omega)]
  have pk : p' k = D := by rw [← hp']; show (gt (piv ++ [(D : Int)]) k).toNat = D; rw [gt_snoc, if_neg (by omega), if_pos (by omega)]; rfl
  have mp : ∀ x c, mk A' p' k x c = mk A' p k x c := fun x c => mk_congr pu (fun _ _ => rfl) rfl
  have dtp : dt A' p' k = dt A p k := by rw [← dte]; exact detC_congr k fun t ht x _ => by unfold colF; rw [pu t ht]
  have d' : dt A' p' (k + 1) = mk A' p k k D := by rw [dt_succ, pk, mp]
  have d'pos : 0 < dt A' p' (k + 1) := by
    rw [d', mkk, ← hs, ← val i hiR D (by omega)]
    split <;> omega
  have uqk : Uniq A' p' k := by
    intro z hz
    refine uq z fun x hx => ?_
    rw [← hz x hx]
    exact sumTo_congr k fun t ht => by rw [a'u x hx, pu t ht]
  have d0 : dt A p k ≠ 0 := by omega
  have uq' : Uniq A' p' (k + 1) := uniq_succ uqk (by rw [dtp]; exact d0) (by omega)
  have stepx : ∀ x, x ≠ k → ∀ c, dt A p k * mk A' p' (k + 1) x c = dt A' p' (k + 1) * mk A' p k x c - mk A' p k x D * mk A' p k k c := by
    intro x hx c
    have := mk_step uq' hx c
    rw [dtp, mp, mp, mp, pk] at this
    exact this
  have ownk : ∀ c, mk A' p' (k + 1) k c = mk A' p k k c := fun c => by rw [mk_succ_own, mp]
  have pt' : ∀ t, t < k + 1 → p' t < cols := fun t ht => by
    by_cases e : t = k
    · subst e; rw [pk]; exact hD
    · rw [pu t (by omega)]; have := hpt t (by omega); omega
  have bigN' : ∀ x, x < R → ∀ c, c < N → -720000000 ≤ mk A' p' (k + 1) x c ∧ mk A' p' (k + 1) x c ≤ 720000000 := fun x hx c hc => mk_bd6 (Y := 1000000) (by decide) hkR hR hx (fun i hi t ht => hB1 i hi _ (pt' t ht)) (fun i hi => hB2 i hi c hc)
  have bK : ∀ x, x < R → ∀ c, c < N → -720000000 ≤ mk A' p k x c ∧ mk A' p k x c ≤ 720000000 := fun x hx c hc => mk_bd6 (Y := 1000000) (by decide) pl hR hx (fun i hi t ht => hB1 i hi _ (by have := hpt t ht; omega)) (fun i hi => hB2 i hi c hc)
  have bC : ∀ x, x < R → ∀ c, c < cols → -720 ≤ mk A' p k x c ∧ mk A' p k x c ≤ 720 := fun x hx c hc => mk_bd6 (Y := 1) (by decide) pl hR hx (fun i hi t ht => hB1 i hi _ (by have := hpt t ht; omega)) (fun i hi => hB1 i hi c hc)
  have zl : ∀ x, k ≤ x → x < R → ∀ c, c < D → mk A' p k x c = 0 := by
    intro x hx hxR c hc
    by_cases e : x = k
    · subst e; rw [mkk, low i h1 hiR c hc, Int.mul_zero]
    · by_cases e2 : x = i
      · subst e2; rw [mki e]; exact low k (Nat.le_refl k) hkR c hc
      · rw [mkx x e e2]; exact low x hx hxR c hc
  have eqr : clearR D { cols := rcols, rows := rows, piv := piv, dv := rdv } = { cols := rcols, rows := clearTo (swapR rows k i) (ownR (rowL rows i) D) k D rdv R, piv := piv ++ [(D : Int)], dv := gt (ownR (rowL rows i) D) D } := by
    unfold clearR
    simp only [hk] at hp ⊢
    rw [hp]
    simp only [rowL_swapR (M := rows) (i := k) (j := i) (by omega) (by omega), swl]
  rw [eqr]
  have hpn : pivN { cols := rcols, rows := clearTo (swapR rows k i) (ownR (rowL rows i) D) k D rdv R, piv := piv ++ [(D : Int)], dv := gt (ownR (rowL rows i) D) D } = p' := by rw [← hp']; rfl
  have hpl : (piv ++ [(D : Int)]).length = k + 1 := by simp [hk]
  have hrow : ∀ x, x < R → rowL (clearTo (swapR rows k i) (ownR (rowL rows i) D) k D rdv R) x = if x = k then ownR (rowL rows i) D else combL (gt (ownR (rowL rows i) D) D) (gt (rowL (swapR rows k i) x) D) rdv (ownR (rowL rows i) D) (rowL (swapR rows k i) x) := by
    intro x hx
    apply rowL_some
    rw [clearTo_get (by omega), if_pos hx]
  refine ⟨A', ?_⟩
  constructor <;> (try dsimp only)
  case len => rw [clearTo_len]; exact swl
  case row =>
    intro q hq
    obtain ⟨x, hx, rfl⟩ := List.mem_map.1 hq
    have hx := List.mem_range.1 hx
    rw [swl] at hx
    split
    · rw [ownR_len]; exact rl i hiR
    · first
      | (rw [combL_len]; exact swll x hx)
      | (rw [if_pos hx, combL_len]; exact swll x hx)
  case pl => rw [hpl]; exact hkR
  case pz =>
    intro t ht
    rw [hpl] at ht
    rw [gt_snoc, hk]
    split
    · rename_i q; have := pz t q; omega
    · rw [if_pos (by omega)]; omega
  case asc =>
    intro a b hab hb
    rw [hpl] at hb
    rw [hpn]
    by_cases e : b = k
    · subst e; rw [pk, pu a hab]; exact hpt a hab
    · rw [pu a (by omega), pu b (by omega)]; exact asc a b hab (by omega)
  case val =>
    intro x hx c hc
    rw [hpn, hpl, hrow x hx]
    split
    · rename_i e; subst e; rw [own_at c hc, ownk]
    · rename_i e
      rw [gt_combL (by rw [swll x hx]; exact hc), sw_at x hx e c hc, sw_at x hx e D (by omega), own_at c hc, own_at D (by omega), ← d', dv]
      refine combI_exact d0 (stepx x e c) ?_ (bK x hx c hc) (bC x hx D hD) (bK k hkR c hc) (bigN' x hx c hc)
      rw [d']; exact bC k hkR D hD
  case dv => rw [hpn, hpl, own_at D (by omega), d']
  case pos => rw [own_at D (by omega), ← d']; exact d'pos
  case uq => rw [hpn, hpl]; exact uq'
  case low =>
    intro x h4 h5 c hc
    rw [hpl] at h4
    rw [hpn, hpl]
    have hst := stepx x (by omega) c
    by_cases e : c = D
    · subst e
      rw [d', Int.mul_comm (mk A' p k k c), Int.sub_self] at hst
      exact (Int.mul_eq_zero.1 hst).resolve_left d0
    · rw [zl x (by omega) h5 c (by omega), zl k (Nat.le_refl k) hkR c (by omega)] at hst
      simp only [Int.mul_zero, Int.sub_self] at hst
      exact (Int.mul_eq_zero.1 hst).resolve_left d0
  case ech =>
    intro t ht c hc
    rw [hpl] at ht
    rw [hpn] at hc ⊢
    rw [hpl]
    by_cases e : t = k
    · subst e
      rw [pk] at hc
      rw [ownk]; exact zl t (Nat.le_refl _) hkR c hc
    · rw [pu t (by omega)] at hc
      have hst := stepx t e c
      rw [mu t (by omega), ech t (by omega) c hc, zl k (Nat.le_refl k) hkR c (by have := hpt t (by omega); omega)] at hst
      simp only [Int.mul_zero, Int.sub_self] at hst
      exact (Int.mul_eq_zero.1 hst).resolve_left d0
  case arr => exact arr'
  case ker =>
    intro w
    rw [ker w]
    have sc : sumTo (fun c => A' k c * w c) N = s * sumTo (fun c => A i c * w c) N := by
      rw [← sumTo_mul]; exact sumTo_congr N fun c _ => by rw [a'k, Int.mul_assoc]
    constructor
    · intro hz x hx
      by_cases e : x = k
      · subst e; rw [sc, hz i hiR, Int.mul_zero]
      · by_cases e2 : x = i
        · subst e2; rw [a'i e]; exact hz k hkR
        · rw [a'x x e e2]; exact hz x hx
    · intro hz x hx
      have hi0 : sumTo (fun c => A i c * w c) N = 0 := by
        have := hz k hkR
        rw [sc] at this
        rcases Int.mul_eq_zero.1 this with q | q
        · rcases hs1 with rfl | rfl <;> cases q
        · exact q
      by_cases e2 : x = i
      · subst e2; exact hi0
      · by_cases e : x = k
        · subst e; have := hz i hiR; rw [a'i (by omega)] at this; exact this
        · have := hz x hx; rw [a'x x e e2] at this; exact this
end Go.Proofs.Ytfkmlonhhdcfpaa
/- Rows of the call's own that are appended one by one to a slice of rows. -/
namespace Go.Proofs.Ytfkmlonhhdcfpaa
open Go.RowKit

theorem row_below {w w' : World} {base : Nat} {e : TypeId} {sz n : Nat} {v : Value} {xs : List Value} (h : w.ownsRow base e sz v n xs) (hb : Below w.heap.size w w') : w'.ownsRow base e sz v n xs := by
  obtain ⟨h0, h1 | ⟨g, cap, cur, e, hg, hh, rest⟩⟩ := h
  · exact ⟨h0, .inl h1⟩
  · exact ⟨h0, .inr ⟨g, cap, cur, e, hg, (hb.block g (Array.getElem?_eq_some_iff.1 hh).1).trans hh, rest⟩⟩
theorem Try.infoRowL : (Try.prog.info? 24).map (fun i => (i.zero, i.size, i.bytes)) = some (some (.slice none 0 0), 1, 24) := by kernel_rfl
def hdrs (ads : List (Nat × Nat)) (M : List (List Int)) : List Value := List.zipWith (fun x r => Value.slice (some ⟨x.1, 0, none⟩) r.length x.2) ads M
/-- Rows of the call's own that are being appended one by one. -/
structure RS (base : Nat) (rv : Value) (ads : List (Nat × Nat)) (M : List (List Int)) (w : World) : Prop where
  len : ads.length = M.length
  own : w.ownsRow base 24 1 rv M.length (hdrs ads M)
  row : ∀ (i : Nat) (x : Nat × Nat) (r : List Int), ads[i]? = some x → M[i]? = some r → OwnI w base (.slice (some ⟨x.1, 0, none⟩) r.length x.2) r
  apart : ∀ (i j : Nat) (x y : Nat × Nat), ads[i]? = some x → ads[j]? = some y → i ≠ j → x.1 ≠ y.1
  out : ∀ (i : Nat) (x : Nat × Nat), ads[i]? = some x → base ≤ x.1 ∧ x.1 < w.heap.size ∧ rv.ownBlock ≠ some x.1
theorem RS.below {base : Nat} {rv : Value} {ads : List (Nat × Nat)} {M : List (List Int)} {w w' : World} (h : RS base rv ads M w) (hb : Below w.heap.size w w') : RS base rv ads M w' where
  len := h.len
  own := row_below h.own hb
  row := fun i x r e1 e2 => (h.row i x r e1 e2).below hb
  apart := h.apart
  out := fun i x e => ⟨(h.out i x e).1, Nat.lt_of_lt_of_le (h.out i x e).2.1 hb.size, (h.out i x e).2.2⟩
theorem get_snoc {α : Type} {l : List α} {y : α} {i : Nat} {x : α} (e : (l ++ [y])[i]? = some x) : l[i]? = some x ∨ (i = l.length ∧ x = y) := by
  rcases Nat.lt_trichotomy i l.length with hi | hi | hi
  · rw [List.getElem?_append_left hi] at e; exact .inl e
  · subst hi; simp at e; exact .inr ⟨rfl, e.symm⟩
  · have := (List.getElem?_eq_some_iff.1 e).1; simp at this; omega
theorem RS.push {base : Nat} {rv : Value} {ads : List (Nat × Nat)} {M : List (List Int)} {V w' : World} (h : RS base rv ads M V) {row : List Int} {nb nc g cap : Nat} (hrow : OwnI V base (.slice (some ⟨nb, 0, none⟩) row.length nc) row)
    (hap : ∀ (i : Nat) (x : Nat × Nat), ads[i]? = some x → x.1 ≠ nb) (hne : rv.ownBlock ≠ some nb)
    (h1 : w'.ownsRow base 24 1 (.slice (some ⟨g, 0, none⟩) (M.length + 1) cap) (M.length + 1) (hdrs ads M ++ [.slice (some ⟨nb, 0, none⟩) row.length nc])) (h2 : V.grownBy w' rv.ownBlock) (h3 : rv.ownBlock = some g ∨ g = V.heap.size) :
    RS base (.slice (some ⟨g, 0, none⟩) (M.length + 1) cap) (ads ++ [(nb, nc)]) (M ++ [row]) w' := by
  have far : ∀ b, b < V.heap.size → rv.ownBlock ≠ some b → w'.heap[b]? = V.heap[b]? := fun b hb hn => h2.block b hb (fun e => hn e.symm)
  have hne2 : ∀ b, b < V.heap.size → rv.ownBlock ≠ some b → g ≠ b := by
    intro b hb hn e
    rcases h3 with h3 | h3
    · exact hn (by rw [h3, e])
    · omega
  have hsz : V.heap.size ≤ w'.heap.size := h2.size
  have hnb := OwnI.lt hrow
  have hh : hdrs (ads ++ [(nb, nc)]) (M ++ [row]) = hdrs ads M ++ [.slice (some ⟨nb, 0, none⟩) row.length nc] := by
    unfold hdrs; rw [List.zipWith_append h.len]; rfl
  refine ⟨by simp [h.len], ?_, ?_, ?_, ?_⟩
  · rw [hh]; simpa using h1
  · intro i x r e1 e2
    have hl := h.len
    rcases get_snoc e1 with e1 | ⟨i1, rfl⟩
    · have hi := (List.getElem?_eq_some_iff.1 e1).1
      rw [List.getElem?_append_left (by omega)] at e2
      obtain ⟨_, a2, a3⟩ := h.out i x e1
      exact (h.row i x r e1 e2).sameBlock (far x.1 a2 a3)
    · subst i1
      rw [hl] at e2; simp at e2; subst e2
      exact hrow.sameBlock (far nb hnb.1 hne)
  · intro i j x y e1 e2 hij
    rcases get_snoc e1 with e1 | ⟨i1, rfl⟩ <;> rcases get_snoc e2 with e2 | ⟨i2, rfl⟩
    · exact h.apart i j x y e1 e2 hij
    · exact hap i x e1
    · exact fun e => hap j y e2 e.symm
    · omega
  · intro i x e
    have : base ≤ x.1 ∧ x.1 < V.heap.size ∧ rv.ownBlock ≠ some x.1 := by
      rcases get_snoc e with e | ⟨_, rfl⟩
      · exact h.out i x e
      · exact ⟨hnb.2, hnb.1, hne⟩
    exact ⟨this.1, by omega, fun e => hne2 x.1 this.2.1 this.2.2 (by simpa [Value.ownBlock] using e)⟩
/-- One row appended, in a region that draws its order. -/
theorem step_pushRow {ops : Array Oper} {o : Oper} {act : Act} {K : Act → World → Prop} {Q : Exit → Act → World → Prop} {E : Prop} (hgd : o.guard = none) (s x : Operand)
    (ho : o.op = .call { callee := .builtin .append, args := #[s, x], argTypes := #[22, 22] }) (base : Nat) (rv : Value) (ads : List (Nat × Nat)) (M : List (List Int)) (row : List Int) (nb nc : Nat) (W : World) (A : Nat)
    (hv : act.eval s = rv) (hx : act.eval x = .slice (some ⟨A, 0, none⟩) 1 1) (hnew : W.cell? ⟨A, 0, none⟩ = some (.slice (some ⟨nb, 0, none⟩) row.length nc)) (hown : RS base rv ads M W) (hrow : OwnI W base (.slice (some ⟨nb, 0, none⟩) row.length nc) row)
    (hap : ∀ (i : Nat) (x : Nat × Nat), ads[i]? = some x → x.1 ≠ nb) (hne : rv.ownBlock ≠ some nb) (hl : M.length ≤ 1000) (hbase : base ≤ W.heap.size)
    (h : ∀ g cap w', RS base (.slice (some ⟨g, 0, none⟩) (M.length + 1) cap) (ads ++ [(nb, nc)]) (M ++ [row]) w' → W.grownBy w' rv.ownBlock → (rv.ownBlock = some g ∨ g = W.heap.size) → K (act.put o.dst (.slice (some ⟨g, 0, none⟩) (M.length + 1) cap)) w') : if Region.wanted o (yielded ops act.tmps) = true then Oper.wp Try.prog o act W K Q else E := by
  obtain ⟨i0, hi, hz0, hz1, hz2⟩ := info_parts Try.infoRowL
  refine step_append_lies W hgd s x 22 ho base 24 i0 (.slice none 0 0) 1 24 Try.underlying22 hi hz0 hz1 hz2 rfl (by decide) rv M.length (hdrs ads M) hv hown.own ⟨A, 0, none⟩ 1 1 [.slice (some ⟨nb, 0, none⟩) row.length nc] hx rfl ?_ ?_ (by decide) (by unfold maxLen; omega) (by omega) hbase W.heap.size rfl ?_
  · intro j u hj
    match j, hj with
    | 0, hj =>
      simp at hj; subst hj
      rw [addr_add]; exact hnew
    | j + 1, hj => simp at hj
  · intro u hu; simp at hu; subst hu; rfl
  · intro g cap w' h1 h2 h3 _
    exact h g cap w' (hown.push hrow hap hne h1 h2 h3) h2 h3
theorem row_same {w w' : World} {base : Nat} {e : TypeId} {sz n : Nat} {v : Value} {xs : List Value} (h : w.ownsRow base e sz v n xs) (hb : ∀ b, v.ownBlock = some b → w'.heap[b]? = w.heap[b]?) : w'.ownsRow base e sz v n xs := by
  obtain ⟨h0, h1 | ⟨g, cap, cur, e, hg, hh, rest⟩⟩ := h
  · exact ⟨h0, .inl h1⟩
  · exact ⟨h0, .inr ⟨g, cap, cur, e, hg, (hb g (by rw [e]; rfl)).trans hh, rest⟩⟩
theorem RS.stored {base B : Nat} {rv : Value} {ads : List (Nat × Nat)} {M : List (List Int)} {w : World} (h : RS base rv ads M w) (h1 : rv.ownBlock ≠ some B) (h2 : ∀ (i : Nat) (x : Nat × Nat), ads[i]? = some x → x.1 ≠ B) (o : Nat) (u : Value) : RS base rv ads M (w.setCell ⟨B, o, none⟩ u) where
  len := h.len
  own := row_same h.own fun b e => Below.heap_setCell w _ _ b (by show b ≠ B; rintro rfl; exact h1 e)
  row := fun i x r e1 e2 => (h.row i x r e1 e2).sameBlock (Below.heap_setCell w _ _ x.1 (h2 i x e1))
  apart := h.apart
  out := fun i x e => ⟨(h.out i x e).1, by rw [World.size_setCell]; exact (h.out i x e).2.1, (h.out i x e).2.2⟩
/-- The box of a reduction whose rows are being laid. -/
structure RB (B : Nat) (cols : Int) (rv : Value) (w : World) : Prop where
  c0 : w.cell? ⟨B, 0, none⟩ = some (.int .i64 cols)
  c1 : w.cell? ⟨B, 1, none⟩ = some rv
  c2 : w.cell? ⟨B, 2, none⟩ = some (.slice none 0 0)
  c3 : w.cell? ⟨B, 3, none⟩ = some (.int .i64 1)
  f1 : w.frozen? ⟨B, 1, none⟩ = false
  f2 : w.frozen? ⟨B, 2, none⟩ = false
  f3 : w.frozen? ⟨B, 3, none⟩ = false
theorem RB.kept {B : Nat} {cols : Int} {rv : Value} {w w' : World} (h : RB B cols rv w) (hb : w'.heap[B]? = w.heap[B]?) : RB B cols rv w' :=
  ⟨(World.cell?_of_block hb).trans h.c0, (World.cell?_of_block hb).trans h.c1, (World.cell?_of_block hb).trans h.c2, (World.cell?_of_block hb).trans h.c3, (World.frozen?_of_block hb).trans h.f1, (World.frozen?_of_block hb).trans h.f2, (World.frozen?_of_block hb).trans h.f3⟩
theorem RB.stored {B : Nat} {cols : Int} {rv : Value} {w : World} (h : RB B cols rv w) (u : Value) : RB B cols u (w.setCell ⟨B, 1, none⟩ u) where
  c0 := (World.cell?_setCell_other w ⟨B, 1, none⟩ ⟨B, 0, none⟩ u (by simp)).trans h.c0
  c1 := World.cell?_setCell_same _ _ _ h.c1
  c2 := (World.cell?_setCell_other w ⟨B, 1, none⟩ ⟨B, 2, none⟩ u (by simp)).trans h.c2
  c3 := (World.cell?_setCell_other w ⟨B, 1, none⟩ ⟨B, 3, none⟩ u (by simp)).trans h.c3
  f1 := by simpa using h.f1
  f2 := by simpa using h.f2
  f3 := by simpa using h.f3
/-- The box's slice of rows behind one more row. -/
theorem rs_pushed {base B nb nc G2 cp2 : Nat} {rv : Value} {ads : List (Nat × Nat)} {M : List (List Int)} {row : List Int} {w0 wr w9 : World} {ob : Obj} (hb : Below base w0 wr) (hbB : base ≤ B) (lB : B < wr.heap.size) (hrs : RS base rv ads M wr)
    (hne : rv.ownBlock ≠ some B ∧ ∀ (i : Nat) (x : Nat × Nat), ads[i]? = some x → x.1 ≠ B) (hnb : B < nb)
    (ho : RS base (.slice (some ⟨G2, 0, none⟩) (M.length + 1) cp2) (ads ++ [(nb, nc)]) (M ++ [row]) w9) (hg : (wr.alloc ob).drew.grownBy w9 rv.ownBlock) (hat : rv.ownBlock = some G2 ∨ G2 = (wr.alloc ob).drew.heap.size) {cols : Int} (hc : RB B cols rv w9) :
    RS base (.slice (some ⟨G2, 0, none⟩) (M.length + 1) cp2) (ads ++ [(nb, nc)]) (M ++ [row]) (w9.setCell ⟨B, 1, none⟩ (.slice (some ⟨G2, 0, none⟩) (M.length + 1) cp2))
    ∧ RB B cols (.slice (some ⟨G2, 0, none⟩) (M.length + 1) cp2) (w9.setCell ⟨B, 1, none⟩ (.slice (some ⟨G2, 0, none⟩) (M.length + 1) cp2))
    ∧ ((Value.slice (some ⟨G2, 0, none⟩) (M.length + 1) cp2).ownBlock ≠ some B ∧ ∀ (i : Nat) (x : Nat × Nat), (ads ++ [(nb, nc)])[i]? = some x → x.1 ≠ B)
    ∧ Below base w0 (w9.setCell ⟨B, 1, none⟩ (.slice (some ⟨G2, 0, none⟩) (M.length + 1) cp2)) ∧ B < (w9.setCell ⟨B, 1, none⟩ (.slice (some ⟨G2, 0, none⟩) (M.length + 1) cp2)).heap.size := by
  have hsz : (wr.alloc ob).drew.heap.size = wr.heap.size + 1 := World.size_alloc ..
  have hG2 : G2 ≠ B := by
    rcases hat with h | h
    · rintro rfl; exact hne.1 h
    · omega
  have h1 : (Value.slice (some ⟨G2, 0, none⟩) (M.length + 1) cp2).ownBlock ≠ some B := fun e => hG2 (by simpa [Value.ownBlock] using e)
  have h2 : ∀ (i : Nat) (x : Nat × Nat), (ads ++ [(nb, nc)])[i]? = some x → x.1 ≠ B := by
    intro i x e
    rcases get_snoc e with e | ⟨_, rfl⟩
    · exact hne.2 i x e
    · show nb ≠ B; omega
  have h9 := hg.size
  exact ⟨ho.stored h1 h2 1 _, hc.stored _, ⟨h1, h2⟩, ((hb.alloc (by omega) ob).drew.grown hg (by omega) (fun k e => (World.ownsRow.lt hrs.own k e).1)).setCell (p := ⟨B, 1, none⟩) hbB _, by rw [World.size_setCell]; omega⟩
end Go.Proofs.Ytfkmlonhhdcfpaa
/- Rows that were appended one by one, as a reduction's. -/
namespace Go.Proofs.Ytfkmlonhhdcfpaa
open Go.RowKit

theorem hdrs_at {ads : List (Nat × Nat)} {M : List (List Int)} {i : Nat} {x : Nat × Nat} {r : List Int} (e1 : ads[i]? = some x) (e2 : M[i]? = some r) : (hdrs ads M)[i]? = some (.slice (some ⟨x.1, 0, none⟩) r.length x.2) := by
  unfold hdrs; rw [List.getElem?_zipWith, e1, e2]
theorem RS.reduction {base B cols : Nat} {rv : Value} {ads : List (Nat × Nat)} {M : List (List Int)} {w : World} (h : RS base rv ads M w) (h1 : 1 ≤ M.length) (hB : base ≤ B)
    (hne : rv.ownBlock ≠ some B ∧ ∀ (i : Nat) (x : Nat × Nat), ads[i]? = some x → x.1 ≠ B) (hbx : RB B (cols : Int) rv w) :
    ∃ g cap, rv = .slice (some ⟨g, 0, none⟩) M.length cap ∧ M.length ≤ cap ∧ RdW base B g cap ads (.slice none 0 0) { cols := cols, rows := M, piv := [], dv := 1 } w := by
  have ho := h.own
  obtain ⟨hx, ⟨_, h0⟩ | ⟨g, cap, cur, rfl, hg, hb, hn, hm, hsz, ht⟩⟩ := h.own
  · omega
  · have hl : (hdrs ads M).length = M.length := by simp [hdrs, h.len]
    have hgl : g < w.heap.size := (Array.getElem?_eq_some_iff.1 hb).1
    have hgB : g ≠ B := fun e => hne.1 (by rw [e]; rfl)
    refine ⟨g, cap, rfl, hn, ⟨⟨hbx.c0, hbx.c1, hbx.c2, hbx.c3, hbx.f1, hbx.f2, hbx.f3⟩, ⟨h.len, fun i x r e1 e2 => ⟨?_, h.row i x r e1 e2⟩, h.apart, fun i x e => ⟨fun e2 => (h.out i x e).2.2 (by rw [e2]; rfl), (h.out i x e).1⟩⟩, World.ownsRow_nil _ _ _ _, fun i x e => ⟨hne.2 i x e, fun b hb => by simp [Value.ownBlock] at hb⟩, fun k => World.ownsRow.frozenAt ho k, hgl, hg, hgB, by simp [Value.ownBlock], by simp [Value.ownBlock], hB⟩⟩
    have h2 := ho.cellAt i (by rw [Nat.mul_one]; exact (List.getElem?_eq_some_iff.1 e2).1)
    rw [h2]; exact hdrs_at e1 e2
end Go.Proofs.Ytfkmlonhhdcfpaa
/- One int appended to a slice of the call's own, told by what grows (for reduce). -/
namespace Go.Proofs.Ytfkmlonhhdcfpaa
open Go.RowKit

theorem wpList_pushG0 {ops : Array Oper} {rest : List Oper} {o : Oper} {act : Act} {Q : Exit → Act → World → Prop} (hgd : o.guard = none) (s x : Operand)
    (ho : o.op = .call { callee := .builtin .append, args := #[s, x], argTypes := #[24, 24] }) (base : Nat) (v : Value) (zs : List Int) (y : Int) (V : World) (B : Nat) (t : TypeId)
    (hs : act.eval s = v) (hx : act.eval x = .slice (some ⟨B, 0, none⟩) 1 1) (hB : B = V.heap.size) (hown : OwnI V base v zs) (hl : zs.length ≤ 100000) (hbase : base ≤ V.heap.size)
    (h : ∀ g cap w', OwnI w' base (.slice (some ⟨g, 0, none⟩) (zs.length + 1) cap) (zs ++ [y]) → (v.ownBlock = some g ∨ V.heap.size ≤ g) → Below base V w' → (V.alloc (.cells #[.int .i64 y] t)).grownBy w' v.ownBlock → wpList Try.prog ops Q rest (act.put o.dst (.slice (some ⟨g, 0, none⟩) (zs.length + 1) cap)) w') : wpList Try.prog ops Q (o :: rest) act (V.alloc (.cells #[.int .i64 y] t)) := by
  obtain ⟨i0, hi, hz0, hz1, hz2⟩ := info_parts Try.infoInt
  subst hB
  have hb1 : Below V.heap.size V (V.alloc (.cells #[.int .i64 y] t)) := (Below.refl _ _).alloc (Nat.le_refl _) _
  have hown' := OwnI.below hown hb1
  refine wpList_append_lies _ hgd s x 24 ho base 3 i0 (.int .i64 0) 1 8 Try.underlying24 hi hz0 hz1 hz2 rfl (by decide) v zs.length (zs.map (Value.int .i64)) hs hown' ⟨V.heap.size, 0, none⟩ 1 1 [.int .i64 y] hx rfl ?_ ?_ (by decide) (by unfold maxLen; omega) (by omega) (by rw [World.size_alloc]; omega) _ rfl ?_
  · intro j u hj
    match j, hj with
    | 0, hj =>
      simp at hj; subst hj
      rw [addr_add]; exact alloc_cell _ _ _ _ _ rfl
    | j + 1, hj => simp at hj
  · intro u hu; simp at hu; subst hu; rfl
  · intro g cap w' h1 h2 h3 _
    refine h g cap w' (by simpa [OwnI] using h1) ?_ (((Below.refl base V).alloc hbase _).grown h2 (by rw [World.size_alloc]; omega) (fun k e => (World.ownsRow.lt hown k e).1)) h2
    rcases h3 with h3 | h3
    · exact .inl h3
    · rw [World.size_alloc] at h3; exact .inr (by omega)
end Go.Proofs.Ytfkmlonhhdcfpaa
/- The columns of a reduction cleared: the second loop of reduce. -/
namespace Go.Proofs.Ytfkmlonhhdcfpaa
open Go.RowKit

theorem results_cell_one' {fn : Func} {p : Tmp} {ty : TypeId} (h : fn.results = #[.cell p ty]) (tmps : Array Value) (P : Program) (w : World) :
    (results fn tmps).run P w = ((asAddr (tmps.getD p undef)).run P w).andThen fun a w₁ => ((loadVar ty a).run P w₁).andThen fun v w₂ => .ok v w₂ := by
  simp only [results, h]
  simp [Sem.run_bind, Result.andThen]
  split <;> first | rfl | (split <;> rfl) | (split <;> simp_all)
/-- A reduction as it is handed on. -/
def rdV (g cap : Nat) (pa : Option Addr) (pc : Nat) (r : Rd) : Value := .agg #[.int .i64 (r.cols : Int), .slice (some ⟨g, 0, none⟩) r.rows.length cap, .slice pa r.piv.length pc, .int .i64 r.dv]
/-- The result's box filled. -/
def rdBox (T g cap : Nat) (pa : Option Addr) (pc : Nat) (r : Rd) (w : World) : World := (((w.setCell ⟨T, 0, none⟩ (.int .i64 (r.cols : Int))).setCell ⟨T, 1, none⟩ (.slice (some ⟨g, 0, none⟩) r.rows.length cap)).setCell ⟨T, 2, none⟩ (.slice pa r.piv.length pc)).setCell ⟨T, 3, none⟩ (.int .i64 r.dv)
/-- The first k columns cleared. -/
def clearN (r : Rd) (k : Nat) : Rd := (List.range k).foldl (fun r c => clearR c r) r
theorem clearN_succ (r : Rd) (k : Nat) : clearN r (k + 1) = clearR k (clearN r k) := by unfold clearN; rw [List.range_succ, List.foldl_append]; rfl
theorem clearN_ok {N : Nat} {r : Rd} (h : RdOk N r) (h64 : All64 r.rows) (k : Nat) : RdOk N (clearN r k) ∧ All64 (clearN r k).rows ∧ (clearN r k).rows.length = r.rows.length ∧ (clearN r k).cols = r.cols := by
  induction k with
  | zero => exact ⟨h, h64, rfl, rfl⟩
  | succ k ih =>
    obtain ⟨a, b, c, d⟩ := ih
    obtain ⟨a', b', c', d'⟩ := a.clear (c := k) b
    rw [clearN_succ]
    exact ⟨a', b', c'.trans c, d'.trans d⟩
set_option maxRecDepth 100000 in
set_option maxHeartbeats 1600000 in
theorem reduce_t3 {base B T g cap N : Nat} {ads : List (Nat × Nat)} {pv : Value} {r : Rd} {pxa : Option Addr} {px : List Int} {pxc : Nat} {w w0 : World} (hT : T < base) (_hTw : T < w0.heap.size) (hok : Hid (RdOk N r)) (h64 : Hid (All64 r.rows)) (hpN : px.length ≤ N) (hp100 : px.length ≤ 100) (hcap : Hid (r.rows.length ≤ cap))
    (hbx : Hid (∀ k, k < 4 → (∃ u, w0.cell? ⟨T, k, none⟩ = some u) ∧ w0.frozen? ⟨T, k, none⟩ = false)) (h : Hid (RdW base B g cap ads pv r w)) (hb0 : Hid (Below base w0 w)) (u0 u2 u3 u4 u5 u8 u9 u10 u11 u12 u13 u14 u15 u16 u17 u18 u19 u20 u21 u22 u23 u24 u25 u26 u27 u28 u29 u30 u31 u32 u33 u34 u35 u36 u37 u38 u39 u40 u41 u42 u43 u44 u45 u46 u47 u48 u49 u50 u51 u52 u53 u54 u55 u56 u57 u58 : Value) (R : Ending → World → Prop)
    (hR : Hid (∀ (ads' : List (Nat × Nat)) (pa : Option Addr) (pc : Nat) (W : World), RdW base B g cap ads' (.slice pa (clearN r px.length).piv.length pc) (clearN r px.length) W → Below base w0 W → R (.returned (rdV g cap pa pc (clearN r px.length))) (rdBox T g cap pa pc (clearN r px.length) W))) :
    Code.wp Try.prog (seqTail 3 ((Try.f56.body).getD .skip)) (bodyPost Try.prog Try.f56 R) { tmps := #[u0, .slice pxa px.length pxc, u2, u3, u4, u5, .pointer (some ⟨T, 0, none⟩), .pointer (some ⟨B, 0, none⟩), u8, u9, u10, u11, u12, u13, u14, u15, u16, u17, u18, u19, u20, u21, u22, u23, u24, u25, u26, u27, u28, u29, u30, u31, u32, u33, u34, u35, u36, u37, u38, u39, u40, u41, u42, u43, u44, u45, u46, u47, u48, u49, u50, u51, u52, u53, u54, u55, u56, u57, u58], defers := [] } w := by
  conv => arg 2; whnf
  refine wp_seq_k (fun K hK => ?_)
  have HK := Lib.hid hK; clear hK
  go_wp2
  go_loopw [52] (fun i wr => ∃ (k : Nat) (ads' : List (Nat × Nat)) (pv' : Value), k ≤ px.length ∧ i = .int .i64 k ∧ Hid (RdW base B g cap ads' pv' (clearN r k) wr) ∧ Below base w0 wr) (fun i _ => px.length - (intOf i).toNat)
  case atStart => exact ⟨0, ads, pv, Nat.zero_le _, rfl, h, hb0.out⟩
  case round =>
    obtain ⟨k, ads', pv', hk, rfl, HR, hbl⟩ := hrel
    have HBL := Lib.hid hbl; clear hbl
    by_cases hlt : k < px.length
    · have HCO := Lib.hid (clearN_ok hok.out h64.out k)
      have HSU := Lib.hid (clearN_succ r k)
      go_wp2_with (go_at_call 96; refine (clear_any base B g cap k N ads' pv' (clearN r k) _ HCO.out.1 (Nat.lt_of_lt_of_le hlt hpN) (by rw [HCO.out.2.2.1]; exact hcap.out) HR.out).mono ?_; rintro e w2 ⟨rfl, hb2, ads2, pv2, hr2⟩)
      have HR2 : Hid (RdW base B g cap ads2 pv2 (clearN r (k + 1)) w2) := by rw [HSU.out]; exact hr2
      clear hr2
      go_wp2
      go_roundw
      case rel => exact ⟨k + 1, ads2, pv2, hlt, by go_num, HR2, HBL.out.trans hb2⟩
      case measure => simp [intOf]; omega
    · obtain rfl : k = px.length := by omega
      go_wp2
      refine HK.out _ _ ?_
      have c0 := HR.out.bx.c0
      have c1 := HR.out.bx.c1
      have c2 := HR.out.bx.c2
      have c3 := HR.out.bx.c3
      obtain ⟨pa, pc, rfl, _⟩ := HR.out.pi.any
      obtain ⟨⟨v0, t0⟩, z0⟩ := hbx.out 0 (by omega)
      obtain ⟨⟨v1, t1⟩, z1⟩ := hbx.out 1 (by omega)
      obtain ⟨⟨v2, t2⟩, z2⟩ := hbx.out 2 (by omega)
      obtain ⟨⟨v3, t3⟩, z3⟩ := hbx.out 3 (by omega)
      have t0' := (HBL.out.cell (p := ⟨T, 0, none⟩) hT).trans t0
      have t1' := (HBL.out.cell (p := ⟨T, 1, none⟩) hT).trans t1
      have t2' := (HBL.out.cell (p := ⟨T, 2, none⟩) hT).trans t2
      have t3' := (HBL.out.cell (p := ⟨T, 3, none⟩) hT).trans t3
      have z0' := (HBL.out.frozen (p := ⟨T, 0, none⟩) hT).trans z0
      have z1' := (HBL.out.frozen (p := ⟨T, 1, none⟩) hT).trans z1
      have z2' := (HBL.out.frozen (p := ⟨T, 2, none⟩) hT).trans z2
      have z3' := (HBL.out.frozen (p := ⟨T, 3, none⟩) hT).trans z3
      clear HK t0 t1 t2 t3 z0 z1 z2 z3
      go_wp2
      refine bodyPost_ret_by (v := rdV g cap pa pc (clearN r px.length)) ?_ rfl (hR.out ads' pa pc wr HR.out HBL.out)
      rw [results_cell_one' rfl]
      unfold rdV
      go_simp
end Go.Proofs.Ytfkmlonhhdcfpaa
/- divisor and shorten of layer 3: contracts. -/
namespace Go.Proofs.Ytfkmlonhhdcfpaa
open Go.RowKit

def gcdTo (xs : List Int) : Nat → Nat
  | 0 => 0
  | k + 1 => Nat.gcd (gcdTo xs k) (gt xs k).natAbs
def gcdL (xs : List Int) : Nat := gcdTo xs xs.length
def Mid (x : Int) : Prop := -4611686018427387904 ≤ x ∧ x ≤ 4611686018427387904
set_option maxRecDepth 100000 in
set_option maxHeartbeats 800000 in
theorem divisor_any (a : Option Addr) (xs : List Int) (cap : Nat) (w : World) (hl : xs.length ≤ 1000) (hx : ∀ x ∈ xs, Mid x) (hs : Sl w a xs) :
    Calls Try.prog 53 #[.slice a xs.length cap] w fun e w' => e = .returned (.int .i64 (gcdL xs : Nat)) ∧ ∃ nd, w' = w.drewN nd := by
  have HS := Lib.hid hs; clear hs
  have HX := Lib.hid hx; clear hx
  go_enter Try.func53, Try.ntmps53
  go_wp2
  go_loopw [3, 8] (fun c i wr => ∃ (k : Nat) (v : Int) (nd : Nat), k ≤ xs.length ∧ i = .int .i64 k ∧ c = .int .i64 v ∧ Mid v ∧ Hid (v.natAbs = gcdTo xs k) ∧ wr = w.drewN nd) (fun _ i _ => xs.length - (intOf i).toNat)
  case atStart => exact ⟨0, 0, 0, Nat.zero_le _, rfl, rfl, by unfold Mid; omega, rfl, rfl⟩
  case round =>
    obtain ⟨k, v, nd, hk, rfl, rfl, hv, HG, rfl⟩ := hrel
    by_cases hlt : k < xs.length
    · obtain ⟨b, off, x, rfl, hcell, HXK⟩ := HS.out.at hlt
      have hmx := HX.out x (List.mem_of_getElem? HXK.out)
      have HGN : Hid (gcdTo xs (k + 1) = Nat.gcd v.natAbs x.natAbs) := by show _ = _; unfold gcdTo; rw [gt_some' HXK.out, HG.out]
      go_wp2
      clear hcell
      go_loopw [3, 5] (fun c n wr => ∃ (p q : Int) (nd' : Nat), c = .int .i64 p ∧ n = .int .i64 q ∧ Mid p ∧ Mid q ∧ Hid (Nat.gcd p.natAbs q.natAbs = Nat.gcd v.natAbs x.natAbs) ∧ wr = w.drewN nd') (fun _ n _ => (intOf n).natAbs)
      case atStart => exact ⟨v, x, nd, rfl, rfl, hv, hmx, rfl, rfl⟩
      case round =>
        obtain ⟨p, q, nd', rfl, rfl, hp, hq, HE, rfl⟩ := hrel
        by_cases hq0 : q = 0
        · subst hq0
          have HGE : Hid (p.natAbs = gcdTo xs (k + 1)) := by
            show _ = _
            rw [HGN.out, ← HE.out]; simp
          go_wp2
          go_roundw
          case rel => exact ⟨k + 1, p, nd', by omega, by go_num, rfl, hp, HGE, rfl⟩
          case measure => simp [intOf]; omega
        · have y0 : (q == 0) = false := by simpa using hq0
          have y1 : (q != 0) = true := by simpa using hq0
          obtain ⟨t, ht⟩ : ∃ t, p.tmod q = t := ⟨_, rfl⟩
          have hta : t.natAbs = p.natAbs % q.natAbs := by rw [← ht, Int.natAbs_tmod]
          have hlt2 : p.natAbs % q.natAbs < q.natAbs := Nat.mod_lt _ (by omega)
          have hmt : Mid t := by unfold Mid at hq ⊢; omega
          have HE2 : Hid (Nat.gcd q.natAbs t.natAbs = Nat.gcd v.natAbs x.natAbs) := by
            show _ = _
            rw [hta, ← HE.out, Nat.gcd_comm p.natAbs, Nat.gcd_rec q.natAbs p.natAbs]
            exact Nat.gcd_comm _ _
          have hmeas : t.natAbs < q.natAbs := by omega
          obtain ⟨t1, t2⟩ := hmt
          have w1 : IntKind.i64.wrap t = t := IntWalk.i64_in _ (by omega)
          have w2 : wrap64 t = t := IntWalk.wrap64_in _ (by omega)
          clear hta hlt2 hlt
          go_wp2
          go_quiet (fail)
          go_wp2
          go_roundw
          case rel => exact ⟨q, t, _, rfl, rfl, hq, ⟨t1, t2⟩, HE2, World.drewN_drewN _ _ _⟩
          case measure => simp [intOf]; omega
    · obtain rfl : k = xs.length := by omega
      obtain ⟨v1, v2⟩ := hv
      have HF : Hid ((gcdL xs : Int) = if v < -v then -v else v) := by
        show _ = _
        have := HG.out
        unfold gcdL; rw [← this]; split <;> omega
      go_wp2
      all_goals go_ret
      all_goals exact ⟨ret_i64 (by rw [HF.out]; split <;> omega), nd, rfl⟩
/-- A list divided by its common divisor. -/
def shortL (xs : List Int) : List Int := xs.map fun n => n.tdiv (gcdL xs : Nat)
def shortTo (xs : List Int) (g : Int) (q : Nat) : List Int := (List.range xs.length).map fun k => if k < q then (gt xs k).tdiv g else gt xs k
theorem shortTo_len (xs : List Int) (g : Int) (q : Nat) : (shortTo xs g q).length = xs.length := by simp [shortTo]
theorem shortTo_zero (xs : List Int) (g : Int) : shortTo xs g 0 = xs := by
  refine list_ext_gt (shortTo_len _ _ _) fun k hk => ?_
  rw [shortTo_len] at hk
  unfold shortTo; rw [gt_map_range _ hk, if_neg (by omega)]
theorem shortTo_at (xs : List Int) (g : Int) {q : Nat} (hq : q < xs.length) : gt (shortTo xs g q) q = gt xs q := by unfold shortTo; rw [gt_map_range _ hq, if_neg (by omega)]
theorem shortTo_succ {xs : List Int} {g : Int} {q : Nat} (hq : q < xs.length) : (shortTo xs g q).set q ((gt xs q).tdiv g) = shortTo xs g (q + 1) := by
  refine list_ext_gt (by rw [List.length_set, shortTo_len, shortTo_len]) fun k hk => ?_
  rw [List.length_set, shortTo_len] at hk
  rw [gt_set (by rw [shortTo_len]; exact hq)]
  unfold shortTo
  rw [gt_map_range _ hk, gt_map_range _ hk]
  by_cases e : k = q
  · subst e; rw [if_pos rfl, if_pos (by omega)]
  · rw [if_neg e]
    by_cases h : k < q
    · rw [if_pos h, if_pos (by omega)]
    · rw [if_neg h, if_neg (by omega)]
theorem shortTo_full (xs : List Int) : shortTo xs (gcdL xs : Nat) xs.length = shortL xs := by
  refine list_ext_gt (by simp [shortTo, shortL]) fun k hk => ?_
  rw [shortTo_len] at hk
  unfold shortTo shortL
  rw [gt_map_range _ hk, if_pos hk]
  unfold gt; simp [hk]
theorem tdiv_mid {x g : Int} (hx : Mid x) (_hg : 1 ≤ g) : Mid (x.tdiv g) := by
  have h : (x.tdiv g).natAbs ≤ x.natAbs := by rw [Int.natAbs_tdiv]; exact Nat.div_le_self _ _
  unfold Mid at *; omega
theorem OnlyB.ofDrewN (b : Nat) (w : World) (n : Nat) : OnlyB b w (w.drewN n) := ⟨rfl, fun _ _ => rfl⟩
set_option maxRecDepth 100000 in
set_option maxHeartbeats 800000 in
theorem shorten_any (base b c : Nat) (xs : List Int) (w : World) (hl : xs.length ≤ 1000) (hx : ∀ x ∈ xs, Mid x) (hg : gcdL xs ≠ 0) (ho : OwnI w base (.slice (some ⟨b, 0, none⟩) xs.length c) xs) :
    Calls Try.prog 110 #[.slice (some ⟨b, 0, none⟩) xs.length c] w fun e w' => e = .returned (.slice (some ⟨b, 0, none⟩) xs.length c) ∧ OnlyB b w w' ∧ Below base w w' ∧ OwnI w' base (.slice (some ⟨b, 0, none⟩) xs.length c) (shortL xs) := by
  have HO := Lib.hid ho; clear ho
  have HX := Lib.hid hx; clear hx
  go_enter Try.func110, Try.ntmps110
  go_wp2_with fail
  refine (divisor_any _ xs c w hl HX.out HO.out.sl).mono ?_
  rintro e w1 ⟨rfl, nd, rfl⟩
  have HF := Lib.hid (shortTo_full xs)
  obtain ⟨g, hg'⟩ : ∃ g : Int, (gcdL xs : Nat) = g := ⟨_, rfl⟩
  have hg1 : 1 ≤ g := by omega
  rw [hg'] at HF
  rw [hg']
  have HO1 : Hid (OwnI (w.drewN nd) base (.slice (some ⟨b, 0, none⟩) xs.length c) (shortTo xs g 0)) := by show OwnI _ _ _ _; rw [shortTo_zero]; exact HO.out.drewN nd
  have HB1 : Hid (OnlyB b w (w.drewN nd)) := OnlyB.ofDrewN b w nd
  have HBB1 : Hid (Below base w (w.drewN nd)) := below_drewN (Below.refl _ _) nd
  clear hg hg'
  generalize w.drewN nd = w1 at *
  have y0 : (g == 0) = false := by simp; omega
  have y1 : (g != 0) = true := by simp; omega
  have y2 : ¬ (g = 0) := by omega
  have y3 : ¬ (g = -1) := by omega
  go_wp2
  go_loopw [10] (fun i wr => ∃ q : Nat, q ≤ xs.length ∧ i = .int .i64 q ∧ OwnI wr base (.slice (some ⟨b, 0, none⟩) xs.length c) (shortTo xs g q) ∧ OnlyB b w wr ∧ Below base w wr) (fun i _ => xs.length - (intOf i).toNat)
  case atStart => exact ⟨0, Nat.zero_le _, rfl, HO1.out, HB1.out, HBB1.out⟩
  case round =>
    clear HO1 HB1 HBB1
    obtain ⟨q, hq, rfl, hO, hB, hb⟩ := hrel
    have HOR := Lib.hid hO; clear hO
    have HB := Lib.hid hB; clear hB
    have HBB := Lib.hid hb; clear hb
    by_cases hlt : q < xs.length
    · obtain ⟨c1, f1⟩ := HOR.out.cell (j := q) (by rw [shortTo_len]; exact hlt)
      have hv : (shortTo xs g q)[q]?.getD 0 = gt xs q := shortTo_at xs g hlt
      rw [hv] at c1
      have HG := HOR.out.lt
      have hmx : Mid (gt xs q) := HX.out _ (by unfold gt; rw [List.getElem?_eq_getElem hlt, Option.getD_some]; exact List.getElem_mem hlt)
      obtain ⟨x, hx⟩ : ∃ x, gt xs q = x := ⟨_, rfl⟩
      have HN : Hid ((shortTo xs g q).set q (x.tdiv g) = shortTo xs g (q + 1)) := by show _ = _; rw [← hx]; exact shortTo_succ hlt
      rw [hx] at c1 hmx
      have HST := Lib.hid (HOR.out.stored q (x.tdiv g))
      obtain ⟨t1, t2⟩ := tdiv_mid hmx hg1
      have w1 : wrap64 (x.tdiv g) = x.tdiv g := IntWalk.wrap64_in _ (by omega)
      have w2 : IntKind.i64.wrap (x.tdiv g) = x.tdiv g := IntWalk.i64_in _ (by omega)
      clear hv hx
      go_wp2
      go_roundw
      case rel => exact ⟨q + 1, by omega, by go_num, by rw [← HN.out]; exact HST.out, HB.out.setCell _ _, HBB.out.setCell HG.2 _⟩
      case measure => simp [intOf]; omega
    · obtain rfl : q = xs.length := by omega
      rw [HF.out] at HOR
      go_wp2
      go_ret
      exact ⟨rfl, HB.out, HBB.out, HOR.out⟩
end Go.Proofs.Ytfkmlonhhdcfpaa
/- Whether a list has a number; rank and free of a reduction: contracts. -/
namespace Go.Proofs.Ytfkmlonhhdcfpaa
open Go.RowKit

def firstAt (xs : List Int) (v : Int) : Nat → Nat → Option Nat
  | 0, _ => none
  | n + 1, i => if gt xs i = v then some i else firstAt xs v n (i + 1)
theorem firstAt_skip {xs : List Int} {v : Int} : ∀ (k n i : Nat), k ≤ n → (∀ j, j < k → gt xs (i + j) ≠ v) → firstAt xs v n i = firstAt xs v (n - k) (i + k)
  | 0, n, i, _, _ => by simp
  | k + 1, n, i, h, hz => by
    obtain ⟨n', rfl⟩ : ∃ n', n = n' + 1 := ⟨n - 1, by omega⟩
    have h0 := hz 0 (by omega)
    rw [Nat.add_zero] at h0
    rw [show firstAt xs v (n' + 1) i = firstAt xs v n' (i + 1) by conv => lhs; unfold firstAt; rw [if_neg h0]]
    rw [firstAt_skip k n' (i + 1) (by omega) (fun j hj => by have := hz (j + 1) (by omega); rwa [show i + (j + 1) = i + 1 + j by omega] at this)]
    rw [show n' + 1 - (k + 1) = n' - k by omega, show i + 1 + k = i + (k + 1) by omega]
def indexV (xs : List Int) (v : Int) : Int := match firstAt xs v xs.length 0 with | some i => (i : Int) | none => -1
theorem indexV_hit {xs : List Int} {v : Int} {k : Nat} (h : k < xs.length) (hz : ∀ j, j < k → gt xs j ≠ v) (hk : gt xs k = v) : indexV xs v = k := by
  have e := firstAt_skip k xs.length 0 (by omega) (fun j hj => by rw [Nat.zero_add]; exact hz j hj)
  obtain ⟨d, hd⟩ : ∃ d, xs.length - k = d + 1 := ⟨xs.length - k - 1, by omega⟩
  unfold indexV
  rw [e, hd, Nat.zero_add]; unfold firstAt; rw [if_pos hk]
theorem indexV_miss {xs : List Int} {v : Int} (hz : ∀ j, j < xs.length → gt xs j ≠ v) : indexV xs v = -1 := by
  have e := firstAt_skip xs.length xs.length 0 (Nat.le_refl _) (fun j hj => by rw [Nat.zero_add]; exact hz j hj)
  unfold indexV
  rw [e, Nat.sub_self]; rfl
theorem indexV_mem {xs : List Int} {v : Int} : decide (0 ≤ indexV xs v) = decide (v ∈ xs) := by
  by_cases h : v ∈ xs
  · have : ∃ k, k < xs.length ∧ gt xs k = v := by
      obtain ⟨k, hk, e⟩ := List.mem_iff_getElem.1 h
      exact ⟨k, hk, by unfold gt; rw [List.getElem?_eq_getElem hk, Option.getD_some]; exact e⟩
    have hex : ∃ k, k < xs.length ∧ gt xs k = v ∧ ∀ j, j < k → gt xs j ≠ v := by
      obtain ⟨k, hk, e⟩ := this
      induction k using Nat.strongRecOn with
      | _ k ih =>
        by_cases hj : ∃ j, j < k ∧ gt xs j = v
        · obtain ⟨j, j1, j2⟩ := hj
          exact ih j j1 (by omega) j2
        · exact ⟨k, hk, e, fun j j1 j2 => hj ⟨j, j1, j2⟩⟩
    obtain ⟨k, k1, k2, k3⟩ := hex
    rw [indexV_hit k1 k3 k2]
    simp [h]
  · rw [indexV_miss (fun j hj e => h (by rw [← e]; unfold gt; rw [List.getElem?_eq_getElem hj, Option.getD_some]; exact List.getElem_mem hj))]
    simp [h]
set_option maxRecDepth 100000 in
theorem index_any (a : Option Addr) (xs : List Int) (cap : Nat) (v : Int) (w : World) (hl : xs.length ≤ 1000) (hs : Sl w a xs) :
    Calls Try.prog 97 #[.slice a xs.length cap, .int .i64 v] w fun e w' => e = .returned (.int .i64 (indexV xs v)) ∧ w = w' := by
  have HS := Lib.hid hs; clear hs
  go_enter Try.func97, Try.ntmps97
  go_wp2
  go_loop [8] (fun i => ∃ k : Nat, k ≤ xs.length ∧ i = .int .i64 k ∧ Hid (∀ j, j < k → gt xs j ≠ v)) (fun i => xs.length - (intOf i).toNat)
  case atStart => exact ⟨0, Nat.zero_le _, rfl, fun j hj => by omega⟩
  case round =>
    obtain ⟨k, hk, rfl, HZ⟩ := hrel
    by_cases hlt : k < xs.length
    · obtain ⟨b, off, x, rfl, hcell, HX⟩ := HS.out.at hlt
      have HG := Lib.hid (gt_some' HX.out)
      by_cases hx : v = x
      · have e0 : (v == x) = true := by simpa using hx
        have HV : Hid (indexV xs v = k) := indexV_hit hlt HZ.out (by rw [HG.out]; exact hx.symm)
        clear hx
        go_wp2
        go_ret
        exact ⟨ret_i64 (by rw [HV.out]), rfl⟩
      · have e0 : (v == x) = false := by simpa using hx
        have HZ2 : Hid (∀ j, j < k + 1 → gt xs j ≠ v) := fun j hj => by
          by_cases e : j = k
          · rw [e, HG.out]; exact fun e => hx e.symm
          · exact HZ.out j (by omega)
        clear hx
        go_wp2
        go_round
        case rel => exact ⟨k + 1, by omega, by go_num, HZ2⟩
        case measure => simp [intOf]; omega
    · obtain rfl : k = xs.length := by omega
      have HV := Lib.hid (indexV_miss (xs := xs) (v := v) HZ.out)
      go_wp2
      go_ret
      exact ⟨ret_i64 (by rw [HV.out]), rfl⟩
theorem contains_any (a : Option Addr) (xs : List Int) (cap : Nat) (v : Int) (w : World) (hl : xs.length ≤ 1000) (hs : Sl w a xs) :
    Calls Try.prog 109 #[.slice a xs.length cap, .int .i64 v] w fun e w' => e = .returned (.bool (decide (v ∈ xs))) ∧ w = w' := by
  have HS := Lib.hid hs; clear hs
  go_enter Try.func109, Try.ntmps109
  go_wp2_with fail
  refine (index_any a xs cap v w hl HS.out).mono ?_
  rintro e w1 ⟨rfl, rfl⟩
  have HV := Lib.hid (indexV_mem (xs := xs) (v := v))
  go_wp2
  go_ret
  exact ⟨ret_bool (by rw [← HV.out]), rfl⟩
/-- The columns that are no pivots, ascending. -/
def freeTo (pz : List Int) : Nat → List Int
  | 0 => []
  | k + 1 => if (k : Int) ∈ pz then freeTo pz k else freeTo pz k ++ [(k : Int)]
theorem freeTo_len (pz : List Int) : ∀ k, (freeTo pz k).length ≤ k
  | 0 => Nat.le_refl _
  | k + 1 => by
    have := freeTo_len pz k
    unfold freeTo; split
    · omega
    · rw [List.length_append, List.length_singleton]; omega
/-- A reduction handed over by its value: its pivots, as they read. -/
def RdV (cols : Nat) (g n cap : Nat) (pv : Value) (dv : Int) : Value := .agg #[.int .i64 (cols : Int), .slice (some ⟨g, 0, none⟩) n cap, pv, .int .i64 dv]
set_option maxRecDepth 100000 in
set_option maxHeartbeats 800000 in
theorem free_any (cols g n cap : Nat) (pa : Option Addr) (pz : List Int) (pc : Nat) (dv : Int) (w : World) (hc : cols ≤ 100) (hl : pz.length ≤ 1000) (hs : Sl w pa pz) :
    Calls Try.prog 80 #[RdV cols g n cap (.slice pa pz.length pc) dv] w fun e w' => Below w.heap.size w w' ∧ ∃ a k, e = .returned (.slice a (freeTo pz cols).length k) ∧ Sl w' a (freeTo pz cols) := by
  have HS := Lib.hid hs; clear hs
  unfold RdV
  go_enter Try.func80, Try.ntmps80
  have HB0 : Hid (Below w.heap.size w (w.alloc (.cells #[.int .i64 (cols : Int), .slice (some ⟨g, 0, none⟩) n cap, .slice pa pz.length pc, .int .i64 dv] 71))) := (Below.refl _ _).alloc (Nat.le_refl _) _
  have hc0 : (w.alloc (.cells #[.int .i64 (cols : Int), .slice (some ⟨g, 0, none⟩) n cap, .slice pa pz.length pc, .int .i64 dv] 71)).cell? ⟨w.heap.size, 0, none⟩ = some (.int .i64 (cols : Int)) := alloc_cell _ _ _ _ _ rfl
  have HC2 : Hid ((w.alloc (.cells #[.int .i64 (cols : Int), .slice (some ⟨g, 0, none⟩) n cap, .slice pa pz.length pc, .int .i64 dv] 71)).cell? ⟨w.heap.size, 2, none⟩ = some (.slice pa pz.length pc)) := alloc_cell _ _ _ _ _ rfl
  have hsz : w.heap.size < (w.alloc (.cells #[.int .i64 (cols : Int), .slice (some ⟨g, 0, none⟩) n cap, .slice pa pz.length pc, .int .i64 dv] 71)).heap.size := by rw [World.size_alloc]; omega
  go_wp2
  generalize (w.alloc (.cells #[.int .i64 (cols : Int), .slice (some ⟨g, 0, none⟩) n cap, .slice pa pz.length pc, .int .i64 dv] 71)) = V at *
  clear hc0
  go_loopw [3, 7] (fun v i wr => ∃ k : Nat, k ≤ cols ∧ i = .int .i64 k ∧ OwnI wr V.heap.size v (freeTo pz k) ∧ Below V.heap.size V wr) (fun _ i _ => cols - (intOf i).toNat)
  case atStart => exact ⟨0, Nat.zero_le _, rfl, OwnI.nil _ _, Below.refl _ _⟩
  case round =>
    obtain ⟨k, hk, rfl, hO, hB⟩ := hrel
    have HO := Lib.hid hO; clear hO
    have HB := Lib.hid hB; clear hB
    have HBw : Hid (Below w.heap.size w wr) := HB0.out.trans (HB.out.mono (Nat.le_of_lt hsz))
    by_cases hlt : k < cols
    · have c2 : wr.cell? ⟨w.heap.size, 2, none⟩ = some (.slice pa pz.length pc) := (HB.out.cell (p := ⟨w.heap.size, 2, none⟩) hsz).trans HC2.out
      have HLEN := Lib.hid (freeTo_len pz k)
      go_wp2_with fail
      refine (contains_any pa pz pc (k : Int) wr hl (HS.out.below HBw.out)).mono ?_
      rintro e w1 ⟨rfl, rfl⟩
      by_cases hm : (k : Int) ∈ pz
      · have HT : Hid (freeTo pz (k + 1) = freeTo pz k) := by show _ = _; conv => lhs; unfold freeTo; rw [if_pos hm]
        rw [show decide ((k : Int) ∈ pz) = true by simpa using hm]
        clear hm c2
        go_wp2
        go_roundw
        case rel => exact ⟨k + 1, by omega, by go_num, by rw [HT.out]; exact HO.out, HB.out⟩
        case measure => simp [intOf]; omega
      · have HT : Hid (freeTo pz (k + 1) = freeTo pz k ++ [(k : Int)]) := by show _ = _; conv => lhs; unfold freeTo; rw [if_neg hm]
        rw [show decide ((k : Int) ∈ pz) = false by simpa using hm]
        clear hm c2
        go_wp2_with (at_builtin; go_must (refine wpList_push rfl (.tmp 15) (.tmp 17) rfl V.heap.size _ (freeTo pz k) _ _ _ _ rfl rfl rfl HO.out (by have := HLEN.out; omega) HB.out.size ?_); intro v' w9 ho' hb')
        go_roundw
        case rel => exact ⟨k + 1, by omega, by go_num, by rw [HT.out]; exact ho', HB.out.trans hb'⟩
        case measure => simp [intOf]; omega
    · obtain rfl : k = cols := by omega
      obtain ⟨a5, c5, rfl, s5⟩ := HO.out.any
      have S5 := Lib.hid s5; clear s5
      go_wp2
      go_ret
      exact ⟨HBw.out, a5, c5, rfl, S5.out⟩
end Go.Proofs.Ytfkmlonhhdcfpaa
/- kernel, rank and nothing of layer 3: contracts. -/
namespace Go.Proofs.Ytfkmlonhhdcfpaa
open Go.RowKit

theorem nothing_any (i : Int) (w : World) : Calls Try.prog 57 #[.int .i64 i] w fun e w' => e = .returned (.slice none 0 0) ∧ w = w' := by
  go_enter Try.func57, Try.ntmps57
  go_wp2
  go_ret
  exact ⟨rfl, rfl⟩
theorem rank_any (cols g n cap : Nat) (pa : Option Addr) (pz : List Int) (pc : Nat) (dv : Int) (w : World) :
    Calls Try.prog 58 #[RdV cols g n cap (.slice pa pz.length pc) dv] w fun e w' => e = .returned (.int .i64 pz.length) ∧ Below w.heap.size w w' := by
  unfold RdV
  have HB0 : Hid (Below w.heap.size w (w.alloc (.cells #[.int .i64 (cols : Int), .slice (some ⟨g, 0, none⟩) n cap, .slice pa pz.length pc, .int .i64 dv] 71))) := (Below.refl _ _).alloc (Nat.le_refl _) _
  have c2 : (w.alloc (.cells #[.int .i64 (cols : Int), .slice (some ⟨g, 0, none⟩) n cap, .slice pa pz.length pc, .int .i64 dv] 71)).cell? ⟨w.heap.size, 2, none⟩ = some (.slice pa pz.length pc) := alloc_cell _ _ _ _ _ rfl
  go_enter Try.func58, Try.ntmps58
  go_wp2
  go_ret
  exact ⟨rfl, HB0.out⟩
/-- The kernel vector at a free column, as far as k pivots. -/
def kerTo (cols : Nat) (M : List (List Int)) (pz : List Int) (dv : Int) (fr : Nat) : Nat → List Int
  | 0 => (List.replicate cols (0 : Int)).set fr dv
  | k + 1 => (kerTo cols M pz dv fr k).set (gt pz k).toNat (IntKind.i64.wrap (-gt (rowL M k) fr))
theorem kerTo_len (cols : Nat) (M : List (List Int)) (pz : List Int) (dv : Int) (fr : Nat) : ∀ k, (kerTo cols M pz dv fr k).length = cols
  | 0 => by simp [kerTo]
  | k + 1 => by unfold kerTo; rw [List.length_set]; exact kerTo_len cols M pz dv fr k
def kerL (cols : Nat) (M : List (List Int)) (pz : List Int) (dv : Int) (fr : Nat) : List Int := shortL (kerTo cols M pz dv fr pz.length)
set_option maxRecDepth 100000 in
set_option maxHeartbeats 1600000 in
theorem kernel_any (base cols g cap : Nat) (ads : List (Nat × Nat)) (M : List (List Int)) (pa : Option Addr) (pz : List Int) (pc : Nat) (dv : Int) (fr : Nat) (w : World) (hc : cols ≤ 100) (hf : fr < cols) (hl : pz.length ≤ M.length) (hM : M.length ≤ 100) (hp : ∀ k, k < pz.length → 0 ≤ gt pz k ∧ gt pz k < cols)
    (hrl : ∀ r ∈ M, fr < r.length) (hmid : ∀ x ∈ kerTo cols M pz dv fr pz.length, Mid x) (hg : gcdL (kerTo cols M pz dv fr pz.length) ≠ 0) (hs : Sl w pa pz) (hsi : SI w base g ads M) :
    Calls Try.prog 81 #[RdV cols g M.length cap (.slice pa pz.length pc) dv, .int .i64 (fr : Int)] w fun e w' => Below w.heap.size w w' ∧ ∃ b k, e = .returned (.slice (some ⟨b, 0, none⟩) cols k) ∧ OwnI w' w.heap.size (.slice (some ⟨b, 0, none⟩) cols k) (kerL cols M pz dv fr) := by
  have HS := Lib.hid hs; clear hs
  have HSI := Lib.hid hsi; clear hsi
  have HP := Lib.hid hp; clear hp
  have HRL := Lib.hid hrl; clear hrl
  have HMID := Lib.hid hmid; clear hmid
  have HG := Lib.hid hg; clear hg
  obtain ⟨i0, hi, hz0, hz1, hz2⟩ := info_parts Try.infoInt
  unfold RdV
  go_enter Try.func81, Try.ntmps81
  have HB0 : Hid (Below w.heap.size w (w.alloc (.cells #[.int .i64 (cols : Int), .slice (some ⟨g, 0, none⟩) M.length cap, .slice pa pz.length pc, .int .i64 dv] 71))) := (Below.refl _ _).alloc (Nat.le_refl _) _
  have c0 : (w.alloc (.cells #[.int .i64 (cols : Int), .slice (some ⟨g, 0, none⟩) M.length cap, .slice pa pz.length pc, .int .i64 dv] 71)).cell? ⟨w.heap.size, 0, none⟩ = some (.int .i64 (cols : Int)) := alloc_cell _ _ _ _ _ rfl
  have HC1 : Hid ((w.alloc (.cells #[.int .i64 (cols : Int), .slice (some ⟨g, 0, none⟩) M.length cap, .slice pa pz.length pc, .int .i64 dv] 71)).cell? ⟨w.heap.size, 1, none⟩ = some (.slice (some ⟨g, 0, none⟩) M.length cap)) := alloc_cell _ _ _ _ _ rfl
  have HC2 : Hid ((w.alloc (.cells #[.int .i64 (cols : Int), .slice (some ⟨g, 0, none⟩) M.length cap, .slice pa pz.length pc, .int .i64 dv] 71)).cell? ⟨w.heap.size, 2, none⟩ = some (.slice pa pz.length pc)) := alloc_cell _ _ _ _ _ rfl
  have HC3 : Hid ((w.alloc (.cells #[.int .i64 (cols : Int), .slice (some ⟨g, 0, none⟩) M.length cap, .slice pa pz.length pc, .int .i64 dv] 71)).cell? ⟨w.heap.size, 3, none⟩ = some (.int .i64 dv)) := alloc_cell _ _ _ _ _ rfl
  have hsz : w.heap.size < (w.alloc (.cells #[.int .i64 (cols : Int), .slice (some ⟨g, 0, none⟩) M.length cap, .slice pa pz.length pc, .int .i64 dv] 71)).heap.size := by rw [World.size_alloc]; omega
  go_wp2_with (with_reducible refine wpList_make_full _ rfl (.tmp 9) (.tmp 9) 24 rfl (w.alloc (.cells #[.int .i64 (cols : Int), .slice (some ⟨g, 0, none⟩) M.length cap, .slice pa pz.length pc, .int .i64 dv] 71)).heap.size 3 i0 (.int .i64 0) 1 Try.underlying24 hi hz0 hz1 .i64 .i64 (cols : Int) (cols : Int) cols rfl rfl rfl rfl (by rw [hz2]; omega) (by unfold maxLen; omega) (Nat.le_refl _) ?_)
  rotate_left
  intro w4 hown hgrow
  have hsz1 : (w.alloc (.cells #[.int .i64 (cols : Int), .slice (some ⟨g, 0, none⟩) M.length cap, .slice pa pz.length pc, .int .i64 dv] 71)).heap.size = w.heap.size + 1 := World.size_alloc _ _
  have HO4 : Hid (OwnI w4 w.heap.size (.slice (some ⟨w.heap.size + 1, 0, none⟩) cols cols) (List.replicate cols 0)) := by
    have z := zeros_are cols
    rw [Nat.mul_one] at z
    refine OwnI.mono (base := w.heap.size + 1) ?_ (Nat.le_succ _)
    show w4.ownsRow _ _ _ _ _ _
    rw [List.length_replicate, ← z]; exact hown
  have hb4 : Below (w.heap.size + 1) (w.alloc (.cells #[.int .i64 (cols : Int), .slice (some ⟨g, 0, none⟩) M.length cap, .slice pa pz.length pc, .int .i64 dv] 71)) w4 := (Below.refl (w.heap.size + 1) _).grown hgrow (by rw [hsz1]; exact Nat.le_refl _) (fun k e => by cases e)
  have HB4 : Hid (Below w.heap.size w w4) := HB0.out.trans (hb4.mono (Nat.le_succ _))
  have HD1 : Hid (w4.cell? ⟨w.heap.size, 1, none⟩ = some (.slice (some ⟨g, 0, none⟩) M.length cap)) := (hb4.cell (p := ⟨w.heap.size, 1, none⟩) (Nat.lt_succ_self _)).trans HC1.out
  have HD2 : Hid (w4.cell? ⟨w.heap.size, 2, none⟩ = some (.slice pa pz.length pc)) := (hb4.cell (p := ⟨w.heap.size, 2, none⟩) (Nat.lt_succ_self _)).trans HC2.out
  have d3 : w4.cell? ⟨w.heap.size, 3, none⟩ = some (.int .i64 dv) := (hb4.cell (p := ⟨w.heap.size, 3, none⟩) (Nat.lt_succ_self _)).trans HC3.out
  have HK0 : Hid ((List.replicate cols (0 : Int)).set fr dv = kerTo cols M pz dv fr 0) := rfl
  obtain ⟨cz, fz⟩ := HO4.out.cell (j := fr) (by rw [List.length_replicate]; exact hf)
  have HO5 := Lib.hid (HO4.out.stored fr dv)
  have HON : Hid (OnlyB (w.heap.size + 1) w4 (w4.setCell ⟨w.heap.size + 1, fr, none⟩ (.int .i64 dv))) := (OnlyB.refl _ _).setCell fr _
  have HB5 : Hid (Below w.heap.size w (w4.setCell ⟨w.heap.size + 1, fr, none⟩ (.int .i64 dv))) := HB4.out.setCell (p := ⟨w.heap.size + 1, fr, none⟩) (Nat.le_succ _) _
  have d2' : (w4.setCell ⟨w.heap.size + 1, fr, none⟩ (.int .i64 dv)).cell? ⟨w.heap.size, 2, none⟩ = some (.slice pa pz.length pc) := (HON.out.cell (by omega)).trans HD2.out
  clear hown hgrow hb4 hsz hsz1 c0
  go_wp2
  clear d2' d3 cz fz
  go_loopw [19] (fun i wr => ∃ k : Nat, k ≤ pz.length ∧ i = .int .i64 k ∧ OwnI wr w.heap.size (.slice (some ⟨w.heap.size + 1, 0, none⟩) cols cols) (kerTo cols M pz dv fr k) ∧ OnlyB (w.heap.size + 1) w4 wr ∧ Below w.heap.size w wr) (fun i _ => pz.length - (intOf i).toNat)
  case atStart => exact ⟨0, Nat.zero_le _, rfl, HO5.out, HON.out, HB5.out⟩
  case round =>
    clear HO5 HON HB5 HO4
    obtain ⟨k, hk, rfl, hO, hN, hB⟩ := hrel
    have HO := Lib.hid hO; clear hO
    have HN := Lib.hid hN; clear hN
    have HB := Lib.hid hB; clear hB
    by_cases hlt : k < pz.length
    · obtain ⟨pb, po, v, rfl, hcv, HV⟩ := (HS.out.below HB.out).at hlt
      have hgv := gt_some' HV.out
      have hvr := HP.out k hlt
      rw [hgv] at hvr
      obtain ⟨j, rfl⟩ := Int.eq_ofNat_of_zero_le hvr.1
      have hj : j < cols := by omega
      have hkM : k < M.length := by omega
      obtain ⟨r, hr⟩ : ∃ r, M[k]? = some r := ⟨M[k], by simp [hkM]⟩
      obtain ⟨x, hx⟩ : ∃ x, ads[k]? = some x := ⟨ads[k]'(by rw [HSI.out.len]; exact hkM), by simp [HSI.out.len, hkM]⟩
      obtain ⟨xb, xc⟩ := x
      obtain ⟨hh, hro⟩ := (HSI.out.below HB.out).row k (xb, xc) r hx hr
      have hfr : fr < r.length := HRL.out r (List.mem_of_getElem? hr)
      dsimp only at hh
      have hcr := (OwnI.cell hro (j := fr) hfr).1
      obtain ⟨y, hy⟩ : ∃ y, gt r fr = y := ⟨_, rfl⟩
      have hcy : wr.cell? ⟨xb, fr, none⟩ = some (.int .i64 y) := by rw [← hy]; exact hcr
      have d1 : wr.cell? ⟨w.heap.size, 1, none⟩ = some (.slice (some ⟨g, 0, none⟩) M.length cap) := (HN.out.cell (by omega)).trans HD1.out
      obtain ⟨cz, fz⟩ := HO.out.cell (j := j) (by rw [kerTo_len]; exact hj)
      have HKN : Hid ((kerTo cols M pz dv fr k).set j (IntKind.i64.wrap (-y)) = kerTo cols M pz dv fr (k + 1)) := by
        show _ = _
        conv => rhs; unfold kerTo
        rw [hgv, Int.toNat_natCast, rowL_some hr, hy]
      have HST := Lib.hid (HO.out.stored j (IntKind.i64.wrap (-y)))
      clear hcr hro hgv hvr hy hx hr
      go_wp2
      go_roundw
      case rel =>
        (try rw [wrap_is])
        exact ⟨k + 1, by omega, by go_num, by rw [← HKN.out]; exact HST.out, HN.out.setCell _ _, HB.out.setCell (p := ⟨w.heap.size + 1, j, none⟩) (Nat.le_succ _) _⟩
      case measure => simp [intOf]; omega
    · obtain rfl : k = pz.length := by omega
      have HKL : Hid ((kerTo cols M pz dv fr pz.length).length = cols) := kerTo_len _ _ _ _ _ _
      have HSH : Hid (Calls Try.prog 110 #[.slice (some ⟨w.heap.size + 1, 0, none⟩) cols cols] wr fun e w' => e = .returned (.slice (some ⟨w.heap.size + 1, 0, none⟩) cols cols) ∧ OnlyB (w.heap.size + 1) wr w' ∧ Below w.heap.size wr w' ∧ OwnI w' w.heap.size (.slice (some ⟨w.heap.size + 1, 0, none⟩) cols cols) (kerL cols M pz dv fr)) := by
        have h := shorten_any w.heap.size (w.heap.size + 1) cols (kerTo cols M pz dv fr pz.length) wr (by rw [HKL.out]; omega) HMID.out HG.out (by rw [HKL.out]; exact HO.out)
        rw [HKL.out] at h
        exact h
      go_wp2_with fail
      refine HSH.out.mono ?_
      rintro e w6 ⟨rfl, _, hbl, hown⟩
      have HB6 := Lib.hid (HB.out.trans hbl)
      have HO6 := Lib.hid hown
      clear hbl hown
      go_wp2
      go_ret
      exact ⟨HB6.out, _, _, rfl, HO6.out⟩
end Go.Proofs.Ytfkmlonhhdcfpaa
/- The rows of a reduction laid: the first loop of reduce. -/
namespace Go.Proofs.Ytfkmlonhhdcfpaa
open Go.RowKit

/-- One row of the mask's columns. -/
def pixR (px : List Int) (r : List Int) : List Int := px.map fun j => gt r j.toNat
def pixM (px : List Int) (m : List (List Int)) : List (List Int) := m.map (pixR px)
theorem pixR_len (px r : List Int) : (pixR px r).length = px.length := by simp [pixR]
theorem pixR_succ {px r : List Int} {j : Nat} {p : Int} (h : px[j]? = some p) : (pixR px r).take (j + 1) = (pixR px r).take j ++ [gt r p.toNat] := by
  have hj := (List.getElem?_eq_some_iff.1 h).1
  rw [List.take_succ_eq_append_getElem (by rw [pixR_len]; exact hj)]
  have e := (List.getElem?_eq_some_iff.1 h).2
  simp [pixR, e]
/-- The rows of some columns before they are reduced, and behind it. -/
def redM (m : List (List Int)) (px : List Int) : Rd := { cols := px.length, rows := pixM px m, piv := [], dv := 1 }
def redN (m : List (List Int)) (px : List Int) : Rd := clearN (redM m px) px.length
theorem redM_ok {m : List (List Int)} {px : List Int} (hm : m.length ≤ 6) (hp : px.length ≤ 10) (h64 : All64 m) : RdOk px.length (redM m px) ∧ All64 (redM m px).rows := by
  refine ⟨⟨?_, ?_, by omega, ?_, by simp [redM]⟩, ?_⟩
  · show (pixM px m).length ≤ 100; rw [pixM, List.length_map]; omega
  · intro q hq; obtain ⟨r, _, rfl⟩ := List.mem_map.1 hq; exact pixR_len _ _
  · exact Nat.zero_le _
  · intro q hq x hx
    obtain ⟨r, hr, rfl⟩ := List.mem_map.1 hq
    obtain ⟨j, _, rfl⟩ := List.mem_map.1 hx
    exact gt_in64 (h64 r hr) _
set_option maxRecDepth 100000 in
set_option maxHeartbeats 1600000 in
theorem reduce_t2 {base B T : Nat} {ma : Option Addr} {m : List (List Int)} {mc : Nat} {pxa : Option Addr} {px : List Int} {pxc : Nat} {w w0 : World} (hbB : base ≤ B) (hm : Hid (m.length ≤ 6)) (hpx : Hid (px.length ≤ 10)) (hin : Hid (∀ j ∈ px, 0 ≤ j ∧ j < colsM m)) (hrl : Hid (∀ r ∈ m, r.length = colsM m))
    (hms : Hid (∀ {W : World}, Below base w0 W → Ms W ma m)) (hps : Hid (∀ {W : World}, Below base w0 W → Sl W pxa px)) (hB : B < w.heap.size)
    (hbx : Hid (RB B (px.length : Int) (.slice none 0 0) w)) (hb0 : Hid (Below base w0 w)) (hm1 : Hid (1 ≤ m.length)) (h64 : Hid (All64 m)) (hT : T < base) (hTw : T < w0.heap.size) (hTx : Hid (∀ k, k < 4 → (∃ u, w0.cell? ⟨T, k, none⟩ = some u) ∧ w0.frozen? ⟨T, k, none⟩ = false)) (u3 u4 u5 u8 u9 u10 u11 u12 u13 u14 u15 u16 u17 u18 u19 u20 u21 u22 u23 u24 u25 u26 u27 u28 u29 u30 u31 u32 u33 u34 u35 u36 u37 u38 u39 u40 u41 u42 u43 u44 u45 u46 u47 u48 u49 u50 u51 u52 u53 u54 u55 u56 u57 u58 : Value) (R : Ending → World → Prop)
    (hR : Hid (∀ (g cap : Nat) (ads' : List (Nat × Nat)) (pa : Option Addr) (pc : Nat) (W : World), RdW base B g cap ads' (.slice pa (redN m px).piv.length pc) (redN m px) W → Below base w0 W → R (.returned (rdV g cap pa pc (redN m px))) (rdBox T g cap pa pc (redN m px) W))) :
    Code.wp Try.prog (seqTail 2 ((Try.f56.body).getD .skip)) (bodyPost Try.prog Try.f56 R) { tmps := #[.slice ma m.length mc, .slice pxa px.length pxc, .func (.func 57) #[] #[], u3, u4, u5, .pointer (some ⟨T, 0, none⟩), .pointer (some ⟨B, 0, none⟩), u8, u9, u10, u11, u12, u13, u14, u15, u16, u17, u18, u19, u20, u21, u22, u23, u24, u25, u26, u27, u28, u29, u30, u31, u32, u33, u34, u35, u36, u37, u38, u39, u40, u41, u42, u43, u44, u45, u46, u47, u48, u49, u50, u51, u52, u53, u54, u55, u56, u57, u58], defers := [] } w := by
  conv => arg 2; whnf
  refine wp_seq_k (fun K hK => ?_)
  have HK := Lib.hid hK; clear hK
  obtain ⟨i0, hi, hz0, hz1, hz2⟩ := info_parts Try.infoInt
  go_wp2
  go_loopw [19] (fun i wr => ∃ (k : Nat) (rv : Value) (ads : List (Nat × Nat)), k ≤ m.length ∧ i = .int .i64 k ∧ Hid (RS base rv ads ((pixM px m).take k) wr) ∧ Hid (RB B (px.length : Int) rv wr) ∧ Hid (rv.ownBlock ≠ some B ∧ ∀ (i : Nat) (x : Nat × Nat), ads[i]? = some x → x.1 ≠ B) ∧ Below base w0 wr ∧ B < wr.heap.size) (fun i _ => m.length - (intOf i).toNat)
  case atStart => exact ⟨0, _, [], Nat.zero_le _, rfl, ⟨rfl, World.ownsRow_nil _ _ _ _, fun i x r h => by simp at h, fun i j x y h => by simp at h, fun i x h => by simp at h⟩, hbx, ⟨by simp [Value.ownBlock], fun i x h => by simp at h⟩, hb0.out, hB⟩
  case round =>
    obtain ⟨k, rv, ads, hk, rfl, HRS, HBX, HNE, hbl, hBl⟩ := hrel
    have HBL := Lib.hid hbl; clear hbl
    by_cases hlt : k < m.length
    · obtain ⟨b1, o1, ai, r, ci, rfl, hcell, hsl, HR⟩ := (hms.out HBL.out).at hlt
      have HSL := Lib.hid hsl; clear hsl
      have hbw : base ≤ wr.heap.size := by omega
      go_wp2_with (with_reducible refine wpList_make_own _ rfl (.const (.int .i64 0)) (.const (.int .i64 20)) 24 rfl wr.heap.size 3 i0 (.int .i64 0) 1 Try.underlying24 hi hz0 hz1 .i64 .i64 20 20 rfl rfl rfl (by rw [hz2]; omega) (by unfold maxLen; omega) (Nat.le_refl _) ?_)
      rotate_left
      intro w4 hown hgrow
      have HO4 : Hid (OwnI w4 wr.heap.size (.slice (some ⟨wr.heap.size, 0, none⟩) 0 20) []) := hown
      have HB4 : Hid (Below wr.heap.size wr w4) := (Below.refl _ _).grown hgrow (Nat.le_refl _) (fun k e => by cases e)
      clear hown hgrow
      obtain ⟨G, hG⟩ : ∃ G, wr.heap.size = G := ⟨_, rfl⟩
      rw [hG] at HO4 HB4
      have HGB : Hid (∀ {W : World}, Below G wr W → Below wr.heap.size wr W) := fun h => by rw [hG]; exact h
      rw [hG]
      have HGS : Hid (∀ {W : World}, Below G wr W → G ≤ W.heap.size) := fun h => by have := h.size; omega
      have hGb : base ≤ G := by omega
      have HGE := Lib.hid hG
      clear hG
      have hpx10 : px.length ≤ 10 := hpx.out
      go_wp2
      go_loopw [10, 27] (fun v i wq => ∃ j : Nat, j ≤ px.length ∧ i = .int .i64 j ∧ OwnI wq G v ((pixR px r).take j) ∧ Below G wr wq ∧ ∃ b c, v = .slice (some ⟨b, 0, none⟩) j c) (fun _ i _ => px.length - (intOf i).toNat)
      case atStart => exact ⟨0, Nat.zero_le _, rfl, HO4.out, HB4.out, _, _, rfl⟩
      case round =>
        clear HO4 HB4
        obtain ⟨j, hj, rfl, hO, hB, nb, nc, hvv⟩ := hrel
        subst hvv
        have HO := Lib.hid hO; clear hO
        have HB := Lib.hid hB; clear hB
        have HBq : Hid (Below base w0 wr) := HBL.out.trans (HB.out.mono hGb)
        by_cases hlj : j < px.length
        · obtain ⟨pb, po, v, rfl, hcv, HV⟩ := (hps.out HBq.out).at hlj
          have hvr := hin.out v (List.mem_of_getElem? HV.out)
          have HRC : Hid (r.length = colsM m) := hrl.out r (List.mem_of_getElem? HR.out)
          obtain ⟨q, rfl⟩ := Int.eq_ofNat_of_zero_le hvr.1
          have hq : q < r.length := by have := HRC.out; omega
          obtain ⟨rb, ro, x, rfl, hcx, HX⟩ := (HSL.out.below (HGB.out HB.out)).at hq
          have HT : Hid ((pixR px r).take (j + 1) = (pixR px r).take j ++ [x]) := by show _ = _; rw [pixR_succ HV.out, Int.toNat_natCast, gt_some' HX.out]
          have HTL : Hid (((pixR px r).take j).length = j) := by show _ = _; rw [List.length_take, pixR_len]; omega
          obtain ⟨TT, hTT⟩ : ∃ TT, (pixR px r).take j = TT := ⟨_, rfl⟩
          rw [hTT] at HO HT HTL
          clear hvr hTT
          go_wp2_with (at_builtin; go_must (refine wpList_pushG0 rfl (.tmp 31) (.tmp 36) rfl G _ TT _ _ _ _ rfl rfl rfl HO.out (by rw [HTL.out]; omega) (HGS.out HB.out) ?_); intro g7 c7 w9 ho' _ hb' _)
          go_roundw
          case rel => exact ⟨j + 1, by omega, by go_num, by rw [HT.out]; exact ho', HB.out.trans hb', g7, c7, by rw [HTL.out]⟩
          case measure => simp [intOf]; omega
        · obtain rfl : j = px.length := by omega
          rw [List.take_of_length_le (by rw [pixR_len]; exact Nat.le_refl _)] at HO
          have HPXL : Hid (px.length = (pixR px r).length) := (pixR_len px r).symm
          rw [HPXL.out] at HO
          rw [show Value.slice (some ⟨nb, 0, none⟩) px.length nc = Value.slice (some ⟨nb, 0, none⟩) (pixR px r).length nc by rw [pixR_len]]
          have hBG : B < G := by have := HGE.out; omega
          have cB : wr.cell? ⟨B, 1, none⟩ = some rv := (HB.out.cell (p := ⟨B, 1, none⟩) hBG).trans HBX.out.c1
          have fB : wr.frozen? ⟨B, 1, none⟩ = false := (HB.out.frozen (p := ⟨B, 1, none⟩) hBG).trans HBX.out.f1
          have HBX2 : Hid (RB B (px.length : Int) rv wr) := HBX.out.kept (HB.out.block B hBG)
          have HNBL : Hid (nb < wr.heap.size) := (OwnI.lt HO.out).1
          have HRS2 : Hid (RS base rv ads ((pixM px m).take k) wr) := HRS.out.below (HGB.out HB.out)
          have HK2 : Hid (((pixM px m).take k).length = k) := by show _ = _; rw [List.length_take, pixM, List.length_map]; omega
          obtain ⟨Mk, hMk⟩ : ∃ Mk, (pixM px m).take k = Mk := ⟨_, rfl⟩
          rw [hMk] at HRS2 HK2
          have HMT : Hid (Mk ++ [pixR px r] = (pixM px m).take (k + 1)) := by
            show _ = _
            have e := (List.getElem?_eq_some_iff.1 HR.out)
            rw [← hMk, List.take_succ_eq_append_getElem (by rw [pixM, List.length_map]; exact e.1)]
            simp [pixM, e.2]
          have HMK := Lib.hid hMk
          clear hMk
          have lBq : B < wr.heap.size := by have := HGS.out HB.out; omega
          have hbq : base ≤ wr.heap.size := by omega
          have HNCL : (pixR px r).length ≤ nc := OwnI.cap_le HO.out
          have HBQ : Hid (Below base w0 wr) := HBL.out.trans (HB.out.mono hGb)
          have HRW : Hid (OwnI wr base (.slice (some ⟨nb, 0, none⟩) (pixR px r).length nc) (pixR px r)) := HO.out.mono hGb
          have HAPP : Hid ((∀ (i : Nat) (x : Nat × Nat), ads[i]? = some x → x.1 ≠ nb) ∧ rv.ownBlock ≠ some nb) := by
            have e1 := HGE.out
            have e2 := (OwnI.lt HO.out).2
            refine ⟨fun i x e => ?_, fun e => ?_⟩
            · have := (HRS.out.out i x e).2.1; omega
            · have := (World.ownsRow.lt HRS.out.own nb e).2; omega
          have HBN : Hid (B < nb) := by have e2 := (OwnI.lt HO.out).2; show B < nb; omega
          go_wp2
          go_region_law (first | (go_simp; go_at_call 57; refine (nothing_any _ _).mono ?_; rintro e wz ⟨rfl, rfl⟩) | (refine step_pushRow rfl (.tmp 40) (.tmp 46) rfl base rv ads Mk (pixR px r) nb nc _ _ (by rfl) (by rfl) (by go_simp) ((HRS2.out.below ((Below.refl _ _).alloc (Nat.le_refl _) _).drew)) (HRW.out.below ((Below.refl _ _).alloc (Nat.le_refl _) _).drew) HAPP.out.1 HAPP.out.2 (by rw [HK2.out]; have := hm.out; omega) (by simp; omega) ?_; intro G2 cp2 w9 ho9 hg9 hat9; have hk9 := (hg9.block B (by simp; omega) (fun e => HNE.out.1 e.symm)).trans (((Below.refl wr.heap.size wr).alloc (Nat.le_refl _) _).drew.block B lBq); have c9 := (cell_of_block hk9 1).trans cB; have f9 := (frozen_of_block' hk9 1).trans fB; have HB9 := Lib.hid (HBX2.out.kept hk9)))
          all_goals
            have key := rs_pushed HBQ.out hbB lBq HRS2.out HNE.out HBN.out ho9 hg9 hat9 HB9.out
            have KEY := Lib.hid key
            clear key ho9 hg9 hat9 hk9 c9 f9
            have hk6 : m.length ≤ 6 := hm.out
            go_wp2
            go_roundw
            case rel => exact ⟨k + 1, _, ads ++ [(nb, nc)], hlt, by go_num, HMT.out ▸ KEY.out.1, KEY.out.2.1, KEY.out.2.2.1, KEY.out.2.2.2.1, KEY.out.2.2.2.2⟩
            case measure => simp [intOf]; omega
    · obtain rfl : k = m.length := by omega
      have HOK := Lib.hid (redM_ok hm.out hpx.out h64.out)
      have hRS := HRS.out
      rw [List.take_of_length_le (by rw [pixM, List.length_map]; exact Nat.le_refl _)] at hRS
      obtain ⟨g, cap, rfl, hgc, hW⟩ := hRS.reduction (by rw [pixM, List.length_map]; exact hm1.out) hbB HNE.out HBX.out
      have HWW : Hid (RdW base B g cap ads (.slice none 0 0) (redM m px) wr) := hW
      have HGC := Lib.hid hgc
      clear hW hRS hgc
      go_wp2
      refine HK.out _ _ ?_
      refine reduce_t3 (N := px.length) (r := redM m px) hT hTw HOK.out.1 HOK.out.2 (Nat.le_refl _) (by have := hpx.out; omega) HGC.out hTx HWW HBL _ _ _ _ _ _ _ _ _ _ _ _ _ _ _ _ _ _ _ _ _ _ _ _ _ _ _ _ _ _ _ _ _ _ _ _ _ _ _ _ _ _ _ _ _ _ _ _ _ _ _ _ _ _ _ _ R (hR.out g cap)
end Go.Proofs.Ytfkmlonhhdcfpaa
/- What a whole reduction is: pivots, free columns, and the same vectors read as 0. Plain words. Speaks of no program. -/
namespace Go.Proofs.Ytfkmlonhhdcfpaa
open Go.RowKit

/-- A reduction behind all its columns. -/
structure RFin (R N cols : Nat) (A0 : Nat → Nat → Int) (r : Rd) : Prop where
  len : r.rows.length = R
  row : ∀ q ∈ r.rows, q.length = N
  pl : r.piv.length ≤ R
  pz : ∀ t, t < r.piv.length → 0 ≤ gt r.piv t ∧ gt r.piv t < cols
  asc : ∀ s t, s < t → t < r.piv.length → pivN r s < pivN r t
  pos : 0 < r.dv ∧ r.dv ≤ 720
  self : ∀ s t, s < r.piv.length → t < r.piv.length → gt (rowL r.rows t) (pivN r s) = if t = s then r.dv else 0
  low : ∀ x, r.piv.length ≤ x → x < R → ∀ c, c < cols → gt (rowL r.rows x) c = 0
  ech : ∀ t, t < r.piv.length → ∀ c, c < pivN r t → gt (rowL r.rows t) c = 0
  bd : ∀ x, x < R → ∀ c, c < cols → -720 ≤ gt (rowL r.rows x) c ∧ gt (rowL r.rows x) c ≤ 720
  bdN : ∀ x, x < R → ∀ c, c < N → -720000000 ≤ gt (rowL r.rows x) c ∧ gt (rowL r.rows x) c ≤ 720000000
  ker : ∀ w : Nat → Int, (∀ i, i < R → sumTo (fun c => A0 i c * w c) N = 0) ↔ (∀ x, x < R → sumTo (fun c => gt (rowL r.rows x) c * w c) N = 0)
theorem clearR_cols (c : Nat) (r : Rd) : (clearR c r).cols = r.cols := by unfold clearR; split <;> rfl
theorem clearN_cols (r : Rd) : ∀ k, (clearN r k).cols = r.cols
  | 0 => rfl
  | k + 1 => by rw [clearN_succ, clearR_cols, clearN_cols r k]
theorem bar_all {R N cols : Nat} {M : List (List Int)} (h1 : M.length = R) (h2 : ∀ q ∈ M, q.length = N) (hR : R ≤ 6) (hN : cols ≤ N) (hb1 : ∀ i, i < R → ∀ c, c < cols → -1 ≤ a0 M i c ∧ a0 M i c ≤ 1) (hb2 : ∀ i, i < R → ∀ c, c < N → -1000000 ≤ a0 M i c ∧ a0 M i c ≤ 1000000) :
    ∀ D, D ≤ cols → ∃ A, Bar R N D (a0 M) A (clearN { cols := cols, rows := M, piv := [], dv := 1 } D)
  | 0, _ => ⟨_, bar_start h1 h2⟩
  | D + 1, hD => by
    obtain ⟨A, hA⟩ := bar_all h1 h2 hR hN hb1 hb2 D (by omega)
    rw [clearN_succ]
    obtain ⟨r, hr⟩ : ∃ r, clearN { cols := cols, rows := M, piv := [], dv := 1 } D = r := ⟨_, rfl⟩
    rw [hr] at hA ⊢
    cases hp : pivRow r.rows D (r.rows.length - r.piv.length) r.piv.length with
    | none =>
      have e : clearR D r = r := by unfold clearR; rw [hp]
      rw [e]
      exact ⟨A, bar_skip hA (by omega) hp⟩
    | some i => exact bar_step hA hR (by omega) hN hb1 hb2 hp
theorem rd_fin {R N cols : Nat} {M : List (List Int)} (h1 : M.length = R) (h2 : ∀ q ∈ M, q.length = N) (hR : R ≤ 6) (hN : cols ≤ N) (hb1 : ∀ i, i < R → ∀ c, c < cols → -1 ≤ a0 M i c ∧ a0 M i c ≤ 1) (hb2 : ∀ i, i < R → ∀ c, c < N → -1000000 ≤ a0 M i c ∧ a0 M i c ≤ 1000000) :
    RFin R N cols (a0 M) (clearN { cols := cols, rows := M, piv := [], dv := 1 } cols) := by
  obtain ⟨A, h⟩ := bar_all h1 h2 hR hN hb1 hb2 cols (Nat.le_refl _)
  obtain ⟨r, hr⟩ : ∃ r, clearN { cols := cols, rows := M, piv := [], dv := 1 } cols = r := ⟨_, rfl⟩
  rw [hr] at h ⊢
  have hpt : ∀ t, t < r.piv.length → pivN r t < cols := fun t ht => by have := h.pz t ht; unfold pivN; omega
  have hA1 : ∀ x, x < R → ∀ c, c < cols → -1 ≤ A x c ∧ A x c ≤ 1 := fun x hx c hc => arr_bd h.arr (fun i hi => hb1 i hi c hc) x hx
  have hA2 : ∀ x, x < R → ∀ c, c < N → -1000000 ≤ A x c ∧ A x c ≤ 1000000 := fun x hx c hc => arr_bd h.arr (fun i hi => hb2 i hi c hc) x hx
  refine ⟨h.len, h.row, h.pl, h.pz, h.asc, ⟨h.pos, ?_⟩, ?_, ?_, ?_, ?_, ?_, ?_⟩
  · rw [h.dv]
    unfold dt
    have one : ∀ k, pr (fun _ => 1) k = 1 := fun k => by
      induction k with
      | zero => rfl
      | succ k ih => simp only [pr]; rw [ih]; rfl
    have hd := detC_bd r.piv.length (colF A (pivN r)) (fun _ => 1) (fun _ _ => Int.one_nonneg) (fun s hs i hi => hA1 i (by have := h.pl; omega) _ (hpt s hs))
    rw [one, Int.mul_one] at hd
    have : fc r.piv.length ≤ fc 6 := fc_mono (by have := h.pl; omega)
    exact Int.le_trans (Int.le_trans hd.2 this) (by decide)
  · intro s t hs ht
    rw [h.val t (by have := h.pl; omega) _ (by have := hpt s hs; omega), mk_self h.uq hs ht, h.dv]
  · intro x h3 h4 c hc
    rw [h.val x h4 c (by omega)]; exact h.low x h3 h4 c hc
  · intro t ht c hc
    rw [h.val t (by have := h.pl; omega) c (by have := hpt t ht; omega)]; exact h.ech t ht c hc
  · intro x hx c hc
    rw [h.val x hx c (by omega)]
    exact mk_bd6 (Y := 1) (by decide) h.pl hR hx (fun i hi t ht => hA1 i hi _ (hpt t ht)) (fun i hi => hA1 i hi c hc)
  · intro x hx c hc
    rw [h.val x hx c hc]
    exact mk_bd6 (Y := 1000000) (by decide) h.pl hR hx (fun i hi t ht => hA1 i hi _ (hpt t ht)) (fun i hi => hA2 i hi c hc)
  · intro w
    rw [h.ker w, mk_ker h.uq (by have := h.pos; rw [h.dv] at this; omega) R N h.pl w]
    constructor <;> intro hz x hx <;> rw [← hz x hx] <;> refine sumTo_congr N fun c hc => ?_ <;> rw [h.val x hx c hc]
/-- The columns px of a mask. -/
def pxOk (m : List (List Int)) (px : List Int) : Prop := ∀ j ∈ px, 0 ≤ j ∧ j < colsM m
theorem gt_pixR {px r : List Int} {c : Nat} (h : c < px.length) : gt (pixR px r) c = gt r (gt px c).toNat := by
  unfold pixR gt; simp [h]
theorem rowL_pixM {m : List (List Int)} {px : List Int} {i : Nat} (h : i < m.length) : rowL (pixM px m) i = pixR px (rowL m i) := by
  unfold pixM rowL; simp [h]
theorem redN_cols (m : List (List Int)) (px : List Int) : (redN m px).cols = px.length := clearN_cols _ _
theorem redN_fin {m : List (List Int)} (hv : validM m = true) {px : List Int} (hpx : pxOk m px) : RFin m.length px.length px.length (a0 (pixM px m)) (redN m px) := by
  obtain ⟨hm1, hm6, hc1, hc10, hrows⟩ := validM_of hv
  have hb : ∀ i, i < m.length → ∀ c, c < px.length → -1 ≤ a0 (pixM px m) i c ∧ a0 (pixM px m) i c ≤ 1 := by
    intro i hi c hc
    unfold a0
    rw [rowL_pixM hi, gt_pixR hc]
    have hr := hrows _ (rowL_mem hi)
    have hj : gt px c ∈ px := by unfold gt; simp [hc]
    have := hpx _ hj
    exact gt_in hr.2 (by rw [hr.1]; omega)
  refine rd_fin (by simp [pixM]) ?_ hm6 (Nat.le_refl _) hb (fun i hi c hc => by have := hb i hi c hc; omega)
  intro q hq
  obtain ⟨r, _, rfl⟩ := List.mem_map.1 hq
  exact pixR_len _ _
end Go.Proofs.Ytfkmlonhhdcfpaa
/- The kernel vector at a free column: its numbers. Plain words. -/
namespace Go.Proofs.Ytfkmlonhhdcfpaa
open Go.RowKit

theorem freeTo_mem (pz : List Int) : ∀ k c, c ∈ freeTo pz k ↔ ∃ j : Nat, j < k ∧ c = (j : Int) ∧ (j : Int) ∉ pz
  | 0, c => by simp [freeTo]
  | k + 1, c => by
    unfold freeTo
    have ih := freeTo_mem pz k c
    split
    · rename_i h
      rw [ih]
      constructor
      · rintro ⟨j, h1, h2, h3⟩; exact ⟨j, by omega, h2, h3⟩
      · rintro ⟨j, h1, h2, h3⟩
        by_cases e : j = k
        · subst e; exact absurd h h3
        · exact ⟨j, by omega, h2, h3⟩
    · rename_i h
      rw [List.mem_append, ih, List.mem_singleton]
      constructor
      · rintro (⟨j, h1, h2, h3⟩ | rfl)
        · exact ⟨j, by omega, h2, h3⟩
        · exact ⟨k, by omega, rfl, h⟩
      · rintro ⟨j, h1, h2, h3⟩
        by_cases e : j = k
        · subst e; exact .inr h2
        · exact .inl ⟨j, by omega, h2, h3⟩
theorem mem_gt {xs : List Int} {v : Int} : v ∈ xs ↔ ∃ t, t < xs.length ∧ gt xs t = v := by
  rw [List.mem_iff_getElem]
  constructor
  · rintro ⟨t, h, e⟩; exact ⟨t, h, by unfold gt; simp [h, e]⟩
  · rintro ⟨t, h, e⟩; exact ⟨t, h, by unfold gt at e; simpa [h] using e⟩
section
variable {R N cols : Nat} {A0 : Nat → Nat → Int} {r : Rd}
theorem RFin.pivN_lt (h : RFin R N cols A0 r) {t : Nat} (ht : t < r.piv.length) : pivN r t < cols := by have := h.pz t ht; unfold pivN; omega
theorem RFin.pivN_eq (h : RFin R N cols A0 r) {t : Nat} (ht : t < r.piv.length) : gt r.piv t = (pivN r t : Int) := by have := h.pz t ht; unfold pivN; omega
theorem RFin.inj (h : RFin R N cols A0 r) {s t : Nat} (hs : s < r.piv.length) (ht : t < r.piv.length) (e : pivN r s = pivN r t) : s = t := by
  rcases Nat.lt_trichotomy s t with q | q | q
  · have := h.asc s t q ht; omega
  · exact q
  · have := h.asc t s q hs; omega
theorem RFin.mem (h : RFin R N cols A0 r) {c : Nat} : (c : Int) ∈ r.piv ↔ ∃ t, t < r.piv.length ∧ pivN r t = c := by
  rw [mem_gt]
  constructor
  · rintro ⟨t, ht, e⟩; exact ⟨t, ht, by rw [h.pivN_eq ht] at e; omega⟩
  · rintro ⟨t, ht, e⟩; exact ⟨t, ht, by rw [h.pivN_eq ht, e]⟩
/-- The kernel vector at a free column, number by number. -/
theorem RFin.ker_at (h : RFin R N cols A0 r) (hR : R ≤ 6) (hN : cols ≤ N) {fr : Nat} (hf : fr < cols) (hn : (fr : Int) ∉ r.piv) : ∀ k, k ≤ r.piv.length → ∀ c, c < cols →
    gt (kerTo cols r.rows r.piv r.dv fr k) c = if c = fr then r.dv else if (∃ t, t < k ∧ pivN r t = c) then -gt (rowL r.rows ((List.range k).findIdx fun t => pivN r t == c)) fr else 0
  | 0, _, c, hc => by
    unfold kerTo
    rw [gt_set (by simpa using hf)]
    split
    · rfl
    · rw [if_neg (by rintro ⟨t, ht, _⟩; omega)]; unfold gt; simp [hc]
  | k + 1, hk, c, hc => by
    have ih := h.ker_at hR hN hf hn k (by omega) c hc
    unfold kerTo
    rw [gt_set (by rw [kerTo_len]; exact h.pivN_lt (by omega))]
    have hfr : pivN r k ≠ fr := fun e => hn (h.mem.2 ⟨k, by omega, e⟩)
    have hfind : ∀ t, t ≤ k → pivN r t = c → (List.range (k + 1)).findIdx (fun t => pivN r t == c) = t := by
      intro t ht e
      rw [List.findIdx_eq (by simp; omega)]
      refine ⟨by simpa using e, fun j hj => ?_⟩
      have : pivN r j ≠ c := fun e2 => by have := h.inj (s := j) (t := t) (by omega) (by omega) (by omega); omega
      simpa using this
    have hfind' : ∀ t, t < k → pivN r t = c → (List.range k).findIdx (fun t => pivN r t == c) = t := by
      intro t ht e
      rw [List.findIdx_eq (by simp; omega)]
      refine ⟨by simpa using e, fun j hj => ?_⟩
      have : pivN r j ≠ c := fun e2 => by have := h.inj (s := j) (t := t) (by omega) (by omega) (by omega); omega
      simpa using this
    by_cases e : c = (gt r.piv k).toNat
    · rw [if_pos e, if_neg (by intro e2; apply hfr; show (gt r.piv k).toNat = fr; omega), if_pos ⟨k, by omega, e.symm⟩, hfind k (Nat.le_refl k) e.symm]
      have := h.bd k (by have := h.pl; omega) fr hf
      exact wrap_id (by omega) (by omega)
    · rw [if_neg e, ih]
      by_cases e1 : c = fr
      · rw [if_pos e1, if_pos e1]
      · rw [if_neg e1, if_neg e1]
        by_cases e2 : ∃ t, t < k ∧ pivN r t = c
        · obtain ⟨t, ht, e3⟩ := e2
          rw [if_pos ⟨t, ht, e3⟩, if_pos ⟨t, by omega, e3⟩, hfind t (by omega) e3, hfind' t ht e3]
        · rw [if_neg e2, if_neg]
          rintro ⟨t, ht, e3⟩
          by_cases e4 : t = k
          · subst e4; exact e e3.symm
          · exact e2 ⟨t, by omega, e3⟩
/-- The kernel vector ahead of its common divisor. -/
def kvec (r : Rd) (cols fr : Nat) : List Int := kerTo cols r.rows r.piv r.dv fr r.piv.length
theorem RFin.kvec_free (h : RFin R N cols A0 r) (hR : R ≤ 6) (hN : cols ≤ N) {fr : Nat} (hf : fr < cols) (hn : (fr : Int) ∉ r.piv) : gt (kvec r cols fr) fr = r.dv := by
  unfold kvec; rw [h.ker_at hR hN hf hn _ (Nat.le_refl _) fr hf, if_pos rfl]
theorem RFin.kvec_piv (h : RFin R N cols A0 r) (hR : R ≤ 6) (hN : cols ≤ N) {fr : Nat} (hf : fr < cols) (hn : (fr : Int) ∉ r.piv) {t : Nat} (ht : t < r.piv.length) : gt (kvec r cols fr) (pivN r t) = -gt (rowL r.rows t) fr := by
  unfold kvec
  rw [h.ker_at hR hN hf hn _ (Nat.le_refl _) _ (h.pivN_lt ht), if_neg (fun e => hn (h.mem.2 ⟨t, ht, e⟩)), if_pos ⟨t, ht, rfl⟩]
  congr 3
  rw [List.findIdx_eq (by simpa using ht)]
  refine ⟨by simp, fun j hj => ?_⟩
  have : pivN r j ≠ pivN r t := fun e2 => by have := h.inj (s := j) (t := t) (by omega) ht e2; omega
  simpa using this
theorem RFin.kvec_else (h : RFin R N cols A0 r) (hR : R ≤ 6) (hN : cols ≤ N) {fr : Nat} (hf : fr < cols) (hn : (fr : Int) ∉ r.piv) {c : Nat} (hc : c < cols) (h1 : c ≠ fr) (h2 : (c : Int) ∉ r.piv) : gt (kvec r cols fr) c = 0 := by
  unfold kvec
  rw [h.ker_at hR hN hf hn _ (Nat.le_refl _) c hc, if_neg h1, if_neg fun e => h2 (h.mem.2 e)]
theorem RFin.kvec_bd (h : RFin R N cols A0 r) (hR : R ≤ 6) (hN : cols ≤ N) {fr : Nat} (hf : fr < cols) (hn : (fr : Int) ∉ r.piv) {c : Nat} (hc : c < cols) : -720 ≤ gt (kvec r cols fr) c ∧ gt (kvec r cols fr) c ≤ 720 := by
  have hp := h.pos
  by_cases e : c = fr
  · subst e; rw [h.kvec_free hR hN hf hn]; omega
  · by_cases e2 : (c : Int) ∈ r.piv
    · obtain ⟨t, ht, rfl⟩ := h.mem.1 e2
      rw [h.kvec_piv hR hN hf hn ht]
      have := h.bd t (by have := h.pl; omega) fr hf
      omega
    · rw [h.kvec_else hR hN hf hn hc e e2]; omega
theorem kvec_len (r : Rd) (cols fr : Nat) : (kvec r cols fr).length = cols := kerTo_len _ _ _ _ _ _
theorem gcdTo_zero {xs : List Int} : ∀ k, gcdTo xs k = 0 → ∀ j, j < k → gt xs j = 0
  | 0, _, _, h => absurd h (by omega)
  | k + 1, h, j, hj => by
    unfold gcdTo at h
    have h1 : gcdTo xs k = 0 := Nat.eq_zero_of_gcd_eq_zero_left h
    have h2 : (gt xs k).natAbs = 0 := Nat.eq_zero_of_gcd_eq_zero_right h
    by_cases e : j = k
    · subst e; omega
    · exact gcdTo_zero k h1 j (by omega)
theorem RFin.kvec_gcd (h : RFin R N cols A0 r) (hR : R ≤ 6) (hN : cols ≤ N) {fr : Nat} (hf : fr < cols) (hn : (fr : Int) ∉ r.piv) : gcdL (kvec r cols fr) ≠ 0 := by
  intro e
  have := gcdTo_zero _ e fr (by rw [kvec_len]; exact hf)
  rw [h.kvec_free hR hN hf hn] at this
  have := h.pos; omega
theorem RFin.kvec_mid (h : RFin R N cols A0 r) (hR : R ≤ 6) (hN : cols ≤ N) {fr : Nat} (hf : fr < cols) (hn : (fr : Int) ∉ r.piv) : ∀ x ∈ kvec r cols fr, Mid x := by
  intro x hx
  obtain ⟨c, hc, rfl⟩ := mem_gt.1 hx
  have := h.kvec_bd hR hN hf hn (c := c) (by rw [kvec_len] at hc; exact hc)
  unfold Mid; omega
end
end Go.Proofs.Ytfkmlonhhdcfpaa
/- reduce: a contract. -/
namespace Go.Proofs.Ytfkmlonhhdcfpaa
open Go.RowKit

/-- What reduce returns: a reduction whose rows and pivots are the call's own. -/
def RdPost (r : Rd) (w : World) (e : Ending) (w' : World) : Prop := Below w.heap.size w w' ∧ ∃ (g cap : Nat) (ads : List (Nat × Nat)) (pa : Option Addr) (pc : Nat), e = .returned (rdV g cap pa pc r) ∧ w.heap.size ≤ g ∧ SI w' w.heap.size g ads r.rows ∧ OwnI w' w.heap.size (.slice pa r.piv.length pc) r.piv
theorem SI.lower {w : World} {base base' g : Nat} {ads : List (Nat × Nat)} {M : List (List Int)} (h : SI w base g ads M) (hb : base' ≤ base) : SI w base' g ads M :=
  ⟨h.len, fun i x r e1 e2 => ⟨(h.row i x r e1 e2).1, (h.row i x r e1 e2).2.mono hb⟩, h.apart, fun i x e => ⟨(h.out i x e).1, Nat.le_trans hb (h.out i x e).2⟩⟩
theorem rdBox_heap (T g cap : Nat) (pa : Option Addr) (pc : Nat) (r : Rd) (W : World) {b : Nat} (hb : b ≠ T) : (rdBox T g cap pa pc r W).heap[b]? = W.heap[b]? :=
  (Below.heap_setCell _ ⟨T, 3, none⟩ _ b hb).trans ((Below.heap_setCell _ ⟨T, 2, none⟩ _ b hb).trans ((Below.heap_setCell _ ⟨T, 1, none⟩ _ b hb).trans (Below.heap_setCell W ⟨T, 0, none⟩ _ b hb)))
theorem rdPost_of {B g cap pc : Nat} {pa : Option Addr} {ads : List (Nat × Nat)} {r : Rd} {w w0 W : World} (hT : Below w.heap.size w w0) (h : RdW (w.heap.size + 1) B g cap ads (.slice pa r.piv.length pc) r W) (hb : Below (w.heap.size + 1) w0 W) : RdPost r w (.returned (rdV g cap pa pc r)) (rdBox w.heap.size g cap pa pc r W) := by
  refine ⟨?_, g, cap, ads, pa, pc, rfl, Nat.le_trans (Nat.le_succ _) h.bg, (h.si.same (rdBox_heap _ _ _ _ _ _ _ (by have := h.bg; omega)) fun i x e => rdBox_heap _ _ _ _ _ _ _ (by have := (h.si.out i x e).2; omega)).lower (Nat.le_succ _), ?_⟩
  · have h1 := hT.trans (hb.mono (Nat.le_succ _))
    exact (((h1.setCell (p := ⟨w.heap.size, 0, none⟩) (Nat.le_refl _) _).setCell (p := ⟨w.heap.size, 1, none⟩) (Nat.le_refl _) _).setCell (p := ⟨w.heap.size, 2, none⟩) (Nat.le_refl _) _).setCell (p := ⟨w.heap.size, 3, none⟩) (Nat.le_refl _) _
  · have hp : OwnI (rdBox w.heap.size g cap pa pc r W) (w.heap.size + 1) (.slice pa r.piv.length pc) r.piv := row_same h.pi fun b e => rdBox_heap _ _ _ _ _ _ _ (by have := (World.ownsRow.lt h.pi b e).1; omega)
    exact hp.mono (Nat.le_succ _)
theorem rb_new (w : World) (o : Obj) (cols : Int) (t : TypeId) : RB (w.heap.size + 1) cols (.slice none 0 0) ((w.alloc o).alloc (.cells #[.int .i64 cols, .slice none 0 0, .slice none 0 0, .int .i64 1] t)) := by
  have h : (w.alloc o).heap.size = w.heap.size + 1 := World.size_alloc _ _
  rw [← h]
  exact ⟨alloc_cell _ _ _ _ _ rfl, alloc_cell _ _ _ _ _ rfl, alloc_cell _ _ _ _ _ rfl, alloc_cell _ _ _ _ _ rfl, by simp, by simp, by simp⟩
theorem rt_new (w : World) (a b c d : Value) (t : TypeId) (o : Obj) : ∀ k, k < 4 → (∃ u, ((w.alloc (.cells #[a, b, c, d] t)).alloc o).cell? ⟨w.heap.size, k, none⟩ = some u) ∧ ((w.alloc (.cells #[a, b, c, d] t)).alloc o).frozen? ⟨w.heap.size, k, none⟩ = false := by
  have h : (w.alloc (.cells #[a, b, c, d] t)).heap.size = w.heap.size + 1 := World.size_alloc _ _
  intro k hk
  refine ⟨?_, by simp⟩
  match k, hk with
  | 0, _ => exact ⟨a, (alloc_old _ _ _ _ (by omega)).trans (alloc_cell _ _ _ _ _ rfl)⟩
  | 1, _ => exact ⟨b, (alloc_old _ _ _ _ (by omega)).trans (alloc_cell _ _ _ _ _ rfl)⟩
  | 2, _ => exact ⟨c, (alloc_old _ _ _ _ (by omega)).trans (alloc_cell _ _ _ _ _ rfl)⟩
  | 3, _ => exact ⟨d, (alloc_old _ _ _ _ (by omega)).trans (alloc_cell _ _ _ _ _ rfl)⟩
theorem two_new (w : World) (o o' : Obj) : Below w.heap.size w ((w.alloc o).alloc o') := ((Below.refl _ _).alloc (Nat.le_refl _) _).alloc (by rw [World.size_alloc]; omega) _
set_option maxRecDepth 100000 in
theorem reduce_any0 {ma : Option Addr} {m : List (List Int)} {mc : Nat} {pxa : Option Addr} {px : List Int} {pxc : Nat} {w : World} (hm : Hid (m.length ≤ 6)) (hm1 : Hid (1 ≤ m.length)) (hpx : Hid (px.length ≤ 10)) (hin : Hid (∀ j ∈ px, 0 ≤ j ∧ j < colsM m)) (hrl : Hid (∀ r ∈ m, r.length = colsM m)) (h64 : Hid (All64 m))
    (hms : Hid (Ms w ma m)) (hps : Hid (Sl w pxa px)) :
    Calls Try.prog 56 #[.slice ma m.length mc, .slice pxa px.length pxc, .func (.func 57) #[] #[]] w (RdPost (redN m px) w) := by
  go_enter Try.func56, Try.ntmps56
  refine wp_seq_k (fun K hK => ?_)
  have HK := Lib.hid hK; clear hK
  go_wp2
  refine HK.out _ _ ?_
  clear HK
  refine wp_seq_k (fun K hK => ?_)
  have HK := Lib.hid hK; clear hK
  go_wp2
  refine HK.out _ _ ?_
  clear HK
  refine reduce_t2 (base := w.heap.size + 1) (T := w.heap.size) (Nat.le_refl _) hm hpx hin hrl ?_ ?_ ?_ ?_ (Below.refl _ _) hm1 h64 (Nat.lt_succ_self _) ?_ ?_ _ _ _ _ _ _ _ _ _ _ _ _ _ _ _ _ _ _ _ _ _ _ _ _ _ _ _ _ _ _ _ _ _ _ _ _ _ _ _ _ _ _ _ _ _ _ _ _ _ _ _ _ _ _ _ ?_
  · exact fun hb => hms.out.below ((two_new w _ _).trans (hb.mono (Nat.le_succ _)))
  · exact fun hb => hps.out.below ((two_new w _ _).trans (hb.mono (Nat.le_succ _)))
  · rw [World.size_alloc, World.size_alloc]; omega
  · exact rb_new w _ _ _
  · rw [World.size_alloc, World.size_alloc]; omega
  · exact rt_new w _ _ _ _ _ _
  · exact fun g cap ads pa pc W h hb => rdPost_of (two_new w _ _) h hb
theorem reduce_any {ma : Option Addr} {m : List (List Int)} {mc : Nat} {pxa : Option Addr} {px : List Int} {pxc : Nat} {w : World} (hm : Hid (m.length ≤ 6)) (hm1 : Hid (1 ≤ m.length)) (hpx : Hid (1 ≤ px.length ∧ px.length ≤ 10)) (hin : Hid (∀ j ∈ px, 0 ≤ j ∧ j < colsM m)) (hrl : Hid (∀ r ∈ m, r.length = colsM m)) (h64 : Hid (All64 m))
    (hms : Hid (Ms w ma m)) (hps : Hid (Sl w pxa px)) :
    Calls Try.prog 56 #[.slice ma m.length mc, .slice pxa px.length pxc, .func (.func 57) #[] #[]] w (RdPost (redN m px) w) := reduce_any0 hm hm1 (Lib.hid hpx.out.2) hin hrl h64 hms hps
end Go.Proofs.Ytfkmlonhhdcfpaa
/- circuitOn of layer 3: a contract. -/
namespace Go.Proofs.Ytfkmlonhhdcfpaa
open Go.RowKit

/-- Numbers at their places, as far as the first k. -/
def putTo (n : Nat) (px : List Int) (part : List Int) : Nat → List Int
  | 0 => List.replicate n 0
  | k + 1 => (putTo n px part k).set (gt px k).toNat (gt part k)
theorem putTo_len (n : Nat) (px part : List Int) : ∀ k, (putTo n px part k).length = n
  | 0 => by simp [putTo]
  | k + 1 => by unfold putTo; rw [List.length_set]; exact putTo_len n px part k
/-- The primitive kernel vector of the only free column. -/
def partC (m : List (List Int)) (px : List Int) : List Int := shortL (kvec (redN m px) px.length (gt (freeTo (redN m px).piv px.length) 0).toNat)
def signC (xs : List Int) : List Int := if gt xs 0 < 0 then negL xs else xs
def circB (m : List (List Int)) (px : List Int) : Bool := decide ((freeTo (redN m px).piv px.length).length = 1) && !decide ((0 : Int) ∈ partC m px)
def circH (m : List (List Int)) (px : List Int) : List Int := putTo (colsM m) px (signC (partC m px)) px.length
/-- What circuitOn leaves. -/
def CPost (m : List (List Int)) (px : List Int) (w : World) (e : Ending) (w' : World) : Prop :=
  Below w.heap.size w w' ∧ ((circB m px = false ∧ e = .returned (.tuple #[.slice none 0 0, .bool false])) ∨ (circB m px = true ∧ ∃ b, e = .returned (.tuple #[.slice (some ⟨b, 0, none⟩) (colsM m) (colsM m), .bool true]) ∧ OwnI w' w.heap.size (.slice (some ⟨b, 0, none⟩) (colsM m) (colsM m)) (circH m px)))
set_option maxRecDepth 100000 in
set_option maxHeartbeats 2000000 in
theorem circuitOn_any {ma : Option Addr} {m : List (List Int)} {mc : Nat} {pxa : Option Addr} {px : List Int} {pxc : Nat} {w : World} (hv : validM m = true) (hpx : 1 ≤ px.length ∧ px.length ≤ 10) (hin : pxOk m px) (hms : Ms w ma m) (hps : Sl w pxa px) :
    Calls Try.prog 88 #[.slice ma m.length mc, .slice pxa px.length pxc] w (CPost m px w) := by
  have HF := Lib.hid (redN_fin hv hin)
  obtain ⟨hm1, hm6, hc1, hc10, hrows⟩ := validM_of hv
  have h64 : Hid (All64 m) := fun q hq x hx => by
    obtain ⟨c, hc, rfl⟩ := mem_gt.1 hx
    have := gt_in (hrows q hq).2 hc
    unfold In64; omega
  have HRL : Hid (∀ r ∈ m, r.length = colsM m) := fun r hr => (hrows r hr).1
  have HMS := Lib.hid hms
  have HPS := Lib.hid hps
  have HPX := Lib.hid hpx
  have HIN : Hid (∀ j ∈ px, 0 ≤ j ∧ j < colsM m) := hin
  have HM6 := Lib.hid hm6
  have HM1 := Lib.hid hm1
  have HC10 := Lib.hid hc10
  have HC1 := Lib.hid hc1
  clear hv hin hms hps hrows hm1 hm6 hc1 hc10
  obtain ⟨r, hr⟩ : ∃ r, redN m px = r := ⟨_, rfl⟩
  have HRE := Lib.hid hr
  have hcols : r.cols = px.length := by rw [← hr]; exact redN_cols m px
  obtain ⟨cols, rows, piv, dv⟩ := r
  dsimp only at hcols
  subst hcols
  have HF1 : Hid (RFin m.length px.length px.length (a0 (pixM px m)) { cols := px.length, rows := rows, piv := piv, dv := dv }) := by rw [← hr]; exact HF.out
  have HRA : Hid (Calls Try.prog 56 #[.slice ma m.length mc, .slice pxa px.length pxc, .func (.func 57) #[] #[]] w (RdPost { cols := px.length, rows := rows, piv := piv, dv := dv } w)) := by rw [← hr]; exact reduce_any HM6 HM1 HPX HIN HRL h64 HMS HPS
  have HRLEN : Hid (rows.length = m.length) := HF1.out.len
  obtain ⟨fz, hfz⟩ : ∃ fz, freeTo piv px.length = fz := ⟨_, rfl⟩
  have HFZ := Lib.hid hfz
  have HFL : Hid (fz.length ≤ 10) := by have h1 := freeTo_len piv px.length; rw [hfz] at h1; have := HPX.out.2; show _ ≤ _; omega
  have HFM : Hid (∀ c, c ∈ fz ↔ ∃ j : Nat, j < px.length ∧ c = (j : Int) ∧ (j : Int) ∉ piv) := fun c => by rw [← hfz]; exact freeTo_mem piv px.length c
  have HPL : Hid (piv.length ≤ m.length) := HF1.out.pl
  clear hr hfz HF
  by_cases hone : fz.length = 1
  case neg =>
    have hne : ¬ ((fz.length : Int) = 1) := by omega
    have HB : Hid (circB m px = false) := by show _ = _; unfold circB; rw [HRE.out]; dsimp only; rw [HFZ.out]; simp [hone]
    clear hone
    go_enter Try.func88, Try.ntmps88
    go_wp2_with (first | (go_at_call 56; refine HRA.out.mono ?_; rintro e w2 ⟨hb2, g, cap, ads, pa2, pc2, rfl, hgg, si, pi⟩; dsimp only at hgg si pi; unfold rdV; dsimp only; have HB2 := Lib.hid hb2; have HSI := Lib.hid si; have HPI := Lib.hid (OwnI.sl pi); clear si pi hgg hb2) | (go_at_call 80; refine (free_any px.length g rows.length cap pa2 piv pc2 dv _ (by have := HPX.out.2; omega) (by have := HPL.out; have := HM6.out; omega) (HPI.out.below ((Below.refl _ _).alloc (Nat.le_refl _) _))).mono ?_; rintro e w3 ⟨hb3, fa, fk, rfl, hsf⟩; rw [HFZ.out] at hsf ⊢; have HB3 := Lib.hid hb3; have HSF := Lib.hid hsf; clear hb3 hsf))
    go_ret2
    exact ⟨(HB2.out.alloc HB2.out.size _).trans (HB3.out.mono (by rw [World.size_alloc]; have := HB2.out.size; omega)), .inl ⟨HB.out, rfl⟩⟩
  case pos =>
  obtain ⟨f, hf⟩ : ∃ f, fz = [f] := by
    match fz, hone with
    | [f], _ => exact ⟨f, rfl⟩
  subst hf
  obtain ⟨fr, hfr, hff, hfn⟩ := (HFM.out f).1 (by simp)
  subst hff
  have HFR := Lib.hid hfr
  have HFN := Lib.hid hfn
  have HK : Hid (∀ (w' : World) (g' cap' pc' : Nat) (ads' : List (Nat × Nat)) (pa' : Option Addr), Sl w' pa' piv → SI w' w.heap.size g' ads' rows → Calls Try.prog 81 #[.agg #[.int .i64 (px.length : Int), .slice (some ⟨g', 0, none⟩) rows.length cap', .slice pa' piv.length pc', .int .i64 dv], .int .i64 (fr : Int)] w' fun e w2 => Below w'.heap.size w' w2 ∧ ∃ b k, e = .returned (.slice (some ⟨b, 0, none⟩) px.length k) ∧ OwnI w2 w'.heap.size (.slice (some ⟨b, 0, none⟩) px.length k) (partC m px)) := by
    intro w' g' cap' pc' ads' pa' h1 h2
    have e : partC m px = kerL px.length rows piv dv fr := by unfold partC; rw [HRE.out]; dsimp only; rw [HFZ.out]; rfl
    rw [e]
    exact kernel_any w.heap.size px.length g' cap' ads' rows pa' piv pc' dv fr w' (by have := HPX.out.2; omega) hfr (by have h3 := HRLEN.out; have h4 := HPL.out; omega) (by have h3 := HRLEN.out; have h4 := HM6.out; omega) (fun k hk => by have := HF1.out.pz k hk; dsimp only at this; exact this)
      (fun r hr => by have := HF1.out.row r hr; omega) (HF1.out.kvec_mid HM6.out (Nat.le_refl _) hfr hfn) (HF1.out.kvec_gcd HM6.out (Nat.le_refl _) hfr hfn) h1 h2
  clear hone hfr hfn hpx
  go_enter Try.func88, Try.ntmps88
  go_wp2_with (first | (go_at_call 56; refine HRA.out.mono ?_; rintro e w2 ⟨hb2, g, cap, ads, pa2, pc2, rfl, hgg, si, pi⟩; dsimp only at hgg si pi; unfold rdV; dsimp only; have HB2 := Lib.hid hb2; have HSI := Lib.hid si; have HPI := Lib.hid (OwnI.sl pi); clear si pi hgg hb2) | (go_at_call 80; refine (free_any px.length g rows.length cap pa2 piv pc2 dv _ (by have := HPX.out.2; omega) (by have := HPL.out; have := HM6.out; omega) (HPI.out.below ((Below.refl _ _).alloc (Nat.le_refl _) _))).mono ?_; rintro e w3 ⟨hb3, fa, fk, rfl, hsf⟩; rw [HFZ.out] at hsf ⊢; have HB3 := Lib.hid hb3; have HSF := Lib.hid hsf; obtain ⟨fb, fo, v, rfl, hcv, hvv⟩ := hsf.at (k := 0) Nat.zero_lt_one; have hv2 : (fr : Int) = v := Option.some.inj hvv; subst hv2; clear hb3 hsf hvv))
  have hsz : (w2.alloc (.cells #[.int .i64 (px.length : Int), .slice (some ⟨g, 0, none⟩) rows.length cap, .slice pa2 piv.length pc2, .int .i64 dv] 71)).heap.size = w2.heap.size + 1 := World.size_alloc _ _
  have HBX := (HB3.out.cell (p := ⟨w2.heap.size, 0, none⟩) (by rw [hsz]; exact Nat.lt_succ_self _)).trans (alloc_cell w2 _ _ _ _ rfl)
  have HBY := (HB3.out.cell (p := ⟨w2.heap.size, 1, none⟩) (by rw [hsz]; exact Nat.lt_succ_self _)).trans (alloc_cell w2 _ _ _ _ rfl)
  have HBZ := (HB3.out.cell (p := ⟨w2.heap.size, 2, none⟩) (by rw [hsz]; exact Nat.lt_succ_self _)).trans (alloc_cell w2 _ _ _ _ rfl)
  have HBW := (HB3.out.cell (p := ⟨w2.heap.size, 3, none⟩) (by rw [hsz]; exact Nat.lt_succ_self _)).trans (alloc_cell w2 _ _ _ _ rfl)
  have HB23 : Hid (Below w2.heap.size w2 w3) := ((Below.refl _ _).alloc (Nat.le_refl _) _).trans (HB3.out.mono (by rw [hsz]; exact Nat.le_succ _))
  have HPI3 : Hid (Sl w3.drew pa2 piv) := (HPI.out.below HB23.out).drew
  have HSI3 : Hid (SI w3.drew w.heap.size g ads rows) := (HSI.out.below HB23.out).below (Below.refl _ _).drew
  have HW3 : Hid (Below w.heap.size w w3) := HB2.out.trans (HB23.out.mono HB2.out.size)
  clear hsz
  rw [Nat.add_zero] at hcv
  have l2 : w2.heap.size < w3.drew.heap.size := by have h1 := HB3.out.size; rw [World.size_alloc] at h1; exact h1
  have lf : fb < w3.drew.heap.size := cell_lt hcv
  go_region_held_law (fun w' => w'.cell? ⟨w2.heap.size, 0, none⟩ = some (.int .i64 (px.length : Int)) ∧ w'.cell? ⟨w2.heap.size, 1, none⟩ = some (.slice (some ⟨g, 0, none⟩) rows.length cap) ∧ w'.cell? ⟨w2.heap.size, 2, none⟩ = some (.slice pa2 piv.length pc2) ∧ w'.cell? ⟨w2.heap.size, 3, none⟩ = some (.int .i64 dv) ∧ w'.cell? ⟨fb, fo, none⟩ = some (.int .i64 (fr : Int))) (first | exact ⟨by assumption, by assumption, by assumption, by assumption, by assumption⟩ | go_keep | exact ⟨(hb4.cell (p := ⟨w2.heap.size, 0, none⟩) l2).trans (by assumption), (hb4.cell (p := ⟨w2.heap.size, 1, none⟩) l2).trans (by assumption), (hb4.cell (p := ⟨w2.heap.size, 2, none⟩) l2).trans (by assumption), (hb4.cell (p := ⟨w2.heap.size, 3, none⟩) l2).trans (by assumption), (hb4.cell (p := ⟨fb, fo, none⟩) lf).trans (by assumption)⟩) (first | (go_at_call 81; refine (HK.out _ g cap pc2 ads pa2 HPI3.out HSI3.out).mono ?_; rintro e w4 ⟨hb4, kb, kk, rfl, ho4⟩))
  rename_i hsk
  clear hsk
  have HB4 := Lib.hid hb4
  have HO4 := Lib.hid ho4
  clear hb4 ho4 l2 lf
  obtain ⟨pt, hpt⟩ : ∃ pt, partC m px = pt := ⟨_, rfl⟩
  rw [hpt] at HO4
  have HPT := Lib.hid hpt
  have HFZ1 : Hid ((freeTo (redN m px).piv px.length).length = 1) := by show _ = _; rw [HRE.out]; dsimp only; rw [HFZ.out]; rfl
  have hptl : pt.length = px.length := by
    rw [← hpt]; unfold partC; rw [HRE.out]; dsimp only; rw [HFZ.out]
    show (shortL (kvec _ px.length fr)).length = _
    unfold shortL; rw [List.length_map, kvec_len]
  have HPTL := Lib.hid hptl
  have HB34 : Hid (Below w.heap.size w w4) := HW3.out.trans ((Below.refl _ _).drew.trans (HB4.out.mono HW3.out.size))
  have HSP := Lib.hid HO4.out.sl
  have HCN : Hid (Calls Try.prog 109 #[.slice (some ⟨kb, 0, none⟩) px.length kk, .int .i64 0] w4 fun e w' => e = .returned (.bool (decide ((0 : Int) ∈ pt))) ∧ w4 = w') := by
    have h := contains_any (some ⟨kb, 0, none⟩) pt kk 0 w4 (by have := HPX.out.2; omega) HSP.out
    rw [hptl] at h
    exact h
  clear hpt HBX HBY HBZ HBW hcv hptl
  by_cases hz : (0 : Int) ∈ pt
  case pos =>
    have HB : Hid (circB m px = false) := by show _ = _; unfold circB; rw [HPT.out]; simp [hz]
    have hd : decide ((0 : Int) ∈ pt) = true := by simpa using hz
    rw [hd] at HCN
    clear hz hd
    go_wp2_with (go_at_call 109; refine HCN.out.mono ?_; rintro e w5 ⟨rfl, rfl⟩)
    go_ret2
    exact ⟨HB34.out, .inl ⟨HB.out, rfl⟩⟩
  case neg =>
  have HB : Hid (circB m px = true) := by show _ = _; unfold circB; rw [HPT.out, HFZ1.out]; simp [hz]
  have hd : decide ((0 : Int) ∈ pt) = false := by simpa using hz
  rw [hd] at HCN
  clear hz hd
  obtain ⟨v0, hv0⟩ : ∃ v, gt pt 0 = v := ⟨_, rfl⟩
  have HV0 := Lib.hid hv0
  have hc0 : w4.cell? ⟨kb, 0, none⟩ = some (.int .i64 v0) := by rw [← hv0]; exact (OwnI.cell HO4.out (j := 0) (by have := HPTL.out; have := HPX.out.1; omega)).1
  clear hv0
  obtain ⟨b1, o1, ai, rr, ci, rfl, hcell, hsl, HR⟩ := HMS.out.at (show 0 < m.length from HM1.out)
  have hrn : rr.length = colsM m := HRL.out rr (List.mem_of_getElem? HR.out)
  rw [hrn] at hcell
  clear hrn hsl
  obtain ⟨i0, hi, hz0, hz1, hz2⟩ := info_parts Try.infoInt
  have hm1 := HM1.out
  have hp1 := HPX.out.1
  have hp10 := HPX.out.2
  by_cases hneg : v0 < 0
  case pos =>
    have HTN : Hid (Calls Try.prog 115 #[.slice (some ⟨kb, 0, none⟩) px.length kk] w4 fun e w' => e = .returned (.tuple #[]) ∧ OnlyB kb w4 w' ∧ Below w3.drew.heap.size w4 w' ∧ OwnI w' w3.drew.heap.size (.slice (some ⟨kb, 0, none⟩) px.length kk) (negL pt)) := by
      have h := turn_any w3.drew.heap.size kb kk pt w4 (by have h1 := HPTL.out; have := HPX.out.2; omega) (by rw [HPTL.out]; exact HO4.out)
      rw [HPTL.out] at h
      exact h
    obtain ⟨q, hq⟩ : ∃ q, signC pt = q := ⟨_, rfl⟩
    have HQ := Lib.hid hq
    have hqn : negL pt = q := by rw [← hq]; unfold signC; rw [if_pos (by rw [HV0.out]; exact hneg)]
    rw [hqn] at HTN
    clear hq hqn
    have hlb := cell_lt hcell
    have HQL : Hid (q.length = px.length) := by show _ = _; rw [← HQ.out]; unfold signC; split <;> simp [negL, HPTL.out]
    have HHQ : Hid (circH m px = putTo (colsM m) px q px.length) := by show _ = _; unfold circH; rw [HPT.out, HQ.out]
    have hn10 := HC10.out
    obtain ⟨n, hn⟩ : ∃ n, colsM m = n := ⟨_, rfl⟩
    rw [hn] at hcell HHQ hn10
    have HN := Lib.hid hn
    clear hn
    have HLB := Lib.hid hlb
    have HCELL := Lib.hid hcell
    clear hlb hcell
    go_wp2_with (first | (go_at_call 109; refine HCN.out.mono ?_; rintro e w5 ⟨rfl, rfl⟩) | (go_at_call 115; refine HTN.out.mono ?_; rintro e w5 ⟨rfl, -, hb5, ho5⟩; have HB5 := Lib.hid (HB34.out.trans (hb5.mono HW3.out.size)); have HSQ := Lib.hid ho5.sl; clear hb5 ho5; have hcell5 : w5.cell? ⟨b1, o1, none⟩ = some (.slice ai n ci) := (HB5.out.cell (p := ⟨b1, o1, none⟩) HLB.out).trans HCELL.out) | (with_reducible refine wpList_make_full _ rfl (.tmp 35) (.tmp 35) 24 rfl w5.heap.size 3 i0 (.int .i64 0) 1 Try.underlying24 hi hz0 hz1 .i64 .i64 (n : Int) (n : Int) n rfl rfl rfl rfl (by rw [hz2]; omega) (by unfold maxLen; omega) (Nat.le_refl _) ?_))
    clear hcell5
    rotate_left
    intro w6 hown hgrow
    have hb6 : Below w5.heap.size w5 w6 := (Below.refl _ _).grown hgrow (Nat.le_refl _) (fun k e => by cases e)
    have HB6 : Hid (Below w.heap.size w w6) := HB5.out.trans (hb6.mono HB5.out.size)
    have HO6 : Hid (OwnI w6 w.heap.size (.slice (some ⟨w5.heap.size, 0, none⟩) n n) (putTo n px q 0)) := by
      have z := zeros_are n
      rw [Nat.mul_one] at z
      refine OwnI.mono (base := w5.heap.size) ?_ HB5.out.size
      show w6.ownsRow _ _ _ _ _ _
      rw [putTo_len]
      show w6.ownsRow _ _ _ _ _ ((List.replicate n (0 : Int)).map (Value.int .i64))
      rw [← z]; exact hown
    have HWS : Hid (w.heap.size ≤ w5.heap.size) := HB5.out.size
    have HSQ6 : Hid (Sl w6 (some ⟨kb, 0, none⟩) q) := HSQ.out.below hb6
    have HPS6 : Hid (Sl w6 pxa px) := HPS.out.below HB6.out
    have HLQ : Hid (∀ c, c < q.length → ∃ v, w6.cell? ⟨kb, 0 + c, none⟩ = some v ∧ kb < w5.heap.size) := fun c hc => by
      obtain ⟨b', o', e, h2⟩ := HSQ.out c hc
      have h3 := HSQ6.out c hc
      obtain ⟨b'', o'', e2, h4⟩ := h3
      rw [e] at e2
      obtain ⟨rfl, rfl⟩ : kb = b' ∧ 0 = o' := by simpa using e
      obtain ⟨rfl, rfl⟩ : kb = b'' ∧ 0 = o'' := by simpa using e2
      exact ⟨_, h4, cell_lt h2⟩
    clear hown hgrow hb6
    go_wp2
    go_loopw [39] (fun i wr => ∃ k : Nat, k ≤ px.length ∧ i = .int .i64 k ∧ OwnI wr w.heap.size (.slice (some ⟨w5.heap.size, 0, none⟩) n n) (putTo n px q k) ∧ OnlyB w5.heap.size w6 wr ∧ Below w.heap.size w wr) (fun i _ => px.length - (intOf i).toNat)
    case atStart => exact ⟨0, Nat.zero_le _, rfl, HO6.out, OnlyB.refl _ _, HB6.out⟩
    case round =>
      clear HO6 HB6
      obtain ⟨k, hk, rfl, hO, hN, hB⟩ := hrel
      have HO := Lib.hid hO; clear hO
      have HON := Lib.hid hN; clear hN
      have HBB := Lib.hid hB; clear hB
      by_cases hlt : k < px.length
      · obtain ⟨pb, po, v, rfl, hcv, HV⟩ := (HPS.out.below HBB.out).at hlt
        have hgv := gt_some' HV.out
        have hvr := HIN.out v (List.mem_of_getElem? HV.out)
        obtain ⟨j, rfl⟩ := Int.eq_ofNat_of_zero_le hvr.1
        have hj : j < n := by have := HN.out; omega
        obtain ⟨y, hy⟩ : ∃ y, gt q k = y := ⟨_, rfl⟩
        have hqk : k < q.length := by rw [HQL.out]; exact hlt
        have hcq : wr.cell? ⟨kb, k, none⟩ = some (.int .i64 y) := by
          obtain ⟨_, _, l1⟩ := HLQ.out k hqk
          refine (HON.out.cell (by omega)).trans ?_
          obtain ⟨b', o', e, h2⟩ := HSQ6.out k hqk
          obtain ⟨rfl, rfl⟩ : kb = b' ∧ 0 = o' := by simpa using e
          rw [Nat.zero_add] at h2
          rw [h2, ← hy]; rfl
        obtain ⟨cz, fz⟩ := HO.out.cell (j := j) (by rw [putTo_len]; exact hj)
        have HKN : Hid ((putTo n px q k).set j y = putTo n px q (k + 1)) := by
          show _ = _
          conv => rhs; unfold putTo
          rw [hgv, Int.toNat_natCast, hy]
        have HST := Lib.hid (HO.out.stored j y)
        clear hgv hvr hy hqk
        go_wp2
        go_roundw
        case rel => exact ⟨k + 1, by omega, by go_num, by rw [← HKN.out]; exact HST.out, HON.out.setCell _ _, HBB.out.setCell (p := ⟨w5.heap.size, j, none⟩) HWS.out _⟩
        case measure => simp [intOf]; omega
      · obtain rfl : k = px.length := by omega
        go_wp2
        go_ret2
        refine ⟨HBB.out, .inr ⟨HB.out, w5.heap.size, by rw [HN.out]; rfl, ?_⟩⟩
        rw [HN.out, HHQ.out]; exact HO.out
  case neg =>
    obtain ⟨q, hq⟩ : ∃ q, signC pt = q := ⟨_, rfl⟩
    have HQ := Lib.hid hq
    have hqn : pt = q := by rw [← hq]; unfold signC; rw [if_neg (by rw [HV0.out]; exact hneg)]
    rw [hqn] at HSP
    have HB5 := HB34
    have HSQ := HSP
    clear hq hqn
    have hlb := cell_lt hcell
    have HQL : Hid (q.length = px.length) := by show _ = _; rw [← HQ.out]; unfold signC; split <;> simp [negL, HPTL.out]
    have HHQ : Hid (circH m px = putTo (colsM m) px q px.length) := by show _ = _; unfold circH; rw [HPT.out, HQ.out]
    have hn10 := HC10.out
    obtain ⟨n, hn⟩ : ∃ n, colsM m = n := ⟨_, rfl⟩
    rw [hn] at hcell HHQ hn10
    have HN := Lib.hid hn
    clear hn
    have HLB := Lib.hid hlb
    have HCELL := Lib.hid hcell
    clear hlb hcell
    have hcell5 : w4.cell? ⟨b1, o1, none⟩ = some (.slice ai n ci) := (HB5.out.cell (p := ⟨b1, o1, none⟩) HLB.out).trans HCELL.out
    go_wp2_with (first | (go_at_call 109; refine HCN.out.mono ?_; rintro e w5 ⟨rfl, rfl⟩) | (with_reducible refine wpList_make_full _ rfl (.tmp 35) (.tmp 35) 24 rfl w4.heap.size 3 i0 (.int .i64 0) 1 Try.underlying24 hi hz0 hz1 .i64 .i64 (n : Int) (n : Int) n rfl rfl rfl rfl (by rw [hz2]; omega) (by unfold maxLen; omega) (Nat.le_refl _) ?_))
    clear hcell5
    rotate_left
    intro w6 hown hgrow
    have hb6 : Below w4.heap.size w4 w6 := (Below.refl _ _).grown hgrow (Nat.le_refl _) (fun k e => by cases e)
    have HB6 : Hid (Below w.heap.size w w6) := HB5.out.trans (hb6.mono HB5.out.size)
    have HO6 : Hid (OwnI w6 w.heap.size (.slice (some ⟨w4.heap.size, 0, none⟩) n n) (putTo n px q 0)) := by
      have z := zeros_are n
      rw [Nat.mul_one] at z
      refine OwnI.mono (base := w4.heap.size) ?_ HB5.out.size
      show w6.ownsRow _ _ _ _ _ _
      rw [putTo_len]
      show w6.ownsRow _ _ _ _ _ ((List.replicate n (0 : Int)).map (Value.int .i64))
      rw [← z]; exact hown
    have HWS : Hid (w.heap.size ≤ w4.heap.size) := HB5.out.size
    have HSQ6 : Hid (Sl w6 (some ⟨kb, 0, none⟩) q) := HSQ.out.below hb6
    have HPS6 : Hid (Sl w6 pxa px) := HPS.out.below HB6.out
    have HLQ : Hid (∀ c, c < q.length → ∃ v, w6.cell? ⟨kb, 0 + c, none⟩ = some v ∧ kb < w4.heap.size) := fun c hc => by
      obtain ⟨b', o', e, h2⟩ := HSQ.out c hc
      have h3 := HSQ6.out c hc
      obtain ⟨b'', o'', e2, h4⟩ := h3
      rw [e] at e2
      obtain ⟨rfl, rfl⟩ : kb = b' ∧ 0 = o' := by simpa using e
      obtain ⟨rfl, rfl⟩ : kb = b'' ∧ 0 = o'' := by simpa using e2
      exact ⟨_, h4, cell_lt h2⟩
    clear hown hgrow hb6
    go_wp2
    go_loopw [39] (fun i wr => ∃ k : Nat, k ≤ px.length ∧ i = .int .i64 k ∧ OwnI wr w.heap.size (.slice (some ⟨w4.heap.size, 0, none⟩) n n) (putTo n px q k) ∧ OnlyB w4.heap.size w6 wr ∧ Below w.heap.size w wr) (fun i _ => px.length - (intOf i).toNat)
    case atStart => exact ⟨0, Nat.zero_le _, rfl, HO6.out, OnlyB.refl _ _, HB6.out⟩
    case round =>
      clear HO6 HB6
      obtain ⟨k, hk, rfl, hO, hN, hB⟩ := hrel
      have HO := Lib.hid hO; clear hO
      have HON := Lib.hid hN; clear hN
      have HBB := Lib.hid hB; clear hB
      by_cases hlt : k < px.length
      · obtain ⟨pb, po, v, rfl, hcv, HV⟩ := (HPS.out.below HBB.out).at hlt
        have hgv := gt_some' HV.out
        have hvr := HIN.out v (List.mem_of_getElem? HV.out)
        obtain ⟨j, rfl⟩ := Int.eq_ofNat_of_zero_le hvr.1
        have hj : j < n := by have := HN.out; omega
        obtain ⟨y, hy⟩ : ∃ y, gt q k = y := ⟨_, rfl⟩
        have hqk : k < q.length := by rw [HQL.out]; exact hlt
        have hcq : wr.cell? ⟨kb, k, none⟩ = some (.int .i64 y) := by
          obtain ⟨_, _, l1⟩ := HLQ.out k hqk
          refine (HON.out.cell (by omega)).trans ?_
          obtain ⟨b', o', e, h2⟩ := HSQ6.out k hqk
          obtain ⟨rfl, rfl⟩ : kb = b' ∧ 0 = o' := by simpa using e
          rw [Nat.zero_add] at h2
          rw [h2, ← hy]; rfl
        obtain ⟨cz, fz⟩ := HO.out.cell (j := j) (by rw [putTo_len]; exact hj)
        have HKN : Hid ((putTo n px q k).set j y = putTo n px q (k + 1)) := by
          show _ = _
          conv => rhs; unfold putTo
          rw [hgv, Int.toNat_natCast, hy]
        have HST := Lib.hid (HO.out.stored j y)
        clear hgv hvr hy hqk
        go_wp2
        go_roundw
        case rel => exact ⟨k + 1, by omega, by go_num, by rw [← HKN.out]; exact HST.out, HON.out.setCell _ _, HBB.out.setCell (p := ⟨w4.heap.size, j, none⟩) HWS.out _⟩
        case measure => simp [intOf]; omega
      · obtain rfl : k = px.length := by omega
        go_wp2
        go_ret2
        refine ⟨HBB.out, .inr ⟨HB.out, w4.heap.size, by rw [HN.out]; rfl, ?_⟩⟩
        rw [HN.out, HHQ.out]; exact HO.out
end Go.Proofs.Ytfkmlonhhdcfpaa
/- within and there of layer 3; within, million and nothing of its answers; small and long of its statements: contracts. -/
namespace Go.Proofs.Ytfkmlonhhdcfpaa
open Go.RowKit

theorem outB_bool {lim n : Int} {b : Bool} (h : (decide (n < -lim) || decide (lim < n)) = b) : outB lim n = b := h
set_option maxRecDepth 100000 in
theorem lwithin_any (a : Option Addr) (xs : List Int) (cap : Nat) (lim : Int) (w : World) (h0 : 0 ≤ lim) (h1 : lim ≤ 1000000000) (hl : xs.length ≤ 9223372036854775807) (hs : Sl w a xs) :
    Calls Try.prog 52 #[.slice a xs.length cap, .int .i64 lim] w fun e w' => e = .returned (.bool (allB lim xs)) ∧ w = w' := by
  have HS := Lib.hid hs; clear hs
  go_enter Try.func52, Try.ntmps52
  go_wp2
  go_loopw [9] (fun i wr => ∃ k : Nat, k ≤ xs.length ∧ i = .int .i64 k ∧ wr = w ∧ ∀ j, j < k → outB lim (xs[j]?.getD 0) = false) (fun i _ => xs.length - (intOf i).toNat)
  case atStart => exact ⟨0, Nat.zero_le _, rfl, rfl, fun j h => by omega⟩
  case round =>
    obtain ⟨k, hk, rfl, rfl, hno⟩ := hrel
    have HN := Lib.hid hno; clear hno
    by_cases hlt : k < xs.length
    · obtain ⟨b, o, x, rfl, hc, hx⟩ := HS.out.at hlt
      by_cases hlo : x < -lim
      · have HO : Hid (outB lim x = true) := by show _ = _; simp [outB, hlo]
        go_wp2
        go_ret
        exact ⟨ret_bool (allB_no hx.out HO.out).symm, rfl⟩
      · by_cases hhi : lim < x
        · have HO : Hid (outB lim x = true) := by show _ = _; simp [outB, hhi]
          go_wp2
          go_ret
          exact ⟨ret_bool (allB_no hx.out HO.out).symm, rfl⟩
        · have HO : Hid (outB lim x = false) := by show _ = _; simp [outB, hlo, hhi]
          have HX : Hid (xs[k]?.getD 0 = x) := by show _ = _; rw [hx.out]; rfl
          clear hx
          go_wp2
          go_roundw
          case rel => exact ⟨k + 1, by omega, by go_num, by first | trivial | rfl, fun j hj => by
            by_cases e : j = k
            · subst e; rw [HX.out]; exact HO.out
            · exact HN.out j (by omega)⟩
          case measure => simp [intOf]; omega
    · obtain rfl : k = xs.length := by omega
      go_wp2
      go_ret
      exact ⟨ret_bool (allB_yes HN.out).symm, rfl⟩
set_option maxRecDepth 100000 in
theorem lthere_any (a : Option Addr) (m : List (List Int)) (cap : Nat) (j : Int) (w : World) (hv : validM m = true) (hs : Ms w a m) :
    Calls Try.prog 95 #[.slice a m.length cap, .int .i64 j] w fun e w' => e = .returned (.bool (thereB m j)) ∧ w = w' := by
  have hm1 := (validM_of hv).1
  obtain ⟨b, o, ai, r, ci, rfl, hc, _, hr⟩ := hs.at (show 0 < m.length from hm1)
  rw [Nat.add_zero] at hc
  have HC : Hid (r.length = colsM m) := (validM_row hv hr.out).1
  clear hs hv hr
  by_cases h1 : 0 ≤ j
  · by_cases h2 : j < r.length
    · have HT : Hid (thereB m j = true) := by show _ = _; unfold thereB; rw [← HC.out]; simp [h1, h2]
      go_enter Try.func95, Try.ntmps95
      go_wp2
      go_ret
      exact ⟨ret_bool HT.out.symm, rfl⟩
    · have HT : Hid (thereB m j = false) := by show _ = _; unfold thereB; rw [← HC.out]; simp [h2]
      go_enter Try.func95, Try.ntmps95
      go_wp2
      go_ret
      exact ⟨ret_bool HT.out.symm, rfl⟩
  · have HT : Hid (thereB m j = false) := by show _ = _; unfold thereB; simp [h1]
    go_enter Try.func95, Try.ntmps95
    go_wp2
    go_ret
    exact ⟨ret_bool HT.out.symm, rfl⟩
set_option maxRecDepth 100000 in
theorem rwithin3_any (n lo hi : Int) (w : World) :
    Calls Try.prog 91 #[.int .i64 n, .int .i64 lo, .int .i64 hi] w fun e w' => e = .returned (.bool (rangeB n lo hi)) ∧ w = w' := by
  go_enter Try.func91, Try.ntmps91
  go_wp2
  all_goals go_ret
  all_goals exact ⟨ret_bool (by first | (simp [rangeB, *]; done) | (simp [rangeB]; omega)), rfl⟩
theorem range_out {lim n : Int} : rangeB n (-lim) lim = !outB lim n := by
  unfold rangeB outB
  by_cases h1 : n < -lim
  · simp [h1]; omega
  · by_cases h2 : lim < n
    · simp [h1, h2]
    · simp [h1, h2]; omega
set_option maxRecDepth 100000 in
theorem million_any (a : Option Addr) (xs : List Int) (cap : Nat) (w : World) (hl : xs.length ≤ 9223372036854775807) (hs : Sl w a xs) :
    Calls Try.prog 46 #[.slice a xs.length cap] w fun e w' => e = .returned (.bool (allB 1000000 xs)) ∧ w = w' := by
  have HS := Lib.hid hs; clear hs
  go_enter Try.func46, Try.ntmps46
  go_wp2
  go_loopw [7] (fun i wr => ∃ k : Nat, k ≤ xs.length ∧ i = .int .i64 k ∧ wr = w ∧ ∀ j, j < k → outB 1000000 (xs[j]?.getD 0) = false) (fun i _ => xs.length - (intOf i).toNat)
  case atStart => exact ⟨0, Nat.zero_le _, rfl, rfl, fun j h => by omega⟩
  case round =>
    obtain ⟨k, hk, rfl, rfl, hno⟩ := hrel
    have HN := Lib.hid hno; clear hno
    by_cases hlt : k < xs.length
    · obtain ⟨b, o, x, rfl, hc, hx⟩ := HS.out.at hlt
      have HX : Hid (xs[k]?.getD 0 = x) := by show _ = _; rw [hx.out]; rfl
      have HNO : Hid (outB 1000000 x = true → allB 1000000 xs = false) := fun h => allB_no hx.out h
      have HRG : Hid (rangeB x (-1000000) 1000000 = !outB 1000000 x) := range_out
      obtain ⟨bb, hbb⟩ : ∃ bb, outB 1000000 x = bb := ⟨_, rfl⟩
      rw [hbb] at HRG HNO
      have HBB := Lib.hid hbb
      clear hx hbb
      go_wp2_with (go_at_call 91; refine (rwithin3_any x (-1000000) 1000000 _).mono ?_; rintro e w1 ⟨rfl, rfl⟩; rw [HRG.out]; cases bb)
      · go_roundw
        case rel => exact ⟨k + 1, by omega, by go_num, by first | trivial | rfl, fun j hj => by
          by_cases e : j = k
          · subst e; rw [HX.out]; exact HBB.out
          · exact HN.out j (by omega)⟩
        case measure => simp [intOf]; omega
      · go_ret
        exact ⟨ret_bool (HNO.out (by first | trivial | rfl)).symm, rfl⟩
    · obtain rfl : k = xs.length := by omega
      go_wp2
      go_ret
      exact ⟨ret_bool (allB_yes HN.out).symm, rfl⟩
def allZ (xs : List Int) : Bool := xs.all fun x => x == 0
theorem allZ_no {xs : List Int} {k : Nat} {x : Int} (hx : xs[k]? = some x) (h : x ≠ 0) : allZ xs = false := by
  unfold allZ; rw [List.all_eq_false]; exact ⟨x, List.mem_of_getElem? hx, by simpa using h⟩
theorem allZ_yes {xs : List Int} (h : ∀ j, j < xs.length → xs[j]?.getD 0 = 0) : allZ xs = true := by
  unfold allZ; rw [List.all_eq_true]
  intro x hx
  obtain ⟨j, hj, rfl⟩ := List.mem_iff_getElem.1 hx
  have := h j hj
  simpa [hj] using this
set_option maxRecDepth 100000 in
theorem nothing3_any (a : Option Addr) (xs : List Int) (cap : Nat) (w : World) (hl : xs.length ≤ 9223372036854775807) (hs : Sl w a xs) :
    Calls Try.prog 47 #[.slice a xs.length cap] w fun e w' => e = .returned (.bool (allZ xs)) ∧ w = w' := by
  have HS := Lib.hid hs; clear hs
  go_enter Try.func47, Try.ntmps47
  go_wp2
  go_loopw [7] (fun i wr => ∃ k : Nat, k ≤ xs.length ∧ i = .int .i64 k ∧ wr = w ∧ ∀ j, j < k → xs[j]?.getD 0 = 0) (fun i _ => xs.length - (intOf i).toNat)
  case atStart => exact ⟨0, Nat.zero_le _, rfl, rfl, fun j h => by omega⟩
  case round =>
    obtain ⟨k, hk, rfl, rfl, hno⟩ := hrel
    have HN := Lib.hid hno; clear hno
    by_cases hlt : k < xs.length
    · obtain ⟨b, o, x, rfl, hc, hx⟩ := HS.out.at hlt
      have HX : Hid (xs[k]?.getD 0 = x) := by show _ = _; rw [hx.out]; rfl
      by_cases h0 : x = 0
      · subst h0
        clear hx
        go_wp2
        go_roundw
        case rel => exact ⟨k + 1, by omega, by go_num, by first | trivial | rfl, fun j hj => by
          by_cases e : j = k
          · subst e; exact HX.out
          · exact HN.out j (by omega)⟩
        case measure => simp [intOf]; omega
      · have hne : (x != 0) = true := by simpa using h0
        have HZ : Hid (allZ xs = false) := allZ_no hx.out h0
        clear hx
        go_wp2
        go_ret
        exact ⟨ret_bool HZ.out.symm, rfl⟩
    · obtain rfl : k = xs.length := by omega
      go_wp2
      go_ret
      exact ⟨ret_bool (allZ_yes HN.out).symm, rfl⟩
theorem long_any (a : Option Addr) (n : Nat) (cap : Nat) (w : World) (hl : n ≤ 9223372036854775807) (hs : ∀ k, k < n → ∃ b o ai ni ci, a = some ⟨b, o, none⟩ ∧ w.cell? ⟨b, o + k, none⟩ = some (.slice ai ni ci)) :
    Calls Try.prog 9 #[.slice a n cap] w fun e w' => (∃ b, e = .returned (.bool b)) ∧ w = w' := by
  have HS := Lib.hid hs; clear hs
  go_enter Try.func9, Try.ntmps9
  go_wp2
  go_loopw [7] (fun i wr => ∃ k : Nat, k ≤ n ∧ i = .int .i64 k ∧ wr = w) (fun i _ => n - (intOf i).toNat)
  case atStart => exact ⟨0, Nat.zero_le _, rfl, rfl⟩
  case round =>
    obtain ⟨k, hk, rfl, rfl⟩ := hrel
    by_cases hlt : k < n
    · obtain ⟨b, o, ai, ni, ci, rfl, hc⟩ := HS.out k hlt
      by_cases h : ni > 100
      · go_wp2
        go_ret
        exact ⟨⟨_, rfl⟩, rfl⟩
      · go_wp2
        go_roundw
        case rel => exact ⟨k + 1, by omega, by go_num, by first | trivial | rfl⟩
        case measure => simp [intOf]; omega
    · obtain rfl : k = n := by omega
      go_wp2
      go_ret
      exact ⟨⟨_, rfl⟩, rfl⟩
end Go.Proofs.Ytfkmlonhhdcfpaa
/- What asks masks and lists for their ranges, in layer 2 and in its answers: contracts. -/
namespace Go.Proofs.Ytfkmlonhhdcfpaa
open Go.RowKit

def allR (lo hi : Int) (xs : List Int) : Bool := xs.all fun x => rangeB x lo hi
theorem allR_sym (lim : Int) (xs : List Int) : allR (-lim) lim xs = allB lim xs := by
  unfold allR allB
  congr 1; funext x
  simp only [rangeB, outB]
  by_cases h1 : -lim ≤ x <;> by_cases h2 : x ≤ lim <;> simp [h1, h2] <;> omega
theorem allR_no {lo hi : Int} {xs : List Int} {k : Nat} {x : Int} (hx : xs[k]? = some x) (ho : rangeB x lo hi = false) : allR lo hi xs = false := by
  unfold allR; rw [List.all_eq_false]
  exact ⟨x, List.mem_of_getElem? hx, by simp [ho]⟩
theorem allR_yes {lo hi : Int} {xs : List Int} (h : ∀ j, j < xs.length → rangeB (xs[j]?.getD 0) lo hi = true) : allR lo hi xs = true := by
  unfold allR; rw [List.all_eq_true]; intro x hx
  obtain ⟨j, hj, rfl⟩ := List.mem_iff_getElem.1 hx
  have := h j hj
  simpa [hj] using this

theorem btw_any (n lo hi : Int) (B C : Nat) (w : World) (c1 : w.cell? ⟨B, 0, none⟩ = some (.int .i64 lo)) (c2 : w.cell? ⟨C, 0, none⟩ = some (.int .i64 hi)) :
    Calls Try.prog 130 #[.int .i64 n, .pointer (some ⟨B, 0, none⟩), .pointer (some ⟨C, 0, none⟩)] w fun e w' => e = .returned (.bool (rangeB n lo hi)) ∧ w = w' := by
  go_enter Try.func130, Try.ntmps130
  go_wp2
  all_goals go_ret
  all_goals exact ⟨ret_bool (by first | (simp [rangeB, *]; done) | (simp [rangeB]; omega)), rfl⟩
theorem between_any (lo hi : Int) (w : World) :
    Calls Try.prog 112 #[.int .i64 lo, .int .i64 hi] w fun e w' => e = .returned (.func (.func 130) #[] #[.pointer (some ⟨w.heap.size, 0, none⟩), .pointer (some ⟨w.heap.size + 1, 0, none⟩)]) ∧
      w'.cell? ⟨w.heap.size, 0, none⟩ = some (.int .i64 lo) ∧ w'.cell? ⟨w.heap.size + 1, 0, none⟩ = some (.int .i64 hi) ∧ Below w.heap.size w w' := by
  go_enter Try.func112, Try.ntmps112
  go_wp2
  go_ret
  exact ⟨by simp, (alloc_old _ _ _ _ (by simp)).trans (alloc_cell _ _ _ _ _ rfl), by simp, ((Below.refl _ _).alloc (Nat.le_refl _) _).alloc (by simp) _⟩
theorem allbtw_any (lo hi : Int) (B C : Nat) (a : Option Addr) (xs : List Int) (cap : Nat) (w : World) (hl : xs.length ≤ 9223372036854775807)
    (c1 : w.cell? ⟨B, 0, none⟩ = some (.int .i64 lo)) (c2 : w.cell? ⟨C, 0, none⟩ = some (.int .i64 hi)) (hs : Sl w a xs) :
    Calls Try.prog 111 #[.slice a xs.length cap, .func (.func 130) #[] #[.pointer (some ⟨B, 0, none⟩), .pointer (some ⟨C, 0, none⟩)]] w fun e w' => e = .returned (.bool (allR lo hi xs)) ∧ w = w' := by
  have HS := Lib.hid hs; clear hs
  go_enter Try.func111, Try.ntmps111
  go_wp2
  go_loop [9] (fun i => ∃ k : Nat, k ≤ xs.length ∧ i = .int .i64 k ∧ ∀ j, j < k → rangeB (xs[j]?.getD 0) lo hi = true) (fun i => xs.length - (intOf i).toNat)
  case atStart => exact ⟨0, Nat.zero_le _, rfl, fun j h => by omega⟩
  case round =>
    obtain ⟨k, hk, rfl, hno⟩ := hrel
    have HN := Lib.hid hno; clear hno
    by_cases hlt : k < xs.length
    · obtain ⟨b, off, x, rfl, hcell, HX⟩ := HS.out.at hlt
      cases ho : rangeB x lo hi
      · go_wp2_with (go_at_call 130; refine (btw_any _ lo hi _ _ _ c1 c2).mono ?_; rintro e w' ⟨rfl, rfl⟩)
        go_ret
        exact ⟨ret_bool (allR_no HX.out ho).symm, rfl⟩
      · go_wp2_with (go_at_call 130; refine (btw_any _ lo hi _ _ _ c1 c2).mono ?_; rintro e w' ⟨rfl, rfl⟩)
        go_round
        case rel => exact ⟨k + 1, by omega, by go_num, fun j hj => by
            by_cases hj' : j = k
            · subst hj'; rw [HX.out]; exact ho
            · exact HN.out j (by omega)⟩
        case measure => simp [intOf]; omega
    · go_wp2
      go_ret
      exact ⟨ret_bool (allR_yes (fun j hj => HN.out j (by omega))).symm, rfl⟩
theorem validRow_any (a : Option Addr) (r : List Int) (cap : Nat) (w : World) (hl : r.length ≤ 9223372036854775807) (hs : Sl w a r) :
    Calls Try.prog 84 #[.slice a r.length cap] w fun e w' => e = .returned (.bool (rowB r)) ∧ Below w.heap.size w w' := by
  have HS := Lib.hid hs; clear hs
  by_cases h1 : 1 ≤ r.length ∧ r.length ≤ 10
  · obtain ⟨h1, h2⟩ := h1
    go_enter Try.func84, Try.ntmps84
    go_wp2_with fail
    refine (between_any (-1) 1 _).mono ?_
    rintro e w1 ⟨rfl, c1, c2, hb⟩
    have HB := Lib.hid hb; clear hb
    go_wp2_with fail
    refine (allbtw_any (-1) 1 _ _ _ _ _ _ hl c1 c2 (HS.out.below HB.out)).mono ?_
    rintro e w2 ⟨rfl, rfl⟩
    go_wp2
    go_ret
    refine ⟨ret_bool ?_, HB.out⟩
    rw [allR_sym 1]
    simp [rowB, rangeB]; omega
  · have HX : Hid (rowB r = false) := by
      show rowB r = false
      simp only [rowB, rangeB]
      by_cases h2 : 1 ≤ r.length
      · have : ¬ ((r.length : Int) ≤ 10) := by omega
        simp [this]
      · have : ¬ (1 ≤ (r.length : Int)) := by omega
        simp [this]
    by_cases h2 : 1 ≤ r.length
    · have h3 : 10 < r.length := by omega
      clear h1
      go_enter Try.func84, Try.ntmps84
      go_wp2
      go_ret
      exact ⟨ret_bool HX.out.symm, Below.refl _ _⟩
    · have h3 : r.length < 1 := by omega
      clear h1 h2
      go_enter Try.func84, Try.ntmps84
      go_wp2
      go_ret
      exact ⟨ret_bool HX.out.symm, Below.refl _ _⟩
theorem fits_any (a : Option Addr) (xs : List Int) (cap : Nat) (n lim : Int) (h0 : 0 ≤ lim) (h1 : lim ≤ 1000000000) (w : World) (hl : xs.length ≤ 9223372036854775807) (hs : Sl w a xs) :
    Calls Try.prog 92 #[.slice a xs.length cap, .int .i64 n, .int .i64 lim] w fun e w' => e = .returned (.int .i64 (fitsV xs n lim)) ∧ Below w.heap.size w w' := by
  have HS := Lib.hid hs; clear hs
  by_cases hn : (xs.length : Int) = n
  · have HN : Hid (fitsV xs n lim = if allB lim xs = true then 0 else 7) := by show fitsV xs n lim = _; unfold fitsV; rw [if_pos hn]
    have hb : ((xs.length : Int) == n) = true := by simpa using hn
    have hb' : ((xs.length : Int) != n) = false := by simpa using hn
    clear hn
    have HV := Lib.hid (allR_sym lim xs)
    go_enter Try.func92, Try.ntmps92
    go_wp2_with fail
    refine (between_any (-lim) lim _).mono ?_
    rintro e w1 ⟨rfl, c1, c2, hb⟩
    have HB := Lib.hid hb; clear hb
    go_wp2_with fail
    refine (allbtw_any (-lim) lim _ _ _ _ _ _ hl c1 c2 (HS.out.below HB.out)).mono ?_
    rintro e w2 ⟨rfl, rfl⟩
    rw [HV.out]
    cases hA : allB lim xs
    · rw [hA] at HN
      have HN' := HN; clear HN hA
      go_wp2
      go_ret
      exact ⟨by rw [HN'.out]; rfl, HB.out⟩
    · rw [hA] at HN
      have HN' := HN; clear HN hA
      go_wp2
      go_ret
      exact ⟨by rw [HN'.out]; rfl, HB.out⟩
  · have HN : Hid (fitsV xs n lim = 9) := by show fitsV xs n lim = _; unfold fitsV; rw [if_neg hn]
    have hb : ((xs.length : Int) == n) = false := by simpa using hn
    have hb' : ((xs.length : Int) != n) = true := by simpa using hn
    clear hn
    go_enter Try.func92, Try.ntmps92
    go_wp2
    go_ret
    exact ⟨by rw [HN.out]; rfl, Below.refl _ _⟩

theorem row0 {w : World} {a : Option Addr} {m : List (List Int)} (h : Ms w a m) (h1 : 1 ≤ m.length) : ∃ b off a0 c0, a = some ⟨b, off, none⟩ ∧ w.cell? ⟨b, off, none⟩ = some (.slice a0 (colsM m) c0) := by
  obtain ⟨b, off, a0, c0, h1, h2, _⟩ := h 0 (by omega)
  exact ⟨b, off, a0, c0, h1, h2⟩
theorem valid1_any (B : Nat) (a : Option Addr) (m : List (List Int)) (cap : Nat) (b : Option Addr) (r : List Int) (c : Nat) (w : World) (hm : 1 ≤ m.length) (hl : r.length ≤ 9223372036854775807)
    (hbox : w.cell? ⟨B, 0, none⟩ = some (.slice a m.length cap)) (hs : Ms w a m) (hr : Sl w b r) :
    Calls Try.prog 83 #[.slice b r.length c, .pointer (some ⟨B, 0, none⟩)] w fun e w' => e = .returned (.bool (decide (r.length = colsM m) && rowB r)) ∧ Below w.heap.size w w' := by
  obtain ⟨b0, o0, a0, c0, rfl, hcell⟩ := row0 hs hm
  have HR := Lib.hid hr; clear hr hs
  by_cases he : r.length = colsM m
  · have e1 : ((r.length : Int) == (colsM m : Int)) = true := by simp [he]
    have HE : Hid (decide (r.length = colsM m) = true) := by show decide (r.length = colsM m) = true; simp [he]
    clear he
    go_enter Try.func83, Try.ntmps83
    go_wp2_with (go_at_call 84; refine (validRow_any b r c _ hl HR.out).mono ?_; rintro e w1 ⟨rfl, hb⟩)
    go_ret
    exact ⟨ret_bool (by rw [HE.out, Bool.true_and]), hb⟩
  · have e1 : ((r.length : Int) == (colsM m : Int)) = false := by simp; omega
    have HE : Hid (decide (r.length = colsM m) = false) := by show decide (r.length = colsM m) = false; simp [he]
    clear he
    go_enter Try.func83, Try.ntmps83
    go_wp2
    go_ret
    exact ⟨ret_bool (by rw [HE.out, Bool.false_and]), Below.refl _ _⟩
theorem allrows_any (B : Nat) (a : Option Addr) (m : List (List Int)) (cap : Nat) (w : World) (hm : MOk m) (h1 : 1 ≤ m.length) (hB : B < w.heap.size)
    (hbox : w.cell? ⟨B, 0, none⟩ = some (.slice a m.length cap)) (hs : Ms w a m) :
    Calls Try.prog 82 #[.slice a m.length cap, .func (.func 83) #[] #[.pointer (some ⟨B, 0, none⟩)]] w fun e w' => e = .returned (.bool (m.all fun r => decide (r.length = colsM m) && rowB r)) ∧ Below w.heap.size w w' := by
  have HS := Lib.hid hs; clear hs
  have HM := Lib.hid hm
  have hml := hm.1
  clear hm
  have HBX := Lib.hid hbox; clear hbox
  go_enter Try.func82, Try.ntmps82
  go_wp2
  go_loopw [9] (fun i wr => ∃ k : Nat, k ≤ m.length ∧ i = .int .i64 k ∧ (∀ j, j < k → (decide ((m[j]?.getD []).length = colsM m) && rowB (m[j]?.getD [])) = true) ∧ Below w.heap.size w wr) (fun i _ => m.length - (intOf i).toNat)
  case atStart => exact ⟨0, Nat.zero_le _, rfl, fun j h => by omega, Below.refl _ _⟩
  case round =>
    obtain ⟨k, hk, rfl, hno, hb⟩ := hrel
    have HN := Lib.hid hno; clear hno
    have HB := Lib.hid hb; clear hb
    by_cases hlt : k < m.length
    · obtain ⟨b, off, ai, r, ci, rfl, hcell, hsl, HX⟩ := (HS.out.below HB.out).at hlt
      have HSL := Lib.hid hsl; clear hsl
      have hrl := (HM.out.row HX.out).1
      have hbx := (HB.out.cell (p := ⟨B, 0, none⟩) hB).trans HBX.out
      cases ho : (decide (r.length = colsM m) && rowB r)
      · have HO := Lib.hid ho; clear ho
        go_wp2_with (go_at_call 83; refine (valid1_any B _ m cap _ _ _ _ h1 hrl hbx (HS.out.below HB.out) HSL.out).mono ?_; rintro e w1 ⟨rfl, hb1⟩; rw [HO.out])
        go_ret
        refine ⟨ret_bool ?_, HB.out.trans (hb1.mono HB.out.size)⟩
        symm; rw [List.all_eq_false]; exact ⟨r, List.mem_of_getElem? HX.out, by rw [HO.out]; simp⟩
      · have HO := Lib.hid ho; clear ho
        go_wp2_with (go_at_call 83; refine (valid1_any B _ m cap _ _ _ _ h1 hrl hbx (HS.out.below HB.out) HSL.out).mono ?_; rintro e w1 ⟨rfl, hb1⟩; rw [HO.out])
        go_roundw
        case rel => exact ⟨k + 1, by omega, by go_num, fun j hj => by
            by_cases hj' : j = k
            · subst hj'; rw [HX.out]; exact HO.out
            · exact HN.out j (by omega), HB.out.trans (hb1.mono HB.out.size)⟩
        case measure => simp [intOf]; omega
    · go_wp2
      go_ret
      refine ⟨ret_bool ?_, HB.out⟩
      symm; rw [List.all_eq_true]; intro r hr
      obtain ⟨i, hi, rfl⟩ := List.mem_iff_getElem.1 hr
      have := HN.out i (by omega)
      simpa [hi] using this
theorem mvalid_any (a : Option Addr) (m : List (List Int)) (cap : Nat) (w : World) (hm : MOk m) (hs : Ms w a m) :
    Calls Try.prog 42 #[.slice a m.length cap] w fun e w' => e = .returned (.bool (validM m)) ∧ Below w.heap.size w w' := by
  have HM := Lib.hid hm
  have hml := hm.1
  clear hm
  have HS := Lib.hid (hs.alloc (.cells #[.slice a m.length cap] 23)); clear hs
  have HX : Hid (validM m = (rangeB m.length 1 6 && m.all fun r => decide (r.length = colsM m) && rowB r)) := Lib.hid rfl
  by_cases h1 : 1 ≤ m.length
  · by_cases h2 : m.length ≤ 6
    · go_enter Try.func42, Try.ntmps42
      go_wp2_with (go_at_call 82; refine (allrows_any w.heap.size a m cap _ HM.out h1 (by simp) (by simp) HS.out).mono ?_; rintro e w1 ⟨rfl, hb⟩)
      go_ret
      refine ⟨ret_bool ?_, ((Below.refl _ _).alloc (Nat.le_refl _) _).trans (hb.mono (by simp))⟩
      rw [HX.out]; simp [rangeB]; omega
    · have h2' : 6 < m.length := by omega
      clear h2
      go_enter Try.func42, Try.ntmps42
      go_wp2
      go_ret
      refine ⟨ret_bool ?_, (Below.refl _ _).alloc (Nat.le_refl _) _⟩
      rw [HX.out]
      have : ¬ ((m.length : Int) ≤ 6) := by omega
      simp [rangeB, this]
  · have h1' : m.length < 1 := by omega
    clear h1
    go_enter Try.func42, Try.ntmps42
    go_wp2
    go_ret
    refine ⟨ret_bool ?_, (Below.refl _ _).alloc (Nat.le_refl _) _⟩
    rw [HX.out]
    have : ¬ (1 ≤ (m.length : Int)) := by omega
    simp [rangeB, this]
end Go.Proofs.Ytfkmlonhhdcfpaa
/- What asks masks and lists for their ranges in the answers of layer 2: contracts. -/
namespace Go.Proofs.Ytfkmlonhhdcfpaa
open Go.RowKit

theorem mwithin_any (n lo hi : Int) (w : World) :
    Calls Try.prog 90 #[.int .i64 n, .int .i64 lo, .int .i64 hi] w fun e w' => e = .returned (.bool (rangeB n lo hi)) ∧ w = w' := by
  go_enter Try.func90, Try.ntmps90
  go_wp2
  all_goals go_ret
  all_goals exact ⟨ret_bool (by first | (simp [rangeB, *]; done) | (simp [rangeB]; omega)), rfl⟩
theorem rowB_no {r : List Int} (h : allB 1 r = false) : rowB r = false := by unfold rowB; rw [h, Bool.and_false]
theorem rrow_any (a : Option Addr) (r : List Int) (cap : Nat) (w : World) (hl : r.length ≤ 9223372036854775807) (hs : Sl w a r) :
    Calls Try.prog 89 #[.slice a r.length cap] w fun e w' => e = .returned (.bool (rowB r)) ∧ w = w' := by
  have HS := Lib.hid hs; clear hs
  go_enter Try.func89, Try.ntmps89
  go_wp2
  go_loop [7] (fun i => ∃ k : Nat, k ≤ r.length ∧ i = .int .i64 k ∧ ∀ j, j < k → outB 1 (r[j]?.getD 0) = false) (fun i => r.length - (intOf i).toNat)
  case atStart => exact ⟨0, Nat.zero_le _, rfl, fun j h => by omega⟩
  case round =>
    obtain ⟨k, hk, rfl, hno⟩ := hrel
    have HN := Lib.hid hno; clear hno
    by_cases hlt : k < r.length
    · obtain ⟨b, off, x, rfl, hcell, HX⟩ := HS.out.at hlt
      cases ho : outB 1 x
      · have hr : rangeB x (-1) 1 = true := by simp [outB] at ho; simp [rangeB]; omega
        go_wp2_with (go_at_call 90; refine (mwithin_any _ _ _ _).mono ?_; rintro e w' ⟨rfl, rfl⟩)
        go_round
        case rel => exact ⟨k + 1, by omega, by go_num, fun j hj => by
            by_cases hj' : j = k
            · subst hj'; rw [HX.out]; exact ho
            · exact HN.out j (by omega)⟩
        case measure => simp [intOf]; omega
      · have hr : rangeB x (-1) 1 = false := by simp [outB] at ho; simp [rangeB]; omega
        go_wp2_with (go_at_call 90; refine (mwithin_any _ _ _ _).mono ?_; rintro e w' ⟨rfl, rfl⟩)
        go_ret
        exact ⟨ret_bool (rowB_no (allB_no HX.out ho)).symm, rfl⟩
    · have HY : Hid (rowB r = rangeB r.length 1 10) := by
        show rowB r = _
        unfold rowB; rw [allB_yes (fun j hj => HN.out j (by omega)), Bool.and_true]
      go_wp2_with (go_at_call 90; refine (mwithin_any _ _ _ _).mono ?_; rintro e w' ⟨rfl, rfl⟩)
      go_ret
      exact ⟨ret_bool HY.out.symm, rfl⟩
theorem rvalid_any (a : Option Addr) (m : List (List Int)) (cap : Nat) (w : World) (hm : MOk m) (hs : Ms w a m) :
    Calls Try.prog 45 #[.slice a m.length cap] w fun e w' => e = .returned (.bool (validM m)) ∧ w = w' := by
  have HM := Lib.hid hm
  have hml := hm.1
  clear hm
  have HS := Lib.hid hs; clear hs
  go_enter Try.func45, Try.ntmps45
  go_wp2
  go_loop [7] (fun i => ∃ k : Nat, k ≤ m.length ∧ i = .int .i64 k ∧ (∀ j, j < k → (decide ((m[j]?.getD []).length = colsM m) && rowB (m[j]?.getD [])) = true)) (fun i => m.length - (intOf i).toNat)
  case atStart => exact ⟨0, Nat.zero_le _, rfl, fun j h => by omega⟩
  case round =>
    obtain ⟨k, hk, rfl, hno⟩ := hrel
    have HN := Lib.hid hno; clear hno
    by_cases hlt : k < m.length
    · obtain ⟨b, off, ai, r, ci, rfl, hcell, hsl, HX⟩ := HS.out.at hlt
      obtain ⟨b0, o0, a0, c0, he, hcell0⟩ := row0 HS.out (by omega)
      obtain ⟨rfl, rfl⟩ : b = b0 ∧ off = o0 := by simpa using he
      clear he
      have HSL := Lib.hid hsl; clear hsl
      have hrl := (HM.out.row HX.out).1
      cases hr : rowB r
      · go_wp2_with (go_at_call 89; refine (rrow_any _ _ _ _ hrl HSL.out).mono ?_; rintro e w' ⟨rfl, rfl⟩)
        go_ret
        exact ⟨ret_bool (validM_no HX.out (by rw [hr, Bool.and_false])).symm, rfl⟩
      · by_cases hc : r.length = colsM m
        · have hb : ((r.length : Int) != (colsM m : Int)) = false := by simp [hc]
          have HC := Lib.hid hc; clear hc
          go_wp2_with (go_at_call 89; refine (rrow_any _ _ _ _ hrl HSL.out).mono ?_; rintro e w' ⟨rfl, rfl⟩)
          go_round
          case rel => exact ⟨k + 1, by omega, by go_num, fun j hj => by
              by_cases hj' : j = k
              · subst hj'; rw [HX.out]; show (decide (r.length = colsM m) && rowB r) = true; rw [hr]; simp [HC.out]
              · exact HN.out j (by omega)⟩
          case measure => simp [intOf]; omega
        · have hb : ((r.length : Int) != (colsM m : Int)) = true := by simp; omega
          have HC : Hid ((decide (r.length = colsM m) && rowB r) = false) := by show (decide (r.length = colsM m) && rowB r) = false; simp [hc]
          clear hc
          go_wp2_with (go_at_call 89; refine (rrow_any _ _ _ _ hrl HSL.out).mono ?_; rintro e w' ⟨rfl, rfl⟩)
          go_ret
          exact ⟨ret_bool (validM_no HX.out HC.out).symm, rfl⟩
    · have HY : Hid (validM m = rangeB m.length 1 6) := by
        show validM m = _
        by_cases hR : rangeB m.length 1 6 = true
        · rw [hR]; exact validM_yes hR (fun j hj => HN.out j (by omega))
        · have hR' : rangeB m.length 1 6 = false := by simpa using hR
          unfold validM; rw [hR', Bool.false_and]
      go_wp2_with (go_at_call 90; refine (mwithin_any _ _ _ _).mono ?_; rintro e w' ⟨rfl, rfl⟩)
      go_ret
      exact ⟨ret_bool HY.out.symm, rfl⟩
theorem rlisted_any (a : Option Addr) (xs : List Int) (cap : Nat) (n lim : Int) (h0 : 0 ≤ lim) (h1 : lim ≤ 1000000000) (w : World) (hl : xs.length ≤ 9223372036854775807) (hs : Sl w a xs) :
    Calls Try.prog 107 #[.slice a xs.length cap, .int .i64 n, .int .i64 lim] w fun e w' => e = .returned (.int .i64 (fitsV xs n lim)) ∧ w = w' := by
  have HS := Lib.hid hs; clear hs
  by_cases hn : (xs.length : Int) = n
  · have HN : Hid (fitsV xs n lim = if allB lim xs = true then 0 else 7) := by show fitsV xs n lim = _; unfold fitsV; rw [if_pos hn]
    have hb : ((xs.length : Int) == n) = true := by simpa using hn
    have hb' : ((xs.length : Int) != n) = false := by simpa using hn
    clear hn
    go_enter Try.func107, Try.ntmps107
    go_wp2
    go_loop [15] (fun i => ∃ k : Nat, k ≤ xs.length ∧ i = .int .i64 k ∧ ∀ j, j < k → outB lim (xs[j]?.getD 0) = false) (fun i => xs.length - (intOf i).toNat)
    case atStart => exact ⟨0, Nat.zero_le _, rfl, fun j h => by omega⟩
    case round =>
      obtain ⟨k, hk, rfl, hno⟩ := hrel
      have HO := Lib.hid hno; clear hno
      by_cases hlt : k < xs.length
      · obtain ⟨b, off, x, rfl, hcell, HX⟩ := HS.out.at hlt
        cases ho : outB lim x
        · have hr : rangeB x (-lim) lim = true := by simp [outB] at ho; simp [rangeB]; omega
          go_wp2_with (go_at_call 90; refine (mwithin_any _ _ _ _).mono ?_; rintro e w' ⟨rfl, rfl⟩)
          go_round
          case rel => exact ⟨k + 1, by omega, by go_num, fun j hj => by
              by_cases hj' : j = k
              · subst hj'; rw [HX.out]; exact ho
              · exact HO.out j (by omega)⟩
          case measure => simp [intOf]; omega
        · have hr : rangeB x (-lim) lim = false := by simp [outB] at ho; simp [rangeB]; omega
          go_wp2_with (go_at_call 90; refine (mwithin_any _ _ _ _).mono ?_; rintro e w' ⟨rfl, rfl⟩)
          go_ret
          exact ⟨ret_i64 (by rw [HN.out, allB_no HX.out ho]; rfl), rfl⟩
      · have HY : Hid (fitsV xs n lim = 0) := by show fitsV xs n lim = 0; rw [HN.out, allB_yes (fun j hj => HO.out j (by omega))]; rfl
        go_wp2
        go_ret
        exact ⟨ret_i64 HY.out.symm, rfl⟩
  · have HN : Hid (fitsV xs n lim = 9) := by show fitsV xs n lim = _; unfold fitsV; rw [if_neg hn]
    have hb : ((xs.length : Int) == n) = false := by simpa using hn
    have hb' : ((xs.length : Int) != n) = true := by simpa using hn
    clear hn
    go_enter Try.func107, Try.ntmps107
    go_wp2
    go_ret
    exact ⟨ret_i64 HN.out.symm, rfl⟩
theorem rshown_any (a : Option Addr) (m : List (List Int)) (cap : Nat) (b : Option Addr) (xs : List Int) (c : Nat) (w : World) (hm : MOk m) (hl : xs.length ≤ 9223372036854775807) (hs : Ms w a m) (hx : Sl w b xs) :
    Calls Try.prog 72 #[.slice a m.length cap, .slice b xs.length c] w fun e w' => e = .returned (.bool (shownM m xs)) ∧ w = w' := by
  have HM := Lib.hid hm; clear hm
  have HS := Lib.hid hs; clear hs
  have HX := Lib.hid hx; clear hx
  have HD : Hid (shownM m xs = (validM m && decide (fitsV xs (colsM m) 1000000 = 0))) := Lib.hid rfl
  cases hv : validM m
  · rw [hv] at HD
    go_enter Try.func72, Try.ntmps72
    go_wp2_with (go_at_call 45; refine (rvalid_any _ _ _ _ HM.out HS.out).mono ?_; rintro e w' ⟨rfl, rfl⟩)
    go_ret
    exact ⟨ret_bool (by rw [HD.out]; simp), rfl⟩
  · rw [hv] at HD
    have hm1 := (validM_of hv).1
    have hm6 := (validM_of hv).2.1
    obtain ⟨b0, o0, a0, c0, rfl, hcell⟩ := row0 HS.out hm1
    obtain ⟨f, hf⟩ : ∃ f, fitsV xs (colsM m) 1000000 = f := ⟨_, rfl⟩
    have HF := Lib.hid hf; clear hf
    by_cases h0 : f = 0
    · subst h0
      go_enter Try.func72, Try.ntmps72
      go_wp2_with (first | (go_at_call 45; refine (rvalid_any _ _ _ _ HM.out HS.out).mono ?_; rintro e w' ⟨rfl, rfl⟩) | (go_at_call 107; refine (rlisted_any _ _ _ _ _ (by omega) (by omega) _ hl HX.out).mono ?_; rintro e w' ⟨rfl, rfl⟩; rw [HF.out]))
      go_ret
      exact ⟨ret_bool (by rw [HD.out, HF.out]; simp), rfl⟩
    · have e0 : (f == 0) = false := by simpa using h0
      have H0 := Lib.hid h0; clear h0
      go_enter Try.func72, Try.ntmps72
      go_wp2_with (first | (go_at_call 45; refine (rvalid_any _ _ _ _ HM.out HS.out).mono ?_; rintro e w' ⟨rfl, rfl⟩) | (go_at_call 107; refine (rlisted_any _ _ _ _ _ (by omega) (by omega) _ hl HX.out).mono ?_; rintro e w' ⟨rfl, rfl⟩; rw [HF.out]))
      go_ret
      exact ⟨ret_bool (by rw [HD.out, HF.out]; simp [H0.out]), rfl⟩
end Go.Proofs.Ytfkmlonhhdcfpaa
/- Sums of products and columns, in layer 2 and in its answers: contracts. -/
namespace Go.Proofs.Ytfkmlonhhdcfpaa
open Go.RowKit

/-- Each product of two lists is in a range. -/
def PB (xs ys : List Int) : Prop := ∀ i, i < xs.length → -100000000000000000 ≤ gt xs i * gt ys i ∧ gt xs i * gt ys i ≤ 100000000000000000
def dotTo (xs ys : List Int) : Nat → Int := sumTo (fun i => gt xs i * gt ys i)
theorem dotTo_bd {xs ys : List Int} (h : PB xs ys) {k : Nat} (hk : k ≤ xs.length) : -(k * 100000000000000000) ≤ dotTo xs ys k ∧ dotTo xs ys k ≤ k * 100000000000000000 := sumTo_bd k fun i hi => h i (by omega)
theorem PB_of {xs ys : List Int} {A B : Int} (ha : allB A xs = true) (hb : allB B ys = true) (hl : xs.length ≤ ys.length) (hAB : A * B ≤ 100000000000000000) : PB xs ys := by
  intro i hi
  have := mul_le (gt_in ha hi) (gt_in hb (show i < ys.length by omega))
  omega

set_option maxRecDepth 100000 in
theorem product_any (a : Option Addr) (xs : List Int) (ca : Nat) (b : Option Addr) (ys : List Int) (cb : Nat) (w : World) (hl : xs.length ≤ 10) (hl2 : xs.length ≤ ys.length) (hl3 : ys.length ≤ 9223372036854775807) (hp : PB xs ys) (ha : Sl w a xs) (hb : Sl w b ys) :
    Calls Try.prog 93 #[.slice a xs.length ca, .slice b ys.length cb] w fun e w' => e = .returned (.int .i64 (dot xs ys)) ∧ w = w' := by
  have HA := Lib.hid ha; clear ha
  have HB := Lib.hid hb; clear hb
  have HP := Lib.hid hp; clear hp
  go_enter Try.func93, Try.ntmps93
  go_wp2
  go_loop [5, 10] (fun s i => ∃ k : Nat, k ≤ xs.length ∧ i = .int .i64 k ∧ s = .int .i64 (dotTo xs ys k)) (fun _ i => xs.length - (intOf i).toNat)
  case atStart => exact ⟨0, Nat.zero_le _, rfl, rfl⟩
  case round =>
    obtain ⟨k, hk, rfl, rfl⟩ := hrel
    have SB := Lib.hid (dotTo_bd HP.out hk)
    by_cases hlt : k < xs.length
    · obtain ⟨b1, o1, x, rfl, hcx, HX⟩ := HA.out.at hlt
      obtain ⟨b2, o2, y, rfl, hcy, HY⟩ := HB.out.at (show k < ys.length by omega)
      have hS := Lib.hid (show dotTo xs ys (k + 1) = dotTo xs ys k + x * y by show dotTo xs ys k + gt xs k * gt ys k = _; rw [gt_some' HX.out, gt_some' HY.out])
      have hxy : -100000000000000000 ≤ x * y ∧ x * y ≤ 100000000000000000 := by have := HP.out k hlt; rw [gt_some' HX.out, gt_some' HY.out] at this; exact this
      obtain ⟨p1, p2⟩ := hxy
      obtain ⟨s1, s2⟩ := SB.out
      generalize dotTo xs ys k = S at *
      have s3 : S ≤ 1000000000000000000 := by omega
      have s4 : -1000000000000000000 ≤ S := by omega
      clear s1 s2 SB
      go_wp2
      go_round
      case rel => exact ⟨k + 1, by omega, by go_num, by rw [hS.out]⟩
      case measure => simp [intOf]; omega
    · obtain rfl : k = xs.length := by omega
      go_wp2
      go_ret
      exact ⟨rfl, rfl⟩
set_option maxRecDepth 100000 in
theorem rdot_any (a : Option Addr) (xs : List Int) (ca : Nat) (b : Option Addr) (ys : List Int) (cb : Nat) (w : World) (hl : xs.length ≤ 10) (hl2 : xs.length ≤ ys.length) (hl3 : ys.length ≤ 9223372036854775807) (hp : PB xs ys) (ha : Sl w a xs) (hb : Sl w b ys) :
    Calls Try.prog 48 #[.slice a xs.length ca, .slice b ys.length cb] w fun e w' => e = .returned (.int .i64 (dot xs ys)) ∧ ∃ n, w' = w.drewN n := by
  have HA := Lib.hid ha; clear ha
  have HB := Lib.hid hb; clear hb
  have HP := Lib.hid hp; clear hp
  go_enter Try.func48, Try.ntmps48
  go_wp2
  go_loopw [5, 9] (fun s i wr => ∃ k nd : Nat, k ≤ xs.length ∧ i = .int .i64 k ∧ s = .int .i64 (dotTo xs ys k) ∧ wr = w.drewN nd) (fun _ i _ => xs.length - (intOf i).toNat)
  case atStart => exact ⟨0, 0, Nat.zero_le _, rfl, rfl, rfl⟩
  case round =>
    obtain ⟨k, nd, hk, rfl, rfl, rfl⟩ := hrel
    have SB := Lib.hid (dotTo_bd HP.out hk)
    by_cases hlt : k < xs.length
    · obtain ⟨b1, o1, x, rfl, hcx, HX⟩ := HA.out.at hlt
      obtain ⟨b2, o2, y, rfl, hcy, HY⟩ := HB.out.at (show k < ys.length by omega)
      have hS := Lib.hid (show dotTo xs ys (k + 1) = dotTo xs ys k + x * y by show dotTo xs ys k + gt xs k * gt ys k = _; rw [gt_some' HX.out, gt_some' HY.out])
      have hxy : -100000000000000000 ≤ x * y ∧ x * y ≤ 100000000000000000 := by have := HP.out k hlt; rw [gt_some' HX.out, gt_some' HY.out] at this; exact this
      obtain ⟨p1, p2⟩ := hxy
      obtain ⟨s1, s2⟩ := SB.out
      generalize dotTo xs ys k = S at *
      have s3 : S ≤ 1000000000000000000 := by omega
      have s4 : -1000000000000000000 ≤ S := by omega
      clear s1 s2 SB
      have m1 : IntKind.i64.wrap (x * y) = x * y := IntWalk.i64_in _ (by omega)
      have m2 : IntKind.i64.wrap (S + x * y) = S + x * y := IntWalk.i64_in _ (by omega)
      go_wp2
      go_quiet (fail)
      clear m1 m2
      go_wp2
      go_roundw
      case rel => exact ⟨k + 1, _, by omega, by go_num, by rw [hS.out], rfl⟩
      case measure => simp [intOf]; omega
    · obtain rfl : k = xs.length := by omega
      go_wp2
      go_ret
      exact ⟨rfl, _, rfl⟩
end Go.Proofs.Ytfkmlonhhdcfpaa
/- Lists in ascending order: ascending of layer 2 and Ascending of its answers, contracts. -/
namespace Go.Proofs.Ytfkmlonhhdcfpaa
open Go.RowKit

def prevOf (p : Int) (l : List Int) (k : Nat) : Int := if k = 0 then p else gt l (k - 1)
def ascB (p : Int) (l : List Int) : Bool := decide (∀ k, k < l.length → prevOf p l k < gt l k)
theorem ascB_no {p : Int} {l : List Int} {k : Nat} (hk : k < l.length) (h : ¬ prevOf p l k < gt l k) : ascB p l = false := by
  unfold ascB; rw [decide_eq_false_iff_not]; exact fun hh => h (hh k hk)
theorem ascB_yes {p : Int} {l : List Int} (h : ∀ k, k < l.length → prevOf p l k < gt l k) : ascB p l = true := by
  unfold ascB; rw [decide_eq_true_iff]; exact h
theorem ascB_of {p : Int} {l : List Int} (h : ascB p l = true) : ∀ k, k < l.length → prevOf p l k < gt l k := by
  unfold ascB at h; rwa [decide_eq_true_iff] at h
def rascB (l : List Int) : Bool := decide (∀ k, k < l.length → k ≠ 0 → gt l (k - 1) < gt l k)
theorem rascB_no {l : List Int} {k : Nat} (hk : k < l.length) (h0 : k ≠ 0) (h : ¬ gt l (k - 1) < gt l k) : rascB l = false := by
  unfold rascB; rw [decide_eq_false_iff_not]; exact fun hh => h (hh k hk h0)
theorem rascB_yes {l : List Int} (h : ∀ k, k < l.length → k ≠ 0 → gt l (k - 1) < gt l k) : rascB l = true := by
  unfold rascB; rw [decide_eq_true_iff]; exact h
theorem rascB_of {l : List Int} (h : rascB l = true) : ∀ k, k < l.length → k ≠ 0 → gt l (k - 1) < gt l k := by
  unfold rascB at h; rwa [decide_eq_true_iff] at h
theorem asc_same {p : Int} {l : List Int} (h : ∀ k, k < l.length → p < gt l k) : ascB p l = rascB l := by
  rw [Bool.eq_iff_iff]
  constructor
  · intro ha
    refine rascB_yes fun k hk h0 => ?_
    have := ascB_of ha k hk
    unfold prevOf at this; rwa [if_neg h0] at this
  · intro ha
    refine ascB_yes fun k hk => ?_
    unfold prevOf
    by_cases h0 : k = 0
    · rw [if_pos h0]; exact h k hk
    · rw [if_neg h0]; exact rascB_of ha k hk h0

/-- The cell of the last number. -/
def LastIs (B0 B : Nat) (p : Int) (w0 w : World) : Prop := w.cell? ⟨B, 0, none⟩ = some (.int .i64 p) ∧ w.frozen? ⟨B, 0, none⟩ = false ∧ Below B0 w0 w ∧ B < w.heap.size
theorem LastIs.set {B0 B : Nat} {p : Int} {w0 w : World} (h : LastIs B0 B p w0 w) (hB : B0 ≤ B) (n : Int) : LastIs B0 B n w0 (w.setCell ⟨B, 0, none⟩ (.int .i64 n)) := by
  obtain ⟨h1, h2, h3, h4⟩ := h
  refine ⟨?_, ?_, h3.setCell hB _, by simpa using h4⟩
  · go_simp
  · go_simp
theorem rasc_any (a : Option Addr) (xs : List Int) (cap : Nat) (w : World) (hl : xs.length ≤ 9223372036854775807) (hs : Sl w a xs) :
    Calls Try.prog 147 #[.slice a xs.length cap] w fun e w' => e = .returned (.bool (rascB xs)) ∧ ∃ n, w' = w.drewN n := by
  have HS := Lib.hid hs; clear hs
  go_enter Try.func147, Try.ntmps147
  go_wp2
  go_loopw [3] (fun i wr => ∃ k nd : Nat, 1 ≤ k ∧ (k = 1 ∨ k ≤ xs.length) ∧ i = .int .i64 k ∧ wr = w.drewN nd ∧ ∀ j, j < k → j ≠ 0 → gt xs (j - 1) < gt xs j) (fun i _ => xs.length + 1 - (intOf i).toNat)
  case atStart => exact ⟨1, 0, Nat.le_refl _, .inl rfl, rfl, rfl, fun j h h0 => by omega⟩
  case round =>
    obtain ⟨k, nd, hk1, hk, rfl, rfl, hno⟩ := hrel
    have HN := Lib.hid hno; clear hno
    have HK := Lib.hid hk; clear hk
    by_cases hlt : k < xs.length
    · obtain ⟨b, off, x, rfl, hc1, HX⟩ := HS.out.at hlt
      obtain ⟨k', rfl⟩ : ∃ k', k = k' + 1 := ⟨k - 1, by omega⟩
      obtain ⟨b', off', y, hab, hc2, HY⟩ := HS.out.at (show k' < xs.length by omega)
      obtain ⟨rfl, rfl⟩ : b = b' ∧ off = off' := by simpa using hab
      clear hab
      have hs1 : ((k' + 1 : Nat) : Int) - 1 = (k' : Int) := by omega
      have m1 : IntKind.i64.wrap (((k' + 1 : Nat) : Int) - 1) = (k' : Int) := by rw [hs1]; exact IntWalk.i64_in _ (by omega)
      by_cases hle : x ≤ y
      · have HF : Hid (rascB xs = false) := rascB_no hlt (by omega) (by rw [Nat.add_sub_cancel, gt_some' HX.out, gt_some' HY.out]; omega)
        go_wp2
        go_quiet (fail)
        go_wp2
        go_ret
        exact ⟨ret_bool HF.out.symm, _, World.drewN_drewN _ _ _⟩
      · have HT : Hid (gt xs (k' + 1 - 1) < gt xs (k' + 1)) := by show _ < _; rw [Nat.add_sub_cancel, gt_some' HX.out, gt_some' HY.out]; omega
        go_wp2
        go_quiet (fail)
        clear m1
        go_wp2
        go_roundw
        case rel => exact ⟨k' + 1 + 1, _, by omega, .inr (by omega), by go_num, rfl, fun j hj h0 => by
            by_cases hj' : j = k' + 1
            · subst hj'; exact HT.out
            · exact HN.out j (by omega) h0⟩
        case measure => simp [intOf]; omega
    · go_wp2
      go_ret
      exact ⟨ret_bool (rascB_yes (fun j hj h0 => HN.out j (by omega) h0)).symm, _, rfl⟩
end Go.Proofs.Ytfkmlonhhdcfpaa
/- Columns of masks, in layer 2 and in its answers: contracts. -/
namespace Go.Proofs.Ytfkmlonhhdcfpaa
open Go.RowKit

/-- What a function that returns a list returns. -/
def RPost (ys : List Int) (w : World) (e : Ending) (w' : World) : Prop := Below w.heap.size w w' ∧ ∃ a cap, e = .returned (.slice a ys.length cap) ∧ Sl w' a ys
theorem RPost.own {w w' : World} {base : Nat} {v : Value} {ys zs : List Int} (hr : zs = ys) (hb : Below w.heap.size w w') (ho : OwnI w' base v ys) : RPost zs w (.returned v) w' := by
  obtain ⟨a, cap, rfl, hs⟩ := ho.any
  subst hr; exact ⟨hb, a, cap, rfl, hs⟩
def rowM (m : List (List Int)) (i : Nat) : List Int := m[i]?.getD []
theorem rowM_some {m : List (List Int)} {i : Nat} {r : List Int} (h : m[i]? = some r) : rowM m i = r := by unfold rowM; rw [h]; rfl
theorem colM_range (m : List (List Int)) (j : Nat) : colM m j = (List.range m.length).map fun i => gt (rowM m i) j := by
  refine List.ext_getElem (by simp [colM]) fun i h1 h2 => ?_
  have hi : i < m.length := by simpa [colM] using h1
  simp [colM, rowM, hi]
theorem readL_range (m : List (List Int)) (x : List Int) : readL m x = (List.range m.length).map fun i => dot (rowM m i) x := by
  refine List.ext_getElem (by simp [readL]) fun i h1 h2 => ?_
  have hi : i < m.length := by simpa [readL] using h1
  simp [readL, rowM, hi]
/-- The first k numbers of zs are those of f. -/
structure FillK (f : Nat → Int) (n k : Nat) (zs : List Int) : Prop where
  len : zs.length = n
  yes : ∀ j, j < k → gt zs j = f j
theorem FillK.start (f : Nat → Int) (n : Nat) (zs : List Int) (h : zs.length = n) : FillK f n 0 zs := ⟨h, fun j hj => absurd hj (by omega)⟩
theorem FillK.next {f : Nat → Int} {n k : Nat} {zs : List Int} (h : FillK f n k zs) (hk : k < n) {x : Int} (hx : x = f k) : FillK f n (k + 1) (zs.set k x) := by
  have hkz : k < zs.length := by rw [h.len]; exact hk
  refine ⟨by rw [List.length_set]; exact h.len, fun j hj => ?_⟩
  rw [gt_set hkz]
  by_cases e : j = k
  · subst e; rw [if_pos rfl, hx]
  · rw [if_neg e]; exact h.yes j (by omega)
theorem FillK.all {f : Nat → Int} {n : Nat} {zs : List Int} (h : FillK f n n zs) : zs = (List.range n).map f := by
  refine list_ext_gt (by rw [h.len]; simp) fun j hj => ?_
  rw [h.len] at hj
  rw [h.yes j hj, gt_map_range _ hj]

end Go.Proofs.Ytfkmlonhhdcfpaa
/- Read and Back of layer 2: contracts. -/
namespace Go.Proofs.Ytfkmlonhhdcfpaa
open Go.RowKit

theorem fitsV_0 {l : List Int} {n lim : Int} (h : fitsV l n lim = 0) : (l.length : Int) = n ∧ allB lim l = true := by
  unfold fitsV at h
  split at h
  · rename_i h1
    split at h
    · rename_i h2; exact ⟨h1, h2⟩
    · cases h
  · cases h
theorem readV_no {m : List (List Int)} {x : List Int} (h : validM m = false) : readV m x = ([], 1) := by unfold readV; rw [h]; rfl
theorem readV_err {m : List (List Int)} {x : List Int} {f : Int} (h : validM m = true) (hf : fitsV x (colsM m) 1000000 = f) (h0 : f ≠ 0) : readV m x = ([], f) := by
  unfold readV; rw [h, if_pos rfl, hf, if_neg h0]
theorem readV_ok {m : List (List Int)} {x : List Int} (h : validM m = true) (hf : fitsV x (colsM m) 1000000 = 0) : readV m x = (readL m x, 0) := by
  unfold readV; rw [h, if_pos rfl, hf, if_pos rfl]
theorem backV_no {m : List (List Int)} {x : List Int} (h : validM m = false) : backV m x = ([], 1) := by unfold backV; rw [h]; rfl
theorem backV_err {m : List (List Int)} {x : List Int} {f : Int} (h : validM m = true) (hf : fitsV x m.length 1000000000 = f) (h0 : f ≠ 0) : backV m x = ([], f) := by
  unfold backV; rw [h, if_pos rfl, hf, if_neg h0]
theorem backV_ok {m : List (List Int)} {x : List Int} (h : validM m = true) (hf : fitsV x m.length 1000000000 = 0) : backV m x = (backL m x, 0) := by
  unfold backV; rw [h, if_pos rfl, hf, if_pos rfl]

set_option maxRecDepth 100000 in
set_option maxHeartbeats 400000 in
theorem mread_any (a : Option Addr) (m : List (List Int)) (cap : Nat) (b : Option Addr) (xs : List Int) (cb : Nat) (w : World) (hm : MOk m) (hl : xs.length ≤ 9223372036854775807) (hs : Ms w a m) (hx : Sl w b xs) :
    Calls Try.prog 49 #[.slice a m.length cap, .slice b xs.length cb] w (LPost (readV m xs) w) := by
  have HM := Lib.hid hm; clear hm
  have HS := Lib.hid hs; clear hs
  have HX := Lib.hid hx; clear hx
  obtain ⟨i0, hi, hz0, hz1, hz2⟩ := info_parts Try.infoInt
  go_enter Try.func49, Try.ntmps49
  go_wp2_with fail
  refine (mvalid_any _ _ _ _ HM.out HS.out).mono ?_
  rintro e w1 ⟨rfl, hb1⟩
  have HB1 := Lib.hid hb1; clear hb1
  cases hv : validM m
  · have HV := Lib.hid hv; clear hv
    go_wp2
    go_ret2
    exact LPost.err 1 (readV_no HV.out) HB1.out
  · obtain ⟨hm1, hm6, hc1, hc10, _⟩ := validM_of hv
    have HV := Lib.hid hv; clear hv
    obtain ⟨b0, o0, a0, c0, rfl, hcell⟩ := row0 (HS.out.below HB1.out) hm1
    obtain ⟨f, hf⟩ : ∃ f, fitsV xs (colsM m) 1000000 = f := ⟨_, rfl⟩
    have HF := Lib.hid hf; clear hf
    go_wp2_with fail
    refine (fits_any _ _ _ _ _ (by omega) (by omega) _ hl (HX.out.below HB1.out)).mono ?_
    rintro e w2 ⟨rfl, hb2⟩
    rw [HF.out]
    have HB2 : Hid (Below w.heap.size w w2) := HB1.out.trans (hb2.mono HB1.out.size)
    clear hb2 hcell
    by_cases h0 : f = 0
    · subst h0
      obtain ⟨hxl, hxa⟩ := fitsV_0 HF.out
      have hxl' : xs.length ≤ 10 := by omega
      have HXL : Hid (xs.length = colsM m) := by show xs.length = colsM m; omega
      clear hxl
      have HXA := Lib.hid hxa; clear hxa
      go_wp2_with (with_reducible refine wpList_make_full _ rfl (.tmp 23) (.tmp 23) 24 rfl w2.heap.size 3 i0 (.int .i64 0) 1 Try.underlying24 hi hz0 hz1 .i64 .i64 (m.length : Int) (m.length : Int) m.length rfl rfl rfl rfl (by rw [hz2]; omega) (by unfold maxLen; omega) (Nat.le_refl _) ?_)
      rotate_left
      intro w4 hown hgrow
      have HO4 : Hid (OwnI w4 w2.heap.size (.slice (some ⟨w2.heap.size, 0, none⟩) m.length m.length) (List.replicate m.length 0)) := by
        have z := zeros_are m.length
        rw [Nat.mul_one] at z
        show w4.ownsRow _ _ _ _ _ _
        rw [List.length_replicate, ← z]; exact hown
      have HB4 : Hid (Below w2.heap.size w2 w4) := (Below.refl _ _).grown hgrow (Nat.le_refl _) (fun k e => by cases e)
      clear hown hgrow
      go_wp2
      go_loopw [27] (fun i wr => ∃ (k : Nat) (zs : List Int), k ≤ m.length ∧ i = .int .i64 k ∧ OwnI wr w2.heap.size (.slice (some ⟨w2.heap.size, 0, none⟩) m.length m.length) zs ∧ FillK (fun i => dot (rowM m i) xs) m.length k zs ∧ Below w2.heap.size w2 wr) (fun i _ => m.length - (intOf i).toNat)
      case atStart => exact ⟨0, _, Nat.zero_le _, rfl, HO4.out, FillK.start _ _ _ (by simp), HB4.out⟩
      case round =>
        obtain ⟨k, zs, hk, rfl, hO, hA, hB⟩ := hrel
        have HO := Lib.hid hO; clear hO
        have HFK := Lib.hid hA; clear hA
        have HB3 := Lib.hid hB; clear hB
        have HBw : Hid (Below w.heap.size w wr) := HB2.out.trans (HB3.out.mono HB2.out.size)
        by_cases hlt : k < m.length
        · obtain ⟨b1, o1, ai, r, ci, he1, hcell, hsl, HR⟩ := (HS.out.below HBw.out).at hlt
          obtain ⟨rfl, rfl⟩ : b0 = b1 ∧ o0 = o1 := by simpa using he1
          clear he1
          obtain ⟨hrl, hra⟩ := validM_row HV.out HR.out
          have hr10 : r.length ≤ 10 := by omega
          have hrx : r.length ≤ xs.length := by have := HXL.out; omega
          have HPB := Lib.hid (PB_of hra HXA.out hrx (by omega))
          have HSL := Lib.hid hsl; clear hsl
          clear hrl hra
          obtain ⟨hcz, hfz⟩ := HO.out.cell (j := k) (by rw [HFK.out.len]; exact hlt)
          have hgV := HO.out.lt
          go_wp2_with (go_at_call 93; refine (product_any _ _ _ _ _ _ _ hr10 hrx hl HPB.out HSL.out (HX.out.below HBw.out)).mono ?_; rintro e w5 ⟨rfl, rfl⟩)
          go_roundw
          case rel =>
            exact ⟨k + 1, zs.set k (dot r xs), by omega, by go_num, HO.out.stored k _, HFK.out.next hlt (by rw [rowM_some HR.out]), HB3.out.setCell hgV.2 _⟩
          case measure => simp [intOf]; omega
        · obtain rfl : k = m.length := by omega
          have HZ := Lib.hid HFK.out.all
          go_wp2
          go_ret2
          exact LPost.own (by rw [readV_ok HV.out HF.out, HZ.out, readL_range]) HBw.out HO.out
    · have e0 : (f == 0) = false := by simpa using h0
      have e1 : (f != 0) = true := by simpa using h0
      have H0 := Lib.hid h0; clear h0
      go_wp2
      go_ret2
      exact LPost.err f (readV_err HV.out HF.out H0.out) HB2.out

end Go.Proofs.Ytfkmlonhhdcfpaa
/- Readings and lists of pixels checked, on both sides: contracts. -/
namespace Go.Proofs.Ytfkmlonhhdcfpaa
open Go.RowKit

/-- What checks a list of pixels answers. -/
def listV (m : List (List Int)) (px : List Int) : Int := if rascB px = true then (if px.all (thereB m) = true then 0 else 5) else 7
/-- What checks a reading answers. -/
def readE (m : List (List Int)) (y : List Int) : Int := if validM m = true then fitsV y m.length 1000000 else 1
theorem all_no {m : List (List Int)} {px : List Int} {k : Nat} {v : Int} (hv : px[k]? = some v) (h : thereB m v = false) : px.all (thereB m) = false := by
  rw [List.all_eq_false]; exact ⟨v, List.mem_of_getElem? hv, by simp [h]⟩
theorem all_yes {m : List (List Int)} {px : List Int} (h : ∀ j, j < px.length → thereB m (px[j]?.getD 0) = true) : px.all (thereB m) = true := by
  rw [List.all_eq_true]
  intro x hx
  obtain ⟨j, hj, rfl⟩ := List.mem_iff_getElem.1 hx
  have := h j hj
  simpa [hj] using this
set_option maxRecDepth 1000000 in
set_option maxHeartbeats 1600000 in
theorem lasc_any (a : Option Addr) (xs : List Int) (cap : Nat) (w : World) (hl : xs.length ≤ 1000) (hs : Sl w a xs) :
    Calls Try.prog 94 #[.slice a xs.length cap] w fun e w' => e = .returned (.bool (rascB xs)) ∧ ∃ n, w' = w.drewN n := by
  have HS := Lib.hid hs; clear hs
  go_enter Try.func94, Try.ntmps94
  go_wp2
  go_loopw [6] (fun i wr => ∃ (k nd : Nat), k ≤ xs.length ∧ i = .int .i64 k ∧ (∀ j, j < k → j ≠ 0 → gt xs (j - 1) < gt xs j) ∧ wr = w.drewN nd) (fun i _ => xs.length - (intOf i).toNat)
  case atStart => exact ⟨0, 0, Nat.zero_le _, rfl, fun j h => by omega, rfl⟩
  case round =>
    obtain ⟨k, nd, hk, rfl, hno, rfl⟩ := hrel
    have HN := Lib.hid hno; clear hno
    by_cases hlt : k < xs.length
    · by_cases h0 : k = 0
      · subst h0
        go_wp2
        go_quiet (fail)
        all_goals
          go_wp2
          go_roundw
          case rel => exact ⟨1, _, by omega, by go_num, fun j hj h0 => by omega, rfl⟩
          case measure => simp [intOf]; omega
      · obtain ⟨q, rfl⟩ : ∃ q, k = q + 1 := ⟨k - 1, by omega⟩
        obtain ⟨b, o, x, rfl, hcx, hx⟩ := HS.out.at hlt
        obtain ⟨b2, o2, z, e2, hcz, hz⟩ := HS.out.at (k := q) (by omega)
        cases e2
        have HGX := Lib.hid (gt_some' hx.out)
        have HGZ := Lib.hid (gt_some' hz.out)
        obtain ⟨K, hK⟩ : ∃ K, q + 1 = K := ⟨_, rfl⟩
        have hK1 : (K : Int) - 1 = (q : Int) := by omega
        have hK2 : (0 : Int) < (K : Int) := by omega
        have hK3 : (K : Int) < (xs.length : Int) := by omega
        have hq3 : (q : Int) < (xs.length : Int) := by omega
        have HXK : Hid (gt xs K = x) := by show _ = _; rw [← hK]; exact HGX.out
        have HKM : Hid (K - 1 = q) := by show _ = _; omega
        have hK0 : K ≠ 0 := by omega
        have hK4 : 0 < K := by omega
        have m1 : IntKind.i64.wrap ((K : Int) - 1) = (q : Int) := by rw [hK1]; exact IntWalk.i64_in _ (by omega)
        have y9 : decide (0 < K) = true := by simp; omega
        rw [hK] at hcx hlt ⊢
        have HN2 : Hid (∀ j, j < K → j ≠ 0 → gt xs (j - 1) < gt xs j) := by rw [← hK]; exact HN.out
        clear hx hz hK hk HN
        by_cases hle : x ≤ z
        · have y0 : decide (x ≤ z) = true := by simp [hle]
          have HNO : Hid (rascB xs = false) := rascB_no (k := K) hlt hK0 (by rw [HXK.out, HKM.out, HGZ.out]; omega)
          go_wp2
          go_quiet (fail)
          all_goals
            go_wp2
            go_ret
            exact ⟨ret_bool HNO.out.symm, _, World.drewN_drewN _ _ _⟩
        · have y0 : decide (x ≤ z) = false := by simp [hle]
          go_wp2
          go_quiet (fail)
          all_goals
            go_wp2
            go_roundw
            case rel => exact ⟨K + 1, _, by omega, by go_num, fun j hj h0 => by
              by_cases e : j = K
              · rw [e, HKM.out, HGZ.out, HXK.out]; omega
              · exact HN2.out j (by omega) h0, by first | rfl | exact World.drewN_drewN _ _ _⟩
            case measure => simp [intOf]; omega
    · have HY : Hid (rascB xs = true) := rascB_yes fun j hj h0 => HN.out j (by omega) h0
      go_wp2
      go_ret
      exact ⟨ret_bool HY.out.symm, _, rfl⟩
set_option maxRecDepth 100000 in
set_option maxHeartbeats 800000 in
theorem llisted_any (ma : Option Addr) (m : List (List Int)) (mc : Nat) (a : Option Addr) (xs : List Int) (cap : Nat) (w : World) (hv : validM m = true) (hl : xs.length ≤ 1000) (hm : Ms w ma m) (hs : Sl w a xs) :
    Calls Try.prog 55 #[.slice ma m.length mc, .slice a xs.length cap] w fun e w' => e = .returned (.int .i64 (listV m xs)) ∧ Below w.heap.size w w' := by
  have HS := Lib.hid hs
  have HTH : Hid (∀ W v, Below w.heap.size w W → Calls Try.prog 95 #[.slice ma m.length mc, .int .i64 v] W fun e w' => e = .returned (.bool (thereB m v)) ∧ W = w') := fun W v hb => lthere_any ma m mc v W hv (hm.below hb)
  obtain ⟨q, hq⟩ : ∃ q, rascB xs = q := ⟨_, rfl⟩
  have HAS : Hid (Calls Try.prog 94 #[.slice a xs.length cap] w fun e w' => e = .returned (.bool q) ∧ ∃ n, w' = w.drewN n) := by rw [← hq]; exact lasc_any a xs cap w hl hs
  clear hs hm
  cases q with
  | false =>
    have HE : Hid (listV m xs = 7) := by show _ = _; simp [listV, hq]
    clear hq
    go_enter Try.func55, Try.ntmps55
    go_wp2_with (go_at_call 94; refine HAS.out.mono ?_; rintro e w1 ⟨rfl, nd, rfl⟩)
    go_ret
    exact ⟨ret_i64 HE.out.symm, below_drewN (Below.refl _ _) _⟩
  | true =>
    have HE : Hid (listV m xs = if xs.all (thereB m) = true then 0 else 5) := by show _ = _; simp [listV, hq]
    clear hq
    go_enter Try.func55, Try.ntmps55
    go_wp2_with (go_at_call 94; refine HAS.out.mono ?_; rintro e w1 ⟨rfl, nd, rfl⟩)
    have HB1 : Hid (Below w.heap.size w (w.drewN nd)) := below_drewN (Below.refl _ _) _
    generalize w.drewN nd = w1 at *
    go_loopw [12] (fun i wr => ∃ k : Nat, k ≤ xs.length ∧ i = .int .i64 k ∧ (∀ j, j < k → thereB m (xs[j]?.getD 0) = true) ∧ wr = w1) (fun i _ => xs.length - (intOf i).toNat)
    case atStart => exact ⟨0, Nat.zero_le _, rfl, fun j h => by omega, rfl⟩
    case round =>
      obtain ⟨k, hk, rfl, hno, rfl⟩ := hrel
      have HN := Lib.hid hno; clear hno
      by_cases hlt : k < xs.length
      · obtain ⟨b, o, x, rfl, hcx, HX⟩ := (HS.out.below HB1.out).at hlt
        obtain ⟨t, ht⟩ : ∃ t, thereB m x = t := ⟨_, rfl⟩
        have HT1 : Hid (Calls Try.prog 95 #[.slice ma m.length mc, .int .i64 x] wr fun e w' => e = .returned (.bool t) ∧ wr = w') := by rw [← ht]; exact HTH.out wr x HB1.out
        have HTT := Lib.hid ht; clear ht
        cases t with
        | true =>
          go_wp2_with (go_at_call 95; refine HT1.out.mono ?_; rintro e w5 ⟨rfl, rfl⟩)
          go_roundw
          case rel => exact ⟨k + 1, by omega, by go_num, fun j hj => by
            by_cases e : j = k
            · subst e; rw [HX.out]; exact HTT.out
            · exact HN.out j (by omega), by first | trivial | rfl⟩
          case measure => simp [intOf]; omega
        | false =>
          have HF : Hid (listV m xs = 5) := by show _ = _; rw [HE.out, all_no HX.out HTT.out]; rfl
          go_wp2_with (go_at_call 95; refine HT1.out.mono ?_; rintro e w5 ⟨rfl, rfl⟩)
          go_ret
          exact ⟨ret_i64 HF.out.symm, HB1.out⟩
      · have HF : Hid (listV m xs = 0) := by show _ = _; rw [HE.out, all_yes (fun j hj => HN.out j (by omega))]; rfl
        go_wp2
        go_ret
        exact ⟨ret_i64 HF.out.symm, HB1.out⟩
set_option maxRecDepth 100000 in
set_option maxHeartbeats 800000 in
theorem rnamed_any (ma : Option Addr) (m : List (List Int)) (mc : Nat) (a : Option Addr) (xs : List Int) (cap : Nat) (w : World) (hv : validM m = true) (hl : xs.length ≤ 1000) (hm : Ms w ma m) (hs : Sl w a xs) :
    Calls Try.prog 142 #[.slice ma m.length mc, .slice a xs.length cap] w fun e w' => e = .returned (.int .i64 (listV m xs)) ∧ Below w.heap.size w w' := by
  have HS := Lib.hid hs
  obtain ⟨hm1, _, hc1, hc10, hrows⟩ := validM_of hv
  obtain ⟨bm, om, ai, ci, rfl, hcell, _⟩ := hm 0 hm1
  obtain ⟨c, hc⟩ : ∃ c, colsM m = c := ⟨_, rfl⟩
  have hl0 : (m[0]?.getD []).length = c := by rw [← hc]; rfl
  rw [hl0, Nat.add_zero] at hcell
  have HM0 : Hid (∀ W, Below w.heap.size w W → W.cell? ⟨bm, om, none⟩ = some (.slice ai c ci)) := fun W hW => (hW.cell (p := ⟨bm, om, none⟩) (cell_lt hcell)).trans hcell
  have HTB : Hid (∀ v : Int, rangeB v 0 ((c : Int) - 1) = thereB m v) := fun v => by
    unfold rangeB thereB
    rw [hc, Bool.eq_iff_iff]
    simp only [Bool.and_eq_true, decide_eq_true_eq]
    omega
  have HWI : Hid (∀ (W : World) (v : Int), Calls Try.prog 91 #[.int .i64 v, .int .i64 0, .int .i64 ((c : Int) - 1)] W fun e w' => e = .returned (.bool (thereB m v)) ∧ W = w') := fun W v => by rw [← HTB.out v]; exact rwithin3_any v 0 _ W
  rw [hc] at hc1 hc10
  obtain ⟨q, hq⟩ : ∃ q, rascB xs = q := ⟨_, rfl⟩
  have HAS : Hid (Calls Try.prog 147 #[.slice a xs.length cap] w fun e w' => e = .returned (.bool q) ∧ ∃ n, w' = w.drewN n) := by rw [← hq]; exact rasc_any a xs cap w (by omega) hs
  obtain ⟨n, hn⟩ : ∃ n, m.length = n := ⟨_, rfl⟩
  rw [hn] at hm1 ⊢
  have hn0 : (0 : Int) < (n : Int) := by omega
  clear hs hm hl0 hc hrows hn hcell
  cases q with
  | false =>
    have HE : Hid (listV m xs = 7) := by show _ = _; simp [listV, hq]
    clear hq
    go_enter Try.func142, Try.ntmps142
    go_wp2_with (go_at_call 147; refine HAS.out.mono ?_; rintro e w1 ⟨rfl, nd, rfl⟩)
    go_ret
    exact ⟨ret_i64 HE.out.symm, below_drewN (Below.refl _ _) _⟩
  | true =>
    have HE : Hid (listV m xs = if xs.all (thereB m) = true then 0 else 5) := by show _ = _; simp [listV, hq]
    clear hq
    go_enter Try.func142, Try.ntmps142
    go_wp2_with (go_at_call 147; refine HAS.out.mono ?_; rintro e w1 ⟨rfl, nd, rfl⟩)
    have HB1 : Hid (Below w.heap.size w (w.drewN nd)) := below_drewN (Below.refl _ _) _
    generalize w.drewN nd = w1 at *
    go_loopw [12] (fun i wr => ∃ k : Nat, k ≤ xs.length ∧ i = .int .i64 k ∧ (∀ j, j < k → thereB m (xs[j]?.getD 0) = true) ∧ wr = w1) (fun i _ => xs.length - (intOf i).toNat)
    case atStart => exact ⟨0, Nat.zero_le _, rfl, fun j h => by omega, rfl⟩
    case round =>
      obtain ⟨k, hk, rfl, hno, rfl⟩ := hrel
      have HN := Lib.hid hno; clear hno
      by_cases hlt : k < xs.length
      · obtain ⟨b, o, x, rfl, hcx, HX⟩ := (HS.out.below HB1.out).at hlt
        have hm0 := HM0.out wr HB1.out
        obtain ⟨t, ht⟩ : ∃ t, thereB m x = t := ⟨_, rfl⟩
        have HT1 : Hid (Calls Try.prog 91 #[.int .i64 x, .int .i64 0, .int .i64 ((c : Int) - 1)] wr fun e w' => e = .returned (.bool t) ∧ wr = w') := by rw [← ht]; exact HWI.out wr x
        have HTT := Lib.hid ht; clear ht
        cases t with
        | true =>
          go_wp2_with (go_at_call 91; refine HT1.out.mono ?_; rintro e w5 ⟨rfl, rfl⟩)
          go_roundw
          case rel => exact ⟨k + 1, by omega, by go_num, fun j hj => by
            by_cases e : j = k
            · subst e; rw [HX.out]; exact HTT.out
            · exact HN.out j (by omega), by first | trivial | rfl⟩
          case measure => simp [intOf]; omega
        | false =>
          have HF : Hid (listV m xs = 5) := by show _ = _; rw [HE.out, all_no HX.out HTT.out]; rfl
          go_wp2_with (go_at_call 91; refine HT1.out.mono ?_; rintro e w5 ⟨rfl, rfl⟩)
          go_ret
          exact ⟨ret_i64 HF.out.symm, HB1.out⟩
      · have HF : Hid (listV m xs = 0) := by show _ = _; rw [HE.out, all_yes (fun j hj => HN.out j (by omega))]; rfl
        go_wp2
        go_ret
        exact ⟨ret_i64 HF.out.symm, HB1.out⟩
end Go.Proofs.Ytfkmlonhhdcfpaa
/- The answers' reduction as plain words: primitive rows, which are multiples of determinants. Speaks of no program. -/
namespace Go.Proofs.Ytfkmlonhhdcfpaa
open Go.RowKit

def primR (q : List Int) : List Int := q.map fun n => n.tdiv ((max (gcdL q) 1 : Nat) : Int)
def wipR (q p : List Int) (j : Nat) : List Int := (List.range q.length).map fun k => IntKind.i64.wrap (IntKind.i64.wrap (gt q k * gt p j) - IntKind.i64.wrap (gt p k * gt q j))
def withoutR (q p : List Int) (j : Nat) : List Int := primR (wipR q p j)
theorem primR_len (q : List Int) : (primR q).length = q.length := by simp [primR]
theorem wipR_len (q p : List Int) (j : Nat) : (wipR q p j).length = q.length := by simp [wipR]
theorem withoutR_len (q p : List Int) (j : Nat) : (withoutR q p j).length = q.length := by rw [withoutR, primR_len, wipR_len]
theorem gcdTo_dvd (q : List Int) : ∀ n j, j < n → ((gcdTo q n : Nat) : Int) ∣ gt q j
  | 0, _, h => absurd h (by omega)
  | n + 1, j, h => by
    have h1 : gcdTo q (n + 1) ∣ gcdTo q n := Nat.gcd_dvd_left _ _
    have h2 : gcdTo q (n + 1) ∣ (gt q n).natAbs := Nat.gcd_dvd_right _ _
    by_cases e : j = n
    · subst e; exact Int.ofNat_dvd_left.mpr h2
    · exact Int.dvd_trans (Int.natCast_dvd_natCast.mpr h1) (gcdTo_dvd q n j (by omega))
theorem dvd_gcdTo (q : List Int) (d K : Int) : ∀ n, (∀ c, c < n → d ∣ K * gt q c) → d ∣ K * ((gcdTo q n : Nat) : Int)
  | 0, _ => by simp [gcdTo]
  | n + 1, h => by
    have h1 := dvd_gcdTo q d K n fun c hc => h c (by omega)
    have h2 := h n (by omega)
    rw [← Int.natAbs_dvd_natAbs] at h1 h2 ⊢
    rw [Int.natAbs_mul] at h1 h2 ⊢
    rw [Int.natAbs_natCast] at h1 ⊢
    show d.natAbs ∣ K.natAbs * Nat.gcd (gcdTo q n) (gt q n).natAbs
    rw [← Nat.gcd_mul_left]
    exact Nat.dvd_gcd h1 h2
theorem gt_primR {q : List Int} {c : Nat} (hc : c < q.length) : gt q c = ((max (gcdL q) 1 : Nat) : Int) * gt (primR q) c := by
  have e : gt (primR q) c = (gt q c).tdiv ((max (gcdL q) 1 : Nat) : Int) := by unfold gt primR; simp [hc]
  rw [e]
  symm
  apply Int.mul_tdiv_cancel'
  by_cases h : gcdL q = 0
  · rw [h]; exact Int.one_dvd _
  · rw [show max (gcdL q) 1 = gcdL q by omega]
    exact gcdTo_dvd q _ c hc
/-- A vector that is a multiple of a list up to a divisor is a multiple of the primitive list. -/
theorem prim_mul {q : List Int} {m : Nat → Int} {d K : Int} (hd : d ≠ 0) (hK : K ≠ 0) (h : ∀ c, c < q.length → d * m c = K * gt q c) : ∃ g, g ≠ 0 ∧ ∀ c, c < q.length → m c = g * gt (primR q) c := by
  by_cases h0 : gcdL q = 0
  · refine ⟨1, by decide, fun c hc => ?_⟩
    have z : gt q c = 0 := gcdTo_zero _ h0 c hc
    have z2 := gt_primR hc
    rw [h0, z] at z2
    have := h c hc
    rw [z, Int.mul_zero] at this
    rcases Int.mul_eq_zero.mp this with e | e
    · exact absurd e hd
    · rw [e]; simp at z2; rw [← z2]; rfl
  · obtain ⟨g, hg⟩ : d ∣ K * ((gcdL q : Nat) : Int) := dvd_gcdTo q d K _ fun c hc => ⟨m c, (h c hc).symm⟩
    refine ⟨g, fun e => ?_, fun c hc => ?_⟩
    · rw [e, Int.mul_zero] at hg
      rcases Int.mul_eq_zero.mp hg with e | e
      · exact hK e
      · exact h0 (by omega)
    · have h1 := h c hc
      rw [gt_primR hc, show max (gcdL q) 1 = gcdL q by omega, ← Int.mul_assoc, hg, Int.mul_assoc] at h1
      exact Int.eq_of_mul_eq_mul_left hd h1
/-- The last of the first n rows that is not 0 in column j. -/
def lastR (L : List (List Int)) (j : Nat) : Nat → Option Nat
  | 0 => none
  | n + 1 => if gt (rowL L n) j ≠ 0 then some n else lastR L j n
theorem lastR_none {L : List (List Int)} {j : Nat} : ∀ {n}, lastR L j n = none → ∀ x, x < n → gt (rowL L x) j = 0
  | 0, _, x, hx => absurd hx (by omega)
  | n + 1, h, x, hx => by
    unfold lastR at h
    split at h
    · cases h
    · rename_i h0
      by_cases e : x = n
      · subst e; simpa using h0
      · exact lastR_none h x (by omega)
theorem lastR_some {L : List (List Int)} {j i : Nat} : ∀ {n}, lastR L j n = some i → i < n ∧ gt (rowL L i) j ≠ 0
  | 0, h => by cases h
  | n + 1, h => by
    unfold lastR at h
    split at h
    · rename_i h0; cases h; exact ⟨by omega, h0⟩
    · have := lastR_some h; exact ⟨by omega, this.2⟩
structure Rs where
  done : List (List Int)
  left : List (List Int)
  piv : List Int
def stepR (j : Nat) (s : Rs) : Rs :=
  match lastR s.left j s.left.length with
  | none => s
  | some i => { done := (s.done.map fun q => withoutR q (ownR (rowL s.left i) j) j) ++ [ownR (rowL s.left i) j], left := (s.left.eraseIdx i).map fun q => withoutR q (ownR (rowL s.left i) j) j, piv := s.piv ++ [(j : Int)] }
def stepsR (s : Rs) : Nat → Rs
  | 0 => s
  | k + 1 => stepR k (stepsR s k)
def redR (M : List (List Int)) (n : Nat) : Rs := stepsR { done := [], left := M.map primR, piv := [] } n

/-- The answers' reduction behind D columns: multiples of the determinants of the rows A, which are the first rows in another order. -/
structure RBar (R N D : Nat) (A0 A : Nat → Nat → Int) (p : Nat → Nat) (s : Rs) : Prop where
  pe : ∀ t, t < s.piv.length → gt s.piv t = (p t : Int)
  ld : s.done.length = s.piv.length
  ll : s.piv.length + s.left.length = R
  rd : ∀ q ∈ s.done, q.length = N
  rl : ∀ q ∈ s.left, q.length = N
  pz : ∀ t, t < s.piv.length → p t < D
  asc : ∀ a b, a < b → b < s.piv.length → p a < p b
  vd : ∀ t, t < s.piv.length → ∃ g, g ≠ 0 ∧ ∀ c, c < N → mk A p s.piv.length t c = g * gt (rowL s.done t) c
  vl : ∀ x, x < s.left.length → ∃ g, g ≠ 0 ∧ ∀ c, c < N → mk A p s.piv.length (s.piv.length + x) c = g * gt (rowL s.left x) c
  dn : dt A p s.piv.length ≠ 0
  uq : Uniq A p s.piv.length
  low : ∀ x, x < s.left.length → ∀ c, c < D → gt (rowL s.left x) c = 0
  ech : ∀ t, t < s.piv.length → ∀ c, c < p t → gt (rowL s.done t) c = 0
  pos : ∀ t, t < s.piv.length → 0 < gt (rowL s.done t) (p t)
  arr : ∀ x, x < R → ∃ i s, i < R ∧ (s = 1 ∨ s = -1) ∧ ∀ c, A x c = s * A0 i c
  ker : ∀ w : Nat → Int, (∀ i, i < R → sumTo (fun c => A0 i c * w c) N = 0) ↔ (∀ i, i < R → sumTo (fun c => A i c * w c) N = 0)
theorem rbar_skip {R N D : Nat} {A0 A : Nat → Nat → Int} {p : Nat → Nat} {s : Rs} (h : RBar R N D A0 A p s) (hp : lastR s.left D s.left.length = none) : RBar R N (D + 1) A0 A p (stepR D s) := by
  have e : stepR D s = s := by unfold stepR; rw [hp]
  rw [e]
  exact { h with
    pz := fun t ht => by have := h.pz t ht; omega
    low := fun x hx c hc => by
      by_cases e : c = D
      · subst e; exact lastR_none hp x hx
      · exact h.low x hx c (by omega) }
theorem rowL_map {M : List (List Int)} (f : List Int → List Int) {x : Nat} (hx : x < M.length) : rowL (M.map f) x = f (rowL M x) := by unfold rowL; simp [hx]
theorem rbar_start {R N : Nat} {M : List (List Int)} (h1 : M.length = R) (h2 : ∀ q ∈ M, q.length = N) : RBar R N 0 (a0 M) (a0 M) (fun _ => 0) { done := [], left := M.map primR, piv := [] } where
  pe := fun t h => absurd h (by simp)
  ld := rfl
  ll := by simp [h1]
  rd := fun q h => absurd h (by simp)
  rl := fun q h => by obtain ⟨r, hr, rfl⟩ := List.mem_map.mp h; rw [primR_len]; exact h2 r hr
  pz := fun t h => absurd h (by simp)
  asc := fun a b _ h => absurd h (by simp)
  vd := fun t h => absurd h (by simp)
  vl := fun x hx => by
    have hx' : x < M.length := by simpa using hx
    have hm : rowL M x ∈ M := rowL_mem hx'
    refine ⟨((max (gcdL (rowL M x)) 1 : Nat) : Int), by omega, fun c hc => ?_⟩
    rw [rowL_map _ hx', ← gt_primR (by rw [h2 _ hm]; exact hc)]
    simp [mk, dt, detC, sumTo, a0]
  dn := by show (1 : Int) ≠ 0; decide
  uq := uniq_zero
  low := fun _ _ _ h => absurd h (by omega)
  ech := fun t h => absurd h (by simp)
  pos := fun t h => absurd h (by simp)
  arr := fun x hx => ⟨x, 1, hx, .inl rfl, fun c => by omega⟩
  ker := fun w => Iff.rfl
end Go.Proofs.Ytfkmlonhhdcfpaa
/- One column more of the answers' reduction. Plain words. Speaks of no program. -/
namespace Go.Proofs.Ytfkmlonhhdcfpaa
open Go.RowKit

theorem mul_small {g v B : Int} (hg : g ≠ 0) (h : -B ≤ g * v ∧ g * v ≤ B) : -B ≤ v ∧ v ≤ B := by
  have h1 : v.natAbs ≤ (g * v).natAbs := by rw [Int.natAbs_mul]; exact Nat.le_mul_of_pos_left _ (by omega)
  omega
theorem gt_primR0 {q : List Int} {c : Nat} (hc : c < q.length) (h : gt q c = 0) : gt (primR q) c = 0 := by
  have h1 := gt_primR hc
  rw [h] at h1
  rcases Int.mul_eq_zero.mp h1.symm with e | e
  · omega
  · exact e
theorem gt_primR_pos {q : List Int} {c : Nat} (hc : c < q.length) (h : 0 < gt q c) : 0 < gt (primR q) c := by
  have h1 := gt_primR hc
  rw [h1] at h
  exact Int.pos_of_mul_pos_right h (by omega) |> fun x => x
theorem gt_wipR {q P : List Int} {D c : Nat} (hc : c < q.length) (h1 : -720000000 ≤ gt q c ∧ gt q c ≤ 720000000) (h2 : -720000000 ≤ gt P D ∧ gt P D ≤ 720000000) (h3 : -720000000 ≤ gt P c ∧ gt P c ≤ 720000000) (h4 : -720000000 ≤ gt q D ∧ gt q D ≤ 720000000) : gt (wipR q P D) c = gt q c * gt P D - gt P c * gt q D := by
  have e : gt (wipR q P D) c = IntKind.i64.wrap (IntKind.i64.wrap (gt q c * gt P D) - IntKind.i64.wrap (gt P c * gt q D)) := by unfold wipR; rw [gt_map_range _ hc]
  have b : ∀ {x y : Int}, (-720000000 ≤ x ∧ x ≤ 720000000) → (-720000000 ≤ y ∧ y ≤ 720000000) → -518400000000000000 ≤ x * y ∧ x * y ≤ 518400000000000000 := by
    intro x y hx hy
    have h : (x * y).natAbs ≤ 720000000 * 720000000 := by rw [Int.natAbs_mul]; exact Nat.mul_le_mul (by omega) (by omega)
    omega
  have b1 := b h1 h2
  have b2 := b h3 h4
  rw [e, wrap_id (n := gt q c * gt P D) (by omega) (by omega), wrap_id (n := gt P c * gt q D) (by omega) (by omega), wrap_id (by omega) (by omega)]
theorem rbar_bd {R N D cols : Nat} {A0 A : Nat → Nat → Int} {p : Nat → Nat} {s : Rs} (h : RBar R N D A0 A p s) (hR : R ≤ 6) (hD : D ≤ cols) (hb1 : ∀ i, i < R → ∀ c, c < cols → -1 ≤ A0 i c ∧ A0 i c ≤ 1) (hb2 : ∀ i, i < R → ∀ c, c < N → -1000000 ≤ A0 i c ∧ A0 i c ≤ 1000000) :
    (∀ t, t < s.piv.length → ∀ c, c < N → -720000000 ≤ gt (rowL s.done t) c ∧ gt (rowL s.done t) c ≤ 720000000) ∧ (∀ x, x < s.left.length → ∀ c, c < N → -720000000 ≤ gt (rowL s.left x) c ∧ gt (rowL s.left x) c ≤ 720000000) := by
  have hA1 : ∀ x, x < R → ∀ c, c < cols → -1 ≤ A x c ∧ A x c ≤ 1 := fun x hx c hc => arr_bd h.arr (fun i hi => hb1 i hi c hc) x hx
  have hA2 : ∀ x, x < R → ∀ c, c < N → -1000000 ≤ A x c ∧ A x c ≤ 1000000 := fun x hx c hc => arr_bd h.arr (fun i hi => hb2 i hi c hc) x hx
  have hl := h.ll
  have big : ∀ x, x < R → ∀ c, c < N → -720000000 ≤ mk A p s.piv.length x c ∧ mk A p s.piv.length x c ≤ 720000000 := fun x hx c hc => mk_bd6 (Y := 1000000) (by decide) (by omega) hR hx (fun i hi t ht => hA1 i hi _ (by have := h.pz t ht; omega)) (fun i hi => hA2 i hi c hc)
  constructor
  · intro t ht c hc
    obtain ⟨g, hg, e⟩ := h.vd t ht
    have := big t (by omega) c hc
    rw [e c hc] at this
    exact mul_small hg this
  · intro x hx c hc
    obtain ⟨g, hg, e⟩ := h.vl x hx
    have := big (s.piv.length + x) (by omega) c hc
    rw [e c hc] at this
    exact mul_small hg this
theorem rowL_erase {L : List (List Int)} {i x : Nat} : rowL (L.eraseIdx i) x = rowL L (if x < i then x else x + 1) := by
  unfold rowL
  rw [List.getElem?_eraseIdx]
  split <;> rfl
theorem rowL_snoc {L : List (List Int)} {q : List Int} {x : Nat} : rowL (L ++ [q]) x = if x < L.length then rowL L x else if x = L.length then q else [] := by
  unfold rowL
  by_cases h : x < L.length
  · rw [if_pos h, List.getElem?_append_left h]
  · rw [if_neg h, List.getElem?_append_right (by omega)]
    by_cases e : x = L.length
    · subst e; simp
    · rw [if_neg e, List.getElem?_eq_none (by simp; omega)]; rfl
/-- Where a row of the new order stood. -/
def olX (k i x : Nat) : Nat := if x < k then x else if x = k then k + i else if x ≤ k + i then x - 1 else x
theorem rbar_step {R N D cols : Nat} {A0 A : Nat → Nat → Int} {p : Nat → Nat} {s : Rs} (h : RBar R N D A0 A p s) (hR : R ≤ 6) (hDN : D < N) (hD : D ≤ cols) (hb1 : ∀ i, i < R → ∀ c, c < cols → -1 ≤ A0 i c ∧ A0 i c ≤ 1) (hb2 : ∀ i, i < R → ∀ c, c < N → -1000000 ≤ A0 i c ∧ A0 i c ≤ 1000000)
    {i : Nat} (hp : lastR s.left D s.left.length = some i) : ∃ A' p', RBar R N (D + 1) A0 A' p' (stepR D s) := by
  obtain ⟨hi, hnz⟩ := lastR_some hp
  obtain ⟨bd, bl⟩ := rbar_bd h hR hD hb1 hb2
  obtain ⟨done, left, piv⟩ := s
  obtain ⟨pe, ld, ll, rd, rl, pz, asc, vd, vl, dn, uq, low, ech, pos, arr, ker⟩ := h
  dsimp only at pe ld ll rd rl pz asc vd vl dn uq low ech pos arr ker hi hnz bd bl hp
  obtain ⟨k, hk⟩ : ∃ k, piv.length = k := ⟨_, rfl⟩
  rw [hk] at pe ld ll pz asc vd vl dn uq ech pos bd
  have lld : ∀ t, t < k → (rowL done t).length = N := fun t ht => rd _ (rowL_mem (by omega))
  have lll : ∀ x, x < left.length → (rowL left x).length = N := fun x hx => rl _ (rowL_mem hx)
  -- the pivot's row
  obtain ⟨P, hP⟩ : ∃ P, ownR (rowL left i) D = P := ⟨_, rfl⟩
  obtain ⟨sg, hsg⟩ : ∃ sg : Int, (if gt (rowL left i) D < 0 then -1 else 1) = sg := ⟨_, rfl⟩
  have sg1 : sg = 1 ∨ sg = -1 := by rw [← hsg]; split <;> simp
  have lP : P.length = N := by rw [← hP, ownR_len]; exact lll i hi
  have atP : ∀ c, c < N → gt P c = sg * gt (rowL left i) c := fun c hc => by
    rw [← hP, gt_ownR (fun c hc => bl i hi c (by rw [lll i hi] at hc; exact hc)) (by rw [lll i hi]; exact hc), hsg]
  have PD : 0 < gt P D := by rw [atP D hDN, ← hsg]; split <;> omega
  have bP : ∀ c, c < N → -720000000 ≤ gt P c ∧ gt P c ≤ 720000000 := fun c hc => by
    have := bl i hi c hc
    rw [atP c hc]; rcases sg1 with e | e <;> rw [e] <;> omega
  have zP : ∀ c, c < D → gt P c = 0 := fun c hc => by rw [atP c (by omega), low i hi c hc, Int.mul_zero]
  -- the new order
  obtain ⟨A', hA'⟩ : ∃ A' : Nat → Nat → Int, (fun x => A (olX k i x)) = A' := ⟨_, rfl⟩
  obtain ⟨p', hp'⟩ : ∃ p' : Nat → Nat, (fun t => if t < k then p t else D) = p' := ⟨_, rfl⟩
  have a' : ∀ x, A' x = A (olX k i x) := fun x => by rw [← hA']
  have ou : ∀ x, x < k → olX k i x = x := fun x hx => by unfold olX; rw [if_pos hx]
  have ok : olX k i k = k + i := by unfold olX; rw [if_neg (by omega), if_pos rfl]
  have ox : ∀ x, olX k i (k + 1 + x) = k + (if x < i then x else x + 1) := fun x => by
    unfold olX
    rw [if_neg (by omega), if_neg (by omega)]
    by_cases e : x < i
    · rw [if_pos (by omega), if_pos e]; omega
    · rw [if_neg (by omega), if_neg e]; omega
  have ol : ∀ x, x < R → olX k i x < R := fun x hx => by unfold olX; split <;> (try split) <;> (try split) <;> omega
  have og : ∀ x, k ≤ x → k ≤ olX k i x := fun x hx => by unfold olX; split <;> (try split) <;> (try split) <;> omega
  have a'u : ∀ x, x < k → A' x = A x := fun x hx => by rw [a', ou x hx]
  have pu : ∀ t, t < k → p' t = p t := fun t ht => by rw [← hp']; simp [ht]
  have pk : p' k = D := by rw [← hp']; simp
  have mu : ∀ t, t < k → ∀ c, mk A' p' k t c = mk A p k t c := fun t ht c => mk_congr pu a'u (a'u t ht)
  have dte : dt A' p' k = dt A p k := detC_congr k fun t ht x hx => by unfold colF; rw [a'u x hx, pu t ht]
  have ml : ∀ x, mk A' p' k x = fun c => mk A p k (olX k i x) c := fun x => by
    funext c
    by_cases e : x < k
    · rw [ou x e, mu x e]
    · rw [mk_low (by omega), mk_low (x := olX k i x) (og x (by omega)), dte, a' x]
      congr 1
      exact sumTo_congr k fun t ht => by rw [mu t ht, pu t ht]
  obtain ⟨G, hG0, hG⟩ : ∃ G, G ≠ 0 ∧ ∀ c, c < N → mk A' p' k k c = G * gt P c := by
    obtain ⟨g, hg, e⟩ := vl i hi
    refine ⟨g * sg, ?_, fun c hc => ?_⟩
    · rcases sg1 with e | e <;> rw [e] <;> omega
    · rw [ml, ok]
      show mk A p k (k + i) c = _
      rw [e c hc, atP c hc]
      rcases sg1 with e | e <;> rw [e] <;> grind
  have dk : dt A' p' (k + 1) = G * gt P D := by rw [dt_succ, pk, hG D hDN]
  have dk0 : dt A' p' (k + 1) ≠ 0 := by rw [dk]; exact Int.mul_ne_zero hG0 (by omega)
  have uqk : Uniq A' p' k := by
    intro z hz
    refine uq z fun x hx => ?_
    rw [← hz x hx]
    exact sumTo_congr k fun t ht => by rw [a'u x hx, pu t ht]
  have uq' : Uniq A' p' (k + 1) := uniq_succ uqk (by rw [dte]; exact dn) dk0
  -- a row that the pivot's row is taken from
  have wip : ∀ {q : List Int}, q.length = N → (∀ c, c < N → -720000000 ≤ gt q c ∧ gt q c ≤ 720000000) → ∀ c, c < N → gt (wipR q P D) c = gt q c * gt P D - gt P c * gt q D := fun hq hb c hc => gt_wipR (by omega) (hb c hc) (bP D hDN) (bP c hc) (hb D hDN)
  have row : ∀ {q : List Int} {x : Nat} {g : Int}, q.length = N → (∀ c, c < N → -720000000 ≤ gt q c ∧ gt q c ≤ 720000000) → x ≠ k → g ≠ 0 → (∀ c, c < N → mk A' p' k x c = g * gt q c) → ∃ g', g' ≠ 0 ∧ ∀ c, c < N → mk A' p' (k + 1) x c = g' * gt (withoutR q P D) c := by
    intro q x g hq hb hx hg hm
    have hs := fun c => mk_step uq' hx c
    have := prim_mul (q := wipR q P D) (m := fun c => mk A' p' (k + 1) x c) (d := dt A p k) (K := g * G) dn (Int.mul_ne_zero hg hG0) (fun c hc => by
      rw [wipR_len, hq] at hc
      have h1 := hs c
      rw [dte, dk, pk, hm c hc, hm D hDN, hG c hc] at h1
      rw [wip hq hb c hc]
      show dt A p k * mk A' p' (k + 1) x c = _
      rw [h1]
      grind)
    rw [wipR_len, hq] at this
    exact this
  have zr : ∀ {q : List Int}, q.length = N → (∀ c, c < N → -720000000 ≤ gt q c ∧ gt q c ≤ 720000000) → ∀ c, c < N → gt q c = 0 → gt P c = 0 → gt (withoutR q P D) c = 0 := by
    intro q hq hb c hc h1 h2
    exact gt_primR0 (by rw [wipR_len]; omega) (by rw [wip hq hb c hc, h1, h2]; simp)
  have er : stepR D { done := done, left := left, piv := piv } = { done := (done.map fun q => withoutR q P D) ++ [P], left := (left.eraseIdx i).map fun q => withoutR q P D, piv := piv ++ [(D : Int)] } := by
    unfold stepR
    dsimp only
    rw [hp]
    simp only [hP]
  rw [er]
  have hpl : (piv ++ [(D : Int)]).length = k + 1 := by simp [hk]
  have hel : (left.eraseIdx i).length = left.length - 1 := List.length_eraseIdx_of_lt hi
  have hll : ((left.eraseIdx i).map fun q => withoutR q P D).length = left.length - 1 := by rw [List.length_map, hel]
  have dnu : ∀ t, t < k → rowL ((done.map fun q => withoutR q P D) ++ [P]) t = withoutR (rowL done t) P D := fun t ht => by rw [rowL_snoc, if_pos (by simp; omega), rowL_map _ (by omega)]
  have dnk : rowL ((done.map fun q => withoutR q P D) ++ [P]) k = P := by rw [rowL_snoc, if_neg (by simp; omega), if_pos (by simp; omega)]
  have lfx : ∀ x, x < left.length - 1 → rowL ((left.eraseIdx i).map fun q => withoutR q P D) x = withoutR (rowL left (if x < i then x else x + 1)) P D := fun x hx => by rw [rowL_map _ (by omega), rowL_erase]
  have lx : ∀ x, x < left.length - 1 → (if x < i then x else x + 1) < left.length := fun x hx => by split <;> omega
  refine ⟨A', p', ?_⟩
  constructor <;> (try dsimp only)
  case pe =>
    intro t ht
    rw [hpl] at ht
    rw [gt_snoc, hk]
    by_cases e : t < k
    · rw [if_pos e, pu t e]; exact pe t e
    · have e2 : t = k := by omega
      subst e2; rw [if_neg e, if_pos rfl, pk]
  case ld => simp [ld, hk]
  case ll => rw [hpl, hll]; omega
  case rd =>
    intro q hq
    rcases List.mem_append.mp hq with hq | hq
    · obtain ⟨r, hr, rfl⟩ := List.mem_map.mp hq; rw [withoutR_len]; exact rd r hr
    · rw [List.mem_singleton] at hq; rw [hq]; exact lP
  case rl =>
    intro q hq
    obtain ⟨r, hr, rfl⟩ := List.mem_map.mp hq; rw [withoutR_len]; exact rl r (List.mem_of_mem_eraseIdx hr)
  case pz =>
    intro t ht
    rw [hpl] at ht
    by_cases e : t < k
    · rw [pu t e]; have := pz t e; omega
    · have e2 : t = k := by omega
      rw [e2, pk]; omega
  case asc =>
    intro a b hab hb
    rw [hpl] at hb
    by_cases e : b < k
    · rw [pu a (by omega), pu b e]; exact asc a b hab e
    · have e2 : b = k := by omega
      rw [e2, pk, pu a (by omega)]; exact pz a (by omega)
  case vd =>
    intro t ht
    rw [hpl] at ht ⊢
    by_cases e : t < k
    · rw [dnu t e]
      obtain ⟨g, hg, hm⟩ := vd t e
      exact row (lld t e) (bd t e) (by omega) hg fun c hc => by rw [mu t e]; exact hm c hc
    · have e2 : t = k := by omega
      rw [e2, dnk]
      exact ⟨G, hG0, fun c hc => by rw [mk_succ_own]; exact hG c hc⟩
  case vl =>
    intro x hx
    rw [hll] at hx
    rw [hpl, lfx x hx]
    obtain ⟨g, hg, hm⟩ := vl _ (lx x hx)
    exact row (lll _ (lx x hx)) (bl _ (lx x hx)) (by omega) hg fun c hc => by rw [ml, ox]; exact hm c hc
  case dn => rw [hpl]; exact dk0
  case uq => rw [hpl]; exact uq'
  case low =>
    intro x hx c hc
    rw [hll] at hx
    rw [lfx x hx]
    by_cases e : c < D
    · exact zr (lll _ (lx x hx)) (bl _ (lx x hx)) c (by omega) (low _ (lx x hx) c e) (zP c e)
    · have e2 : c = D := by omega
      rw [e2]
      exact gt_primR0 (by rw [wipR_len, lll _ (lx x hx)]; exact hDN) (by rw [wip (lll _ (lx x hx)) (bl _ (lx x hx)) D hDN]; grind)
  case ech =>
    intro t ht c hc
    rw [hpl] at ht
    by_cases e : t < k
    · rw [pu t e] at hc
      have := pz t e
      rw [dnu t e]
      exact zr (lld t e) (bd t e) c (by omega) (ech t e c hc) (zP c (by omega))
    · have e2 : t = k := by omega
      rw [e2, pk] at hc
      rw [e2, dnk]; exact zP c hc
  case pos =>
    intro t ht
    rw [hpl] at ht
    by_cases e : t < k
    · have := pz t e
      rw [dnu t e, pu t e]
      refine gt_primR_pos (by rw [wipR_len, lld t e]; omega) ?_
      rw [wip (lld t e) (bd t e) _ (by omega), zP _ this, Int.zero_mul, Int.sub_zero]
      exact Int.mul_pos (pos t e) PD
    · have e2 : t = k := by omega
      rw [e2, dnk, pk]; exact PD
  case arr => intro x hx; rw [a']; exact arr _ (ol x hx)
  case ker =>
    intro w
    rw [ker w]
    constructor
    · intro hw x hx
      rw [a']; exact hw _ (ol x hx)
    · intro hw x hx
      by_cases e : x < k
      · have := hw x hx; rw [a', ou x e] at this; exact this
      · by_cases e2 : x = k + i
        · have := hw k (by omega); rw [a', ok] at this; rw [e2]; exact this
        · by_cases e3 : x < k + i
          · have := hw (k + 1 + (x - k)) (by omega)
            rw [a', ox, if_pos (by omega), show k + (x - k) = x by omega] at this; exact this
          · have := hw (k + 1 + (x - k - 1)) (by omega)
            rw [a', ox, if_neg (by omega), show k + (x - k - 1 + 1) = x by omega] at this; exact this
end Go.Proofs.Ytfkmlonhhdcfpaa
/- Two reduced echelon forms with the same vectors read as 0: the same pivots, rows that are multiples. Plain words. Speaks of no program. -/
namespace Go.Proofs.Ytfkmlonhhdcfpaa
open Go.RowKit

/-- Rows 0 to k - 1 of N columns are reduced, with pivots p below n. -/
structure Ech (N n k : Nat) (p : Nat → Nat) (B : Nat → Nat → Int) : Prop where
  nN : n ≤ N
  pz : ∀ t, t < k → p t < n
  asc : ∀ a b, a < b → b < k → p a < p b
  nz : ∀ t, t < k → B t (p t) ≠ 0
  self : ∀ a b, a < k → b < k → a ≠ b → B b (p a) = 0
  ech : ∀ t, t < k → ∀ c, c < p t → B t c = 0
variable {N n k : Nat} {p : Nat → Nat} {B : Nat → Nat → Int}
theorem Ech.inj (h : Ech N n k p B) {a b : Nat} (ha : a < k) (hb : b < k) (e : p a = p b) : a = b := by
  rcases Nat.lt_trichotomy a b with h1 | h1 | h1
  · have := h.asc a b h1 hb; omega
  · exact h1
  · have := h.asc b a h1 ha; omega
theorem common (g : Nat → Int) : ∀ k, (∀ t, t < k → g t ≠ 0) → ∃ L : Int, L ≠ 0 ∧ ∃ q : Nat → Int, ∀ t, t < k → L = g t * q t
  | 0, _ => ⟨1, by decide, fun _ => 0, fun t h => absurd h (by omega)⟩
  | k + 1, h => by
    obtain ⟨L, hL, q, hq⟩ := common g k fun t ht => h t (by omega)
    refine ⟨L * g k, Int.mul_ne_zero hL (h k (by omega)), fun t => if t = k then L else q t * g k, fun t ht => ?_⟩
    dsimp only
    by_cases e : t = k
    · rw [if_pos e, e]; exact Int.mul_comm _ _
    · rw [if_neg e, hq t (by omega), Int.mul_assoc]
/-- The vector of a column that is no pivot. -/
theorem Ech.vec (h : Ech N n k p B) {f : Nat} (hf : f < n) (hn : ∀ t, t < k → p t ≠ f) : ∃ w : Nat → Int, w f ≠ 0 ∧ (∀ c, f < c → w c = 0) ∧ (∀ c, c ≠ f → (∀ t, t < k → p t ≠ c) → w c = 0) ∧ (∀ t, t < k → w (p t) * B t (p t) = -(B t f * w f)) ∧ ∀ t, t < k → sumTo (fun c => B t c * w c) N = 0 := by
  obtain ⟨L, hL, q, hq⟩ := common (fun t => B t (p t)) k h.nz
  obtain ⟨w, hw⟩ : ∃ w : Nat → Int, (fun c => if c = f then L else -sumTo (fun t => if p t = c then B t f * q t else 0) k) = w := ⟨_, rfl⟩
  have wf : w f = L := by rw [← hw]; simp
  have wc : ∀ c, c ≠ f → w c = -sumTo (fun t => if p t = c then B t f * q t else 0) k := fun c e => by rw [← hw]; simp [e]
  have w0 : ∀ c, c ≠ f → (∀ t, t < k → p t ≠ c) → w c = 0 := fun c e hc => by
    rw [wc c e, sumZ k fun t ht => by rw [if_neg (hc t ht)]]; rfl
  have wp : ∀ t, t < k → w (p t) = -(B t f * q t) := fun t ht => by
    rw [wc _ (hn t ht), sumOne k ht fun s hs e => by rw [if_neg (fun e2 => e (h.inj hs ht e2))], if_pos rfl]
  refine ⟨w, by rw [wf]; exact hL, fun c hc => ?_, w0, fun t ht => ?_, fun t ht => ?_⟩
  · rw [wc c (by omega), sumZ k fun t ht => ?_]; rfl
    split
    · rename_i e; rw [h.ech t ht f (by omega), Int.zero_mul]
    · rfl
  · have := hq t ht
    rw [wp t ht, wf]; rw [this]; grind
  · have e0 : ∀ c, c < N → c ≠ f → c ≠ p t → B t c * w c = 0 := fun c _ e1 e2 => by
      by_cases e : ∃ s, s < k ∧ p s = c
      · obtain ⟨s, hs, e3⟩ := e
        rw [← e3, h.self s t hs ht (fun e4 => by rw [e4] at e3; omega), Int.zero_mul]
      · rw [w0 c e1 fun s hs e3 => e ⟨s, hs, e3⟩, Int.mul_zero]
    have hp := h.pz t ht
    have hN := h.nN
    have e := hq t ht
    have hnt := hn t ht
    have goal : B t f * w f + B t (p t) * w (p t) = 0 := by rw [wf, wp t ht, e]; grind
    rcases Nat.lt_or_ge f (p t) with h1 | h1
    · rw [sumPair h1 N (by omega) fun c hc a b => e0 c hc a b]; exact goal
    · rw [sumPair (s := p t) (t := f) (by omega) N (by omega) fun c hc a b => e0 c hc b a]; omega
/-- No vector read as 0 ends at a pivot. -/
theorem Ech.stop (h : Ech N n k p B) {t : Nat} (ht : t < k) {w : Nat → Int} (hw : sumTo (fun c => B t c * w c) N = 0) (hz : ∀ c, p t < c → c < N → w c = 0) : w (p t) = 0 := by
  have hp := h.pz t ht
  have hN := h.nN
  rw [sumOne (s := p t) N (by omega) fun c hc e => by
    rcases Nat.lt_or_ge c (p t) with h1 | h1
    · rw [h.ech t ht c h1, Int.zero_mul]
    · rw [hz c (by omega) hc, Int.mul_zero]] at hw
  rcases Int.mul_eq_zero.mp hw with e | e
  · exact absurd e (h.nz t ht)
  · exact e
/-- A pivot of the one is a pivot of the other, where the vectors of the other that end below m are the one's, too. -/
theorem Ech.sub {m j : Nat} {q : Nat → Nat} {C : Nat → Nat → Int} (h : Ech N n k p B) (g : Ech N m j q C) (hk : ∀ w : Nat → Int, (∀ c, m ≤ c → w c = 0) → (∀ t, t < j → sumTo (fun c => C t c * w c) N = 0) → ∀ t, t < k → sumTo (fun c => B t c * w c) N = 0) {t : Nat} (ht : t < k) (hm : p t < m) : ∃ s, s < j ∧ q s = p t := by
  by_cases e : ∃ s, s < j ∧ q s = p t
  · exact e
  · obtain ⟨w, h1, h2, _, _, h5⟩ := g.vec hm fun s hs e2 => e ⟨s, hs, e2⟩
    exact absurd (h.stop ht (hk w (fun c hc => h2 c (by omega)) h5 t ht) fun c hc _ => h2 c hc) h1
theorem same_asc {j : Nat} {p q : Nat → Nat} (hp : ∀ a b, a < b → b < k → p a < p b) (hq : ∀ a b, a < b → b < j → q a < q b) (h1 : ∀ t, t < k → ∃ s, s < j ∧ q s = p t) (h2 : ∀ t, t < j → ∃ s, s < k ∧ p s = q t) : k = j ∧ ∀ t, t < k → p t = q t := by
  have key : ∀ t, t < k → t < j → p t = q t := by
    intro t
    induction t using Nat.strongRecOn with
    | _ t ih =>
      intro ht hj
      rcases Nat.lt_trichotomy (p t) (q t) with e | e | e
      · obtain ⟨s, hs, e2⟩ := h1 t ht
        have hst : s < t := by
          rcases Nat.lt_trichotomy s t with e3 | e3 | e3
          · exact e3
          · rw [e3] at e2; omega
          · have := hq t s e3 hs; omega
        have := ih s hst (by omega) hs
        have := hp s t hst ht
        omega
      · exact e
      · obtain ⟨s, hs, e2⟩ := h2 t hj
        have hst : s < t := by
          rcases Nat.lt_trichotomy s t with e3 | e3 | e3
          · exact e3
          · rw [e3] at e2; omega
          · have := hp t s e3 hs; omega
        have := ih s hst hs (by omega)
        have := hq s t hst hj
        omega
  have hkj : k = j := by
    rcases Nat.lt_trichotomy k j with e | e | e
    · obtain ⟨s, hs, e2⟩ := h2 k e
      have := key s hs (by omega)
      have := hq s k hs e
      omega
    · exact e
    · obtain ⟨s, hs, e2⟩ := h1 j e
      have := key s (by omega) hs
      have := hp s j hs e
      omega
  exact ⟨hkj, fun t ht => key t ht (by omega)⟩
/-- The rows of two reduced forms with the same pivots are multiples. -/
theorem Ech.prop {C : Nat → Nat → Int} (h : Ech N n k p B) (hs : ∀ a b, a < k → b < k → a ≠ b → C b (p a) = 0) (hk : ∀ w : Nat → Int, (∀ c, n ≤ c → w c = 0) → (∀ t, t < k → sumTo (fun c => B t c * w c) N = 0) → ∀ t, t < k → sumTo (fun c => C t c * w c) N = 0) {t f : Nat} (ht : t < k) (hf : f < n) : C t f * B t (p t) = C t (p t) * B t f := by
  by_cases e : ∃ s, s < k ∧ p s = f
  · obtain ⟨s, hs2, rfl⟩ := e
    by_cases e2 : s = t
    · rw [e2]
    · rw [hs s t hs2 ht e2, h.self s t hs2 ht e2]; simp
  · have hnt : ∀ s, s < k → p s ≠ f := fun s hs e2 => e ⟨s, hs, e2⟩
    obtain ⟨w, h1, h2, h3, h4, h5⟩ := h.vec hf hnt
    have hp := h.pz t ht
    have hN := h.nN
    have hne := hnt t ht
    have e0 : ∀ c, c < N → c ≠ f → c ≠ p t → C t c * w c = 0 := fun c _ e1 e2 => by
      by_cases e : ∃ s, s < k ∧ p s = c
      · obtain ⟨s, hs2, e3⟩ := e
        rw [← e3, hs s t hs2 ht (fun e4 => by rw [e4] at e3; omega), Int.zero_mul]
      · rw [h3 c e1 fun s hs e3 => e ⟨s, hs, e3⟩, Int.mul_zero]
    have z := hk w (fun c hc => h2 c (by omega)) h5 t ht
    have z2 : C t f * w f + C t (p t) * w (p t) = 0 := by
      rcases Nat.lt_or_ge f (p t) with h6 | h6
      · rw [sumPair h6 N (by omega) fun c hc a b => e0 c hc a b] at z; exact z
      · rw [sumPair (s := p t) (t := f) (by omega) N (by omega) fun c hc a b => e0 c hc b a] at z; omega
    have h4 := h4 t ht
    refine Int.eq_of_mul_eq_mul_right h1 ?_
    grind
end Go.Proofs.Ytfkmlonhhdcfpaa
/- The answers' reduction and the program's agree. Plain words. Speaks of no program. -/
namespace Go.Proofs.Ytfkmlonhhdcfpaa
open Go.RowKit

theorem redR_succ (M : List (List Int)) (D : Nat) : redR M (D + 1) = stepR D (redR M D) := rfl
theorem rbar_all {R N cols : Nat} {M : List (List Int)} (h1 : M.length = R) (h2 : ∀ q ∈ M, q.length = N) (hR : R ≤ 6) (hb1 : ∀ i, i < R → ∀ c, c < cols → -1 ≤ a0 M i c ∧ a0 M i c ≤ 1) (hb2 : ∀ i, i < R → ∀ c, c < N → -1000000 ≤ a0 M i c ∧ a0 M i c ≤ 1000000) :
    ∀ D, D ≤ N → D ≤ cols + 1 → ∃ A p, RBar R N D (a0 M) A p (redR M D)
  | 0, _, _ => ⟨_, _, rbar_start h1 h2⟩
  | D + 1, hD, hc => by
    obtain ⟨A, p, hA⟩ := rbar_all h1 h2 hR hb1 hb2 D (by omega) (by omega)
    rw [redR_succ]
    cases hp : lastR (redR M D).left D (redR M D).left.length with
    | none => exact ⟨A, p, rbar_skip hA hp⟩
    | some i => exact rbar_step hA hR (by omega) (by omega) hb1 hb2 hp
theorem RBar.ech' {R N D : Nat} {A0 A : Nat → Nat → Int} {p : Nat → Nat} {s : Rs} (h : RBar R N D A0 A p s) (hD : D ≤ N) : Ech N D s.piv.length p (fun t c => gt (rowL s.done t) c) where
  nN := hD
  pz := h.pz
  asc := h.asc
  nz := fun t ht => by have := h.pos t ht; omega
  self := fun a b ha hb e => by
    obtain ⟨g, hg, hm⟩ := h.vd b hb
    have h1 := hm (p a) (by have := h.pz a ha; omega)
    rw [mk_self h.uq ha hb, if_neg (Ne.symm e)] at h1
    rcases Int.mul_eq_zero.mp h1.symm with e2 | e2
    · exact absurd e2 hg
    · exact e2
  ech := h.ech
theorem sumG {f u : Nat → Int} {g : Int} {N : Nat} (w : Nat → Int) (h : ∀ c, c < N → f c = g * u c) : sumTo (fun c => f c * w c) N = g * sumTo (fun c => u c * w c) N := by
  rw [← sumTo_mul]
  exact sumTo_congr N fun c hc => by rw [h c hc, Int.mul_assoc]
theorem RBar.ker' {R N : Nat} {A0 A : Nat → Nat → Int} {p : Nat → Nat} {s : Rs} (h : RBar R N N A0 A p s) (w : Nat → Int) : (∀ i, i < R → sumTo (fun c => A0 i c * w c) N = 0) ↔ (∀ t, t < s.piv.length → sumTo (fun c => gt (rowL s.done t) c * w c) N = 0) := by
  have hl := h.ll
  rw [h.ker w, mk_ker h.uq h.dn R N (by omega) w]
  constructor
  · intro hw t ht
    obtain ⟨g, hg, hm⟩ := h.vd t ht
    have h1 := hw t (by omega)
    rw [sumG w hm] at h1
    rcases Int.mul_eq_zero.mp h1 with e | e
    · exact absurd e hg
    · exact e
  · intro hw x hx
    by_cases e : x < s.piv.length
    · obtain ⟨g, hg, hm⟩ := h.vd x e
      rw [sumG w hm, hw x e, Int.mul_zero]
    · have hx2 : x - s.piv.length < s.left.length := by omega
      obtain ⟨g, hg, hm⟩ := h.vl _ hx2
      rw [show s.piv.length + (x - s.piv.length) = x by omega] at hm
      exact sumZ N fun c hc => by rw [hm c hc, h.low _ hx2 c hc]; simp
theorem RFin.ech' {R N cols : Nat} {A0 : Nat → Nat → Int} {r : Rd} (h : RFin R N cols A0 r) (hc : cols ≤ N) : Ech N cols r.piv.length (pivN r) (fun t c => gt (rowL r.rows t) c) where
  nN := hc
  pz := fun t ht => h.pivN_lt ht
  asc := h.asc
  nz := fun t ht => by have h1 := h.self t t ht ht; have := h.pos; rw [if_pos rfl] at h1; omega
  self := fun a b ha hb e => by have h1 := h.self a b ha hb; rw [if_neg (Ne.symm e)] at h1; exact h1
  ech := h.ech
theorem RFin.ker' {R N cols : Nat} {A0 : Nat → Nat → Int} {r : Rd} (h : RFin R N cols A0 r) (hz : ∀ x, r.piv.length ≤ x → x < R → ∀ c, c < N → gt (rowL r.rows x) c = 0) (w : Nat → Int) : (∀ i, i < R → sumTo (fun c => A0 i c * w c) N = 0) ↔ (∀ t, t < r.piv.length → sumTo (fun c => gt (rowL r.rows t) c * w c) N = 0) := by
  have hl := h.pl
  rw [h.ker w]
  constructor
  · intro hw t ht; exact hw t (by omega)
  · intro hw x hx
    by_cases e : x < r.piv.length
    · exact hw x e
    · exact sumZ N fun c hc => by rw [hz x (by omega) hx c hc, Int.zero_mul]
theorem list_gt {xs ys : List Int} (h1 : xs.length = ys.length) (h2 : ∀ t, t < xs.length → gt xs t = gt ys t) : xs = ys := by
  apply List.ext_getElem h1
  intro t ha hb
  have := h2 t ha
  unfold gt at this
  simpa [ha, hb] using this
/-- Where no row behind the pivots is left, both have the same pivots, and the rows are multiples of each other. -/
theorem red_agree {R N cols : Nat} {A0 A : Nat → Nat → Int} {p : Nat → Nat} {r : Rd} {s : Rs} (h : RFin R N cols A0 r) (hc : cols ≤ N) (g : RBar R N N A0 A p s) (hz : ∀ x, r.piv.length ≤ x → x < R → ∀ c, c < N → gt (rowL r.rows x) c = 0) :
    s.piv = r.piv ∧ (∀ t, t < s.piv.length → p t = pivN r t) ∧ ∀ t, t < s.piv.length → ∀ f, f < N → gt (rowL r.rows t) f * gt (rowL s.done t) (p t) = r.dv * gt (rowL s.done t) f := by
  have e1 := h.ech' hc
  have e2 := g.ech' (Nat.le_refl N)
  have e1N : Ech N N r.piv.length (pivN r) (fun t c => gt (rowL r.rows t) c) := { e1 with nN := Nat.le_refl N, pz := fun t ht => by have := e1.pz t ht; omega }
  have k1 := h.ker' hz
  have k2 := g.ker'
  obtain ⟨q1, q2⟩ := same_asc e2.asc e1.asc
    (fun t ht => e2.sub e1N (fun w _ hw => (k2 w).mp ((k1 w).mpr hw)) ht (e2.pz t ht))
    (fun t ht => e1N.sub e2 (fun w _ hw => (k1 w).mp ((k2 w).mpr hw)) ht (e1N.pz t ht))
  refine ⟨list_gt q1 fun t ht => ?_, q2, fun t ht f hf => ?_⟩
  · rw [g.pe t ht, q2 t ht, h.pivN_eq (by omega)]
  · have := e2.prop (C := fun t c => gt (rowL r.rows t) c) (fun a b ha hb e => by rw [q2 a ha]; exact e1.self a b (by omega) (by omega) e) (fun w _ hw t ht => (k1 w).mp ((k2 w).mpr hw) t (by omega)) ht hf
    rw [this, q2 t ht]
    have h3 := h.self t t (by omega) (by omega)
    rw [if_pos rfl] at h3
    rw [h3]
/-- Where a row behind the pivots is not 0 in the last column, that column is a pivot of the answers'. -/
theorem red_last {R cols : Nat} {A0 A : Nat → Nat → Int} {p : Nat → Nat} {r : Rd} {s : Rs} (h : RFin R (cols + 1) cols A0 r) (g : RBar R (cols + 1) (cols + 1) A0 A p s) {x : Nat} (hx : r.piv.length ≤ x) (hxR : x < R) (hnz : gt (rowL r.rows x) cols ≠ 0) : (cols : Int) ∈ s.piv := by
  have e2 := g.ech' (Nat.le_refl (cols + 1))
  by_cases e : ∃ t, t < s.piv.length ∧ p t = cols
  · obtain ⟨t, ht, e3⟩ := e
    exact mem_gt.mpr ⟨t, ht, by rw [g.pe t ht, e3]⟩
  · obtain ⟨w, h1, _, _, _, h5⟩ := e2.vec (f := cols) (by omega) fun t ht e3 => e ⟨t, ht, e3⟩
    have z := (h.ker w).mp ((g.ker' w).mpr h5) x hxR
    rw [sumOne (s := cols) (cols + 1) (by omega) fun c hc e3 => by rw [h.low x hx hxR c (by omega), Int.zero_mul]] at z
    rcases Int.mul_eq_zero.mp z with e3 | e3
    · exact absurd e3 hnz
    · exact absurd e3 h1
/-- Where nothing is left, the last column is no pivot of the answers'. -/
theorem red_free {R N cols : Nat} {A0 A : Nat → Nat → Int} {p : Nat → Nat} {r : Rd} {s : Rs} (h : RFin R N cols A0 r) (hc : cols ≤ N) (g : RBar R N N A0 A p s) (hz : ∀ x, r.piv.length ≤ x → x < R → ∀ c, c < N → gt (rowL r.rows x) c = 0) : (cols : Int) ∉ s.piv := by
  rw [(red_agree h hc g hz).1]
  intro e
  obtain ⟨t, ht, e2⟩ := mem_gt.mp e
  have := h.pz t ht
  omega
end Go.Proofs.Ytfkmlonhhdcfpaa
/- The answers' kernel vectors are the program's. Plain words. Speaks of no program. -/
namespace Go.Proofs.Ytfkmlonhhdcfpaa
open Go.RowKit

theorem gcdTo_scale {v w : List Int} {a b : Nat} : ∀ n, (∀ c, c < n → (a : Int) * gt v c = (b : Int) * gt w c) → a * gcdTo v n = b * gcdTo w n
  | 0, _ => by simp [gcdTo]
  | n + 1, h => by
    have h1 := gcdTo_scale n fun c hc => h c (by omega)
    have h2 := congrArg Int.natAbs (h n (by omega))
    rw [Int.natAbs_mul, Int.natAbs_mul, Int.natAbs_natCast, Int.natAbs_natCast] at h2
    show a * Nat.gcd (gcdTo v n) (gt v n).natAbs = b * Nat.gcd (gcdTo w n) (gt w n).natAbs
    rw [← Nat.gcd_mul_left, ← Nat.gcd_mul_left, h1, h2]
/-- Lists that are multiples of each other have one primitive list. -/
theorem primR_prop {v w : List Int} {a b : Nat} (hl : v.length = w.length) (ha : 0 < a) (hb : 0 < b) (h : ∀ c, c < v.length → (a : Int) * gt v c = (b : Int) * gt w c) : primR v = primR w := by
  have hg := gcdTo_scale v.length h
  have hg : a * gcdL v = b * gcdL w := by rw [gcdL, gcdL, ← hl]; exact hg
  refine list_gt (by rw [primR_len, primR_len, hl]) fun c hc => ?_
  rw [primR_len] at hc
  have e1 := gt_primR hc
  have e2 := gt_primR (q := w) (c := c) (by omega)
  have e := h c hc
  by_cases h0 : gcdL v = 0
  · have h0' : gcdL w = 0 := by
      rw [h0, Nat.mul_zero] at hg
      rcases Nat.mul_eq_zero.mp hg.symm with e | e
      · omega
      · exact e
    rw [gt_primR0 hc (gcdTo_zero _ h0 c hc), gt_primR0 (q := w) (by omega) (gcdTo_zero _ h0' c (by omega))]
  · have h0' : gcdL w ≠ 0 := by
      intro e
      rw [e, Nat.mul_zero] at hg
      rcases Nat.mul_eq_zero.mp hg with e | e <;> omega
    rw [show max (gcdL v) 1 = gcdL v by omega] at e1
    rw [show max (gcdL w) 1 = gcdL w by omega] at e2
    rw [e1, e2, ← Int.mul_assoc, ← Int.mul_assoc, ← Int.natCast_mul, ← Int.natCast_mul, hg] at e
    refine Int.eq_of_mul_eq_mul_left ?_ e
    have : b * gcdL w ≠ 0 := Nat.mul_ne_zero (by omega) h0'
    omega
theorem primR_short {v : List Int} (h : gcdL v ≠ 0) : primR v = shortL v := by
  unfold primR shortL
  rw [show max (gcdL v) 1 = gcdL v by omega]
/-- The pivot of row t, and the least common multiple of the first t of them. -/
def pvR (s : Rs) (t : Nat) : Int := gt (rowL s.done t) (gt s.piv t).toNat
def lcTo (s : Rs) : Nat → Int
  | 0 => 1
  | t + 1 => IntKind.i64.wrap ((lcTo s t).tdiv ((Nat.gcd (lcTo s t).natAbs (pvR s t).natAbs : Nat) : Int) * pvR s t)
def rkV (s : Rs) (all : Int) (f t : Nat) : Int := IntKind.i64.wrap (IntKind.i64.wrap (-gt (rowL s.done t) f) * all.tdiv (pvR s t))
def rkTo (n : Nat) (s : Rs) (all : Int) (f : Nat) : Nat → List Int
  | 0 => (List.replicate n 0).set f all
  | t + 1 => (rkTo n s all f t).set (gt s.piv t).toNat (rkV s all f t)
theorem rkTo_len (n : Nat) (s : Rs) (all : Int) (f : Nat) : ∀ t, (rkTo n s all f t).length = n
  | 0 => by simp [rkTo]
  | t + 1 => by unfold rkTo; rw [List.length_set]; exact rkTo_len n s all f t
theorem lc_step {L d D : Nat} (hL : 0 < L) (hd : 0 < d) (h1 : L ∣ D) (h2 : d ∣ D) (hD : 0 < D ∧ D ≤ 720) : IntKind.i64.wrap ((L : Int).tdiv ((Nat.gcd L d : Nat) : Int) * (d : Int)) = ((Nat.lcm L d : Nat) : Int) ∧ 0 < Nat.lcm L d ∧ Nat.lcm L d ∣ D := by
  have h3 : Nat.lcm L d ∣ D := Nat.lcm_dvd h1 h2
  have h4 : 0 < Nat.lcm L d := Nat.lcm_pos hL hd
  have h5 := Nat.le_of_dvd hD.1 h3
  have e : (L : Int).tdiv ((Nat.gcd L d : Nat) : Int) * (d : Int) = ((Nat.lcm L d : Nat) : Int) := by
    have e1 : (L : Int).tdiv ((Nat.gcd L d : Nat) : Int) = ((L / Nat.gcd L d : Nat) : Int) := by rw [Int.ofNat_tdiv]
    rw [e1, ← Int.natCast_mul]
    congr 1
    unfold Nat.lcm
    exact (Nat.div_mul_right_comm (Nat.gcd_dvd_left L d) d).symm |> fun x => by omega
  exact ⟨by rw [e, wrap_id (by omega) (by omega)], h4, h3⟩
theorem RBar.pv {R N D : Nat} {A0 A : Nat → Nat → Int} {p : Nat → Nat} {s : Rs} (h : RBar R N D A0 A p s) {t : Nat} (ht : t < s.piv.length) : pvR s t = gt (rowL s.done t) (p t) := by unfold pvR; rw [h.pe t ht]; rfl
theorem RBar.dt_bd {R N : Nat} {A0 A : Nat → Nat → Int} {p : Nat → Nat} {s : Rs} (h : RBar R N N A0 A p s) (hR : R ≤ 6) (hb : ∀ i, i < R → ∀ c, c < N → -1 ≤ A0 i c ∧ A0 i c ≤ 1) (hk : 0 < s.piv.length) : (dt A p s.piv.length).natAbs ≤ 720 ∧ ∀ t, t < s.piv.length → pvR s t ∣ dt A p s.piv.length := by
  have hl := h.ll
  have hA : ∀ x, x < R → ∀ c, c < N → -1 ≤ A x c ∧ A x c ≤ 1 := fun x hx c hc => arr_bd h.arr (fun i hi => hb i hi c hc) x hx
  constructor
  · have := mk_bd6 (A := A) (p := p) (k := s.piv.length) (x := 0) (c := p 0) (R := R) (Y := 1) (by decide) (by omega) hR (by omega) (fun i hi t ht => hA i hi _ (h.pz t ht)) (fun i hi => hA i hi _ (h.pz 0 hk))
    rw [mk_self h.uq hk hk, if_pos rfl] at this
    omega
  · intro t ht
    obtain ⟨g, hg, hm⟩ := h.vd t ht
    have := hm (p t) (h.pz t ht)
    rw [mk_self h.uq ht ht, if_pos rfl] at this
    rw [h.pv ht]
    exact ⟨g, by rw [this, Int.mul_comm]⟩
theorem RBar.lc {R N : Nat} {A0 A : Nat → Nat → Int} {p : Nat → Nat} {s : Rs} (h : RBar R N N A0 A p s) (hR : R ≤ 6) (hb : ∀ i, i < R → ∀ c, c < N → -1 ≤ A0 i c ∧ A0 i c ≤ 1) : ∀ t, t ≤ s.piv.length → ∃ L : Nat, lcTo s t = (L : Int) ∧ 0 < L ∧ L ≤ 720 ∧ (0 < s.piv.length → L ∣ (dt A p s.piv.length).natAbs) ∧ ∀ i, i < t → pvR s i ∣ lcTo s t
  | 0, _ => ⟨1, rfl, by decide, by decide, fun _ => Nat.one_dvd _, fun i hi => absurd hi (by omega)⟩
  | t + 1, ht => by
    obtain ⟨L, e, h1, h2, h3, h4⟩ := RBar.lc h hR hb t (by omega)
    obtain ⟨b1, b2⟩ := h.dt_bd hR hb (by omega)
    have hpos := h.pos t (by omega)
    rw [← h.pv (by omega)] at hpos
    obtain ⟨d, hd⟩ : ∃ d : Nat, pvR s t = (d : Int) := ⟨(pvR s t).natAbs, by omega⟩
    have b3 := b2 t (by omega)
    rw [hd] at b3 hpos
    have b4 : d ∣ (dt A p s.piv.length).natAbs := Int.ofNat_dvd_left.mp b3
    have hD : 0 < (dt A p s.piv.length).natAbs := by have := h.dn; omega
    obtain ⟨c1, c2, c3⟩ := lc_step h1 (by omega) (h3 (by omega)) b4 ⟨hD, b1⟩
    have ee : lcTo s (t + 1) = ((Nat.lcm L d : Nat) : Int) := by
      rw [← c1]
      show IntKind.i64.wrap ((lcTo s t).tdiv ((Nat.gcd (lcTo s t).natAbs (pvR s t).natAbs : Nat) : Int) * pvR s t) = _
      rw [e, hd, Int.natAbs_natCast, Int.natAbs_natCast]
    refine ⟨Nat.lcm L d, ee, c2, by have := Nat.le_of_dvd hD c3; omega, fun _ => c3, fun i hi => ?_⟩
    rw [ee]
    by_cases e2 : i = t
    · rw [e2, hd]; exact Int.natCast_dvd_natCast.mpr (Nat.dvd_lcm_right _ _)
    · have := h4 i (by omega)
      rw [e] at this
      exact Int.dvd_trans this (Int.natCast_dvd_natCast.mpr (Nat.dvd_lcm_left _ _))
end Go.Proofs.Ytfkmlonhhdcfpaa
