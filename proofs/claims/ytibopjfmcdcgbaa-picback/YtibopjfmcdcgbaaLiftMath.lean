/- Lifting and its undoing as functions of indexes; what the answers' loops keep; plain facts, half, a slice copied by append. -/
import Derived.Test.YtibopjfmcdcgbaaJoin
import Derived.Test.YtibopjfmcdcgbaaUnw
namespace Go.Proofs.Ytibopjfmcdcgbaa
open Go.RowKit

def spA (ys : List Int) (k : Nat) : Int := IntKind.i64.wrap (gt ys (2 * k) + gt ys (2 * k + 1)) / 2
def spB (ys : List Int) (k : Nat) : Int := IntKind.i64.wrap (gt ys (2 * k) - gt ys (2 * k + 1))
def jnB (ys : List Int) (m k : Nat) : Int := IntKind.i64.wrap (gt ys k - gt ys (m + k) / 2)
def jnA (ys : List Int) (m k : Nat) : Int := IntKind.i64.wrap (jnB ys m k + gt ys (m + k))
/-- zs is ys behind the first k pairs of a lift. -/
structure SpK (m : Nat) (ys : List Int) (k : Nat) (zs : List Int) : Prop where
  len : zs.length = ys.length
  a : ∀ j, j < k → gt zs j = spA ys j
  b : ∀ j, j < k → gt zs (m + j) = spB ys j
  rest : ∀ j, (k ≤ j ∧ j < m ∨ m + k ≤ j) → gt zs j = gt ys j
structure JnK (m : Nat) (ys : List Int) (k : Nat) (zs : List Int) : Prop where
  len : zs.length = ys.length
  a : ∀ j, j < k → gt zs (2 * j) = jnA ys m j ∧ gt zs (2 * j + 1) = jnB ys m j
  rest : ∀ j, 2 * k ≤ j → gt zs j = gt ys j
theorem SpK.start (m : Nat) (ys : List Int) : SpK m ys 0 ys := ⟨rfl, fun j h => absurd h (by omega), fun j h => absurd h (by omega), fun _ _ => rfl⟩
theorem JnK.start (m : Nat) (ys : List Int) : JnK m ys 0 ys := ⟨rfl, fun j h => absurd h (by omega), fun _ _ => rfl⟩
theorem SpK.next {m k : Nat} {ys zs : List Int} (h : SpK m ys k zs) (hk : k < m) (hm : 2 * m ≤ ys.length) {x y : Int} (hx : x = spA ys k) (hy : y = spB ys k) : SpK m ys (k + 1) ((zs.set k x).set (m + k) y) := by
  have l1 : k < zs.length := by rw [h.len]; omega
  have l2 : m + k < (zs.set k x).length := by rw [List.length_set, h.len]; omega
  refine ⟨by rw [List.length_set, List.length_set]; exact h.len, fun j hj => ?_, fun j hj => ?_, fun j hj => ?_⟩
  · rw [gt_set l2, gt_set l1, if_neg (by omega)]
    by_cases e : j = k
    · subst e; rw [if_pos rfl, hx]
    · rw [if_neg e]; exact h.a j (by omega)
  · rw [gt_set l2, gt_set l1]
    by_cases e : j = k
    · subst e; rw [if_pos rfl, hy]
    · rw [if_neg (by omega), if_neg (by omega)]; exact h.b j (by omega)
  · rw [gt_set l2, gt_set l1, if_neg (by omega), if_neg (by omega)]; exact h.rest j (by omega)
theorem JnK.next {m k : Nat} {ys zs : List Int} (h : JnK m ys k zs) (hk : k < m) (hm : 2 * m ≤ ys.length) {x y : Int} (hx : x = jnB ys m k) (hy : y = jnA ys m k) : JnK m ys (k + 1) ((zs.set (2 * k + 1) x).set (2 * k) y) := by
  have l1 : 2 * k + 1 < zs.length := by rw [h.len]; omega
  have l2 : 2 * k < (zs.set (2 * k + 1) x).length := by rw [List.length_set, h.len]; omega
  refine ⟨by rw [List.length_set, List.length_set]; exact h.len, fun j hj => ⟨?_, ?_⟩, fun j hj => ?_⟩
  · rw [gt_set l2, gt_set l1]
    by_cases e : j = k
    · subst e; rw [if_pos rfl, hy]
    · rw [if_neg (by omega), if_neg (by omega)]; exact (h.a j (by omega)).1
  · rw [gt_set l2, gt_set l1, if_neg (by omega)]
    by_cases e : j = k
    · subst e; rw [if_pos rfl, hx]
    · rw [if_neg (by omega)]; exact (h.a j (by omega)).2
  · rw [gt_set l2, gt_set l1, if_neg (by omega), if_neg (by omega)]; exact h.rest j (by omega)
theorem SpK.uniq {m : Nat} {ys zs zs' : List Int} (h : SpK m ys m zs) (h' : SpK m ys m zs') : zs = zs' := by
  refine list_ext_gt (by rw [h.len, h'.len]) fun j _ => ?_
  rcases Nat.lt_or_ge j m with h1 | h1
  · rw [h.a j h1, h'.a j h1]
  · rcases Nat.lt_or_ge j (2 * m) with h2 | h2
    · obtain ⟨i, rfl⟩ : ∃ i, j = m + i := ⟨j - m, by omega⟩
      rw [h.b i (by omega), h'.b i (by omega)]
    · rw [h.rest j (by omega), h'.rest j (by omega)]
theorem JnK.uniq {m : Nat} {ys zs zs' : List Int} (h : JnK m ys m zs) (h' : JnK m ys m zs') : zs = zs' := by
  refine list_ext_gt (by rw [h.len, h'.len]) fun j _ => ?_
  rcases Nat.lt_or_ge j (2 * m) with h1 | h1
  · rcases Nat.mod_two_eq_zero_or_one j with e | e
    · obtain ⟨i, rfl⟩ : ∃ i, j = 2 * i := ⟨j / 2, by omega⟩
      rw [(h.a i (by omega)).1, (h'.a i (by omega)).1]
    · obtain ⟨i, rfl⟩ : ∃ i, j = 2 * i + 1 := ⟨j / 2, by omega⟩
      rw [(h.a i (by omega)).2, (h'.a i (by omega)).2]
  · rw [h.rest j h1, h'.rest j h1]
theorem gt_take {ys : List Int} {n j : Nat} (h : j < n) : (ys.take n)[j]?.getD 0 = gt ys j := by unfold gt; simp [h]
theorem even_pair {m i : Nat} (hm : m ≤ 128) (hi : 2 * i < 2 * m) : ∃ q, pairAt (2 * m) 1 (2 * i) = some q ∧ q.1 = (2 * i, 2 * i + 1) := by
  have h0 : 2 * i &&& 1 = 0 := by rw [Nat.and_one_is_mod]; omega
  obtain ⟨h1, h2⟩ := or_one (2 * i) (by omega) h0
  unfold pairAt
  rw [dif_pos ⟨h0, h1, by omega⟩]
  exact ⟨_, rfl, by rw [← h2]⟩
theorem odd_pair {m i : Nat} : pairAt (2 * m) 1 (2 * i + 1) = none := by
  unfold pairAt
  rw [dif_neg]
  rintro ⟨h0, _⟩
  rw [Nat.and_one_is_mod] at h0; omega
theorem two_pairs {m i : Nat} (hm : m ≤ 128) (hi : i < m) : ∃ q : PN (2 * m), pairsTo (2 * m) 1 (2 * (i + 1)) = pairsTo (2 * m) 1 (2 * i) ++ [q] ∧ q.1 = (2 * i, 2 * i + 1) := by
  obtain ⟨q, hq, h1⟩ := even_pair hm (show 2 * i < 2 * m by omega)
  refine ⟨q, ?_, h1⟩
  show pairsTo (2 * m) 1 (2 * i + 1 + 1) = _
  rw [pairsTo_succ, odd_pair, pairsTo_succ, hq]; simp
theorem split_is {m : Nat} {ys : List Int} (hm : m ≤ 128) (hy : 2 * m ≤ ys.length) : SpK m ys m (splitL m ys) := by
  have : ∀ i, i ≤ m → SpK m ys i (splits (ys.take (2 * m)) m ys (pairsTo (2 * m) 1 (2 * i))) := by
    intro i
    induction i with
    | zero => intro _; simpa [pairsTo, splits] using SpK.start m ys
    | succ i ih =>
      intro hi
      obtain ⟨q, hq, h1⟩ := two_pairs hm (show i < m by omega)
      rw [hq, splits_snoc]
      unfold splitP
      rw [h1]
      dsimp only
      rw [gt_take (by omega), gt_take (by omega), show 2 * i / 2 = i by omega]
      exact (ih (by omega)).next (by omega) hy rfl rfl
  exact this m (Nat.le_refl _)
theorem join_is {m : Nat} {ys : List Int} (hm : m ≤ 128) (hy : 2 * m ≤ ys.length) : JnK m ys m (joinL m ys) := by
  have : ∀ i, i ≤ m → JnK m ys i (joins (ys.take (2 * m)) m ys (pairsTo (2 * m) 1 (2 * i))) := by
    intro i
    induction i with
    | zero => intro _; simpa [pairsTo, joins] using JnK.start m ys
    | succ i ih =>
      intro hi
      obtain ⟨q, hq, h1⟩ := two_pairs hm (show i < m by omega)
      rw [hq, joins_snoc]
      unfold joinP
      rw [h1]
      dsimp only
      rw [show 2 * i / 2 = i by omega, gt_take (by omega), gt_take (by omega)]
      exact (ih (by omega)).next (by omega) hy rfl rfl
  exact this m (Nat.le_refl _)

theorem half_any (n : Int) (w : World) : Calls Try.prog 72 #[.int .i64 n] w fun e w' => e = .returned (.int .i64 (n / 2)) ∧ w = w' := by
  go_enter Try.func72, Try.ntmps72
  go_wp2
  go_ret
  exact ⟨ret_i64 (by simp), rfl⟩

/-- append([]int{}, l...): a copy in the call's own memory. -/
theorem wpList_copied {ops : Array Oper} {rest : List Oper} {o : Oper} {a : Act} {Q : Exit → Act → World → Prop} (s x : Operand) (base : Nat) (V : World) (B b off n cap : Nat) (xs : List Int)
    (hgd : o.guard = none) (ho : o.op = .call { callee := .builtin .append, args := #[s, x], argTypes := #[22, 22] })
    (hs : a.eval s = .slice (some ⟨B, 0, none⟩) 0 0) (hx : a.eval x = .slice (some ⟨b, off, none⟩) n cap) (hB : B = V.heap.size) (hn : n = xs.length) (hsl : Sl V (some ⟨b, off, none⟩) xs) (hl : xs.length ≤ 100000) (hbase : base ≤ V.heap.size)
    (h : ∀ v' w', OwnI w' base v' xs → Below base V w' → wpList Try.prog ops Q rest (a.put o.dst v') w') : wpList Try.prog ops Q (o :: rest) a (V.alloc (.cells #[] 3)) := by
  obtain ⟨i0, hi, hz0, hz1, hz2⟩ := info_parts Try.infoInt
  subst hB hn
  have hown := World.ownsRow_lit (base := base) (e := 3) (size := 1) V #[] 0 hbase (by unfold maxLen; omega) rfl
  refine wpList_append_own (V.alloc (.cells #[] 3)) hgd s x 22 ho base 3 i0 (.int .i64 0) 1 8 Try.underlying22 hi hz0 hz1 hz2 rfl (by decide) _ 0 [] hs hown ⟨b, off, none⟩ xs.length cap (xs.map (Value.int .i64)) hx (by simp) (hsl.alloc _).news (map_oneCell xs) (by unfold maxLen; omega) (by omega) (by rw [World.size_alloc]; omega) ?_
  intro v' w' h1 h2 h3
  refine h v' w' ?_ ?_
  · simpa [OwnI] using h1
  · exact ((Below.refl base V).alloc hbase _).grown h2 (by rw [World.size_alloc]; omega) (fun k e => (World.ownsRow.lt hown k e).1)
end Go.Proofs.Ytibopjfmcdcgbaa
