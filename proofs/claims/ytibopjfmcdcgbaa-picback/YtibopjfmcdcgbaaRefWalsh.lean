/- The answers' Walsh: odd, walsh by its sums, Walsh: contracts; one element appended. -/
import Derived.Test.YtibopjfmcdcgbaaSum
import Derived.Test.YtibopjfmcdcgbaaLong
namespace Go.Proofs.Ytibopjfmcdcgbaa
open Go.RowKit

theorem OwnI.nil (w : World) (base : Nat) : OwnI w base (.slice none 0 0) [] := World.ownsRow_nil _ _ _ _
/-- One int appended to a slice of the call's own. -/
theorem wpList_push {ops : Array Oper} {rest : List Oper} {o : Oper} {a : Act} {Q : Exit → Act → World → Prop} (hgd : o.guard = none) (s x : Operand)
    (ho : o.op = .call { callee := .builtin .append, args := #[s, x], argTypes := #[22, 22] }) (base : Nat) (v : Value) (zs : List Int) (y : Int) (V : World) (B : Nat) (t : TypeId)
    (hs : a.eval s = v) (hx : a.eval x = .slice (some ⟨B, 0, none⟩) 1 1) (hB : B = V.heap.size) (hown : OwnI V base v zs) (hl : zs.length ≤ 100000) (hbase : base ≤ V.heap.size)
    (h : ∀ v' w', OwnI w' base v' (zs ++ [y]) → Below base V w' → wpList Try.prog ops Q rest (a.put o.dst v') w') : wpList Try.prog ops Q (o :: rest) a (V.alloc (.cells #[.int .i64 y] t)) := by
  obtain ⟨i0, hi, hz0, hz1, hz2⟩ := info_parts Try.infoInt
  subst hB
  refine wpList_append_own (V.alloc (.cells #[.int .i64 y] t)) hgd s x 22 ho base 3 i0 (.int .i64 0) 1 8 Try.underlying22 hi hz0 hz1 hz2 rfl (by decide) v zs.length (zs.map (Value.int .i64)) hs (hown.alloc _) ⟨V.heap.size, 0, none⟩ 1 1 [.int .i64 y] hx rfl ?_ ?_ (by unfold maxLen; omega) (by omega) (by rw [World.size_alloc]; omega) ?_
  · intro j u hj
    match j, hj with
    | 0, hj =>
      simp at hj; subst hj
      rw [addr_add]
      exact alloc_cell V #[.int .i64 y] t 0 _ rfl
    | j + 1, hj => simp at hj
  · intro u hu; simp at hu; subst hu; rfl
  · intro v' w' h1 h2 h3
    refine h v' w' ?_ ?_
    · simpa [OwnI] using h1
    · exact ((Below.refl base V).alloc hbase _).grown h2 (by rw [World.size_alloc]; omega) (fun k e => (World.ownsRow.lt hown k e).1)

theorem odd_any (i j : Nat) (hi : i < 256) (hj : j < 256) (w : World) : Calls Try.prog 87 #[.int .i64 i, .int .i64 j] w fun e w' => e = .returned (.bool (par (i &&& j))) ∧ w = w' := by
  have hb := i64_and i j (by omega) (by omega)
  have hlt : i &&& j < 256 := Nat.lt_of_le_of_lt Nat.and_le_left hi
  obtain ⟨m, hm⟩ : ∃ m, m = i &&& j := ⟨_, rfl⟩
  rw [← hm] at hb hlt
  have HM := Lib.hid hm; clear hm
  go_enter Try.func87, Try.ntmps87
  go_wp2_with (go_at_call 76; refine (ones_any m (by omega) _).mono ?_; rintro e w' ⟨rfl, rfl⟩)
  go_ret
  exact ⟨ret_bool (by rw [← HM.out]; rfl), rfl⟩

/-- The first k sums. -/
def sums (xs : List Int) (k : Nat) : List Int := (List.range k).map (fun i => wsum xs i xs.length)
theorem sums_succ (xs : List Int) (k : Nat) : sums xs (k + 1) = sums xs k ++ [wsum xs k xs.length] := by simp [sums, List.range_succ]
theorem sums_length (xs : List Int) (k : Nat) : (sums xs k).length = k := by simp [sums]
set_option maxRecDepth 100000 in
theorem rwalsh_any (a : Option Addr) (xs : List Int) (cap : Nat) (w : World) (hl : xs.length ≤ 256) (M : Int) (hM0 : 0 ≤ M) (hM : M ≤ 256000000) (hall : allB M xs = true) (hs : Sl w a xs) :
    Calls Try.prog 69 #[.slice a xs.length cap] w fun e w' => ∃ v, e = .returned v ∧ OwnI w' w.heap.size v (sums xs xs.length) ∧ Below w.heap.size w w' := by
  have HS := Lib.hid hs; clear hs
  have HA := Lib.hid hall; clear hall
  go_enter Try.func69, Try.ntmps69
  go_wp2
  go_loopw [3, 10] (fun v i wr => ∃ k : Nat, k ≤ xs.length ∧ i = .int .i64 k ∧ OwnI wr w.heap.size v (sums xs k) ∧ Below w.heap.size w wr) (fun _ i _ => xs.length - (intOf i).toNat)
  case atStart => exact ⟨0, Nat.zero_le _, rfl, OwnI.nil _ _, Below.refl _ _⟩
  case round =>
    obtain ⟨k, hk, rfl, hO, hB⟩ := hrel
    have HO := Lib.hid hO; clear hO
    have HB := Lib.hid hB; clear hB
    by_cases hlt : k < xs.length
    · go_wp2
      go_loop [5, 15] (fun s j => ∃ l : Nat, l ≤ xs.length ∧ j = .int .i64 l ∧ s = .int .i64 (wsum xs k l)) (fun _ j => xs.length - (intOf j).toNat)
      case atStart => exact ⟨0, Nat.zero_le _, rfl, rfl⟩
      case round =>
        obtain ⟨l, hlx, rfl, rfl⟩ := hrel
        have WB := Lib.hid (wsum_bound hM0 HA.out k l hlx)
        by_cases hlt2 : l < xs.length
        · obtain ⟨b, off, x, rfl, hcell, HX⟩ := (HS.out.below HB.out).at hlt2
          have hxb := allB_get HA.out HX.out
          obtain ⟨hx1, hx2⟩ := hxb
          obtain ⟨b1, b2⟩ := WB.out
          have hc : (l : Int) * M ≤ 256 * 256000000 := by
            have e1 : (l : Int) * M ≤ 256 * M := Int.mul_le_mul_of_nonneg_right (by omega) hM0
            omega
          obtain ⟨S, hSS⟩ : ∃ S, S = wsum xs k l := ⟨_, rfl⟩
          rw [← hSS] at b1 b2 ⊢
          have c1 : -65536000000 ≤ S := by omega
          have c2 : S ≤ 65536000000 := by omega
          have HSS := Lib.hid (show wsum xs k (l + 1) = S + sg k l x by
            rw [hSS]; show wsum xs k l + sg k l (gt xs l) = _
            unfold gt; rw [HX.out]; rfl)
          clear hSS b1 b2 hc WB
          cases hp : par (k &&& l)
          · have HP := Lib.hid hp; clear hp
            go_wp2_with (go_at_call 87; refine (odd_any k l (by omega) (by omega) _).mono ?_; rintro e w' ⟨rfl, rfl⟩; rw [HP.out])
            go_round
            case rel => exact ⟨l + 1, by omega, by go_num, by rw [HSS.out]; unfold sg; rw [HP.out]; rfl⟩
            case measure => simp [intOf]; omega
          · have HP := Lib.hid hp; clear hp
            go_wp2_with (go_at_call 87; refine (odd_any k l (by omega) (by omega) _).mono ?_; rintro e w' ⟨rfl, rfl⟩; rw [HP.out])
            go_round
            case rel => exact ⟨l + 1, by omega, by go_num, by rw [HSS.out]; unfold sg; rw [HP.out]; rfl⟩
            case measure => simp [intOf]; omega
        · obtain rfl : l = xs.length := by omega
          go_wp2_with (at_builtin; go_must (refine wpList_push rfl (.tmp 29) (.tmp 31) rfl w.heap.size _ (sums xs k) (wsum xs k xs.length) _ _ _ rfl rfl rfl HO.out (by rw [sums_length]; omega) HB.out.size ?_); intro v' w1 ho' hb')
          go_roundw
          case rel => exact ⟨k + 1, by omega, by go_num, by rw [sums_succ]; exact ho', HB.out.trans hb'⟩
          case measure => simp [intOf]; omega
    · obtain rfl : k = xs.length := by omega
      go_wp2
      go_ret
      exact ⟨_, rfl, HO.out, HB.out⟩
end Go.Proofs.Ytibopjfmcdcgbaa
