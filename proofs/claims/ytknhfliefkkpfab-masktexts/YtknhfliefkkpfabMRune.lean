
/- strings.IndexRune of the three signs at a rune that is no ASCII character: contract. -/
import Derived.Laws.Runes
import Derived.Lib.OthersKept
import Derived.Test.YtknhfliefkkpfabShelf
import Derived.Test.YtknhfliefkkpfabOwnW
import Derived.BigQuiet
import Derived.Deep.QuietTactic
namespace Go.Proofs.Ytknhfliefkkpfab
open Go.RowKit

def signs : ByteArray := ⟨#[45, 46, 43]⟩
set_option maxRecDepth 100000 in
set_option maxHeartbeats 1000000 in
theorem indexRune_bad (w : World) : Calls Try.prog 102 #[.string ⟨#[45, 46, 43]⟩, .int .i32 65533] w fun e w' => e = .returned (.int .i64 (-1)) ∧ Below w.heap.size w w' := by
  go_enter Try.func102, Try.ntmps102
  go_wp2
  go_loopw [] (fun wr => ∃ pos : Nat, pos ≤ 3 ∧ wr.heap[w.heap.size]? = some (.stringIter ⟨#[45, 46, 43]⟩ pos) ∧ Below w.heap.size w wr) (fun wr => 3 - wr.iterPos w.heap.size)
  case atStart =>
    exact ⟨0, by omega, World.iter_heap w _ 0, (Below.refl _ _).alloc (Nat.le_refl _) _⟩
  case round =>
    obtain ⟨pos, hp, hit, hB⟩ := hrel
    have HB := Lib.hid hB; clear hB
    have HIT := Lib.hid hit
    by_cases hlt : pos < 3
    · have hc : pos = 0 ∨ pos = 1 ∨ pos = 2 := by omega
      have hsz : pos < (⟨#[45, 46, 43]⟩ : ByteArray).size := hlt
      rcases hc with rfl | rfl | rfl
      all_goals
        have hnx : ∀ ty, (Instr.next (.pointer (some ⟨w.heap.size, 0, none⟩)) true ty).run Try.prog wr = _ := fun ty => Lib.run_next_ascii_at wr w.heap.size ⟨#[45, 46, 43]⟩ _ ty HIT.out hsz (by decide +revert)
        clear hit
        go_wp2
        go_roundw
        case rel => exact ⟨_, hsz, Lib.iterAt_heap _ _ _ _ _ HIT.out, Lib.below_iterAt HB.out (Nat.le_refl _) _ _⟩
        case measure =>
          simp only [World.iterPos, Lib.iterAt_heap _ _ _ _ _ HIT.out, HIT.out]
          omega
    · have hnx : ∀ ty, (Instr.next (.pointer (some ⟨w.heap.size, 0, none⟩)) true ty).run Try.prog wr = _ := fun ty => Lib.run_next_end_at wr w.heap.size ⟨#[45, 46, 43]⟩ pos ty HIT.out (by show ¬ pos < 3; omega)
      clear hit
      go_wp2
      go_ret
      exact ⟨rfl, HB.out⟩

/-- The bytes of a rune that is no ASCII character: two to four, the last one no ASCII character. -/
theorem encode_cases (r : Int) (hv : Utf8.valid r = true) (h1 : 128 ≤ r) :
    (∃ a b, Utf8.encode r = ⟨#[a, b]⟩ ∧ 128 ≤ b.toNat) ∨ (∃ a b c, Utf8.encode r = ⟨#[a, b, c]⟩ ∧ 128 ≤ c.toNat) ∨ (∃ a b c d, Utf8.encode r = ⟨#[a, b, c, d]⟩ ∧ 128 ≤ d.toNat) := by
  obtain ⟨f1, f2, f3⟩ := encode_facts r hv h1
  generalize Utf8.encode r = E at *
  obtain ⟨⟨l⟩⟩ := E
  match l, f1, f2, f3 with
  | [], f1, _, _ => exact absurd f1 (by decide)
  | [a], f1, _, _ => exact absurd (show 2 ≤ 1 from f1) (by omega)
  | [a, b], _, _, f3 => exact .inl ⟨a, b, rfl, f3 (by show 1 < 2; omega)⟩
  | [a, b, c], _, _, f3 => exact .inr (.inl ⟨a, b, c, rfl, f3 (by show 2 < 3; omega)⟩)
  | [a, b, c, d], _, _, f3 => exact .inr (.inr ⟨a, b, c, d, rfl, f3 (by show 3 < 4; omega)⟩)
  | a :: b :: c :: d :: e :: l, _, f2, _ => exact absurd (show l.length + 1 + 1 + 1 + 1 + 1 ≤ 4 from f2) (by omega)
theorem not_sign {b : UInt8} (h : 128 ≤ b.toNat) (k : Int) (hk : k < 128) : (k == (b.toNat : Int)) = false ∧ (k != (b.toNat : Int)) = true := by
  have : ¬ k = (b.toNat : Int) := by omega
  simp [this]
theorem quiet_same_add {P : Program} {f : FuncId} {args : Array Value} {w : World} {a n : Nat} {v : Value}
    (h : Calls P f args (w.drewN (a + n)) fun e w' => e = .returned v ∧ w' = w.drewN (a + n)) : Calls P f args (w.drewN (a + n)) fun e w'' => e = .returned v ∧ ∃ m, w'' = w.drewN (a + m) :=
  h.mono fun _ _ ⟨he, hm⟩ => ⟨he, n, hm⟩
theorem none_of (c : UInt8) (hc : 128 ≤ c.toNat) : ∀ l : List UInt8, (∀ b ∈ l, b.toNat < 128) → Lib.indexByte l c = -1
  | [], _ => rfl
  | b :: l, h => by
    have h1 := h b (List.mem_cons_self ..)
    have h2 := none_of c hc l (fun x hx => h x (List.mem_cons_of_mem _ hx))
    have hne : (b == c) = false := by
      cases hb : (b == c)
      · rfl
      · have : b = c := by simpa using hb
        rw [this] at h1; omega
    unfold Lib.indexByte
    rw [hne, h2]; rfl
theorem idx_none (s : ByteArray) (b : UInt8) (hs : ∀ x ∈ s.data.toList, x.toNat < 128) (hb : 128 ≤ b.toNat) (w : World) :
    Calls Try.prog 66 #[.string s, .int .u8 (b.toNat : Int)] w fun e w' => e = .returned (.int .i64 (-1)) ∧ w' = w := by
  refine (Try.strings_IndexByte s _ w).mono ?_
  rintro e w' ⟨rfl, rfl⟩
  refine ⟨?_, rfl⟩
  rw [none_of _ (by simpa using hb) _ hs]
set_option maxRecDepth 100000 in
set_option maxHeartbeats 1000000 in
theorem indexRune_high (r : Int) (h1 : 128 ≤ r) (h2 : r ≤ 2147483647) (w : World) : Calls Try.prog 102 #[.string ⟨#[45, 46, 43]⟩, .int .i32 r] w fun e w' => e = .returned (.int .i64 (-1)) ∧ Below w.heap.size w w' := by
  by_cases hb : r = 65533
  · subst hb; exact indexRune_bad w
  · have e0 : (r == 65533) = false := by simpa using hb
    cases hv : Lib.validRune r
    · go_enter Try.func102, Try.ntmps102
      go_wp2_with (go_at_call 126; refine (Try.utf8_ValidRune r _).mono ?_; rintro e w' ⟨rfl, rfl⟩)
      go_ret
      exact ⟨rfl, Below.refl _ _⟩
    · have hvv : Utf8.valid r = true := (validRune_eq r).trans hv
      rcases encode_cases r hvv h1 with ⟨a, b, hE, hl⟩ | ⟨a, b, c, hE, hl⟩ | ⟨a, b, c, d, hE, hl⟩
      · go_enter Try.func102, Try.ntmps102
        go_wp2_with (go_at_call 126; refine (Try.utf8_ValidRune r _).mono ?_; rintro e w' ⟨rfl, rfl⟩)
        go_step3
        go_wp2
        obtain ⟨n0, n1⟩ := not_sign hl 46 (by omega)
        have n3 : ((((⟨#[45, 46, 43]⟩ : ByteArray)[1]'(by show 1 < 3; omega)).toNat : Int) != (((⟨#[a, b]⟩ : ByteArray)[1]'(by show 1 < 2; omega)).toNat : Int)) = true := n1
        have s1 : IntKind.i64.wrap (1 + 1) = 2 := by decide
        have s2 : IntKind.i64.wrap 2 = 2 := by decide
        go_loopw [9] (fun i wr => i = .int .i64 1 ∧ ∃ nd : Nat, wr = w'.drewN nd) (fun _ _ => 0)
        case atStart => exact ⟨rfl, 0, rfl⟩
        case round =>
          obtain ⟨rfl, nd, rfl⟩ := hrel
          go_wp2
          go_step3
          go_wp2
          go_quiet (fail)
          go_wp2
          go_quiet ((go_at_call 66; exact quiet_same_add (idx_none _ _ (by decide) hl _)))
          go_wp2
          simp +zetaDelta only [Exit.noGoto_ret, Exit.inBlock, Exit.then]
          go_ret
          exact ⟨rfl, below_drewN (Below.refl _ _) _⟩
      · go_enter Try.func102, Try.ntmps102
        go_wp2_with (go_at_call 126; refine (Try.utf8_ValidRune r _).mono ?_; rintro e w' ⟨rfl, rfl⟩)
        go_step3
        go_wp2
        obtain ⟨n0, n1⟩ := not_sign hl 43 (by omega)
        have n3 : ((((⟨#[45, 46, 43]⟩ : ByteArray)[2]'(by show 2 < 3; omega)).toNat : Int) != (((⟨#[a, b, c]⟩ : ByteArray)[2]'(by show 2 < 3; omega)).toNat : Int)) = true := n1
        have s1 : IntKind.i64.wrap (2 + 1) = 3 := by decide
        have s2 : IntKind.i64.wrap 3 = 3 := by decide
        go_loopw [9] (fun i wr => i = .int .i64 2 ∧ ∃ nd : Nat, wr = w'.drewN nd) (fun _ _ => 0)
        case atStart => exact ⟨rfl, 0, rfl⟩
        case round =>
          obtain ⟨rfl, nd, rfl⟩ := hrel
          go_wp2
          go_step3
          go_wp2
          go_quiet (fail)
          go_wp2
          go_quiet ((go_at_call 66; exact quiet_same_add (idx_none _ _ (by decide) hl _)))
          go_wp2
          simp +zetaDelta only [Exit.noGoto_ret, Exit.inBlock, Exit.then]
          go_ret
          exact ⟨rfl, below_drewN (Below.refl _ _) _⟩
      · go_enter Try.func102, Try.ntmps102
        go_wp2_with (go_at_call 126; refine (Try.utf8_ValidRune r _).mono ?_; rintro e w' ⟨rfl, rfl⟩)
        go_step3
        go_wp2
        go_loopw [9] (fun i wr => i = .int .i64 3 ∧ ∃ nd : Nat, wr = w'.drewN nd) (fun _ _ => 0)
        case atStart => exact ⟨rfl, 0, rfl⟩
        case round =>
          obtain ⟨rfl, nd, rfl⟩ := hrel
          go_wp2
          simp +zetaDelta only [Exit.noGoto_ret, Exit.inBlock, Exit.then]
          go_ret
          exact ⟨rfl, below_drewN (Below.refl _ _) _⟩
end Go.Proofs.Ytknhfliefkkpfab
