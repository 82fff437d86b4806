
/- The set of some pixels as a map of truths: named of layer 2: contract, and the look-up. -/
import Derived.Maps.OwnOps
import Derived.Maps.OwnSet
import Derived.Maps.Views
import Derived.Carry
import Derived.Test.YtacbciamehchjaaOwnW
import Derived.Test.YtacbciamehchjaaOpen
namespace Go.Proofs.Ytacbciamehchjaa
open Go.RowKit Go.Maps

abbrev DU := DataW Unit
def litI (x : Int) : Lit := .int .i64 x
def uT : DU := .lit (.bool true)
/-- The map of some numbers. -/
def mapOf (xs : List Int) : DU := setOf uT (xs.map litI)
abbrev OwnMap (w : World) (b n : Nat) (xs : List Int) : Prop := w.ownsMap Try.prog 3 (plainElem (H := Unit) Try.prog 4) b n (mapOf xs)
theorem litI_wf {x : Int} (h : I64 x) : (litI x).wf = true := by
  unfold litI I64 at *
  have h1 : IntKind.i64.min = -9223372036854775808 := rfl
  have h2 : IntKind.i64.max = 9223372036854775807 := rfl
  simp only [Lit.wf, Bool.and_eq_true, decide_eq_true_eq]
  omega
theorem key_of {x : Int} (h : I64 x) : keyOf Try.prog 3 (.int .i64 x) = some (litI x) := keyOf_int_mk Try.underlying3 (litI_wf h)
theorem litI_key (x : Int) : WideAt.IsKeyLit (litI x) := trivial
theorem mapOf_snoc (xs : List Int) (x : Int) : mapOf (xs ++ [x]) = (mapOf xs).put (litI x) uT := by
  unfold mapOf; rw [List.map_append, List.map_singleton, setOf_snoc]
theorem mapOf_isMap (xs : List Int) : IsMap (mapOf xs) := (tidy_setOf uT _ (fun y hy => by obtain ⟨x, _, rfl⟩ := List.mem_map.1 hy; exact litI_key x)).isMap
theorem litI_inj {x y : Int} (h : litI x = litI y) : x = y := by
  unfold litI at h; simpa using h
theorem rev_ind {α : Type} {Q : List α → Prop} (h0 : Q []) (h1 : ∀ xs x, Q xs → Q (xs ++ [x])) : ∀ (n : Nat) (xs : List α), xs.length = n → Q xs
  | 0, xs, h => by rw [List.eq_nil_of_length_eq_zero h]; exact h0
  | n + 1, xs, h => by
    have hne : xs ≠ [] := by intro e; rw [e] at h; cases h
    have e := List.dropLast_concat_getLast hne
    rw [← e]
    exact h1 _ _ (rev_ind h0 h1 n xs.dropLast (by rw [List.length_dropLast]; omega))
theorem atKey_map (k : Int) : ∀ xs : List Int, (mapOf xs).atKey (litI k) (.lit (.bool false)) = .lit (.bool (decide (k ∈ xs))) := by
  intro xs
  refine rev_ind (Q := fun xs => (mapOf xs).atKey (litI k) (.lit (.bool false)) = .lit (.bool (decide (k ∈ xs)))) rfl (fun xs x ih => ?_) _ xs rfl
  show (mapOf (xs ++ [x])).atKey _ _ = _
  rw [mapOf_snoc]
  by_cases h : k = x
  · subst h
    rw [atKey_put_same (mapOf_isMap xs) (litI_key k)]
    simp [uT]
  · rw [atKey_put_other (fun e => h (litI_inj e)), ih]
    simp [h]
theorem plain_bool_inv' {P : Program} {e : TypeId} (he : P.underlying e = some .bool) {v : Value} {z : DataW Unit × List MemPlace} (h : plainElem P e v = some z) : ∃ x, v = .bool x ∧ z = (.lit (.bool x), []) := by
  unfold plainElem at h
  rw [he] at h
  cases v <;> simp at h
  subst h
  exact ⟨_, rfl, rfl⟩
theorem plain_bool_inv {v : Value} {z : DataW Unit × List MemPlace} (h : plainElem Try.prog 4 v = some z) : ∃ x, v = .bool x ∧ z = (.lit (.bool x), []) := plain_bool_inv' Try.underlying4 h
theorem lookup_of {w : World} {b n : Nat} {xs : List Int} (h : OwnMap w b n xs) {k : Int} (hk : I64 k) :
    (Instr.lookup 66 (.map (some b)) (.int .i64 k) false).run Try.prog w = .ok (.bool (decide (k ∈ xs))) w := by
  obtain ⟨v, ps, hrun, hv⟩ := World.ownsMap.lookup h (int_keyed Try.underlying3) Try.underlying66 (Try.zeroValue4 w) (plainElem_bool Try.underlying4 false) (key_of hk)
  obtain ⟨x, rfl, hz⟩ := plain_bool_inv hv
  rw [atKey_map] at hz
  have : decide (k ∈ xs) = x := by simpa using congrArg (fun z => match z.1 with | .lit (.bool b) => b | _ => false) hz
  rw [hrun, this]
/-- How many different numbers there are. -/
def kinds (xs : List Int) : Nat := ((xs.map litI).foldl addKey []).length
theorem size_mapOf (xs : List Int) : Maps.size (mapOf xs) = kinds xs := size_setOf uT _ (fun y hy => by obtain ⟨x, _, rfl⟩ := List.mem_map.1 hy; exact litI_key x)
theorem len_of {w : World} {b n : Nat} {xs : List Int} (h : OwnMap w b n xs) (ty : TypeId) : (Builtin.len_ #[66] ty #[.map (some b)]).run Try.prog w = .ok (.int .i64 (kinds xs)) w := by
  rw [World.ownsMap.len h Try.underlying66 ty, size_mapOf]
set_option maxRecDepth 100000 in
set_option maxHeartbeats 400000 in
theorem named_map (a : Option Addr) (xs : List Int) (cap : Nat) (w : World) (hl : xs.length ≤ 100000) (hx : ∀ x ∈ xs, I64 x) (hs : Sl w a xs) :
    Calls Try.prog 50 #[.slice a xs.length cap] w fun e w' => e = .returned (.map (some w.heap.size)) ∧ Below w.heap.size w w' ∧ OwnMap w' w.heap.size xs.length xs := by
  have HS := Lib.hid hs; clear hs
  have HX := Lib.hid hx; clear hx
  have hmm := @run_makeMap Try.prog
  have H0 : Hid (OwnMap (w.alloc (.map #[] 0)) w.heap.size 0 (xs.take 0)) := World.ownsMap_made _ _ _ _
  have HB0 : Hid (Below w.heap.size w (w.alloc (.map #[] 0))) := (Below.refl _ _).alloc (Nat.le_refl _) _
  go_enter Try.func50, Try.ntmps50
  go_wp2
  clear hmm
  go_loopw [9] (fun i wr => ∃ k : Nat, k ≤ xs.length ∧ i = .int .i64 k ∧ OwnMap wr w.heap.size k (xs.take k) ∧ Below w.heap.size w wr) (fun i _ => xs.length - (intOf i).toNat)
  case atStart => exact ⟨0, Nat.zero_le _, rfl, H0.out, HB0.out⟩
  case round =>
    clear H0 HB0
    obtain ⟨k, hk, rfl, hO, hB⟩ := hrel
    have HO := Lib.hid hO; clear hO
    have HB := Lib.hid hB; clear hB
    by_cases hlt : k < xs.length
    · obtain ⟨b, off, x, rfl, hcell, HXE⟩ := (HS.out.below HB.out).at hlt
      have HK := Lib.hid (key_of (HX.out x (List.mem_of_getElem? HXE.out)))
      have HT : Hid (xs.take (k + 1) = xs.take k ++ [x]) := by
        show _ = _
        have h := List.getElem?_eq_some_iff.1 HXE.out
        rw [List.take_succ_eq_append_getElem h.1, h.2]
      go_wp2_with (at_mapUpdate; refine wpList_mapUpdate_own _ rfl (.tmp 13) (.tmp 14) _ 66 rfl 3 4 (int_keyed Try.underlying3) Try.underlying66 _ w.heap.size k (mapOf (xs.take k)) rfl HO.out (by unfold maxLen; omega) _ _ (litI x) rfl rfl HK.out uT [] (plainElem_bool Try.underlying4 true) ?_; intro w1 hown1 hgrow1)
      have HO1 : Hid (OwnMap w1 w.heap.size (k + 1) (xs.take (k + 1))) := by
        show OwnMap _ _ _ _
        rw [HT.out]
        unfold OwnMap
        rw [mapOf_snoc]; exact hown1
      have HB1 : Hid (Below w.heap.size w w1) := HB.out.grown hgrow1 HB.out.size (fun r e => by cases e; exact Nat.le_refl _)
      clear hown1 hgrow1
      go_roundw
      case rel => exact ⟨k + 1, by omega, by go_num, HO1.out, HB1.out⟩
      case measure => simp [intOf]; omega
    · obtain rfl : k = xs.length := by omega
      rw [List.take_length] at HO
      go_wp2
      go_ret
      exact ⟨rfl, HB.out, HO.out⟩
end Go.Proofs.Ytacbciamehchjaa
