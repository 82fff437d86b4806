
/- Masks: how a slice of slices of ints reads, and how it is opened as an argument. Speaks of no function. -/
import Derived.Test.YtacbciamehchjaaBase
import Derived.Test.YtacbciamehchjaaOpen
import Derived.Deep.Matrix
namespace Go.Proofs.Ytacbciamehchjaa
open Go.ChangeShapes Go.WideShapes Go.ChangeAt Go.RowKit Go.Joins

theorem Below.next {n : Nat} {w w1 w2 : World} (h : Below n w w1) (h2 : Below w1.heap.size w1 w2) (hn : n ≤ w.heap.size) : Below n w w2 := h.trans (h2.mono (Nat.le_trans hn h.size))
theorem drew_below {w w' : World} {n : Nat} (h : w' = w.drewN n) : Below w.heap.size w w' := by subst h; exact below_drewN (Below.refl _ _) _
/-- The cells behind a slice's address read as slices of the rows of numbers. -/
def Ms (w : World) (a : Option Addr) (m : List (List Int)) : Prop :=
  ∀ i, i < m.length → ∃ b off ai ci, a = some ⟨b, off, none⟩ ∧ w.cell? ⟨b, off + i, none⟩ = some (.slice ai (m[i]?.getD []).length ci) ∧ Sl w ai (m[i]?.getD [])

theorem Ms.at {w : World} {a : Option Addr} {m : List (List Int)} (h : Ms w a m) {i : Nat} (hi : i < m.length) :
    ∃ b off ai r ci, a = some ⟨b, off, none⟩ ∧ w.cell? ⟨b, off + i, none⟩ = some (.slice ai r.length ci) ∧ Sl w ai r ∧ Hid (m[i]? = some r) := by
  obtain ⟨b, off, ai, ci, h1, h2, h3⟩ := h i hi
  have e : m[i]? = some m[i] := by simp [hi]
  rw [e] at h2 h3
  exact ⟨b, off, ai, m[i], ci, h1, h2, h3, e⟩
theorem Ms.below {w w' : World} {a : Option Addr} {m : List (List Int)} (h : Ms w a m) (hb : Below w.heap.size w w') : Ms w' a m := by
  intro i hi
  obtain ⟨b, off, ai, ci, h1, h2, h3⟩ := h i hi
  exact ⟨b, off, ai, ci, h1, (hb.cell (p := ⟨b, off + i, none⟩) (cell_lt h2)).trans h2, h3.below hb⟩
theorem Ms.alloc {w : World} {a : Option Addr} {m : List (List Int)} (h : Ms w a m) (o : Obj) : Ms (w.alloc o) a m := h.below ((Below.refl _ _).alloc (Nat.le_refl _) _)
theorem Ms.drew {w : World} {a : Option Addr} {m : List (List Int)} (h : Ms w a m) : Ms w.drew a m := h.below ((Below.refl _ _).drew)
/-- What an int and a slice's length may be. -/
def MOk (m : List (List Int)) : Prop := m.length ≤ 9223372036854775807 ∧ ∀ r ∈ m, r.length ≤ 9223372036854775807 ∧ ∀ x ∈ r, I64 x
theorem MOk.row {m : List (List Int)} (h : MOk m) {i : Nat} {r : List Int} (e : m[i]? = some r) : r.length ≤ 9223372036854775807 ∧ ∀ x ∈ r, I64 x := h.2 r (List.mem_of_getElem? e)
def InMask (w : World) (v : Value) (a : Option Addr) (m : List (List Int)) (cap : Nat) : Prop := v = .slice a m.length cap ∧ Ms w a m ∧ MOk m

section
variable {H : Type} {enc : TypeId × Value → H} {P : Program} {w : World} {base : Nat} {held : Bool}
theorem addr_flat {ad : Addr} {v : Value} (h : w.cell? (ad.add 0) = some v) : ∃ b off, ad = ⟨b, off, none⟩ := by
  obtain ⟨b, off, sp⟩ := ad
  cases sp with
  | none => exact ⟨b, off, rfl⟩
  | some s =>
    have e : (⟨b, off, some s⟩ : Addr).add 0 = ⟨b, off, some s⟩ := by simp [Addr.add]
    rw [e] at h
    unfold World.cell? at h
    split at h <;> simp at h
theorem flat_add (b off k : Nat) : (⟨b, off, none⟩ : Addr).add k = ⟨b, off + k, none⟩ := by
  unfold Addr.add; split
  · subst_vars; rfl
  · rfl
theorem sl_of_cells {A : Option Addr} {C L : Nat} {zs : List Int} (hC : zs.length = C) (hL : L ≤ C) (hn : A = none → C = 0) (h : ∀ a', A = some a' → ∀ c, c < C → w.cell? (a'.add c) = some (.int .i64 (zs.getD c 0))) : Sl w A (zs.take L) := by
  intro k hk
  have hk' : k < L := by simp at hk; omega
  cases A with
  | none => have := hn rfl; omega
  | some ad =>
    obtain ⟨b, off, rfl⟩ := addr_flat (h ad rfl 0 (by omega))
    have h0 := h _ rfl k (by omega)
    rw [flat_add] at h0
    refine ⟨b, off, rfl, ?_⟩
    rw [h0]; simp [hk', List.getD]
theorem in_mask {t e q : TypeId} {fuel : Nat} {v : Value} {x : DataW H × List MemPlace} (ht : P.underlying t = some (.slice e)) (he : P.underlying e = some (.slice q)) (hq : P.underlying q = some (.int .i64)) (ce : P.cellsOf e = 1) (cq : P.cellsOf q = 1)
    (h : DataW.trod enc P w base (fun _ => true) held fuel t [v] = some x) : ∃ a m cap, InMask w v a m cap := by
  rcases Go.Deep.open_int_rows ht he hq ce cq h with ⟨hcs, _⟩ | ⟨ad, len, cap, A, L, C, Z, hcs, _, hl, hm, _, hr⟩
  · simp only [List.cons.injEq, and_true] at hcs
    exact ⟨none, [], 0, hcs, fun k hk => absurd hk (by simp), by simp, fun x hx => by cases hx⟩
  · simp only [List.cons.injEq, and_true] at hcs
    unfold maxLen at hm hr
    have hlen : ((List.range len).map fun r => (Z r).take (L r)).length = len := by simp
    refine ⟨some ad, (List.range len).map fun r => (Z r).take (L r), cap, by rw [hlen]; exact hcs, fun i hi => ?_, by rw [hlen]; omega, fun r hr' => ?_⟩
    · rw [hlen] at hi
      obtain ⟨h1, h2, h3, h4, h5, h6, h7⟩ := hr i (by omega)
      obtain ⟨b, off, rfl⟩ := addr_flat (hr 0 (by omega)).1
      rw [flat_add] at h1
      have e : ((List.range len).map fun r => (Z r).take (L r))[i]? = some ((Z i).take (L i)) := by simp [hi]
      rw [e]
      refine ⟨b, off, A i, C i, rfl, ?_, sl_of_cells h4 h2 h6 (fun a' ha => (h7 a' ha).2)⟩
      rw [h1]; simp; omega
    · obtain ⟨i, hi, rfl⟩ := List.mem_map.1 hr'
      have hi' := List.mem_range.1 hi
      obtain ⟨h1, h2, h3, h4, h5, h6, h7⟩ := hr i (by omega)
      exact ⟨by simp; omega, fun x hx => I64_of (h5 x (List.mem_of_mem_take hx))⟩
end
end Go.Proofs.Ytacbciamehchjaa
