
/- parseRow of layer 2: a line of signs is read: contract. -/
import Derived.Test.YtknhfliefkkpfabMRune
import Derived.Test.YtknhfliefkkpfabMFmt
namespace Go.Proofs.Ytknhfliefkkpfab
open Go.RowKit

def sgnB (c : UInt8) : Int := if c = 45 then -1 else if c = 46 then 0 else if c = 43 then 1 else -2
def isSgn (c : UInt8) : Bool := c == 45 || c == 46 || c == 43
/-- A line of signs alone is read; of any other one nothing is. -/
def rowP (l : List UInt8) : List Int := if l.all isSgn = true then l.map sgnB else []
theorem sgn_cases {c : UInt8} (h : isSgn c = true) : c = 45 ∨ c = 46 ∨ c = 43 := by simpa [isSgn, or_assoc] using h
theorem sgn_index (c : UInt8) : Lib.indexByte [45, 46, 43] c = sgnB c + 1 := by
  unfold sgnB
  by_cases h1 : c = 45
  · subst h1; decide
  · by_cases h2 : c = 46
    · subst h2; decide
    · by_cases h3 : c = 43
      · subst h3; decide
      · rw [if_neg h1, if_neg h2, if_neg h3]
        have e1 : ((45 : UInt8) == c) = false := by simpa using fun h => h1 h.symm
        have e2 : ((46 : UInt8) == c) = false := by simpa using fun h => h2 h.symm
        have e3 : ((43 : UInt8) == c) = false := by simpa using fun h => h3 h.symm
        simp [Lib.indexByte, e1, e2, e3]
theorem sgn_not {c : UInt8} (h : isSgn c = false) : sgnB c = -2 := by
  have h' : ¬ c = 45 ∧ ¬ c = 46 ∧ ¬ c = 43 := by simpa [isSgn, and_assoc] using h
  unfold sgnB; rw [if_neg h'.1, if_neg h'.2.1, if_neg h'.2.2]
theorem sgn_is {c : UInt8} (h : isSgn c = true) : -1 ≤ sgnB c ∧ sgnB c ≤ 1 := by
  rcases sgn_cases h with rfl | rfl | rfl <;> decide
theorem sgnB_in (c : UInt8) : -2 ≤ sgnB c ∧ sgnB c ≤ 1 := by
  unfold sgnB; split; · decide
  split; · decide
  split <;> decide
theorem OwnI.iterAt {w : World} {base : Nat} {v : Value} {xs : List Int} (h : OwnI w base v xs) {k : Nat} {s : ByteArray} {pos : Nat} (hk : w.heap[k]? = some (.stringIter s pos)) (pos' : Nat) : OwnI (w.iterAt k s pos') base v xs := by
  obtain ⟨h0, h1 | ⟨g, cap, cur, e, hg, hh, rest⟩⟩ := h
  · exact ⟨h0, .inl h1⟩
  · have hne : g ≠ k := by rintro rfl; rw [hh] at hk; cases hk
    exact ⟨h0, .inr ⟨g, cap, cur, e, hg, (Lib.iterAt_other w k g s pos' hne).trans hh, rest⟩⟩
theorem OwnI.not_iter {w : World} {base : Nat} {v : Value} {xs : List Int} (h : OwnI w base v xs) {k : Nat} {s : ByteArray} {pos : Nat} (hk : w.heap[k]? = some (.stringIter s pos)) : v.ownBlock ≠ some k := by
  intro e
  obtain ⟨_, ⟨rfl, _⟩ | ⟨g, cap, cur, rfl, _, hh, _⟩⟩ := h
  · cases e
  · obtain rfl : g = k := by simpa [Value.ownBlock] using e
    rw [hh] at hk; cases hk
/-- One int appended to a slice of the call's own; what else has changed. -/
theorem wpList_pushG {ops : Array Oper} {rest : List Oper} {o : Oper} {a : Act} {Q : Exit → Act → World → Prop} (hgd : o.guard = none) (s x : Operand)
    (ho : o.op = .call { callee := .builtin .append, args := #[s, x], argTypes := #[22, 22] }) (base : Nat) (v : Value) (zs : List Int) (y : Int) (V : World) (B : Nat) (t : TypeId)
    (hs : a.eval s = v) (hx : a.eval x = .slice (some ⟨B, 0, none⟩) 1 1) (hB : B = V.heap.size) (hown : OwnI V base v zs) (hl : zs.length ≤ 100000) (hbase : base ≤ V.heap.size)
    (h : ∀ v' w', OwnI w' base v' (zs ++ [y]) → Below base V w' → (∀ k, k < V.heap.size → v.ownBlock ≠ some k → w'.heap[k]? = V.heap[k]?) → wpList Try.prog ops Q rest (a.put o.dst v') w') : wpList Try.prog ops Q (o :: rest) a (V.alloc (.cells #[.int .i64 y] t)) := by
  obtain ⟨i0, hi, hz0, hz1, hz2⟩ := info_parts Try.infoInt
  subst hB
  refine wpList_append_own (V.alloc (.cells #[.int .i64 y] t)) hgd s x 22 ho base 3 i0 (.int .i64 0) 1 8 Try.underlying22 hi hz0 hz1 hz2 rfl (by decide) v zs.length (zs.map (Value.int .i64)) hs (hown.alloc _) ⟨V.heap.size, 0, none⟩ 1 1 [.int .i64 y] hx rfl ?_ ?_ (by unfold maxLen; omega) (by omega) (by rw [World.size_alloc]; omega) ?_
  · intro j u hj
    match j, hj with
    | 0, hj =>
      simp at hj; subst hj
      rw [addr_add]
      exact alloc_cell V #[.int .i64 y] t 0 _ rfl
    | j + 1, hj => simp at hj
  · intro u hu; simp at hu; subst hu; rfl
  · intro v' w' h1 h2 h3
    refine h v' w' ?_ ?_ (fun k hk hne => (h2.block k (by rw [World.size_alloc]; omega) (fun e => hne e.symm)).trans (Below.heap_alloc V _ k hk))
    · simpa [OwnI] using h1
    · exact ((Below.refl base V).alloc hbase _).grown h2 (by rw [World.size_alloc]; omega) (fun k e => (World.ownsRow.lt hown k e).1)
theorem idxRune_ascii (c : UInt8) (h : c.toNat < 128) (w : World) :
    Calls Try.prog 102 #[.string ⟨#[45, 46, 43]⟩, .int .i32 (c.toNat : Int)] w fun e w' => e = .returned (.int .i64 (sgnB c + 1)) ∧ w = w' := by
  refine (Try.strings_IndexRune_ascii ⟨#[45, 46, 43]⟩ (c.toNat : Int) w (by omega) (by omega)).mono ?_
  rintro e w' ⟨rfl, rfl⟩
  refine ⟨?_, rfl⟩
  have e : ((c.toNat : Int)).toNat.toUInt8 = c := by simp
  rw [e]
  exact ret_i64 (sgn_index c)
theorem rowP_not {l : List UInt8} {k : Nat} {c : UInt8} (h : l[k]? = some c) (hc : isSgn c = false) : rowP l = [] := by
  unfold rowP
  rw [if_neg]
  intro hall
  have := List.all_eq_true.1 hall c (List.mem_of_getElem? h)
  rw [hc] at this; cases this
theorem take_succ' {l : List UInt8} {k : Nat} {c : UInt8} (h : l[k]? = some c) : l.take (k + 1) = l.take k ++ [c] := by
  have hk := List.getElem?_eq_some_iff.1 h
  rw [List.take_succ_eq_append_getElem hk.1, hk.2]
set_option maxRecDepth 100000 in
set_option maxHeartbeats 1000000 in
theorem parseRow_any (t : ByteArray) (ht : t.size ≤ 65536) (w : World) :
    Calls Try.prog 65 #[.string t] w fun e w' => Below w.heap.size w w' ∧ ∃ v, e = .returned v ∧ OwnI w' w.heap.size v (rowP t.data.toList) := by
  obtain ⟨l, hl⟩ : ∃ l, t.data.toList = l := ⟨_, rfl⟩
  have HL := Lib.hid hl
  have hsz : t.size = l.length := by rw [← hl, ← str_size]
  have HSZ := Lib.hid hsz
  rw [hl]
  clear hl hsz
  go_enter Try.func65, Try.ntmps65
  go_wp2
  go_loopw [3] (fun v wr => ∃ pos : Nat, pos ≤ t.size ∧ wr.heap[w.heap.size]? = some (.stringIter t pos) ∧ OwnI wr w.heap.size v ((l.take pos).map sgnB) ∧ (l.take pos).all isSgn = true ∧ Below w.heap.size w wr) (fun _ wr => t.size - wr.iterPos w.heap.size)
  case atStart => exact ⟨0, Nat.zero_le _, World.iter_heap w _ 0, OwnI.nil _ _, rfl, (Below.refl _ _).alloc (Nat.le_refl _) _⟩
  case round =>
    obtain ⟨pos, hp, hit, hO, hA, hB⟩ := hrel
    have HO := Lib.hid hO
    have HA := Lib.hid hA
    have HB := Lib.hid hB
    have HIT := Lib.hid hit
    clear hO hA hB hit
    by_cases hlt : pos < t.size
    · obtain ⟨c, hc⟩ : ∃ c, c = t[pos]'hlt := ⟨_, rfl⟩
      have hlc : l[pos]? = some c := by rw [← HL.out, hc]; simp [hlt]; rfl
      have HLC := Lib.hid hlc
      have HN := Lib.hid (@rowP_not l pos c hlc)
      have HT := Lib.hid (take_succ' hlc)
      have hlen : ((l.take pos).map sgnB).length ≤ 100000 := by rw [List.length_map, List.length_take]; omega
      have HLEN := Lib.hid hlen
      have hbs := HB.out.size
      clear hlc hlen
      by_cases ha : c.toNat < 128
      · have hnx : ∀ ty, (Instr.next (.pointer (some ⟨w.heap.size, 0, none⟩)) true ty).run Try.prog wr = .ok (.tuple #[.bool true, .int .i64 pos, .int .i32 c.toNat]) (wr.iterAt w.heap.size t (pos + 1)) := fun ty => by
          rw [hc]; exact Lib.run_next_ascii_at wr w.heap.size t pos ty HIT.out hlt (by rw [← hc]; exact ha)
        have HIT2 := Lib.hid (Lib.iterAt_heap wr w.heap.size t pos (pos + 1) HIT.out)
        have HO2 := Lib.hid (HO.out.iterAt HIT.out (pos + 1))
        have HB2 := Lib.hid (Lib.below_iterAt HB.out (Nat.le_refl _) t (pos + 1))
        have HSZ2 : Hid (w.heap.size < (wr.iterAt w.heap.size t (pos + 1)).heap.size) := by show _ < _; exact (Array.getElem?_eq_some_iff.1 HIT2.out).1
        have HP0 : Hid (wr.iterPos w.heap.size = pos) := by show _ = _; simp only [World.iterPos, HIT.out]
        clear hc
        cases hs : isSgn c
        · have HS := Lib.hid hs; clear hs
          have hx : sgnB c = -2 := sgn_not HS.out
          go_wp2_with (go_at_call 102; refine (idxRune_ascii c ha _).mono ?_; rintro e w' ⟨rfl, rfl⟩)
          go_ret
          exact ⟨HB2.out, _, rfl, by rw [HN.out HS.out]; exact OwnI.nil _ _⟩
        · have HS := Lib.hid hs; clear hs
          obtain ⟨x, hx⟩ : ∃ x, sgnB c = x := ⟨_, rfl⟩
          have hx1 := sgn_is HS.out
          rw [hx] at hx1
          obtain ⟨hx2, hx3⟩ := hx1
          have HX := Lib.hid hx
          generalize wr.iterAt w.heap.size t (pos + 1) = W2 at *
          go_wp2_with (first | (go_at_call 102; refine (idxRune_ascii c ha _).mono ?_; rintro e w' ⟨rfl, rfl⟩) | (at_builtin; go_must (refine wpList_pushG rfl (.tmp 16) (.tmp 19) rfl w.heap.size _ ((l.take pos).map sgnB) x _ _ _ rfl rfl rfl HO2.out HLEN.out HB2.out.size ?_); intro v' w9 ho' hb' hk'))
          have HIT9 := Lib.hid ((hk' w.heap.size HSZ2.out (HO2.out.not_iter HIT2.out)).trans HIT2.out)
          clear hk'
          go_roundw
          case rel =>
            refine ⟨pos + 1, hlt, HIT9.out, ?_, ?_, HB2.out.trans hb'⟩
            · rw [HT.out, List.map_append, List.map_singleton, HX.out]; exact ho'
            · rw [HT.out, List.all_append, HA.out]; simp [HS.out]
          case measure =>
            rw [HP0.out]
            simp only [World.iterPos, HIT9.out]
            omega
      · have hd := decode_high t pos hlt (by rw [← hc]; omega)
        have hd1 := hd.1
        have hd2 := decode_le t pos
        obtain ⟨r, hr⟩ : ∃ r : Nat, (Utf8.decode t pos).1 = r := ⟨_, rfl⟩
        obtain ⟨q, hq⟩ : ∃ q : Nat, pos + (Utf8.decode t pos).2 = q := ⟨_, rfl⟩
        have hnx : ∀ ty, (Instr.next (.pointer (some ⟨w.heap.size, 0, none⟩)) true ty).run Try.prog wr = .ok (.tuple #[.bool true, .int .i64 pos, .int .i32 r]) (wr.iterAt w.heap.size t q) := fun ty => by
          rw [← hr, ← hq]; exact Lib.run_next_any_at wr w.heap.size t pos ty HIT.out hlt
        rw [hr] at hd1 hd2
        have HS : Hid (isSgn c = false) := by
          show _ = _
          cases hs : isSgn c
          · rfl
          · rcases sgn_cases hs with rfl | rfl | rfl <;> exact absurd (by decide) ha
        have HB2 := Lib.hid (Lib.below_iterAt HB.out (Nat.le_refl _) t q)
        clear hc ha hr hq hd
        generalize wr.iterAt w.heap.size t q = W2 at *
        go_wp2_with (go_at_call 102; refine (indexRune_high (r : Int) (by omega) (by omega) _).mono ?_; rintro e w9 ⟨rfl, hb9⟩; have HB9 := Lib.hid hb9; clear hb9)
        go_ret
        exact ⟨HB2.out.trans (HB9.out.mono HB2.out.size), _, rfl, by rw [HN.out HS.out]; exact OwnI.nil _ _⟩
    · have hnx : ∀ ty, (Instr.next (.pointer (some ⟨w.heap.size, 0, none⟩)) true ty).run Try.prog wr = _ := fun ty => Lib.run_next_end_at wr w.heap.size t pos ty HIT.out hlt
      have HE : Hid (rowP l = (l.take pos).map sgnB) := by
        show _ = _
        have e : l.take pos = l := List.take_of_length_le (by have := HSZ.out; omega)
        have h := HA.out
        rw [e] at h ⊢
        unfold rowP; rw [if_pos h]
      go_wp2
      go_ret
      exact ⟨HB.out, _, rfl, by rw [HE.out]; exact HO.out⟩
end Go.Proofs.Ytknhfliefkkpfab
