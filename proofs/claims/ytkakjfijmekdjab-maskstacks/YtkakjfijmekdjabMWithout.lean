/- Without of the answers of layer 2: words and a contract. -/
import Derived.Test.YtkakjfijmekdjabMStack
import Derived.Test.YtkakjfijmekdjabMRoll
import Derived.Deep.RegionLaw
namespace Go.Proofs.Ytkakjfijmekdjab
open Go.RowKit

def withoutV (m : List (List Int)) (i : Int) : List (List Int) × Int := if validM m = true then (if rangeB i 0 ((m.length : Int) - 1) = true then (if m.length = 1 then ([], 8) else (m.take i.toNat ++ m.drop (i.toNat + 1), 0)) else ([], 5)) else ([], 1)
theorem withoutV_1 {m : List (List Int)} {i : Int} (h : validM m = false) : withoutV m i = ([], 1) := by unfold withoutV; rw [h]; rfl
theorem withoutV_5 {m : List (List Int)} {i : Int} (h : validM m = true) (h2 : rangeB i 0 ((m.length : Int) - 1) = false) : withoutV m i = ([], 5) := by unfold withoutV; rw [h, h2]; rfl
theorem withoutV_8 {m : List (List Int)} {i : Int} (h : validM m = true) (h2 : rangeB i 0 ((m.length : Int) - 1) = true) (h3 : m.length = 1) : withoutV m i = ([], 8) := by unfold withoutV; rw [h, h2, if_pos rfl, if_pos rfl, if_pos h3]
theorem withoutV_0 {m : List (List Int)} {i : Nat} (h : validM m = true) (h2 : rangeB (i : Int) 0 ((m.length : Int) - 1) = true) (h3 : m.length ≠ 1) : withoutV m (i : Int) = (m.take i ++ m.drop (i + 1), 0) := by unfold withoutV; rw [h, h2, if_pos rfl, if_pos rfl, if_neg h3]; simp
theorem ms_dropped {w : World} {b off : Nat} {m : List (List Int)} (h : Ms w (some ⟨b, off, none⟩) m) (F : Nat) : Ms w (some ⟨b, off + F, none⟩) (m.drop F) := by
  intro k hk
  have hk' : F + k < m.length := by simp at hk; omega
  obtain ⟨b', o', a, c, e, hc, hs⟩ := h (F + k) hk'
  obtain ⟨rfl, rfl⟩ : b = b' ∧ off = o' := by simpa using e
  have e2 : (m.drop F)[k]? = m[F + k]? := by rw [List.getElem?_drop]
  rw [e2]
  exact ⟨b, off + F, a, c, rfl, by rw [Nat.add_assoc]; exact hc, hs⟩
theorem ms_empty (w : World) (a : Option Addr) : Ms w a [] := fun k h => absurd h (by simp)
theorem step_pushMs {ops : Array Oper} {o : Oper} {act : Act} {K : Act → World → Prop} {Q : Exit → Act → World → Prop} {E : Prop} (hgd : o.guard = none) (s x : Operand)
    (ho : o.op = .call { callee := .builtin .append, args := #[s, x], argTypes := #[23, 23] }) (base : Nat) (v v2 : Value) (hs hs2 : List RH) (base2 : Nat) (V : World)
    (hv : act.eval s = v) (hx : act.eval x = v2) (hown : OwnM V base v hs hs.length) (hown2 : OwnM V base2 v2 hs2 hs2.length) (hnil : hs2 = [] → v2 = .slice none 0 0)
    (hsl : ∀ (i : Nat) (h : RH), hs2[i]? = some h → Sl V h.1 h.2.1 ∧ ∀ ad, h.1 = some ad → ad.block < V.heap.size ∧ v.ownBlock ≠ some ad.block) (hl : hs.length + hs2.length ≤ 1000) (hbase : base ≤ V.heap.size)
    (h : ∀ v' w', OwnM w' base v' (hs ++ hs2) (hs ++ hs2).length → Below base V w' → K (act.put o.dst v') w') : if Region.wanted o (yielded ops act.tmps) = true then Oper.wp Try.prog o act V K Q else E := by
  have hw : Region.wanted o (yielded ops act.tmps) = true := by simp [Region.wanted, hgd]
  obtain ⟨i0, hi, hz0, hz1, hz2⟩ := info_parts Try.infoRow
  by_cases h1 : 1 ≤ hs2.length
  · obtain ⟨g2, c2, rfl, _, _, _, _⟩ := hown2.form h1
    refine step_append_lies V hgd s x 23 ho base 26 i0 (.slice none 0 0) 1 24 Try.underlying23 hi hz0 hz1 hz2 rfl (by decide) v hs.length (hs.map hdv) hv hown.own ⟨g2, 0, none⟩ hs2.length c2 (hs2.map hdv) hx (by simp) ?_ ?_ (by omega) (by unfold maxLen; omega) (by omega) hbase V.heap.size rfl ?_
    · intro j u hj
      obtain ⟨x, hx, rfl⟩ : ∃ x, hs2[j]? = some x ∧ hdv x = u := by simpa using hj
      rw [addr_add, Nat.zero_add]
      exact (hown2.cell hx).1
    · intro u hu; obtain ⟨x, _, rfl⟩ := List.mem_map.1 hu; rfl
    · intro g cap w' h1 h2 h3 _
      refine h _ w' (pushMs_after hown hsl h1 h2 h3) ?_
      exact (Below.refl base V).grown h2 hbase (fun k e => (World.ownsRow.lt hown.own k e).1)
  · have h0 : hs2 = [] := List.eq_nil_of_length_eq_zero (by omega)
    subst h0
    rw [if_pos hw]
    have hv2 := hnil rfl
    subst hv2
    have hrun := run_append_owned_none (P := Try.prog) (w := V) base 23 o.type 26 i0 1 Try.underlying23 hi v hs.length (hs.map hdv) hown.own
    unfold Oper.wp
    simp [execOp, ho, resolve, invoke, builtin, hv, hx, hrun, Result.andThen]
    exact h v V (by rw [List.append_nil]; exact hown) (Below.refl _ _)
set_option maxRecDepth 100000 in
set_option maxHeartbeats 800000 in
theorem rWithout_any (a : Option Addr) (m : List (List Int)) (cap : Nat) (i : Int) (w : World) (hm : MOk m) (hcap : m.length ≤ cap) (hcm : cap ≤ 9223372036854775807) (hs : Ms w a m) :
    Calls Try.prog 36 #[.slice a m.length cap, .int .i64 i] w (MPost (withoutV m i) w) := by
  have HM := Lib.hid hm; clear hm
  have HS := Lib.hid hs; clear hs
  go_enter Try.func36, Try.ntmps36
  go_wp2_with fail
  refine (rvalid_any _ _ _ _ HM.out HS.out).mono ?_
  rintro e w1 ⟨rfl, rfl⟩
  cases hv : validM m
  · have HV := Lib.hid (withoutV_1 (i := i) hv); clear hv
    go_wp2
    go_ret2
    exact MPost.err 1 HV.out (Below.refl _ _)
  · obtain ⟨h1, h6, hc1, hc10, _⟩ := validM_of hv
    have HV := Lib.hid hv; clear hv
    go_wp2_with fail
    refine (mwithin_any _ _ _ _).mono ?_
    rintro e w1 ⟨rfl, rfl⟩
    cases hr : rangeB i 0 ((m.length : Int) - 1)
    · have HVV := Lib.hid (withoutV_5 HV.out hr); clear hr
      go_wp2
      go_ret2
      exact MPost.err 5 HVV.out (Below.refl _ _)
    · have hib : 0 ≤ i ∧ i ≤ (m.length : Int) - 1 := by simpa [rangeB] using hr
      by_cases hm1 : m.length = 1
      · have HVV := Lib.hid (withoutV_8 HV.out hr hm1); clear hr
        have e1 : ((m.length : Int) == 1) = true := by simp [hm1]
        clear hm1 hib
        go_wp2
        go_ret2
        exact MPost.err 8 HVV.out (Below.refl _ _)
      · have e1 : ((m.length : Int) == 1) = false := by simp; omega
        obtain ⟨q, rfl⟩ : ∃ q : Nat, i = (q : Int) := ⟨i.toNat, by omega⟩
        have HVV := Lib.hid (withoutV_0 HV.out hr hm1); clear hr
        have hq : q < m.length := by omega
        clear hib hm1
        obtain ⟨b, off, a0, c0, rfl, _⟩ := row0 HS.out h1
        obtain ⟨o1, ho1, hso⟩ : ∃ o1, (if cap = q + 1 then (some ⟨b, off, none⟩ : Option Addr) else some ⟨b, off + (q + 1), none⟩) = some ⟨b, o1, none⟩ ∧ Ms w (some ⟨b, o1, none⟩) (m.drop (q + 1)) := by
          by_cases e : cap = q + 1
          · refine ⟨off, by rw [if_pos e], ?_⟩
            rw [List.drop_eq_nil_of_le (by omega)]; exact ms_empty _ _
          · exact ⟨off + (q + 1), by rw [if_neg e], ms_dropped HS.out (q + 1)⟩
        have HSO := Lib.hid hso; clear hso
        have hrows := valid_rows HV.out
        have HC1 : Hid (∀ W, Below w.heap.size w W → Calls Try.prog 69 #[.slice (some ⟨b, off, none⟩) q cap] W (CPost (m.take q) W)) := fun W hb => by
          have := rcopied_any (some ⟨b, off, none⟩) (m.take q) cap W (by simp; omega) (fun r hr => hrows r (List.mem_of_mem_take hr)) ((HS.out.take q).below hb)
          rwa [show (m.take q).length = q by simp; omega] at this
        have HC2 : Hid (∀ W, Below w.heap.size w W → Calls Try.prog 69 #[.slice (some ⟨b, o1, none⟩) (m.length - (q + 1)) (cap - (q + 1))] W (CPost (m.drop (q + 1)) W)) := fun W hb => by
          have := rcopied_any (some ⟨b, o1, none⟩) (m.drop (q + 1)) (cap - (q + 1)) W (by simp; omega) (fun r hr => hrows r (List.mem_of_mem_drop hr)) (HSO.out.below hb)
          rwa [show (m.drop (q + 1)).length = m.length - (q + 1) by simp] at this
        clear hrows
        have m1 : IntKind.i64.wrap ((q : Int) + 1) = (q : Int) + 1 := IntWalk.i64_in _ (by omega)
        have hBd : Hid (Below w.heap.size w w.drew) := (Below.refl _ _).drew
        have hqi0 : (0 : Int) ≤ (q : Int) + 1 := by omega
        have hqi1 : (q : Int) + 1 ≤ (m.length : Int) := by omega
        have hqi2 : (m.length : Int) ≤ (cap : Int) := by omega
        have hqi3 : q + 1 ≤ m.length := by omega
        have hqi4 : (q : Int) ≤ (cap : Int) := by omega
        have hqi5 : (0 : Int) ≤ (q : Int) := by omega
        have hqi6 : q ≤ cap := by omega
        have hqi7 : q + 1 ≤ cap := by omega
        have HLT : Hid (m.length ≤ 6) := h6
        go_wp2
        go_region_law (first
          | (go_simp; go_at_call 69; (with_reducible refine (HC1.out _ hBd.out).mono ?_); rintro e w4 ⟨hb4, v4, hs4, rfl, ho4, hh4, hr4, hn4⟩; have hB4 := hBd.out.trans hb4)
          | (go_simp; go_at_call 69; (with_reducible refine (HC2.out _ hB4).mono ?_); rintro e w5 ⟨hb5, v5, hs5, rfl, ho5, hh5, hr5, hn5⟩; have hB5 := Below.next hB4 hb5 (Nat.le_refl _))
          | (refine step_pushMs rfl (.tmp 21) (.tmp 26) rfl w.heap.size _ _ hs4 hs5 w4.heap.size _ (by rfl) (by rfl) (ho4.below hb5) ho5 (fun e => hn5 (by rw [← hr5, e]; rfl)) (second_rows ho4 ho5 (Nat.le_refl _) hh5) (by have e4 := congrArg List.length hr4; have e5 := congrArg List.length hr5; rw [rowsOf_length] at e4 e5; simp at e4 e5; have := HLT.out; omega) hB5.size ?_; intro v6 w6 ho6 hb6))
        all_goals
          have HO6 := Lib.hid ho6; clear ho6
          have HRR : Hid (rowsOf (hs4 ++ hs5) = m.take q ++ m.drop (q + 1)) := by show _ = _; rw [rowsOf_append, hr4, hr5]
          have HB6 := Lib.hid (hB5.trans hb6)
          clear hqi0 hqi1 hqi2 hqi3 hqi4 hqi5 hqi6 hqi7 m1 hb6 hB5 hB4 hr4 hr5 hn4 hn5
          go_wp2
          go_ret2
          exact MPost.own (by rw [HVV.out, HRR.out]) HB6.out HO6.out (Nat.le_refl _)
end Go.Proofs.Ytkakjfijmekdjab
