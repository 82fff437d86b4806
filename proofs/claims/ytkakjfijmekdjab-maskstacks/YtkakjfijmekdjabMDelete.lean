/- slices.Delete of one row of a slice of rows of the call's own; Without of layer 2: contracts. -/
import Derived.Test.YtkakjfijmekdjabMWithout
namespace Go.Proofs.Ytkakjfijmekdjab
open Go.RowKit

/-- xs with news written from o on. -/
def setFrom (xs : List Value) : Nat → List Value → List Value
  | _, [] => xs
  | o, v :: r => setFrom (xs.set o v) (o + 1) r
theorem setFrom_length : ∀ (news : List Value) (xs : List Value) (o : Nat), (setFrom xs o news).length = xs.length
  | [], _, _ => rfl
  | v :: r, xs, o => by rw [setFrom, setFrom_length r]; simp
theorem setFrom_eq : ∀ (news : List Value) (xs : List Value) (o : Nat), o + news.length ≤ xs.length → setFrom xs o news = xs.take o ++ news ++ xs.drop (o + news.length)
  | [], xs, o, _ => by simp [setFrom]
  | v :: r, xs, o, h => by
    rw [setFrom, setFrom_eq r _ _ (by simp at h ⊢; omega)]
    have ho : o < xs.length := by simp at h; omega
    have e1 : (xs.set o v).take (o + 1) = xs.take o ++ [v] := by
      rw [List.take_succ_eq_append_getElem (by simpa using ho), List.take_set_of_le (Nat.le_refl _)]
      simp
    rw [e1, List.drop_set_of_lt (by omega)]
    simp [Nat.add_comm, Nat.add_left_comm]
theorem ownsRow_setCells {base : Nat} {e : TypeId} {g n cap : Nat} : ∀ (news : List Value) (o : Nat) (w : World) (xs : List Value), w.ownsRow base e 1 (.slice (some ⟨g, 0, none⟩) n cap) n xs → (w.setCells g o news).ownsRow base e 1 (.slice (some ⟨g, 0, none⟩) n cap) n (setFrom xs o news)
  | [], _, _, _, h => h
  | v :: r, o, w, xs, h => by
    rw [World.setCells, setFrom]
    exact ownsRow_setCells r (o + 1) _ _ (World.ownsRow.stored h o v).1
theorem ownsRow_shorter {w : World} {base : Nat} {e : TypeId} {g n m cap : Nat} {xs : List Value} (h : w.ownsRow base e 1 (.slice (some ⟨g, 0, none⟩) n cap) n xs) (hm : m ≤ n) : w.ownsRow base e 1 (.slice (some ⟨g, 0, none⟩) m cap) m (xs.take m) := by
  obtain ⟨h0, ⟨e, _⟩ | ⟨g', cap', cur, e, hg, hh, h1, h2, h3, h4⟩⟩ := h
  · cases e
  · obtain ⟨rfl, rfl⟩ : g = g' ∧ cap = cap' := by simpa using e
    refine ⟨by rw [List.length_take, h0]; omega, .inr ⟨g, cap, cur, rfl, hg, hh, by omega, h2, h3, ?_⟩⟩
    rw [← h4, List.take_take]
    congr 1; omega
theorem below_setCells {B g : Nat} (hg : B ≤ g) : ∀ (news : List Value) (o : Nat) (w : World), Below B w (w.setCells g o news)
  | [], _, w => Below.refl _ _
  | v :: r, o, w => ((Below.refl B w).setCell (p := ⟨g, o, none⟩) hg v).trans (below_setCells hg r (o + 1) _)
theorem cells_other {g b : Nat} (hb : b ≠ g) : ∀ (news : List Value) (o k : Nat) (w : World), (w.setCells g o news).cell? ⟨b, k, none⟩ = w.cell? ⟨b, k, none⟩
  | [], _, _, _ => rfl
  | v :: r, o, k, w => by
    rw [World.setCells, cells_other hb r (o + 1) k]
    exact cell_other w ⟨g, o, none⟩ v k hb
theorem zeroRow (w : World) : (zeroValue 26).run Try.prog w = .ok (.slice none 0 0) w := by kernel_rfl
/-- What is left when one row is taken out. -/
theorem OwnM.deleted {w : World} {base g cap i : Nat} {hs : List RH} (h : OwnM w base (.slice (some ⟨g, 0, none⟩) hs.length cap) hs hs.length) (hi : i < hs.length) (z : List Value) (hz : z.length = 1) :
    OwnM ((w.setCells g i ((hs.drop (i + 1)).map hdv)).setCells g (hs.length - 1) z) base (.slice (some ⟨g, 0, none⟩) (hs.length - 1) cap) (hs.take i ++ hs.drop (i + 1)) (hs.take i ++ hs.drop (i + 1)).length := by
  have hlen : (hs.take i ++ hs.drop (i + 1)).length = hs.length - 1 := by simp; omega
  have mem : ∀ (j : Nat) (x : RH), (hs.take i ++ hs.drop (i + 1))[j]? = some x → ∃ q, hs[q]? = some x ∧ q ≠ hs.length := by
    intro j x e
    have hx : x ∈ hs := by
      rcases List.mem_append.1 (List.mem_of_getElem? e) with h | h
      · exact List.mem_of_mem_take h
      · exact List.mem_of_mem_drop h
    obtain ⟨q, hq, rfl⟩ := List.mem_iff_getElem.1 hx
    exact ⟨q, by simp [hq], by omega⟩
  refine ⟨?_, fun j x e _ k hk => ?_, fun j x e _ ad ha => ?_⟩
  · rw [hlen]
    have h1 := ownsRow_setCells z (hs.length - 1) _ _ (ownsRow_setCells ((hs.drop (i + 1)).map hdv) i w _ h.own)
    have h2 := ownsRow_shorter h1 (m := hs.length - 1) (by omega)
    have e : (setFrom (setFrom (hs.map hdv) i ((hs.drop (i + 1)).map hdv)) (hs.length - 1) z).take (hs.length - 1) = (hs.take i ++ hs.drop (i + 1)).map hdv := by
      rw [setFrom_eq ((hs.drop (i + 1)).map hdv) (hs.map hdv) i (by simp; omega)]
      rw [setFrom_eq z _ _ (by rw [hz]; simp; omega)]
      rw [List.take_append_of_le_length (by simp; omega), List.take_append_of_le_length (by simp; omega), List.take_take, Nat.min_self]
      rw [List.take_append_of_le_length (by simp; omega), List.take_of_length_le (by simp; omega)]
      simp
    rw [e] at h2
    exact h2
  · obtain ⟨q, hq, hne⟩ := mem j x e
    obtain ⟨b, off, hb, hc⟩ := h.rows q x hq hne k hk
    have hbg : b ≠ g := fun he => (h.apart q x hq hne _ hb).2 (by simp [Value.ownBlock, he])
    exact ⟨b, off, hb, by rw [cells_other hbg, cells_other hbg]; exact hc⟩
  · obtain ⟨q, hq, hne⟩ := mem j x e
    have hb1 := below_setCells (B := 0) (Nat.zero_le g) ((hs.drop (i + 1)).map hdv) i w
    have hb2 := below_setCells (B := 0) (Nat.zero_le g) z (hs.length - 1) (w.setCells g i ((hs.drop (i + 1)).map hdv))
    have := (h.apart q x hq hne ad ha)
    exact ⟨by have := hb1.size; have := hb2.size; omega, this.2⟩

set_option maxRecDepth 100000 in
set_option maxHeartbeats 800000 in
theorem delete_any (g cap i base : Nat) (hs : List RH) (w : World) (hO : OwnM w base (.slice (some ⟨g, 0, none⟩) hs.length cap) hs hs.length) (hi : i < hs.length) (hcap : hs.length ≤ cap) (hcm : cap ≤ 9223372036854775807) :
    Calls Try.prog 70 #[.slice (some ⟨g, 0, none⟩) hs.length cap, .int .i64 i, .int .i64 ((i : Int) + 1)] w fun e w' =>
      e = .returned (.slice (some ⟨g, 0, none⟩) (hs.length - 1) cap) ∧ OwnM w' base (.slice (some ⟨g, 0, none⟩) (hs.length - 1) cap) (hs.take i ++ hs.drop (i + 1)) (hs.take i ++ hs.drop (i + 1)).length ∧ Below base w w' := by
  obtain ⟨i0, hi0, hz0, hz1, hz2⟩ := info_parts Try.infoRow
  have hgb := hO.lt
  obtain ⟨news, hnews⟩ : ∃ news, news = (hs.drop (i + 1)).map hdv := ⟨_, rfl⟩
  have hlen : news.length = hs.length - (i + 1) := by rw [hnews]; simp
  have HDEL := Lib.hid (OwnM.deleted (w := w.drew) (hO.below ((Below.refl _ _).drew)) hi [.slice none 0 0] rfl)
  rw [← hnews] at HDEL
  obtain ⟨A, hA, hsrc⟩ : ∃ A : Addr, (if cap = i + 1 then (some (⟨g, 0, none⟩ : Addr)) else some ⟨g, i + 1, none⟩) = some A ∧ Hid (∀ (t : Nat) (u : Value), news[t]? = some u → w.drew.cell? (A.add t) = some u) := by
    by_cases h : cap = i + 1
    · refine ⟨⟨g, 0, none⟩, by simp [h], fun t u hu => ?_⟩
      have h0 : news.length = 0 := by omega
      rw [List.length_eq_zero_iff.1 h0] at hu
      simp at hu
    · refine ⟨⟨g, i + 1, none⟩, by simp [h], fun t u hu => ?_⟩
      rw [hnews] at hu
      obtain ⟨x, hx, rfl⟩ : ∃ x, hs[i + 1 + t]? = some x ∧ hdv x = u := by simpa [List.getElem?_drop] using hu
      rw [addr_add]
      exact (hO.cell hx).1
  have s1 : Hid (news.length = (hs.length - (i + 1)) * 1) := by show _ = _; rw [Nat.mul_one]; exact hlen
  have s2 : Hid (∀ u ∈ news, u.oneCell' = true) := by
    intro u hu
    rw [hnews] at hu
    obtain ⟨x, _, rfl⟩ := List.mem_map.1 hu
    rfl
  have s3 : Hid (∀ t, t < news.length → (w.drew.cell? ⟨g, 0 + i * 1 + t, none⟩).isSome = true ∧ w.drew.frozen? ⟨g, 0 + i * 1 + t, none⟩ = false) := by
    intro t ht
    obtain ⟨x, hx⟩ : ∃ x, hs[0 + i * 1 + t]? = some x := ⟨_, List.getElem?_eq_getElem (by omega)⟩
    obtain ⟨q1, q2⟩ := hO.cell hx
    exact ⟨by show (w.cell? _).isSome = true; rw [q1]; rfl, q2⟩
  obtain ⟨W1, hW1⟩ : ∃ W1, W1 = w.drew.setCells g (0 + i * 1) news := ⟨_, rfl⟩
  have hO1 : W1.ownsRow base 26 1 (.slice (some ⟨g, 0, none⟩) hs.length cap) hs.length (setFrom (hs.map hdv) (0 + i * 1) news) := by rw [hW1]; exact ownsRow_setCells news _ w.drew _ hO.own
  have hcl : ∀ ty, (Builtin.clear_ #[23] ty #[.slice (some ⟨g, i + (hs.length - (i + 1)), none⟩) (hs.length - (i + (hs.length - (i + 1)))) (cap - (i + (hs.length - (i + 1))))]).run Try.prog W1 = .ok (.tuple #[]) (W1.setCells g (i + (hs.length - (i + 1))) (List.replicate (hs.length - (i + (hs.length - (i + 1)))) (.slice none 0 0))) :=
    fun ty => Lib.run_clear_slice W1 _ _ ty _ Try.underlying23 zeroRow rfl rfl g (i + (hs.length - (i + 1))) _ _ (by omega) (fun t ht => by
      rw [World.ownsRow.cellAt hO1 _ (by omega)]
      have : i + (hs.length - (i + 1)) + t < (setFrom (hs.map hdv) (0 + i * 1) news).length := by rw [setFrom_length]; simp; omega
      rw [List.getElem?_eq_getElem this]; rfl) (fun t ht => World.ownsRow.frozenAt hO1 _)
  have hrep : List.replicate (hs.length - (i + (hs.length - (i + 1)))) (Value.slice none 0 0) = [.slice none 0 0] := by
    rw [show hs.length - (i + (hs.length - (i + 1))) = 1 by omega]; rfl
  rw [hrep] at hcl
  have hW : Hid (W1 = w.drew.setCells g (0 + i * 1) news) := hW1
  have HFIN : Hid (W1.setCells g (i + (hs.length - (i + 1))) [.slice none 0 0] = ((w.drew.setCells g i news).setCells g (hs.length - 1) [.slice none 0 0])) := by
    show _ = _
    rw [hW1, show i + (hs.length - (i + 1)) = hs.length - 1 by omega]; simp
  have HBW : Hid (Below base w (W1.setCells g (i + (hs.length - (i + 1))) [.slice none 0 0])) := by
    show Below _ _ _
    rw [hW1]
    exact ((Below.refl base w).drew.trans (below_setCells hgb.2 news _ _)).trans (below_setCells hgb.2 _ _ _)
  have hic : i ≤ cap := by omega
  have hjc : i + 1 ≤ cap := by omega
  have hi2 : i + 1 ≤ hs.length := by omega
  have e0 : ((i : Int) == (i : Int) + 1) = false := by rw [beq_eq_false_iff_ne]; omega
  have hqi0 : (0 : Int) ≤ (i : Int) + 1 := by omega
  have hqi1 : (i : Int) + 1 ≤ (hs.length : Int) := by omega
  clear hW1 hO1 hnews hlen hO hrep
  go_enter Try.func70, Try.ntmps70
  go_wp2_with fail
  go_region_law (refine step_append_room rfl (.tmp 22) (.tmp 25) 23 rfl 26 i0 1 Try.underlying23 hi0 hz1 g 0 i cap (by simp [Act.eval, Act.put]) A (hs.length - (i + 1)) (cap - (i + 1)) news (by simp [Act.eval, Act.put]) s1.out hsrc.out s2.out (by omega) s3.out ?_; rw [← hW.out])
  go_wp2
  go_ret
  refine ⟨by rw [show i + (hs.length - (i + 1)) = hs.length - 1 by omega]; rfl, ?_, HBW.out⟩
  rw [HFIN.out]
  exact HDEL.out
set_option maxRecDepth 100000 in
set_option maxHeartbeats 400000 in
theorem mWithout_any (a : Option Addr) (m : List (List Int)) (cap : Nat) (i : Int) (w : World) (hm : MOk m) (hs : Ms w a m) :
    Calls Try.prog 35 #[.slice a m.length cap, .int .i64 i] w (MPost (withoutV m i) w) := by
  have HM := Lib.hid hm; clear hm
  have HS := Lib.hid hs; clear hs
  go_enter Try.func35, Try.ntmps35
  go_wp2_with fail
  refine (mvalid_any _ _ _ _ HM.out HS.out).mono ?_
  rintro e w1 ⟨rfl, hb1⟩
  have HB1 := Lib.hid hb1; clear hb1
  cases hv : validM m
  · have HV := Lib.hid (withoutV_1 (i := i) hv); clear hv
    go_wp2
    go_ret2
    exact MPost.err 1 HV.out HB1.out
  · obtain ⟨h1, h6, hc1, hc10, _⟩ := validM_of hv
    have HV := Lib.hid hv; clear hv
    cases hr : rangeB i 0 ((m.length : Int) - 1)
    · have HVV := Lib.hid (withoutV_5 HV.out hr)
      have hn : i < 0 ∨ (m.length : Int) ≤ i := by simp [rangeB] at hr; omega
      clear hr
      rcases hn with h | h
      · go_wp2
        go_ret2
        exact MPost.err 5 HVV.out HB1.out
      · have h' : 0 ≤ i := by omega
        go_wp2
        go_ret2
        exact MPost.err 5 HVV.out HB1.out
    · have hib : 0 ≤ i ∧ i ≤ (m.length : Int) - 1 := by simpa [rangeB] using hr
      by_cases hm1 : m.length = 1
      · have HVV := Lib.hid (withoutV_8 HV.out hr hm1); clear hr
        have e1 : ((m.length : Int) == 1) = true := by simp [hm1]
        obtain ⟨i0, i1⟩ := hib
        have i2 : i < (m.length : Int) := by omega
        clear hm1 i1
        go_wp2
        go_ret2
        exact MPost.err 8 HVV.out HB1.out
      · have e1 : ((m.length : Int) == 1) = false := by simp; omega
        obtain ⟨q, rfl⟩ : ∃ q : Nat, i = (q : Int) := ⟨i.toNat, by omega⟩
        have HVV := Lib.hid (withoutV_0 HV.out hr hm1); clear hr
        have hq : q < m.length := by omega
        clear hib hm1
        go_wp2_with fail
        refine (mcopied_any _ m _ _ h1 h6 (valid_rows HV.out) (HS.out.below HB1.out)).mono ?_
        rintro e w4 ⟨hb4, v4, hs4, rfl, ho4, hh4, hr4, _⟩
        have HB4 : Hid (Below w.heap.size w w4) := Below.next HB1.out hb4 (Nat.le_refl _)
        have hl4 : hs4.length = m.length := by rw [← rowsOf_length, hr4]
        obtain ⟨g4, c4, rfl, hc4, hcm4, hg4, hg4'⟩ := ho4.form (by omega)
        have HC4 : Hid (hs4.length ≤ c4 ∧ c4 ≤ 9223372036854775807) := ⟨hc4, by unfold maxLen at hcm4; omega⟩
        have HO4 := Lib.hid ho4; clear ho4
        have HQ : Hid (q < hs4.length) := by show q < _; omega
        have HR : Hid (rowsOf (hs4.take q ++ hs4.drop (q + 1)) = m.take q ++ m.drop (q + 1)) := by
          show _ = _
          rw [← hr4]; simp [rowsOf]
        have HBS := Lib.hid HB1.out.size
        clear hb4 hh4 hr4 hc4 hcm4 hg4 hg4' hl4
        go_wp2_with fail
        refine (delete_any g4 c4 q w1.heap.size hs4 w4 HO4.out HQ.out HC4.out.1 HC4.out.2).mono ?_
        rintro e w5 ⟨rfl, ho5, hb5⟩
        go_wp2
        go_ret2
        exact MPost.own (by rw [HVV.out, HR.out]) (HB4.out.trans (hb5.mono HBS.out)) ho5 (Nat.le_refl _)
end Go.Proofs.Ytkakjfijmekdjab
