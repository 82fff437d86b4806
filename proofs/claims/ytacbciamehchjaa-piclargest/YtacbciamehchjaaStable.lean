
/- The stable sort by the comparison of Largest: blocks of twenty, merged two by two: a contract. -/
import Derived.Test.YtacbciamehchjaaSym
namespace Go.Proofs.Ytacbciamehchjaa
open Go.RowKit

/-- A range is sorted, and holds the indexes of the range. -/
def Good (L : List Int) (x y : Nat) (cur : List Int) : Prop := Srt L x y cur ∧ ∀ k, x ≤ k → k < y → (x : Int) ≤ gt cur k ∧ gt cur k < (y : Int)
def Blk (L : List Int) (bs n a : Nat) (cur : List Int) : Prop := ∀ t, t * bs < a → Good L (t * bs) (min (t * bs + bs) n) cur
def Old (L : List Int) (bs n a : Nat) (cur : List Int) : Prop := ∀ t, a ≤ t * bs → t * bs < n → Good L (t * bs) (min (t * bs + bs) n) cur
theorem Good.same {L : List Int} {x y : Nat} {cur ys : List Int} (h : Good L x y cur) (e : ∀ k, x ≤ k → k < y → gt ys k = gt cur k) : Good L x y ys :=
  ⟨fun p q h1 h2 h3 => by rw [e p h1 (by omega), e q (by omega) h3]; exact h.1 p q h1 h2 h3, fun k h1 h2 => by rw [e k h1 h2]; exact h.2 k h1 h2⟩
theorem Blk.step {L : List Int} {bs n a t0 : Nat} {cur ys : List Int} (h : Blk L bs n a cur) (ha : a = t0 * bs) (hr : Rearr a (min (a + bs) n) cur ys) (hg : Good L a (min (a + bs) n) ys) : Blk L bs n (a + bs) ys := by
  intro t ht
  rcases Nat.lt_trichotomy t t0 with g | g | g
  · have e : (t + 1) * bs ≤ t0 * bs := Nat.mul_le_mul_right _ g
    rw [Nat.succ_mul] at e
    by_cases hb : bs = 0
    · subst hb; rw [Nat.mul_zero] at ha ht; omega
    exact (h t (by omega)).same fun k k1 k2 => hr.out k (by omega)
  · subst g; rw [← ha]; exact hg
  · exfalso
    have e : (t0 + 1) * bs ≤ t * bs := Nat.mul_le_mul_right _ g
    rw [Nat.succ_mul] at e
    omega
theorem Blk.mono {L : List Int} {bs n a b : Nat} {cur : List Int} (h : Blk L bs n a cur) (hb : b ≤ a) : Blk L bs n b cur := fun t ht => h t (by omega)
theorem Old.step {L : List Int} {bs n a b c : Nat} {cur ys : List Int} (h : Old L bs n a cur) (hb : a ≤ b) (hr : Rearr a c cur ys) (hc : c ≤ b) : Old L bs n b ys := fun t h1 h2 => (h t (by omega) h2).same fun k k1 k2 => hr.out k (by omega)
theorem good_of {L : List Int} {a m b : Nat} {cur ys : List Int} (h1 : Good L a m cur) (h2 : Good L m b cur) (ham : a ≤ m) (hmb : m ≤ b) (hr : Rearr a b cur ys) (hs : Srt L a b ys) : Good L a b ys :=
  ⟨hs, fun k k1 k2 => hr.all (P := fun v => (a : Int) ≤ v ∧ v < (b : Int)) (fun q q1 q2 => by
    by_cases e : q < m
    · have := h1.2 q q1 e; omega
    · have := h2.2 q (by omega) q2; omega) k k1 k2⟩
theorem mg_of {L : List Int} {a m b : Nat} {cur : List Int} (h1 : Good L a m cur) (h2 : Good L m b cur) : Mg L a m b cur :=
  ⟨h1.1, h2.1, fun p q p1 p2 p3 p4 => by have := h1.2 p p1 p2; have := h2.2 q p3 p4; omega⟩
/-- Two blocks ahead, as far as there are two. -/
theorem old_two {L : List Int} {bs n a t0 : Nat} {cur : List Int} (h : Old L bs n a cur) (ha : a = t0 * (2 * bs)) (hm : a + bs < n) (hb : 1 ≤ bs) : Good L a (a + bs) cur ∧ Good L (a + bs) (min (a + 2 * bs) n) cur := by
  have e1 : (2 * t0) * bs = a := by rw [ha, Nat.mul_comm 2 t0, Nat.mul_assoc]
  have e2 : (2 * t0 + 1) * bs = a + bs := by rw [Nat.succ_mul, e1]
  have g1 := h (2 * t0) (by omega) (by omega)
  have g2 := h (2 * t0 + 1) (by omega) (by omega)
  rw [e1] at g1
  rw [e2] at g2
  rw [show min (a + bs) n = a + bs by omega] at g1
  rw [show min (a + bs + bs) n = min (a + 2 * bs) n by omega] at g2
  exact ⟨g1, g2⟩
theorem old_one {L : List Int} {bs n a t0 : Nat} {cur : List Int} (h : Old L bs n a cur) (ha : a = t0 * (2 * bs)) (hm : n ≤ a + bs) (hn : a < n) : Good L a n cur := by
  have e1 : (2 * t0) * bs = a := by rw [ha, Nat.mul_comm 2 t0, Nat.mul_assoc]
  have g1 := h (2 * t0) (by omega) (by omega)
  rw [e1] at g1
  rwa [show min (a + bs) n = n by omega] at g1
theorem blk_old {L : List Int} {bs n : Nat} {cur : List Int} (h : Blk L bs n n cur) : Old L bs n 0 cur := fun t _ ht => h t ht
theorem blk_last {L : List Int} {bs n a t0 : Nat} {cur : List Int} (h : Blk L bs n a cur) (ha : a = t0 * bs) (hn : n ≤ a + bs) (hg : a < n → Good L a n cur) : Blk L bs n n cur := by
  by_cases e : a < n
  · have := h.step (ys := cur) ha (Rearr.refl _ _ _) (by rw [show min (a + bs) n = n by omega]; exact hg e)
    exact this.mono hn
  · exact h.mono (by omega)
theorem good_id {L : List Int} {a b : Nat} {cur ys : List Int} (hid : ∀ k, a ≤ k → k < b → gt cur k = (k : Int)) (hr : Rearr a b cur ys) (hs : Srt L a b ys) : Good L a b ys :=
  ⟨hs, fun k k1 k2 => hr.all (P := fun v => (a : Int) ≤ v ∧ v < (b : Int)) (fun q q1 q2 => by rw [hid q q1 q2]; omega) k k1 k2⟩
set_option maxRecDepth 100000 in
set_option maxHeartbeats 1600000 in
theorem stable_any (g cap B : Nat) (a : Option Addr) (L : List Int) (lc : Nat) (hl : L.length ≤ 256) (hall : allB 1000000 L = true) (xs : List Int) (w : World) (hn : xs.length = L.length) (hid : ∀ k, k < xs.length → gt xs k = (k : Int))
    (ho : OwnI w g (Dat g xs.length cap) xs) (hc : Clo B a L lc g w) :
    Calls Try.prog 59 #[Dat g xs.length cap, .int .i64 xs.length, Clv B] w fun e w' => ∃ ys, SPost g xs.length cap ys w e w' ∧ Rearr 0 xs.length xs ys ∧ Srt L 0 xs.length ys := by
  have HO := Lib.hid ho; clear ho
  have HC := Lib.hid hc; clear hc
  have HA := Lib.hid hall; clear hall
  have HID := Lib.hid hid; clear hid
  have HN := Lib.hid hn
  have hx : xs.length ≤ 256 := by omega
  have HR : Hid (∀ k, k < xs.length → 0 ≤ gt xs k ∧ gt xs k < L.length) := fun k hk => by rw [HID.out k hk]; omega
  have HEV : Hid (∀ {ys : List Int}, Rearr 0 xs.length xs ys → ∀ k, k < ys.length → 0 ≤ gt ys k ∧ gt ys k < L.length) := fun h => h.every (P := fun v => 0 ≤ v ∧ v < L.length) (Nat.le_refl _) HR.out
  clear hn
  go_enter Try.func59, Try.ntmps59
  go_wp2
  go_loopw [7, 8] (fun i j wr => ∃ (p t : Nat) (ys : List Int), i = .int .i64 p ∧ j = .int .i64 ((p : Int) + 20) ∧ p ≤ xs.length ∧ Hid (p = t * 20) ∧ OwnI wr g (Dat g xs.length cap) ys ∧ Below g w wr ∧ Hid (Rearr 0 xs.length xs ys) ∧ Hid (Blk L 20 xs.length p ys) ∧ Hid (∀ k, p ≤ k → k < xs.length → gt ys k = (k : Int))) (fun i _ _ => xs.length - (intOf i).toNat)
  case atStart => exact ⟨0, 0, xs, rfl, by go_num, Nat.zero_le _, rfl, HO.out, Below.refl _ _, Rearr.refl _ _ _, fun t ht => by omega, fun k _ hk => HID.out k hk⟩
  case round =>
    obtain ⟨p, t, ys, rfl, rfl, hp, HT, hO, hB, HRE, HBL, HTL⟩ := hrel
    have HOR := Lib.hid hO; clear hO HO
    have HB := Lib.hid hB; clear hB
    have HYL : Hid (ys.length = xs.length) := HRE.out.len
    obtain ⟨q, hq⟩ : ∃ q, p + 20 = q := ⟨_, rfl⟩
    have dq : (p : Int) + 20 = (q : Int) := by omega
    have HQ := Lib.hid hq; clear hq
    by_cases hlt : q ≤ xs.length
    · have HI : Hid (Calls Try.prog 80 #[.slice (some ⟨g, 0, none⟩) xs.length cap, .int .i64 p, .int .i64 q, .func (.func 32) #[] #[.pointer (some ⟨B, 0, none⟩)]] wr fun e' w' => ∃ zs, SPost g xs.length cap zs wr e' w' ∧ Rearr p q ys zs ∧ Srt L p q zs) := by
        have h := insertion_any g cap p q B a L lc ys wr (by have := HQ.out; omega) (by rw [HYL.out]; exact hlt) hl HA.out (by rw [HYL.out]; exact hx) (HEV.out HRE.out) (fun i j i1 i2 i3 => by rw [HTL.out i i1 (by omega), HTL.out j (by omega) (by omega)]; omega) (by rw [HYL.out]; exact HOR.out) (HC.out.below HB.out)
        rw [HYL.out] at h
        exact h
      go_wp2_with fail
      refine HI.out.mono ?_
      rintro e' w1 ⟨zs, ⟨rfl, hb, ho, hln⟩, hre, hsr⟩
      have HB1 := Lib.hid (HB.out.trans hb)
      have HO1 := Lib.hid ho
      have hmin : min (p + 20) xs.length = q := by have := HQ.out; omega
      have HBL1 : Hid (Blk L 20 xs.length q zs) := by
        have h := HBL.out.step (t0 := t) (ys := zs) HT.out (by rw [hmin]; exact hre) (by rw [hmin]; exact good_id (fun k k1 k2 => HTL.out k k1 (by omega)) hre hsr)
        rw [HQ.out] at h; exact h
      have HRE1 := Lib.hid (HRE.out.trans (hre.wide (Nat.zero_le _) hlt))
      have HTL1 : Hid (∀ k, q ≤ k → k < xs.length → gt zs k = (k : Int)) := fun k k1 k2 => (hre.out k (by omega)).trans (HTL.out k (by have := HQ.out; omega) k2)
      have HT1 : Hid (q = (t + 1) * 20) := by show _ = _; have := HQ.out; have := HT.out; omega
      clear hb ho hln hre hsr hmin HI HOR HB HRE HBL HTL HT dq
      have hqp : p < q := by have := HQ.out; omega
      go_wp2
      go_roundw
      case rel => exact ⟨q, t + 1, zs, by have := HQ.out; go_num, by have := HQ.out; go_num, hlt, HT1, HO1.out, HB1.out, HRE1, HBL1, HTL1⟩
      case measure => simp [intOf]; omega
    · have HI : Hid (Calls Try.prog 80 #[.slice (some ⟨g, 0, none⟩) xs.length cap, .int .i64 p, .int .i64 xs.length, .func (.func 32) #[] #[.pointer (some ⟨B, 0, none⟩)]] wr fun e' w' => ∃ zs, SPost g xs.length cap zs wr e' w' ∧ Rearr p xs.length ys zs ∧ Srt L p xs.length zs) := by
        have h := insertion_any g cap p xs.length B a L lc ys wr hp (by rw [HYL.out]; exact Nat.le_refl _) hl HA.out (by rw [HYL.out]; exact hx) (HEV.out HRE.out) (fun i j i1 i2 i3 => by rw [HTL.out i i1 (by omega), HTL.out j (by omega) (by omega)]; omega) (by rw [HYL.out]; exact HOR.out) (HC.out.below HB.out)
        rw [HYL.out] at h
        exact h
      have hql : q ≤ 276 := by have := HQ.out; omega
      go_wp2_with fail
      refine HI.out.mono ?_
      rintro e' w1 ⟨zs, ⟨rfl, hb, ho, hln⟩, hre, hsr⟩
      have HB1 := Lib.hid (HB.out.trans hb)
      have HO1 := Lib.hid ho
      have hmin : min (p + 20) xs.length = xs.length := by have := HQ.out; omega
      have HBL1 : Hid (Blk L 20 xs.length xs.length zs) := by
        have h := HBL.out.step (t0 := t) (ys := zs) HT.out (by rw [hmin]; exact hre) (by rw [hmin]; exact good_id (fun k k1 k2 => HTL.out k k1 (by omega)) hre hsr)
        exact h.mono (by have := HQ.out; omega)
      have HRE1 := Lib.hid (HRE.out.trans (hre.wide (Nat.zero_le _) (Nat.le_refl _)))
      clear hb ho hln hre hsr hmin HI HOR HB HRE HBL HTL HT dq HYL HQ hlt hql
      go_wp2
      go_loopw [6] (fun i wr => ∃ (bs : Nat) (ys : List Int), i = .int .i64 bs ∧ 20 ≤ bs ∧ bs ≤ 512 ∧ OwnI wr g (Dat g xs.length cap) ys ∧ Below g w wr ∧ Hid (Rearr 0 xs.length xs ys) ∧ Hid (Blk L bs xs.length xs.length ys)) (fun i _ => xs.length - (intOf i).toNat)
      case atStart => exact ⟨20, zs, by go_num, Nat.le_refl _, by omega, HO1.out, HB1.out, HRE1, HBL1⟩
      case round =>
        clear HO1 HB1 HRE1 HBL1
        obtain ⟨bs, ys, rfl, hbs, hbs5, hO, hB, HRE, HBL⟩ := hrel
        have HOR := Lib.hid hO; clear hO
        have HB := Lib.hid hB; clear hB
        by_cases hlt : bs < xs.length
        · obtain ⟨E, hE⟩ : ∃ E, E = 2 * bs := ⟨_, rfl⟩
          have dE : 2 * (bs : Int) = (E : Int) := by omega
          have dE2 : (bs : Int) * 2 = (E : Int) := by omega
          have hE5 : E ≤ 512 := by omega
          have hbE : bs < E := by omega
          have HE := Lib.hid hE; clear hE
          go_wp2
          go_loopw [7, 8] (fun i j wq => ∃ (p t : Nat) (zs : List Int), i = .int .i64 p ∧ j = .int .i64 ((p : Int) + E) ∧ p ≤ xs.length ∧ Hid (p = t * E) ∧ OwnI wq g (Dat g xs.length cap) zs ∧ Below g w wq ∧ Hid (Rearr 0 xs.length xs zs) ∧ Hid (Blk L E xs.length p zs) ∧ Hid (Old L bs xs.length p zs)) (fun i _ _ => xs.length - (intOf i).toNat)
          case atStart => exact ⟨0, 0, ys, rfl, by go_num, Nat.zero_le _, by show 0 = 0 * E; omega, HOR.out, HB.out, HRE, fun t ht => by omega, blk_old HBL.out⟩
          case round =>
            clear HOR HB HRE HBL
            obtain ⟨p, t, ys, rfl, rfl, hp, HT, hO, hB, HRE, HBL, HOL⟩ := hrel
            have HOR := Lib.hid hO; clear hO
            have HB := Lib.hid hB; clear hB
            have HYL : Hid (ys.length = xs.length) := HRE.out.len
            have HT2 : Hid (p = t * (2 * bs)) := by show _ = _; rw [← HE.out]; exact HT.out
            obtain ⟨q, hq⟩ : ∃ q, p + E = q := ⟨_, rfl⟩
            have dq : (p : Int) + (E : Int) = (q : Int) := by omega
            have HQ := Lib.hid hq
            obtain ⟨s, hs⟩ : ∃ s, p + bs = s := ⟨_, rfl⟩
            have ds : (p : Int) + (bs : Int) = (s : Int) := by omega
            have HS := Lib.hid hs
            have hps : p < s := by omega
            have hsq : s < q := by omega
            have hq7 : q ≤ 768 := by omega
            clear hq hs
            rw [dq]
            by_cases hle : q ≤ xs.length
            · have HGG : Hid (Good L p s ys ∧ Good L s q ys) := by
                have h := old_two HOL.out HT2.out (by have := HS.out; omega) (by omega)
                rw [HS.out, show min (p + 2 * bs) xs.length = q by have := HQ.out; have := HE.out; omega] at h
                exact h
              have HI : Hid (Calls Try.prog 81 #[.slice (some ⟨g, 0, none⟩) xs.length cap, .int .i64 p, .int .i64 s, .int .i64 q, .func (.func 32) #[] #[.pointer (some ⟨B, 0, none⟩)]] wr fun e' w' => ∃ zs, SPost g xs.length cap zs wr e' w' ∧ Rearr p q ys zs ∧ Srt L p q zs) := by
                have h := sym_any g cap B a L lc hl HA.out xs.length p s q ys wr (by omega) hps hsq (by rw [HYL.out]; exact hle) (by rw [HYL.out]; exact hx) (HEV.out HRE.out) (mg_of HGG.out.1 HGG.out.2) (by rw [HYL.out]; exact HOR.out) (HC.out.below HB.out)
                rw [HYL.out] at h
                exact h
              go_wp2_with fail
              refine HI.out.mono ?_
              rintro e' w1 ⟨zs, ⟨rfl, hb, ho, hln⟩, hre, hsr⟩
              have HB1 := Lib.hid (HB.out.trans hb)
              have HO1 := Lib.hid ho
              have hmin : min (p + E) xs.length = q := by have := HQ.out; omega
              have HBL1 : Hid (Blk L E xs.length q zs) := by
                have h := HBL.out.step (t0 := t) (ys := zs) HT.out (by rw [hmin]; exact hre) (by rw [hmin]; exact good_of HGG.out.1 HGG.out.2 (by omega) (by omega) hre hsr)
                rw [HQ.out] at h; exact h
              have HOL1 : Hid (Old L bs xs.length q zs) := HOL.out.step (by omega) hre (Nat.le_refl _)
              have HRE1 := Lib.hid (HRE.out.trans (hre.wide (Nat.zero_le _) hle))
              have HT1 : Hid (q = (t + 1) * E) := by show _ = _; rw [Nat.succ_mul, ← HT.out, HQ.out]
              clear hb ho hln hre hsr hmin HI HOR HB HRE HBL HOL HT HT2 HGG dq ds
              go_wp2
              go_roundw
              case rel => exact ⟨q, t + 1, zs, by go_num, by go_num, hle, HT1, HO1.out, HB1.out, HRE1, HBL1, HOL1⟩
              case measure => simp [intOf]; omega
            · by_cases hsn : s < xs.length
              · have HGG : Hid (Good L p s ys ∧ Good L s xs.length ys) := by
                  have h := old_two HOL.out HT2.out (by have := HS.out; omega) (by omega)
                  rw [HS.out, show min (p + 2 * bs) xs.length = xs.length by have := HQ.out; have := HE.out; omega] at h
                  exact h
                have HI : Hid (Calls Try.prog 81 #[.slice (some ⟨g, 0, none⟩) xs.length cap, .int .i64 p, .int .i64 s, .int .i64 xs.length, .func (.func 32) #[] #[.pointer (some ⟨B, 0, none⟩)]] wr fun e' w' => ∃ zs, SPost g xs.length cap zs wr e' w' ∧ Rearr p xs.length ys zs ∧ Srt L p xs.length zs) := by
                  have h := sym_any g cap B a L lc hl HA.out xs.length p s xs.length ys wr (by omega) hps hsn (by rw [HYL.out]; exact Nat.le_refl _) (by rw [HYL.out]; exact hx) (HEV.out HRE.out) (mg_of HGG.out.1 HGG.out.2) (by rw [HYL.out]; exact HOR.out) (HC.out.below HB.out)
                  rw [HYL.out] at h
                  exact h
                go_wp2_with fail
                refine HI.out.mono ?_
                rintro e' w1 ⟨zs, ⟨rfl, hb, ho, hln⟩, hre, hsr⟩
                have HB1 := Lib.hid (HB.out.trans hb)
                have HO1 := Lib.hid ho
                have hmin : min (p + E) xs.length = xs.length := by have := HQ.out; omega
                have HBL1 : Hid (Blk L E xs.length xs.length zs) := by
                  have h := HBL.out.step (t0 := t) (ys := zs) HT.out (by rw [hmin]; exact hre) (by rw [hmin]; exact good_of HGG.out.1 HGG.out.2 (by omega) (by omega) hre hsr)
                  rw [HQ.out] at h; exact h.mono (by omega)
                have HRE1 := Lib.hid (HRE.out.trans (hre.wide (Nat.zero_le _) (Nat.le_refl _)))
                clear hb ho hln hre hsr hmin HI HOR HB HRE HBL HOL HT HT2 HGG dq ds
                go_wp2
                go_roundw
                case rel => exact ⟨E, zs, by go_num, by omega, hE5, HO1.out, HB1.out, HRE1, HBL1⟩
                case measure => simp [intOf]; omega
              · have HBL1 : Hid (Blk L E xs.length xs.length ys) := blk_last HBL.out HT.out (by have := HQ.out; omega) (fun h => old_one HOL.out HT2.out (by have := HS.out; omega) h)
                clear HBL HOL HT HT2 dq
                go_wp2
                go_roundw
                case rel => exact ⟨E, ys, by go_num, by omega, hE5, HOR.out, HB.out, HRE, HBL1⟩
                case measure => simp [intOf]; omega
        · have HYL : Hid (ys.length = xs.length) := HRE.out.len
          have HS : Hid (Srt L 0 xs.length ys) := by
            intro i j i1 i2 i3
            have h := (HBL.out 0 (by omega)).1
            rw [Nat.zero_mul, Nat.zero_add, show min bs xs.length = xs.length by omega] at h
            exact h i j i1 i2 i3
          go_wp2
          go_end0
          exact ⟨ys, ⟨rfl, HB.out, HOR.out, HYL.out⟩, HRE.out, HS.out⟩
end Go.Proofs.Ytacbciamehchjaa
